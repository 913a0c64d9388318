import PyProof.Rows.All
import Wide.All
import OpenK.AllK
import Wide.FinOn
import HandS.ForMost
import HandS.IsInst
import HandS.Star
import HandS.Walk
import HandS.Zip
import HandS.TupSets
import HandS.Gcd
import HandS.Conv
import HandS.SetFor
import HandS.Strs
import KE.DataMinMax
import KE.GoesMore
import KE.SortData
import HandS.Style
import HandS.TupAny
import HandS.ClsMeth
import HandS.SetKeys
import HandS.More
import HandS.Property
import HandS.ExcInit
import KE.KExcSuper
import HandS.WordsExc
import HandS.ExcField
import HandS.ExcOwn
import PyProof.ReprReads
import PyProof.StrHeap
import PyProof.ReprRoads
import PyProof.Rows.RegFStrParts
import PyProof.Rows.StrJoinMade
import HandS.CallLocal
import HandS.MethStar
import PyProof.StrOps2
import PyProof.CallFns
import KE.KMethU
import HandS.OwnEq
import PyProof.NeKinds
import HandS.MakeKwOnly
import PyProof.InstSpecial
import PyProof.FactsLen
import HandS.GenList
import HandS.TryOnly
import HandS.Text
import PyProof.StrLawsIn
import PyProof.Rows.StrSplitCount
import HandS.FStr
import PyProof.InstNe
import HandS.TupLe
import HandS.Ends
import HandS.EndTab
import KE.KNest
import HandS.Head0
import HandS.Head1
import HandS.Head2
import HandS.HeadHook4
import KE.KNestM
import HandS.HeadEnd
import PySem.Challenge.RW_handwalk_k65_whole_walker_texts
set_option Elab.async false
set_option linter.all false
set_option maxRecDepth 100000
set_option maxHeartbeats 8000000
namespace Hw
open PySem PySem.Spec PyProof.Rows L2

/-- a def of the text, where it stands, how it binds -/
structure Df (K : PySem.W.Frag) (mg : Str → Option Value) (x : Str) (st : Stmt) (ps : List Str) : Prop where
  ex : ∃ (f : Addr) (fd : FuncData), Fun K x x st f fd ∧ Binds K fd ps [] ∧ mg x = some (.ref f)

/-- a def that can be called by its name, with its promise -/
structure Cal (P : Program) (w : World) (K : PySem.W.Frag) (mg : Str → Option Value) (base : Heap) (x : Str) (k : Nat) (sp : Sp) : Prop where
  ex : ∃ f : Addr, mg x = some (.ref f) ∧ PySem.W.keepIn K (.ref f) = true ∧ L2.FnR P w K mg base CX0 k f sp

section
variable {P : Program} {w : World} {K : PySem.W.Frag} {mg : Str → Option Value} {base : Heap} {x : Str}
theorem Cal.mono {j k : Nat} {sp : Sp} (c : Cal P w K mg base x j sp) (h : j ≤ k) : Cal P w K mg base x k sp := by
  obtain ⟨f, a, b, F⟩ := c.ex
  exact ⟨f, a, b, F.mono h⟩
theorem cal_of {st : Stmt} {N ps : List Str} {k : Nat} {sp : Sp} (D : Df K mg x st ps) (S : FnScope N ps (defScope st)) (len : ∀ vs H Q E, sp vs H Q E → vs.length = ps.length)
    (hbody : ∀ (f : Addr) (cdv : Value) (A : Around) (outer : List Env) (s : Shared) (H : Hp) (vs : List V) (Q : VK) (E : XK), Room k (A.deeper (envOfC x (defScope st) s.heap.objs.size f cdv)) → sp vs H Q E →
      ∃ t, PSs (cxOf CX0 P w K mg base N x (defScope st) f cdv A outer s H E).nox (defBody st) t ∧ t { nx := fun _ H' => Q .non H', rt := Q } (start N vs) H) : Cal P w K mg base x (k + 1) sp := by
  obtain ⟨f, fd, F, b, g⟩ := D.ex
  have G : FnOk P w K mg base CX0 (k + 1) f fd ps sp := F.ok S len (fun cdv A outer s H vs Q E hr h => hbody f cdv A outer s H vs Q E hr h)
  refine ⟨f, g, F.kp, ?_⟩
  have R := G.raw b (dvs := []) .nil
  exact R.imp fun vs H Q E h => by
    show sp (vs ++ []) H Q E
    rw [List.append_nil]
    exact h
end
section
variable {X : Cx} {k : Nat} {sp : Sp} {x : Str} {p pos : Pos} {e : Expr} {es : List Expr} {t : TA}
theorem pe_cal (c : Cal X.prog X.w X.K X.mg X.base x k sp) (hr : Room k X.A) (hg : Gl X x) (ha : PA X (e :: es) t) (hdb : (x == ("__debug__" : Str)) = false := by decide)
    (he : starEach (e :: es) X.env = (false, eval e X.env) :: starEach es X.env := by rfl) (hpl : (backTo pos (starEach es X.env)).any (·.1) = false := by rfl) :
    PE X (.Call (.Name x p) (e :: es) [] pos) (fun σ H Q => t σ H fun vs H1 => sp vs H1 Q E0) := by
  obtain ⟨f, hm, hk, F⟩ := c.ex
  refine ⟨fun pins s σ H Q I h => ?_⟩
  refine wpAny_Call_Name_kw (ld_glob I hg hm ?_ hdb)
  refine PySem.W.callWith_K (h₀ := X.base) I.ok.mod.kin hk (thn (ha.run pos pins s σ H _ I h) fun us s1 ⟨vs, H1, I1, r, q⟩ => ⟨I1.kIn, ?_⟩) he hpl
  exact wpAny_call (L2.run_fnR F hr pass0 I1 r q)
theorem pe_cal0 (c : Cal X.prog X.w X.K X.mg X.base x k sp) (hr : Room k X.A) (hg : Gl X x) (hdb : (x == ("__debug__" : Str)) = false := by decide) :
    PE X (.Call (.Name x p) [] [] pos) (fun σ H Q => sp [] H Q E0) := by
  obtain ⟨f, hm, hk, F⟩ := c.ex
  refine ⟨fun pins s σ H Q I h => ?_⟩
  refine wpAny_Call_Name_kw (ld_glob I hg hm ?_ hdb)
  exact PySem.W.callWith_K0 I.kIn hk (wpAny_call (L2.run_fnR F hr pass0 I .nil h))
end
/-- len of a list or a tuple -/
def rLenS (K : PySem.W.Frag) : List V → Hp → VK → Prop := fun xs H Q => ∃ p ys, xs = [.ref p] ∧ (SqL K H p ys ∨ SqT K H p ys) ∧ Q (.int (ys.length : Int)) H
theorem cr_len {X : Cx} : CallR X (.builtin "len") (rLenS X.K) := call_len_seq
end Hw

namespace Hw
open PySem PySem.Spec PyProof.Rows L2
def top (i : Nat) : Stmt := PySem.Challenge.pw_handwalk_k65_whole_walker_texts.main.body.getD i (.Pass ⟨0, 0, 0, 0⟩)
abbrev sWhole : Stmt := top 2
abbrev sIndex : Stmt := top 3
abbrev sBaseE : Stmt := top 5
abbrev sNetworkE : Stmt := top 6
abbrev sPlaceE : Stmt := top 7
abbrev sPassageE : Stmt := top 8
abbrev sWalkE : Stmt := top 9
abbrev sLimitExceeded : Stmt := top 10
abbrev sInvalidThing : Stmt := top 11
abbrev sInvalidPosition : Stmt := top 12
abbrev sParseError : Stmt := top 13
abbrev sCheckThing : Stmt := top 15
abbrev sCheckPosition : Stmt := top 16
abbrev sIsStepP : Stmt := top 18
abbrev sAfterStepP : Stmt := top 19
abbrev sIsPassage : Stmt := top 21
abbrev sFirstWrong : Stmt := top 22
abbrev sLeast : Stmt := top 23
abbrev sConn : Stmt := top 24
abbrev sFault : Stmt := top 25
abbrev sBridges : Stmt := top 26
abbrev sCells : Stmt := top 27
abbrev sExits : Stmt := top 28
abbrev sNetwork : Stmt := top 29
abbrev sWrittenP : Stmt := top 31
abbrev sParsedP : Stmt := top 32
abbrev sLine : Stmt := top 33
abbrev sReadPlaces : Stmt := top 34
abbrev sReadPassages : Stmt := top 35
abbrev sFirstWords : Stmt := top 36
abbrev sReadSteps : Stmt := top 37
abbrev sWalker : Stmt := top 39
abbrev sStroller : Stmt := top 40
abbrev sCarrier : Stmt := top 41
abbrev sMixed : Stmt := top 43
abbrev sFolded : Stmt := top 44
abbrev sDraw : Stmt := top 45
abbrev sBegun : Stmt := top 46
abbrev sMixedUp : Stmt := top 47
abbrev sTie : Stmt := top 48
abbrev sTree : Stmt := top 49
abbrev sRing : Stmt := top 50
abbrev sCore : Stmt := top 51
abbrev sShifted : Stmt := top 52
abbrev sTop : Stmt := top 53
abbrev sRenamed : Stmt := top 54
abbrev sTies : Stmt := top 55
abbrev sDoors : Stmt := top 56
abbrev sRoad : Stmt := top 57
abbrev sTextOf : Stmt := top 58
abbrev sShortened : Stmt := top 59
abbrev sLed : Stmt := top 60
abbrev sLaw : Stmt := top 61
/-- what the module's names are -/
structure Txt (mg : Str → Option Value) : Prop where
  len : mg "len" = none
  isinstance : mg "isinstance" = none
  int : mg "int" = none
  bool : mg "bool" = none
  tuple : mg "tuple" = none
  list : mg "list" = none
  range : mg "range" = none
  set : mg "set" = none
  enumerate : mg "enumerate" = none
  sum : mg "sum" = none
  sorted : mg "sorted" = none
  min : mg "min" = none
  zip : mg "zip" = none
  max : mg "max" = none
  repr : mg "repr" = none
  str : mg "str" = none
end Hw

/-! Permutations as lists of numbers: what the program's functions compute. No Python here. -/
namespace Hw
/-- item x of p (0 beyond) -/
def ap (p : List Nat) (x : Nat) : Nat := p.getD x 0
def IsP (p : List Nat) : Prop := p.Nodup ∧ ∀ x ∈ p, x < p.length
/-- first p, then q -/
def mul (p q : List Nat) : List Nat := p.map (ap q)
def inv (p : List Nat) : List Nat := (List.range p.length).map fun y => p.idxOf y
/-- all of ps, one after the other, on n positions -/
def muls (n : Nat) (ps : List (List Nat)) : List Nat := ps.foldl mul (List.range n)
/-- k steps from x -/
def it (p : List Nat) : Nat → Nat → Nat
  | 0, x => x
  | k + 1, x => ap p (it p k x)
/-- x comes back first after so many steps: the least k from 1 on, sought up to n -/
def perF (p : List Nat) (x : Nat) : Nat → Nat → Nat
  | 0, k => k
  | m + 1, k => if it p k x = x then k else perF p x m (k + 1)
def per (p : List Nat) (x : Nat) : Nat := perF p x p.length 1
/-- the way of x until it is back -/
def orb (p : List Nat) (x : Nat) : List Nat := (List.range (per p x)).map fun k => it p k x
/-- j lies on the way of one below i -/
def sn (p : List Nat) (i j : Nat) : Bool := (List.range i).any fun f => decide (j ∈ orb p f)
/-- the cycles that begin below i -/
def cycF (p : List Nat) (i : Nat) : List (List Nat) := ((List.range i).filter fun f => !sn p f f && decide (1 < per p f)).map (orb p)
def cyc (p : List Nat) : List (List Nat) := cycF p p.length
def ord (p : List Nat) : Nat := (cyc p).foldl (fun r c => Nat.lcm r c.length) 1
def evenP (p : List Nat) : Bool := decide (((cyc p).map fun c => (c.length : Int) - 1).sum % 2 = 0)
/-- how many ahead of place i are greater than what stands there -/
def invAt (p : List Nat) (i : Nat) : Nat := ((p.take i).filter fun x => decide (ap p i < x)).length
def invs (p : List Nat) : Nat := ((List.range p.length).map (invAt p)).sum
theorem ap_get {p : List Nat} {x : Nat} (h : x < p.length) : p[x]? = some (ap p x) := by
  unfold ap
  rw [List.getD_eq_getElem?_getD, List.getElem?_eq_getElem h]
  rfl
theorem ap_mem {p : List Nat} {x : Nat} (h : x < p.length) : ap p x ∈ p := List.mem_of_getElem? (ap_get h)
theorem ap_lt {p : List Nat} {x : Nat} (hp : IsP p) (h : x < p.length) : ap p x < p.length := hp.2 _ (ap_mem h)
theorem mul_len (p q : List Nat) : (mul p q).length = p.length := by unfold mul; rw [List.length_map]
/-- a row of n numbers below n -/
def Row (n : Nat) (m : List Nat) : Prop := m.length = n ∧ ∀ x ∈ m, x < n
theorem row_range (n : Nat) : Row n (List.range n) := ⟨List.length_range, fun x hx => List.mem_range.mp hx⟩
theorem row_of {p : List Nat} {n : Nat} (h : IsP p) (e : p.length = n) : Row n p := ⟨e, fun x hx => by rw [← e]; exact h.2 x hx⟩
theorem row_mul {n : Nat} {m p : List Nat} (hm : Row n m) (hp : Row n p) : Row n (mul m p) := by
  refine ⟨by rw [mul_len]; exact hm.1, fun x hx => ?_⟩
  obtain ⟨y, hy, rfl⟩ := List.mem_map.mp hx
  exact hp.2 _ (ap_mem (by rw [hp.1]; exact hm.2 y hy))
theorem row_foldl {n : Nat} : ∀ (ps : List (List Nat)) (m : List Nat), Row n m → (∀ p ∈ ps, Row n p) → Row n (ps.foldl mul m)
  | [], _, h, _ => h
  | p :: ps, m, h, hp => row_foldl ps (mul m p) (row_mul h (hp p List.mem_cons_self)) fun q hq => hp q (List.mem_cons_of_mem _ hq)
theorem row_muls {n : Nat} {ps : List (List Nat)} (hp : ∀ p ∈ ps, Row n p) : Row n (muls n ps) := row_foldl ps _ (row_range n) hp
theorem muls_snoc (n : Nat) (ps : List (List Nat)) (p : List Nat) : muls n (ps ++ [p]) = mul (muls n ps) p := by
  unfold muls
  rw [List.foldl_append]
  rfl
end Hw

/-! Further rules: enumerate(t) of a tuple, lcm(a, b), len(set(t)) of equal numbers, min(t) of a tuple of numbers. -/
namespace PySem
section
set_option maxHeartbeats 1000000 in
theorem hw_enum_meets {v : Value} {ob : Obj} {HH : Heap → Prop} (B : Begins v ob HH) :
    Meets (Builtin.«enumerate.__new__» ⟨[.type "enumerate", v], []⟩) (fun _ Res sh => HH sh.heap ∧ Res (.ok (.ret (.ref (sh.heap.push ob).objs.size)))
      { sh with heap := (sh.heap.push ob).push { cls := .type "enumerate", data := .fields #[.none, .bool false, .ref sh.heap.objs.size, rawInt 0, .none, .none] } }) :=
  .of_wp fun pr wo Ar Res sh hyp => by
    obtain ⟨hp, gg, dd, tt, oo⟩ := sh
    obtain ⟨hy1, hy2⟩ := hyp
    have sub_e := sub_enumerate
    have itr : ∀ {A2 : Around} {E2 : Value → Shared → Prop} {Q2 : Value → Shared → Prop}, Q2 (.ref hp.objs.size) ⟨hp.push ob, gg, dd, tt, oo⟩ → wpAny (model pr wo) A2 (pyIter v) Q2 E2 ⟨hp, gg, dd, tt, oo⟩ :=
      fun z => B.iter pr wo _ _ ⟨hp, gg, dd, tt, oo⟩ _ hy1 z
    wp_walk using itr
    refine wpAny_stack_any fun stk => wpAny_pure ?_
    split
    · rename_i cc _ _ _ _ _
      cases (cc == Value.type "enumerate") <;> (wp_walk using itr; exact ⟨_, rfl, hy2⟩)
    · wp_walk using itr
      exact ⟨_, rfl, hy2⟩
variable {prog : Program} {w : World} {A : Around} {E : Value → Shared → Prop} {s : Shared}
theorem hw_enum_call {v : Value} {ob : Obj} {HH : Heap → Prop} {Q : Value → Shared → Prop} (B : Begins v ob HH) (hy : HH s.heap)
    (k : ∀ h', IsEnum h' (s.heap.objs.size + 1) s.heap.objs.size 0 .none → h'.get? s.heap.objs.size = some ob → (∀ b o, s.heap.get? b = some o → h'.get? b = some o) → Q (.ref (s.heap.objs.size + 1)) { s with heap := h' }) :
    wpAny (model prog w) A (call (.type "enumerate") [v]) Q E s := by
  refine callType_new F.called_enumerate (by decide) (F.typeCall_enumerate_1 _) (F.newCall_enumerate_1 _)
    (fun x => F.args_object_init_2 x _) F.entry_enumerate_new (hw_enum_meets B) ⟨hy, ?_⟩
  have size1 : (s.heap.push ob).objs.size = s.heap.objs.size + 1 := by rw [Heap.size_push]
  show _ ∧ _
  rw [size1]
  have at2 := Heap.get?_push_size (s.heap.push ob) (o := { cls := .type "enumerate", data := .fields #[.none, .bool false, .ref s.heap.objs.size, rawInt 0, .none, .none] }) rfl
  rw [size1] at at2
  exact ⟨⟨_, at2, rfl⟩, k _ at2 (Heap.get?_push_of_some _ (Heap.get?_push_size _ B.free)) fun b o z => Heap.get?_push_of_some _ (Heap.get?_push_of_some _ z)⟩
end
end PySem
namespace Hw
open PySem PySem.Spec PyProof.Rows L2
/-! ### enumerate(t) -/
def IteT (K : PySem.W.Frag) (a : Addr) : It where
  go i H := ∃ (xs : List V) (x : V), SqT K H a xs ∧ xs[i]? = some x
  yld i H v H' := ∃ T x, v = .ref T ∧ H T = none ∧ H' = upd H T (.tup [.int (i : Nat), x]) ∧ ∀ xs, SqT K H a xs → xs[i]? = some x
  stop i H := ∃ xs : List V, SqT K H a xs ∧ xs.length = i
def TnE (a e it : Addr) (i : Nat) (h : Heap) : Prop := (∃ old, IsEnum h e it ((i : Nat) : Int) old) ∧ h.IsTupleIter it a i ∧ e ≠ it ∧ a ≠ it ∧ a ≠ e
theorem turn_enumT {P : Program} {w : World} {K : PySem.W.Frag} {elts : List Expr} {kk : Nat} {tpos : Pos} (a e it : Addr) : Turn P w K (.Tuple elts kk tpos) (IteT K a) [e, it] e (TnE a e it) where
  mem := List.mem_cons_self
  obj := by
    rintro i h ⟨⟨old, he⟩, ⟨o, ho, hc, hd⟩, _⟩ b hb
    rcases List.mem_cons.mp hb with z | hb
    · exact ⟨_, by rw [z]; exact he, fun v q => by cases q⟩
    · rw [List.mem_singleton.mp hb]
      exact ⟨o, ho, fun v q => by rw [hd] at q; cases q⟩
  keep := by
    rintro i h h' ⟨⟨old, he⟩, hi, n⟩ kp
    exact ⟨⟨old, kp e List.mem_cons_self _ he⟩, hi.at fun o q => kp it (List.mem_cons_of_mem _ List.mem_cons_self) o q, n⟩
  item := by
    rintro X rfl rfl rfl calm i pins s σ H E I free ⟨⟨old, he⟩, hit, n1, n2, n3⟩ ⟨xs, x, hq, hx⟩
    obtain ⟨its, rv, tT, szl⟩ := I.tuple hq
    obtain ⟨u, hu, ru⟩ := rv.get hx
    have lt_e : e < s.heap.objs.size := Heap.lt_size he
    have lt_i : it < s.heap.objs.size := by
      obtain ⟨_, z, _⟩ := hit
      exact Heap.lt_size z
    have lt_n : i < its.toArray.size := by
      have z := (List.getElem?_eq_some_iff.mp hu).1
      simpa using z
    refine wpAny_pyNext_enum_itemD (Draws.tuple (A := X.A.in1) (I.ok.hd calm) it a n2 its.toArray) he ⟨hit, tT⟩ lt_n n1 (fun m => ?_) fun y h2 tk hy out st2 new2 sz2 keep2 => ?_
    · rcases List.mem_cons.mp m with z | m
      · exact n1 z
      · exact n3 (List.mem_singleton.mp m).symm
    have ey : y = u := by
      have z : its[i]? = some y := by simpa using hy
      rw [hu] at z
      exact (Option.some.inj z).symm
    subst ey
    refine ⟨_, rfl, wpAny_letOwnedTupleGo_enum (s := { s with heap := h2, toks := tk + 1 }) out fun h3 he3 sb => ?_⟩
    have at3 := (sb.2 _ (Nat.ne_of_gt lt_e)).trans new2
    have made : ObjOk X.prog X.w (upd H s.heap.objs.size (.tup [.int (i : Nat), x])) h3 s.heap.objs.size (.tup [.int (i : Nat), x]) := by
      refine ⟨by show 2 ≤ sizeLine; decide, [.int i tk, y], .cons ⟨_, rfl⟩ (.cons ru .nil), ⟨_, at3, rfl, _, rfl⟩⟩
    have J := I.turnedNew (h' := h3) (t' := tk + 1) (ch := [e, it]) (fun b ob nb q => (sb.2 b (fun z => nb (by simp [z]))).trans (keep2 b ob (fun z => nb (by simp [z])) (fun z => nb (by simp [z])) q)) free (Nat.le_refl _) made
    refine ⟨.ref s.heap.objs.size, _, J, rfl, ⟨_, x, rfl, I.hok.fresh (Nat.le_refl _), rfl, fun ys hy => by rw [I.tuple_inj hy hq]; exact hx⟩, ⟨⟨y, ?_⟩, st2.1.at fun o q => (sb.2 it (Ne.symm n1)).trans q, n1, n2, n3⟩, fun b hb => ?_⟩
    · have e1 : ((i + 1 : Nat) : Int) = (i : Int) + 1 := by omega
      rw [e1]
      exact he3
    · have lt_b : b < s.heap.objs.size := by
        rcases List.mem_cons.mp hb with z | hb
        · rw [z]; exact lt_e
        · rw [List.mem_singleton.mp hb]; exact lt_i
      rw [upd_ne (Nat.ne_of_lt lt_b)]
      exact (free b hb).1
  done := by
    rintro X rfl rfl rfl calm i pins s σ H E I free ⟨⟨old, he⟩, hit, n1, n2, n3⟩ ⟨xs, hq, hx⟩
    obtain ⟨its, rv, tT, szl⟩ := I.tuple hq
    have e1 : its.toArray.size = i := by
      rw [List.size_toArray, ← rv.length, hx]
    obtain ⟨f0, f1, f2, f3, f4, f5⟩ := free it (List.mem_cons_of_mem _ List.mem_cons_self)
    refine wpAny_pyNext_enum_endD (Draws.tuple (A := X.A.in1) (I.ok.hd calm) it a n2 its.toArray) he ⟨by rw [e1]; exact hit, tT⟩ fun h2 eb => ⟨rfl, ?_⟩
    exact I.turned (t' := s.toks) (fun b o hb q => eb b o hb q) f0 f1 f3 f4 f5
  self := by
    rintro A i s Q E ⟨⟨_, he⟩, _⟩ q
    exact wpAny_pyIter_enum he q
def iEnumT (K : PySem.W.Frag) (ta : TA) : TI := fun σ H R => ta σ H fun vs H1 => ∃ a xs, vs = [.ref a] ∧ SqT K H1 a xs ∧ R (IteT K a) H1
theorem pi_enumT {X : Cx} {e : Expr} {ta : TA} {p pos tpos : Pos} {elts : List Expr} {kk : Nat} (gl : Gl X "enumerate") (nm : X.mg "enumerate" = none) (arg : PA X [e] ta)
    (st : starEach [e] X.env = [(false, eval e X.env)] := by rfl) : PI X (.Tuple elts kk tpos) (.Call (.Name "enumerate" p) [e] [] pos) (iEnumT X.K ta) := by
  constructor
  intro pins s σ H R I hyp
  refine Call_ (ld_blt I gl nm boot_enumerate (PyProof.Rows.callWith_type1 (thn (arg.run pos pins s σ H _ I hyp) ?_) st rfl))
  rintro us s1 ⟨vs, H1, I1, r1, a, xs, rfl, hq, q⟩
  rw [Vals.ref1 r1]
  obtain ⟨its, rv, tT, szl⟩ := I1.tuple hq
  refine hw_enum_call (begins_tuple a its.toArray) tT fun h' he hit keep => wpAny_pyIter_enum he ?_
  have J : Inv X pins σ H1 { s1 with heap := h' } := I1.kept (t' := s1.toks) keep
  have lt_a : a < s1.heap.objs.size := by
    obtain ⟨_, z, _⟩ := tT
    exact Heap.lt_size z
  refine ⟨s1.heap.objs.size + 1, [s1.heap.objs.size + 1, s1.heap.objs.size], _, _, H1, rfl, J, turn_enumT a (s1.heap.objs.size + 1) s1.heap.objs.size,
    ⟨⟨.none, he⟩, ⟨_, hit, rfl, rfl⟩, Nat.succ_ne_self _, Nat.ne_of_lt lt_a, Nat.ne_of_lt (Nat.lt_succ_of_lt lt_a)⟩, fun b hb => ?_, q⟩
  have le_b : s1.heap.objs.size ≤ b := by
    rcases List.mem_cons.mp hb with z | hb
    · rw [z]; exact Nat.le_succ _
    · rw [List.mem_singleton.mp hb]; exact Nat.le_refl _
  exact I1.fpOk le_b (I1.hok.fresh le_b)
theorem walk_enumT {K : PySem.W.Frag} {a : Addr} {xs : List V} : Walk (IteT K a) xs.length (fun H => SqT K H a xs) (YPair (fun i => some (.int (i : Nat))) (fun i => xs[i]?)) where
  goes i H hi q := ⟨xs, xs[i], q, by simp [hi]⟩
  stops H q := ⟨xs, q, rfl⟩
  yields := by
    rintro i H x H' hi q ⟨T, y, rfl, n, rfl, hy⟩
    exact ⟨T, _, y, rfl, n, rfl, rfl, hy xs q⟩
/-! ### lcm -/
section
variable {X : Cx}
def rLcm : List V → Hp → VK → Prop := fun vs H Q => ∃ a b : Nat, vs = [.int (a : Int), .int (b : Int)] ∧ a < 2 ^ 60 ∧ b < 2 ^ 60 ∧ Nat.lcm a b < 2 ^ 60 ∧ Q (.int ((Nat.lcm a b : Nat) : Int)) H
theorem small_log {n : Nat} (h : n < 2 ^ 60) : n.log2 < bitsLine := by
  have : n.log2 ≤ 60 := by
    by_cases z : n = 0
    · subst z; decide
    · have := (Nat.log2_lt z).mpr h
      omega
  exact Nat.lt_of_le_of_lt this (by decide)
theorem cr_lcm : CallR X (.builtin "math.lcm") rLcm := by
  rintro pins s σ H vs us Q I r ⟨a, b, rfl, ha, hb, hc, q⟩
  obtain ⟨t, u, rfl⟩ := Vals.int2 r
  refine PySem.W.mg_lcm_v (c := ((Nat.lcm a b : Nat) : Int)) (by rw [Int.natAbs_natCast]; omega) (by rw [Int.natAbs_natCast]; omega) ?_ (by rw [Int.natAbs_natCast]; exact small_log hc) ⟨.int _, H, I.tok _, ⟨_, rfl⟩, q⟩
  rw [Int.natAbs_natCast, Int.natAbs_natCast]
  congr 2
  simp [Nat.lcm]
/-! ### min(t) -/
theorem reads_ints {h : Heap} : ∀ {ns : List Int} {us : List Value}, Vals (ns.map V.int) us → ReadsAll h us (ns.map PyData.int) []
  | [], _, .nil => .nil
  | n :: ns, _, .cons r t => by
    obtain ⟨k, rfl⟩ := r
    exact .cons (as := []) (bs := []) (.int n k) (reads_ints t)
theorem depth_ints : ∀ ns : List Int, PyData.depthAll (ns.map PyData.int) = 0
  | [] => rfl
  | n :: ns => by
    show max 0 (PyData.depthAll (ns.map PyData.int)) = 0
    rw [depth_ints ns]
    rfl
def rMinT (K : PySem.W.Frag) : List V → Hp → VK → Prop := fun vs H Q => ∃ (a : Addr) (n : Int) (ns : List Int), vs = [V.ref a] ∧ SqT K H a ((n :: ns).map V.int) ∧ Q (.int (ns.foldl min n)) H
theorem cr_minT (calm : X.calm = true) (hu : X.A.units + 1 < cLine) : CallR X (.builtin "min") (rMinT X.K) := by
  rintro pins s σ H vs us Q I r ⟨a, n, ns, rfl, hs, q⟩
  obtain ⟨its, rv, tT, _⟩ := I.tuple hs
  rw [Vals.ref1 r]
  have rd : ReadsAll s.heap its.toArray.toList (PyData.int n :: ns.map PyData.int) [] := reads_ints (ns := n :: ns) rv
  refine PySem.W.min_tuple_data (I.ok.hd calm) tT rd ⟨?_, ?_⟩ ?_ fun i v h' tk bs _ rv' keep => ?_
  · intro x hx y hy
    obtain ⟨x', _, rfl⟩ := List.mem_map.mp (show x ∈ (n :: ns).map PyData.int from hx)
    obtain ⟨y', _, rfl⟩ := List.mem_map.mp (show y ∈ (n :: ns).map PyData.int from hy)
    rfl
  · intro x hx
    obtain ⟨x', _, rfl⟩ := List.mem_map.mp (show x ∈ (n :: ns).map PyData.int from hx)
    exact fun z => nomatch z
  · have z := depth_ints (n :: ns)
    rw [List.map_cons] at z
    rw [z]
    exact hu
  · rw [PySem.W.minD_ints] at rv'
    cases rv' with
    | int _ t => exact ⟨.int _, H, I.kept keep, ⟨_, rfl⟩, q⟩
/-! ### len(set(t)) where there is at most one number -/
def tLenSetT (K : PySem.W.Frag) (ta : TE) : TE := fun σ H Q => ta σ H fun x H1 => ∃ (l : Addr) (ns : List Int) (n : Int), x = .ref l ∧ SqT K H1 l (ns.map V.int) ∧ (∀ m ∈ ns, m = n) ∧ ns.length ≤ 1000 ∧ ∀ c : Nat, c ≤ 1 → Q (.int (c : Int)) H1
theorem pe_lenSetT {a : Expr} {ta : TE} {p p2 q pos : Pos} (gl : Gl X "len") (nm : X.mg "len" = none) (gl2 : Gl X "set") (nm2 : X.mg "set" = none) (arg : PE X a ta) (calm : X.calm = true := by rfl)
    (na : starEach [a] X.env = (false, eval a X.env) :: starEach [] X.env := by rfl) : PE X (.Call (.Name "len" p) [.Call (.Name "set" p2) [a] [] q] [] pos) (tLenSetT X.K ta) := by
  constructor
  intro pins s σ H Q I hyp
  refine Call_ (ld_blt I gl nm boot_len (PyProof.Rows.callWith_builtin1 (PyProof.Rows.args_cons ?_ rfl) rfl rfl))
  refine Call_ (ld_blt I gl2 nm2 boot_set (PyProof.Rows.callWith_type1 (PyProof.Rows.args_cons (thn (arg.run pins s σ H _ I hyp) ?_) na) na rfl))
  rintro v s1 ⟨x, H1, I1, r1, l, ns, n, rfl, hq, al, le, q1⟩
  obtain rfl : v = Value.ref l := r1
  refine PyProof.Rows.args_nil ?_
  obtain ⟨its, rv, tT, szl⟩ := I1.tuple hq
  refine call_set_tupI ns (I1.ok.hd calm) tT (by simpa using ints_of_vals rv) (by unfold scanBound; omega) fun h' tk c R _ keep => PyProof.Rows.args_nil ?_
  have J : Inv X pins σ H1 { s1 with heap := h', toks := tk } := I1.kept keep
  obtain ⟨o, es, ep, t, ho, hex, hd, _, nd, mem, sb, hf, hn, _⟩ := R
  have c1 : es.size ≤ 1 := by
    have sub : ∀ k ∈ es.toList.map keyOf, k = n := fun k hk => by
      have z := (mem k).mpr hk
      exact al k (of_decide_eq_true z)
    have l1 : (es.toList.map keyOf).length = es.size := by rw [List.length_map, Array.length_toList]
    rw [← l1]
    cases e1 : es.toList.map keyOf with
    | nil => simp
    | cons x r =>
      cases r with
      | nil => simp
      | cons y r =>
        exfalso
        rw [e1] at nd sub
        have ex := sub x List.mem_cons_self
        have ey := sub y (List.mem_cons_of_mem _ List.mem_cons_self)
        rw [ex, ey] at nd
        simp at nd
  exact call_len_set ho hex hd hf (by omega) ⟨.int es.size, H1, J.tok _, ⟨_, rfl⟩, q1 _ c1⟩
end
end Hw

/-! sorted(t) of a tuple of tuples of numbers that rises already -/
namespace Hw
open PySem PySem.Spec PyProof.Rows L2
theorem vals_refs : ∀ {ks : List (Addr × List Int)} {us : List Value}, Vals (ks.map fun k => V.ref k.1) us → us = ks.map fun k => Value.ref k.1
  | [], _, .nil => rfl
  | k :: ks, _, .cons r t => by
    obtain rfl : _ = Value.ref k.1 := r
    rw [vals_refs t]
    rfl
theorem refs_vals : ∀ ks : List (Addr × List Int), Vals (ks.map fun k => V.ref k.1) (ks.map fun k => Value.ref k.1)
  | [] => .nil
  | k :: ks => .cons rfl (refs_vals ks)
def encT (k : Addr × List Int) : PyData := .tuple (k.2.map PyData.int)
theorem le_encT (k l : Addr × List Int) : PySem.W.dataLe false encT k l = !decide (l.2 < k.2) := by
  show (!PySem.W.dataLt (.tuple (l.2.map PyData.int)) (.tuple (k.2.map PyData.int))) = _
  rw [PySem.W.dataLt_tuple]
  show (!PySem.W.rowLt (l.2.map PyData.int) (k.2.map PyData.int)) = _
  rw [PySem.W.dataLt_ints]
theorem each_refs {R : Value → Addr × List Int → Prop} : ∀ ks : List (Addr × List Int), (∀ k ∈ ks, R (.ref k.1) k) → PySem.W.EachIs R (ks.map fun k => Value.ref k.1) ks
  | [], _ => .nil
  | k :: ks, h => .cons (h k List.mem_cons_self) (each_refs ks fun l hl => h l (List.mem_cons_of_mem _ hl))
theorem each_out : ∀ {ks : List (Addr × List Int)} {out : List Value}, PySem.W.EachIs (fun v k => v = Value.ref k.1) out ks → out = ks.map fun k => Value.ref k.1
  | [], _, .nil => rfl
  | k :: ks, _, .cons e t => by
    rw [e, each_out t]
    rfl
section
variable {X : Cx}
def rSortTT (K : PySem.W.Frag) : List V → Hp → VK → Prop := fun vs H Q => ∃ (a : Addr) (ks : List (Addr × List Int)), vs = [V.ref a] ∧ SqT K H a (ks.map fun k => V.ref k.1) ∧ (∀ k ∈ ks, SqT K H k.1 (k.2.map V.int) ∧ k.2 ≠ []) ∧
  ks.Pairwise (fun k l => ¬ l.2 < k.2) ∧ ∀ p, H p = none → Q (.ref p) (upd H p (.lst (ks.map fun k => V.ref k.1)))
theorem cr_sortTT (hu : X.A.units + 64 < cLine) : CallR X (.builtin "sorted") (rSortTT X.K) := by
  rintro pins s σ H vs us Q I r ⟨a, ks, rfl, hs, hk, pw, q⟩
  obtain ⟨its, rv, tT, szl⟩ := I.tuple hs
  have ei := vals_refs rv
  rw [Vals.ref1 r]
  obtain ⟨o, ho, hc, n, hd⟩ := tT
  have hl : its.length ≤ sizeLine := by rw [← rv.length]; exact szl
  have hl2 : ks.length ≤ sizeLine := by rw [List.length_map] at szl; exact szl
  refine PySem.Calls.call_function_entry kind_sorted plain_sorted entry_sorted (args_sorted1 _) ?_
  unfold Builtin.«sorted»
  refine wpAny_bind (m := checkCount "sorted" 1 1 _) (wpAny_pure (wpAny_bind (wpAny_collect_seq a (.inr rfl) ho hc hd (fun h' keep => ?_) (by rw [List.size_toArray]; exact hl))))
  rw [List.toList_toArray]
  refine wpAny_bind (wpAny_newList ?_ hl)
  have J : Inv X pins σ H { s with heap := h' } := I.kept (t' := s.toks) keep
  have at1 := Heap.get?_push_size h' (o := ({ cls := .type "list", data := .seq its.toArray } : Obj)) rfl
  have rd : ∀ k ∈ ks, ∃ as, Reads (h'.push { cls := .type "list", data := .seq its.toArray }) (.ref k.1) (encT k) as ∧ h'.objs.size ∉ as := fun k m => by
    obtain ⟨us2, rv2, ⟨o2, ho2, hc2, n2, hd2⟩, _⟩ := J.tuple (hk k m).1
    have r2 := reads_ints (h := h'.push { cls := .type "list", data := .seq its.toArray }) rv2
    refine ⟨[], ?_, by simp⟩
    exact Reads.tuple (Heap.get?_push_of_some _ ho2) hc2 hd2 (by simpa using r2)
  have e1 : PySem.W.EachIs (fun v (k : Addr × List Int) => v = Value.ref k.1) its ks := by
    rw [ei]
    exact each_refs ks fun _ _ => rfl
  have e2 : PySem.W.EachIs (fun v (k : Addr × List Int) => ∃ as, Reads (h'.push { cls := .type "list", data := .seq its.toArray }) v (encT k) as ∧ h'.objs.size ∉ as) its ks := by
    conv => arg 2; rw [ei]
    exact each_refs ks rd
  have al : PySem.W.AllAlike (ks.map encT) := by
    intro d hd d' hd'
    obtain ⟨k, _, rfl⟩ := List.mem_map.mp hd
    obtain ⟨l, _, rfl⟩ := List.mem_map.mp hd'
    exact PySem.W.alike_ints k.2 l.2
  have srt : PySem.W.Sortable (ks.map encT) := .inl fun d hd => by
    obtain ⟨k, m, rfl⟩ := List.mem_map.mp hd
    have ne := (hk k m).2
    unfold encT
    cases e : k.2 with
    | nil => exact absurd e ne
    | cons x r => exact ⟨_, _, rfl⟩
  refine wpAny_bind (wpAny_holding (wpAny_mono (PySem.W.list_sort_data (s := { s with heap := h'.push { cls := .type "list", data := .seq its.toArray } }) (vs := its) (bs := ks) (enc := encT) (R := fun v k => v = Value.ref k.1)
    (E := X.xe) (Q := fun _ s' => s' = { s with heap := sortedHeap (h'.push { cls := .type "list", data := .seq its.toArray }) h'.objs.size its its.toArray }) at1 e1 e2 al srt hl2 (fun k m => ?_) (fun out _ eo => ?_)) (fun u s' es => ?_) fun _ _ z => z))
  · have : (encT k).depth = 0 + 1 := by
      show PyData.depthAll (k.2.map PyData.int) + 1 = 0 + 1
      rw [Hw.depth_ints]
    rw [this]
    show X.A.units + 1 + 1 + (0 + 1) < cLine
    omega
  · have ms : ks.mergeSort (PySem.W.dataLe false encT) = ks := by
      refine List.mergeSort_of_pairwise (List.Pairwise.imp (fun {k l} n => ?_) pw)
      rw [le_encT]
      simp [n]
    rw [ms] at eo
    have := each_out eo
    rw [this, ei]
  · subst es
    obtain ⟨c, hc2⟩ := sortedHeap_at (out := its.toArray) at1
    have old : ∀ b ob, h'.get? b = some ob → (sortedHeap (h'.push { cls := .type "list", data := .seq its.toArray }) h'.objs.size its its.toArray).get? b = some ob := fun b ob e => by
      have lt2 := Heap.lt_size e
      rw [sortedHeap_old (Nat.ne_of_lt lt2) (by rw [Heap.size_push]; exact Nat.lt_succ_of_lt lt2)]
      exact Heap.get?_push_of_some _ e
    refine wpAny_pure ⟨_, rfl, .ref h'.objs.size, upd H h'.objs.size (.lst (ks.map fun k => V.ref k.1)), J.laid (t' := s.toks) old (Nat.le_refl _) ⟨szl, its, c, rv, hc2⟩, rfl, q _ (J.hok.fresh (Nat.le_refl _))⟩
end
end Hw

namespace Hw
/-! ### numbers below n -/
theorem len_le : ∀ (n : Nat) (l : List Nat), l.Nodup → (∀ x ∈ l, x < n) → l.length ≤ n
  | 0, l, _, h => by
    cases l with
    | nil => exact Nat.le_refl _
    | cons x r => exact absurd (h x List.mem_cons_self) (Nat.not_lt_zero _)
  | n + 1, l, nd, h => by
    have h1 := len_le n (l.erase n) (nd.erase n) fun x hx => by
      have e1 := (List.Nodup.mem_erase_iff nd).mp hx
      have := h x e1.2
      have := e1.1
      omega
    by_cases z : n ∈ l
    · rw [List.length_erase_of_mem z] at h1
      omega
    · rw [List.erase_of_not_mem z] at h1
      omega
theorem isP_mem {p : List Nat} (h : IsP p) {y : Nat} (hy : y < p.length) : y ∈ p := by
  by_cases z : y ∈ p
  · exact z
  · exfalso
    have := len_le p.length (y :: p) (List.nodup_cons.mpr ⟨z, h.1⟩) fun x hx => by
      rcases List.mem_cons.mp hx with e | m
      · rw [e]; exact hy
      · exact h.2 x m
    rw [List.length_cons] at this
    omega
theorem ap_inj {p : List Nat} (h : IsP p) {x y : Nat} (hx : x < p.length) (hy : y < p.length) (e : ap p x = ap p y) : x = y := by
  have h1 := ap_get hx
  have h2 := ap_get hy
  rw [e] at h1
  obtain ⟨_, e1⟩ := List.getElem?_eq_some_iff.mp h1
  obtain ⟨_, e2⟩ := List.getElem?_eq_some_iff.mp h2
  exact (List.getElem_inj (h₀ := hx) (h₁ := hy) h.1).mp (e1.trans e2.symm)
/-! ### steps -/
theorem it_lt {p : List Nat} (h : IsP p) {x : Nat} (hx : x < p.length) : ∀ k, it p k x < p.length
  | 0 => hx
  | k + 1 => ap_lt h (it_lt h hx k)
theorem it_add (p : List Nat) (x j : Nat) : ∀ k, it p (j + k) x = it p k (it p j x)
  | 0 => rfl
  | k + 1 => by
    show ap p (it p (j + k) x) = ap p (it p k (it p j x))
    rw [it_add p x j k]
theorem it_inj {p : List Nat} (h : IsP p) {x y : Nat} (hx : x < p.length) (hy : y < p.length) : ∀ k, it p k x = it p k y → x = y
  | 0, e => e
  | k + 1, e => it_inj h hx hy k (ap_inj h (it_lt h hx k) (it_lt h hy k) e)
theorem back_ex {p : List Nat} (h : IsP p) {x : Nat} (hx : x < p.length) : ∃ k, 1 ≤ k ∧ k ≤ p.length ∧ it p k x = x := by
  by_cases z : ∃ k, 1 ≤ k ∧ k ≤ p.length ∧ it p k x = x
  · exact z
  · exfalso
    have nd : ((List.range (p.length + 1)).map fun k => it p k x).Nodup := by
      rw [List.nodup_iff_pairwise_ne, List.pairwise_map]
      refine List.Pairwise.imp_of_mem (fun {i j} hi hj hij e => ?_) (List.pairwise_lt_range (n := p.length + 1))
      rw [List.mem_range] at hi hj
      apply z
      refine ⟨j - i, by omega, by omega, ?_⟩
      have e2 : j = i + (j - i) := by omega
      rw [e2, Nat.add_comm, it_add] at e
      exact (it_inj h hx (it_lt h hx _) i (by
        rw [e])).symm
    have := len_le p.length _ nd fun y hy => by
      obtain ⟨k, _, rfl⟩ := List.mem_map.mp hy
      exact it_lt h hx k
    rw [List.length_map, List.length_range] at this
    omega
theorem perF_spec (p : List Nat) (x : Nat) : ∀ m k, (∃ j, k ≤ j ∧ j < k + m ∧ it p j x = x) → k ≤ perF p x m k ∧ perF p x m k < k + m ∧ it p (perF p x m k) x = x ∧ ∀ j, k ≤ j → j < perF p x m k → it p j x ≠ x
  | 0, k, ⟨j, h1, h2, _⟩ => by omega
  | m + 1, k, ⟨j, h1, h2, h3⟩ => by
    unfold perF
    by_cases z : it p k x = x
    · rw [if_pos z]
      exact ⟨Nat.le_refl _, by omega, z, fun j a b => by omega⟩
    · rw [if_neg z]
      have hj : k + 1 ≤ j := by
        rcases Nat.lt_or_ge k j with q | q
        · exact q
        · have : j = k := by omega
          subst this
          exact absurd h3 z
      obtain ⟨a, b, c, d⟩ := perF_spec p x m (k + 1) ⟨j, hj, by omega, h3⟩
      refine ⟨by omega, by omega, c, fun i hi hi2 => ?_⟩
      rcases Nat.lt_or_ge k i with q | q
      · exact d i q hi2
      · have : i = k := by omega
        subst this
        exact z
section
variable {p : List Nat} (h : IsP p) {x y : Nat} (hx : x < p.length)
include h hx
theorem per_spec : 1 ≤ per p x ∧ per p x ≤ p.length ∧ it p (per p x) x = x ∧ ∀ j, 1 ≤ j → j < per p x → it p j x ≠ x := by
  obtain ⟨k, h1, h2, h3⟩ := back_ex h hx
  obtain ⟨a, b, c, d⟩ := perF_spec p x p.length 1 ⟨k, h1, by omega, h3⟩
  exact ⟨a, by unfold per; omega, c, d⟩
theorem it_mul (k : Nat) : it p (per p x * k) x = x := by
  induction k with
  | zero => rfl
  | succ k ih => rw [Nat.mul_succ, it_add, ih, (per_spec h hx).2.2.1]
theorem it_mod (k : Nat) : it p k x = it p (k % per p x) x := by
  have e := Nat.div_add_mod k (per p x)
  calc it p k x = it p (per p x * (k / per p x) + k % per p x) x := by rw [e]
    _ = it p (k % per p x) x := by rw [it_add, it_mul h hx]
theorem it_back_iff (k : Nat) : it p k x = x ↔ per p x ∣ k := by
  have hp := (per_spec h hx)
  constructor
  · intro e
    rw [it_mod h hx] at e
    have lt := Nat.mod_lt k (show 0 < per p x from hp.1)
    rcases Nat.eq_zero_or_pos (k % per p x) with z | z
    · exact Nat.dvd_of_mod_eq_zero z
    · exact absurd e (hp.2.2.2 _ z lt)
  · rintro ⟨c, rfl⟩
    exact it_mul h hx c
theorem it_eq_iff {i j : Nat} (hi : i < per p x) (hj : j < per p x) (e : it p i x = it p j x) : i = j := by
  have main : ∀ i j, i < j → j < per p x → it p i x = it p j x → False := fun i j hij hj e => by
    have e2 : j = (j - i) + i := by omega
    rw [e2, it_add] at e
    have e3 := it_inj h hx (it_lt h hx (j - i)) i e
    exact (per_spec h hx).2.2.2 (j - i) (by omega) (by omega) e3.symm
  rcases Nat.lt_trichotomy i j with z | z | z
  · exact (main i j z hj e).elim
  · exact z
  · exact (main j i z hi e.symm).elim
theorem orb_len : (orb p x).length = per p x := by unfold orb; rw [List.length_map, List.length_range]
theorem orb_get {k : Nat} (hk : k < per p x) : (orb p x)[k]? = some (it p k x) := by
  unfold orb
  rw [List.getElem?_map, List.getElem?_range hk]
  rfl
theorem orb_nodup : (orb p x).Nodup := by
  unfold orb
  rw [List.nodup_iff_pairwise_ne, List.pairwise_map]
  refine List.Pairwise.imp_of_mem (fun {i j} hi hj hij e => ?_) (List.pairwise_lt_range (n := per p x))
  rw [List.mem_range] at hi hj
  have := it_eq_iff h hx hi hj e
  omega
theorem mem_orb : y ∈ orb p x ↔ ∃ k, it p k x = y := by
  constructor
  · intro z
    obtain ⟨k, _, e⟩ := List.mem_map.mp z
    exact ⟨k, e⟩
  · rintro ⟨k, rfl⟩
    rw [it_mod h hx]
    exact List.mem_map.mpr ⟨_, List.mem_range.mpr (Nat.mod_lt _ (per_spec h hx).1), rfl⟩
theorem orb_lt (z : y ∈ orb p x) : y < p.length := by
  obtain ⟨k, rfl⟩ := (mem_orb h hx).mp z
  exact it_lt h hx k
theorem self_orb : x ∈ orb p x := (mem_orb h hx).mpr ⟨0, rfl⟩
theorem orb_symm (z : y ∈ orb p x) : x ∈ orb p y := by
  have hy := orb_lt h hx z
  obtain ⟨k, rfl⟩ := (mem_orb h hx).mp z
  refine (mem_orb h hy).mpr ⟨per p x * k - k, ?_⟩
  have hk : k ≤ per p x * k := Nat.le_mul_of_pos_left k (per_spec h hx).1
  rw [← it_add, Nat.add_sub_cancel' hk, it_mul h hx]
theorem orb_trans {z : Nat} (a : y ∈ orb p x) (b : z ∈ orb p y) : z ∈ orb p x := by
  have hy := orb_lt h hx a
  obtain ⟨k, rfl⟩ := (mem_orb h hx).mp a
  obtain ⟨j, rfl⟩ := (mem_orb h hy).mp b
  exact (mem_orb h hx).mpr ⟨k + j, it_add p x k j⟩
end
/-! ### what is seen -/
theorem sn_iff {p : List Nat} {i j : Nat} : sn p i j = true ↔ ∃ f, f < i ∧ j ∈ orb p f := by
  unfold sn
  simp only [List.any_eq_true, List.mem_range, decide_eq_true_eq]
theorem sn_succ (p : List Nat) (i j : Nat) : sn p (i + 1) j = (sn p i j || decide (j ∈ orb p i)) := by
  unfold sn
  rw [List.range_succ, List.any_append]
  simp
theorem sn_seen {p : List Nat} (h : IsP p) {i : Nat} (hi : i < p.length) (s : sn p i i = true) (j : Nat) : sn p (i + 1) j = sn p i j := by
  rw [sn_succ]
  by_cases z : j ∈ orb p i
  · obtain ⟨f, hf, hm⟩ := sn_iff.mp s
    have hfl : f < p.length := by omega
    have : sn p i j = true := sn_iff.mpr ⟨f, hf, orb_trans h hfl hm z⟩
    rw [this]
    rfl
  · simp [z]
theorem sn_fresh {p : List Nat} (h : IsP p) {i : Nat} (hi : i < p.length) (s : sn p i i = false) {j : Nat} (z : j ∈ orb p i) : sn p i j = false := by
  cases e : sn p i j with
  | false => rfl
  | true =>
    obtain ⟨f, hf, hm⟩ := sn_iff.mp e
    have hfl : f < p.length := by omega
    have : sn p i i = true := sn_iff.mpr ⟨f, hf, orb_trans h hfl hm (orb_symm h hi z)⟩
    rw [s] at this
    cases this
theorem cycF_succ (p : List Nat) (i : Nat) : cycF p (i + 1) = cycF p i ++ if (!sn p i i && decide (1 < per p i)) = true then [orb p i] else [] := by
  unfold cycF
  rw [List.range_succ, List.filter_append, List.map_append]
  congr 1
  simp only [List.filter_cons, List.filter_nil]
  split <;> rfl
end Hw

namespace Hw
/-! ### products -/
theorem isP_range (n : Nat) : IsP (List.range n) := ⟨List.nodup_range, fun x hx => by rw [List.length_range]; exact List.mem_range.mp hx⟩
theorem ext_ap {p q : List Nat} (hl : p.length = q.length) (h : ∀ x, x < p.length → ap p x = ap q x) : p = q := by
  apply List.ext_getElem?
  intro x
  by_cases hx : x < p.length
  · rw [ap_get hx, ap_get (by rw [← hl]; exact hx), h x hx]
  · rw [List.getElem?_eq_none (by omega), List.getElem?_eq_none (by omega)]
theorem ap_map {n x : Nat} (f : Nat → Nat) (h : x < n) : ap ((List.range n).map f) x = f x := by
  unfold ap
  rw [List.getD_eq_getElem?_getD, List.getElem?_map, List.getElem?_range h]
  rfl
theorem ap_range {n x : Nat} (h : x < n) : ap (List.range n) x = x := by
  unfold ap
  rw [List.getD_eq_getElem?_getD, List.getElem?_range h]
  rfl
theorem ap_mul {p q : List Nat} {x : Nat} (h : x < p.length) : ap (mul p q) x = ap q (ap p x) := by
  unfold mul
  conv => lhs; unfold ap
  rw [List.getD_eq_getElem?_getD, List.getElem?_map, ap_get h]
  rfl
theorem isP_of_inj {p : List Nat} (h1 : ∀ x, x < p.length → ap p x < p.length) (h2 : ∀ x y, x < p.length → y < p.length → ap p x = ap p y → x = y) : IsP p := by
  refine ⟨?_, fun x hx => ?_⟩
  · rw [List.nodup_iff_pairwise_ne, List.pairwise_iff_getElem]
    intro i j hi hj hij e
    have a1 := ap_get hi
    have a2 := ap_get hj
    rw [List.getElem?_eq_getElem hi] at a1
    rw [List.getElem?_eq_getElem hj] at a2
    have := h2 i j hi hj (by rw [← Option.some.inj a1, ← Option.some.inj a2, e])
    omega
  · obtain ⟨i, hi, e⟩ := List.getElem_of_mem hx
    have a1 := ap_get hi
    rw [List.getElem?_eq_getElem hi] at a1
    rw [← e, Option.some.inj a1]
    exact h1 i hi
theorem isP_mul {p q : List Nat} (hp : IsP p) (hq : IsP q) (hl : p.length = q.length) : IsP (mul p q) := by
  have lt : ∀ x, x < p.length → ap p x < q.length := fun x hx => by rw [← hl]; exact ap_lt hp hx
  refine isP_of_inj (fun x hx => ?_) (fun x y hx hy e => ?_)
  · rw [mul_len] at hx ⊢
    rw [ap_mul hx, hl]
    exact ap_lt hq (lt x hx)
  · rw [mul_len] at hx hy
    rw [ap_mul hx, ap_mul hy] at e
    exact ap_inj hp hx hy (ap_inj hq (lt x hx) (lt y hy) e)
theorem mul_range_left {p : List Nat} {n : Nat} (h : p.length = n) : mul (List.range n) p = p := by
  refine ext_ap (by rw [mul_len, List.length_range, h]) fun x hx => ?_
  rw [mul_len] at hx
  have hx' : x < n := by rw [List.length_range] at hx; exact hx
  rw [ap_mul hx, ap_range hx']
theorem mul_range_right {p : List Nat} {n : Nat} (hp : IsP p) (h : p.length = n) : mul p (List.range n) = p := by
  refine ext_ap (by rw [mul_len]) fun x hx => ?_
  rw [mul_len] at hx
  rw [ap_mul hx, ap_range (by rw [← h]; exact ap_lt hp hx)]
theorem mul_assoc' {p q r : List Nat} (hp : IsP p) (h : p.length = q.length) : mul (mul p q) r = mul p (mul q r) := by
  refine ext_ap (by rw [mul_len, mul_len, mul_len]) fun x hx => ?_
  rw [mul_len, mul_len] at hx
  rw [ap_mul (by rw [mul_len]; exact hx), ap_mul hx, ap_mul hx, ap_mul (by rw [← h]; exact ap_lt hp hx)]
theorem inv_len (p : List Nat) : (inv p).length = p.length := by unfold inv; rw [List.length_map, List.length_range]
theorem ap_inv {p : List Nat} (hp : IsP p) {x : Nat} (hx : x < p.length) : ap (inv p) (ap p x) = x := by
  have hy := ap_lt hp hx
  unfold inv
  rw [ap_map _ hy]
  have h1 : p.idxOf (ap p x) < p.length := List.idxOf_lt_length_iff.mpr (ap_mem hx)
  have h2 : p[p.idxOf (ap p x)] = ap p x := List.getElem_idxOf h1
  have h3 := ap_get hx
  rw [List.getElem?_eq_getElem hx] at h3
  exact (List.getElem_inj (h₀ := h1) (h₁ := hx) hp.1).mp (by rw [h2, Option.some.inj h3])
theorem ap_surj {p : List Nat} (hp : IsP p) {y : Nat} (hy : y < p.length) : ∃ x, x < p.length ∧ ap p x = y := by
  obtain ⟨i, hi, e⟩ := List.getElem_of_mem (isP_mem hp hy)
  have h3 := ap_get hi
  rw [List.getElem?_eq_getElem hi] at h3
  exact ⟨i, hi, by rw [← Option.some.inj h3, e]⟩
theorem ap_inv' {p : List Nat} (hp : IsP p) {y : Nat} (hy : y < p.length) : ap p (ap (inv p) y) = y := by
  obtain ⟨x, hx, rfl⟩ := ap_surj hp hy
  rw [ap_inv hp hx]
theorem isP_inv {p : List Nat} (hp : IsP p) : IsP (inv p) := by
  refine isP_of_inj (fun x hx => ?_) (fun x y hx hy e => ?_)
  · rw [inv_len] at hx ⊢
    obtain ⟨z, hz, rfl⟩ := ap_surj hp hx
    rw [ap_inv hp hz]
    exact hz
  · rw [inv_len] at hx hy
    rw [← ap_inv' hp hx, ← ap_inv' hp hy, e]
theorem mul_inv {p : List Nat} (hp : IsP p) : mul p (inv p) = List.range p.length := by
  refine ext_ap (by rw [mul_len, List.length_range]) fun x hx => ?_
  rw [mul_len] at hx
  rw [ap_mul hx, ap_inv hp hx, ap_range hx]
theorem inv_mul {p : List Nat} (hp : IsP p) : mul (inv p) p = List.range p.length := by
  refine ext_ap (by rw [mul_len, inv_len, List.length_range]) fun x hx => ?_
  rw [mul_len] at hx
  have hx' := hx
  rw [inv_len] at hx'
  rw [ap_mul hx, ap_inv' hp hx', ap_range hx']
theorem inv_inv' {p : List Nat} (hp : IsP p) : inv (inv p) = p := by
  refine ext_ap (by rw [inv_len, inv_len]) fun x hx => ?_
  rw [inv_len, inv_len] at hx
  have h1 := ap_inv (isP_inv hp) (x := ap p x) (by rw [inv_len]; exact ap_lt hp hx)
  rw [ap_inv hp hx] at h1
  exact h1
/-- an inverse is known by its product -/
theorem inv_of {p q : List Nat} (hp : IsP p) (hl : q.length = p.length) (h : ∀ x, x < p.length → ap q (ap p x) = x) : q = inv p := by
  refine ext_ap (by rw [inv_len, hl]) fun y hy => ?_
  rw [hl] at hy
  obtain ⟨x, hx, rfl⟩ := ap_surj hp hy
  rw [h x hx, ap_inv hp hx]
/-! ### powers, order -/
theorem it_succ' (p : List Nat) (k x : Nat) : it p (k + 1) x = it p k (ap p x) := by
  rw [Nat.add_comm, it_add]
  rfl
section
variable {p : List Nat} (h : IsP p)
include h
theorem per_orb {f x : Nat} (hf : f < p.length) (hx : x ∈ orb p f) : per p x = per p f := by
  have hxl := orb_lt h hf hx
  obtain ⟨j, rfl⟩ := (mem_orb h hf).mp hx
  have key : ∀ k, per p (it p j f) ∣ k ↔ per p f ∣ k := fun k => by
    rw [← it_back_iff h hxl, ← it_back_iff h hf, ← it_add, Nat.add_comm, it_add]
    exact ⟨fun e => it_inj h (it_lt h hf k) hf j e, fun e => by rw [e]⟩
  exact Nat.dvd_antisymm ((key _).mpr (Nat.dvd_refl _)) ((key _).mp (Nat.dvd_refl _))
/-- everyone lies on the way of a least one -/
theorem low_ex {x : Nat} (hx : x < p.length) : ∃ f, f ≤ x ∧ sn p f f = false ∧ x ∈ orb p f := by
  have main : ∀ m f, f ≤ m → f ≤ x → x ∈ orb p f → ∃ f, f ≤ x ∧ sn p f f = false ∧ x ∈ orb p f := by
    intro m
    induction m with
    | zero =>
      intro f hf hfx hm
      have : f = 0 := by omega
      subst this
      exact ⟨0, by omega, rfl, hm⟩
    | succ m ih =>
      intro f hf hfx hm
      cases e : sn p f f with
      | false => exact ⟨f, hfx, e, hm⟩
      | true =>
        obtain ⟨g, hg, hgm⟩ := sn_iff.mp e
        exact ih g (by omega) (by omega) (orb_trans h (by omega) hgm hm)
  exact main x x (Nat.le_refl _) (Nat.le_refl _) (self_orb h hx)
theorem mem_cyc {c : List Nat} : c ∈ cyc p ↔ ∃ f, f < p.length ∧ sn p f f = false ∧ 1 < per p f ∧ c = orb p f := by
  unfold cyc cycF
  simp only [List.mem_map, List.mem_filter, List.mem_range, Bool.and_eq_true, Bool.not_eq_true', decide_eq_true_eq]
  constructor
  · rintro ⟨f, ⟨hf, h1, h2⟩, rfl⟩
    exact ⟨f, hf, h1, h2, rfl⟩
  · rintro ⟨f, hf, h1, h2, rfl⟩
    exact ⟨f, ⟨hf, h1, h2⟩, rfl⟩
theorem lcm_fold (k : Nat) : ∀ (cs : List (List Nat)) (r : Nat), cs.foldl (fun r c => Nat.lcm r c.length) r ∣ k ↔ r ∣ k ∧ ∀ c ∈ cs, c.length ∣ k
  | [], r => by simp
  | c :: cs, r => by
    rw [List.foldl_cons, lcm_fold k cs, Nat.lcm_dvd_iff]
    simp only [List.mem_cons, forall_eq_or_imp]
    exact ⟨fun ⟨⟨a, b⟩, c⟩ => ⟨a, b, c⟩, fun ⟨a, b, c⟩ => ⟨⟨a, b⟩, c⟩⟩
theorem ord_dvd (k : Nat) : ord p ∣ k ↔ ∀ x, x < p.length → it p k x = x := by
  unfold ord
  rw [lcm_fold h]
  constructor
  · rintro ⟨_, hc⟩ x hx
    obtain ⟨f, hfx, hs, hm⟩ := low_ex h hx
    have hf : f < p.length := by omega
    rw [it_back_iff h hx, per_orb h hf hm]
    by_cases z : 1 < per p f
    · have := hc (orb p f) ((mem_cyc h).mpr ⟨f, hf, hs, z, rfl⟩)
      rw [orb_len h hf] at this
      exact this
    · have := (per_spec h hf).1
      have e : per p f = 1 := by omega
      rw [e]
      exact Nat.one_dvd _
  · intro hk
    refine ⟨Nat.one_dvd _, fun c hc => ?_⟩
    obtain ⟨f, hf, _, _, rfl⟩ := (mem_cyc h).mp hc
    rw [orb_len h hf, ← it_back_iff h hf]
    exact hk f hf
theorem fold_pos : ∀ (cs : List (List Nat)) (r : Nat), 0 < r → (∀ c ∈ cs, 0 < c.length) → 0 < cs.foldl (fun r c => Nat.lcm r c.length) r
  | [], _, hr, _ => hr
  | c :: cs, r, hr, hc => fold_pos cs _ (Nat.lcm_pos hr (hc c List.mem_cons_self)) fun d hd => hc d (List.mem_cons_of_mem _ hd)
theorem cyc_len {c : List Nat} (hc : c ∈ cyc p) : 2 ≤ c.length ∧ c.length ≤ p.length := by
  obtain ⟨f, hf, _, h1, rfl⟩ := (mem_cyc h).mp hc
  rw [orb_len h hf]
  exact ⟨h1, (per_spec h hf).2.1⟩
theorem ord_pos : 0 < ord p := by
  unfold ord
  refine fold_pos h _ 1 (by omega) fun c hc => ?_
  have := cyc_len h hc
  omega
theorem cyc_dvd (hl : p.length ≤ 12) {c : List Nat} (hc : c ∈ cyc p) : c.length ∣ 27720 := by
  have h1 := cyc_len h hc
  have h2 : ∀ k, k ≤ 12 → 2 ≤ k → k ∣ 27720 := by decide
  exact h2 _ (by omega) h1.1
/-- p done j + 1 times -/
def tn (p : List Nat) (j : Nat) : List Nat := (List.range p.length).map fun x => it p (j + 1) x
omit h in
theorem tn_len (j : Nat) : (tn p j).length = p.length := by unfold tn; rw [List.length_map, List.length_range]
omit h in
theorem tn_zero : tn p 0 = p := by
  refine ext_ap (tn_len 0) fun x hx => ?_
  rw [tn_len] at hx
  unfold tn
  rw [ap_map _ hx]
  rfl
theorem tn_succ (j : Nat) : mul (tn p j) p = tn p (j + 1) := by
  refine ext_ap (by rw [mul_len, tn_len, tn_len]) fun x hx => ?_
  rw [mul_len, tn_len] at hx
  rw [ap_mul (by rw [tn_len]; exact hx)]
  unfold tn
  rw [ap_map _ hx, ap_map _ hx]
  rfl
theorem isP_tn : ∀ j, IsP (tn p j)
  | 0 => by rw [tn_zero]; exact h
  | j + 1 => by
    rw [← tn_succ h]
    exact isP_mul (isP_tn j) h (tn_len j)
theorem tn_idle (j : Nat) : tn p j = List.range p.length ↔ ord p ∣ j + 1 := by
  rw [ord_dvd h]
  constructor
  · intro e x hx
    have := congrArg (fun l => ap l x) e
    have this : ap (tn p j) x = ap (List.range p.length) x := this
    unfold tn at this
    rw [ap_map _ hx, ap_range hx] at this
    exact this
  · intro hk
    refine ext_ap (by rw [tn_len, List.length_range]) fun x hx => ?_
    rw [tn_len] at hx
    unfold tn
    rw [ap_map _ hx, ap_range hx, hk x hx]
theorem it_inv {x : Nat} (hx : x < p.length) : ∀ k, it p k (it (inv p) k x) = x
  | 0 => rfl
  | k + 1 => by
    have hq := isP_inv h
    have hlt := it_lt hq (x := x) (by rw [inv_len]; exact hx) k
    rw [inv_len] at hlt
    rw [it_succ']
    show it p k (ap p (ap (inv p) (it (inv p) k x))) = x
    rw [ap_inv' h hlt]
    exact it_inv hx k
theorem ord_inv : ord (inv p) = ord p := by
  have hq := isP_inv h
  have one : ∀ p : List Nat, IsP p → ∀ k, ord p ∣ k → ord (inv p) ∣ k := fun p h k hk => by
    rw [ord_dvd h] at hk
    rw [ord_dvd (isP_inv h), inv_len]
    intro x hx
    have hlt := it_lt (isP_inv h) (x := x) (by rw [inv_len]; exact hx) k
    rw [inv_len] at hlt
    have e1 := hk _ hlt
    rw [it_inv h hx k] at e1
    exact e1.symm
  refine Nat.dvd_antisymm (one p h _ (Nat.dvd_refl _)) ?_
  have := one (inv p) hq (ord (inv p)) (Nat.dvd_refl _)
  rw [inv_inv' h] at this
  exact this
end
/-- the same powers, the same order -/
theorem ord_eq {p q : List Nat} (hp : IsP p) (hq : IsP q) (h : ∀ k, (∀ x, x < p.length → it p k x = x) ↔ ∀ x, x < q.length → it q k x = x) : ord p = ord q := by
  refine Nat.dvd_antisymm ?_ ?_
  · rw [ord_dvd hp, h, ← ord_dvd hq]
    exact Nat.dvd_refl _
  · rw [ord_dvd hq, ← h, ← ord_dvd hp]
    exact Nat.dvd_refl _
/-! ### one cycle alone -/
def mvF (p : List Nat) (s : List Nat) (x : Nat) : Nat := if x ∈ s then ap p x else x
/-- only those of s are moved -/
def mv (p : List Nat) (s : List Nat) : List Nat := (List.range p.length).map (mvF p s)
theorem mv_len (p s : List Nat) : (mv p s).length = p.length := by unfold mv; rw [List.length_map, List.length_range]
theorem ap_mv {p s : List Nat} {x : Nat} (hx : x < p.length) : ap (mv p s) x = mvF p s x := by unfold mv; rw [ap_map _ hx]
section
variable {p : List Nat} (h : IsP p) {s : List Nat} (hs : ∀ x, x < p.length → (x ∈ s ↔ ap p x ∈ s))
include h hs
theorem isP_mv : IsP (mv p s) := by
  refine isP_of_inj (fun x hx => ?_) (fun x y hx hy e => ?_)
  · rw [mv_len] at hx ⊢
    rw [ap_mv hx]
    unfold mvF
    split
    · exact ap_lt h hx
    · exact hx
  · rw [mv_len] at hx hy
    rw [ap_mv hx, ap_mv hy] at e
    unfold mvF at e
    by_cases a : x ∈ s
    · by_cases b : y ∈ s
      · rw [if_pos a, if_pos b] at e
        exact ap_inj h hx hy e
      · rw [if_pos a, if_neg b] at e
        have := (hs x hx).mp a
        rw [e] at this
        exact absurd this b
    · by_cases b : y ∈ s
      · rw [if_neg a, if_pos b] at e
        have := (hs y hy).mp b
        rw [← e] at this
        exact absurd this a
      · rw [if_neg a, if_neg b] at e
        exact e
theorem it_mv {x : Nat} (hx : x < p.length) : ∀ k, it (mv p s) k x = if x ∈ s then it p k x else x
  | 0 => by split <;> rfl
  | k + 1 => by
    have ih := it_mv hx k
    show ap (mv p s) (it (mv p s) k x) = _
    rw [ih]
    by_cases a : x ∈ s
    · rw [if_pos a, if_pos a]
      have hlt := it_lt h hx k
      have inS : ∀ k, it p k x ∈ s := fun k => by
        induction k with
        | zero => exact a
        | succ k ih2 => exact (hs _ (it_lt h hx k)).mp ih2
      rw [ap_mv hlt]
      unfold mvF
      rw [if_pos (inS k)]
      rfl
    · rw [if_neg a, if_neg a, ap_mv hx]
      unfold mvF
      rw [if_neg a]
end
theorem orb_step {p : List Nat} (h : IsP p) {f : Nat} (hf : f < p.length) {x : Nat} (hx : x < p.length) : x ∈ orb p f ↔ ap p x ∈ orb p f := by
  constructor
  · intro m
    obtain ⟨k, rfl⟩ := (mem_orb h hf).mp m
    exact (mem_orb h hf).mpr ⟨k + 1, rfl⟩
  · intro m
    have hy := ap_lt h hx
    have m1 : ap p x ∈ orb p x := (mem_orb h hx).mpr ⟨1, rfl⟩
    exact orb_trans h hf m (orb_symm h hx m1)
theorem ord_mv {p : List Nat} (h : IsP p) {f : Nat} (hf : f < p.length) : ord (mv p (orb p f)) = per p f := by
  have hs : ∀ x, x < p.length → (x ∈ orb p f ↔ ap p x ∈ orb p f) := fun x hx => orb_step h hf hx
  have key : ∀ k, ord (mv p (orb p f)) ∣ k ↔ per p f ∣ k := fun k => by
    rw [ord_dvd (isP_mv h hs), mv_len, ← it_back_iff h hf]
    constructor
    · intro hk
      have := hk f hf
      rw [it_mv h hs hf, if_pos (self_orb h hf)] at this
      exact this
    · intro e x hx
      rw [it_mv h hs hx]
      split
      · rename_i m
        rw [it_back_iff h hx, per_orb h hf m, ← it_back_iff h hf]
        exact e
      · rfl
  exact Nat.dvd_antisymm ((key _).mpr (Nat.dvd_refl _)) ((key _).mp (Nat.dvd_refl _))
end Hw

namespace Hw
/-! ### sums -/
def sm (n : Nat) (F : Nat → Int) : Int := ((List.range n).map F).sum
theorem sm_zero (F : Nat → Int) : sm 0 F = 0 := rfl
theorem sm_succ (n : Nat) (F : Nat → Int) : sm (n + 1) F = sm n F + F n := by
  unfold sm
  rw [List.range_succ, List.map_append, List.sum_append]
  simp
theorem sm_congr {n : Nat} {F G : Nat → Int} (h : ∀ i, i < n → F i = G i) : sm n F = sm n G := by
  unfold sm
  congr 1
  exact List.map_congr_left fun i hi => h i (List.mem_range.mp hi)
theorem sm_add (F G : Nat → Int) : ∀ n, sm n (fun i => F i + G i) = sm n F + sm n G
  | 0 => rfl
  | n + 1 => by
    rw [sm_succ, sm_succ, sm_succ, sm_add F G n]
    omega
theorem sm_comb (F G T : Nat → Int) : ∀ n, sm n (fun i => F i + G i - 2 * T i) = sm n F + sm n G - 2 * sm n T
  | 0 => rfl
  | n + 1 => by
    rw [sm_succ, sm_succ, sm_succ, sm_succ, sm_comb F G T n]
    omega
def dd (n : Nat) (y : Nat → Nat → Int) : Int := sm n fun i => sm n fun j => y i j
theorem dd_sym {y : Nat → Nat → Int} (hs : ∀ i j, y i j = y j i) (h0 : ∀ i, y i i = 0) : ∀ n, dd n y = 2 * sm n fun j => sm j fun i => y i j
  | 0 => rfl
  | n + 1 => by
    have ih := dd_sym hs h0 n
    unfold dd at ih ⊢
    rw [sm_succ, sm_succ, sm_succ, h0]
    have e1 : (sm n fun i => sm (n + 1) fun j => y i j) = (sm n fun i => sm n fun j => y i j) + sm n fun i => y i n := by
      rw [← sm_add]
      exact sm_congr fun i _ => sm_succ n _
    have e2 : (sm n fun j => y n j) = sm n fun i => y i n := sm_congr fun i _ => hs n i
    rw [e1, e2, ih]
    omega
theorem perm_sum {l m : List Int} (h : l.Perm m) : l.sum = m.sum := by
  induction h with
  | nil => rfl
  | cons x _ ih => rw [List.sum_cons, List.sum_cons, ih]
  | swap x y l => simp only [List.sum_cons]; omega
  | trans _ _ a b => rw [a, b]
theorem nodup_count {l : List Nat} (h : l.Nodup) (a : Nat) : l.count a = if a ∈ l then 1 else 0 := by
  induction l with
  | nil => rfl
  | cons x r ih =>
    obtain ⟨h1, h2⟩ := List.nodup_cons.mp h
    rw [List.count_cons, ih h2]
    by_cases e : x = a
    · subst e
      simp [h1]
    · have e' : ¬ a = x := fun z => e z.symm
      simp [e, e']
theorem perm_of_mem {l m : List Nat} (hl : l.Nodup) (hm : m.Nodup) (h : ∀ x, x ∈ l ↔ x ∈ m) : l.Perm m := by
  rw [List.perm_iff_count]
  intro a
  rw [nodup_count hl, nodup_count hm]
  simp only [h a]
theorem perm_range {p : List Nat} (hp : IsP p) : p.Perm (List.range p.length) :=
  perm_of_mem hp.1 List.nodup_range fun x => ⟨fun m => List.mem_range.mpr (hp.2 x m), fun m => isP_mem hp (List.mem_range.mp m)⟩
theorem map_ap (p : List Nat) : (List.range p.length).map (ap p) = p := by
  refine ext_ap (by rw [List.length_map, List.length_range]) fun x hx => ?_
  rw [List.length_map, List.length_range] at hx
  rw [ap_map _ hx]
theorem sm_perm {p : List Nat} (hp : IsP p) (F : Nat → Int) : (sm p.length fun i => F (ap p i)) = sm p.length F := by
  unfold sm
  have e : (List.range p.length).map (fun i => F (ap p i)) = p.map F := by
    conv => rhs; rw [← map_ap p]
    rw [List.map_map]
    rfl
  rw [e]
  exact perm_sum ((perm_range hp).map F)
/-! ### pairs that stand the other way -/
def xx (p : List Nat) (i j : Nat) : Int := if decide (i < j) = decide (ap p i < ap p j) then 0 else 1
theorem xx_self (p : List Nat) (i : Nat) : xx p i i = 0 := by unfold xx; simp
theorem xx_sym {p : List Nat} (hp : IsP p) {i j : Nat} (hi : i < p.length) (hj : j < p.length) : xx p i j = xx p j i := by
  unfold xx
  by_cases e : i = j
  · subst e; rfl
  · have ne : ap p i ≠ ap p j := fun z => e (ap_inj hp hi hj z)
    have a : decide (i < j) = !decide (j < i) := by
      by_cases q : i < j
      · have : ¬ j < i := by omega
        simp [q, this]
      · have : j < i := by omega
        simp [q, this]
    have b : decide (ap p i < ap p j) = !decide (ap p j < ap p i) := by
      by_cases q : ap p i < ap p j
      · have : ¬ ap p j < ap p i := by omega
        simp [q, this]
      · have : ap p j < ap p i := by omega
        simp [q, this]
    rw [a, b]
    cases decide (j < i) <;> cases decide (ap p j < ap p i) <;> rfl
/-- xx within n, else nothing: symmetric everywhere -/
def xn (n : Nat) (y : Nat → Nat → Int) (i j : Nat) : Int := if i < n ∧ j < n then y i j else 0
theorem dd_xn (n : Nat) (y : Nat → Nat → Int) : dd n (xn n y) = dd n y := by
  unfold dd
  refine sm_congr fun i hi => sm_congr fun j hj => ?_
  unfold xn
  rw [if_pos ⟨hi, hj⟩]
theorem dd_half {n : Nat} {y : Nat → Nat → Int} (hs : ∀ i j, i < n → j < n → y i j = y j i) (h0 : ∀ i, y i i = 0) : dd n y = 2 * sm n fun j => sm j fun i => y i j := by
  rw [← dd_xn, dd_sym (y := xn n y)]
  · congr 1
    refine sm_congr fun j hj => sm_congr fun i hi => ?_
    unfold xn
    rw [if_pos ⟨by omega, hj⟩]
  · intro i j
    unfold xn
    by_cases q : i < n ∧ j < n
    · rw [if_pos q, if_pos ⟨q.2, q.1⟩]
      exact hs i j q.1 q.2
    · rw [if_neg q, if_neg (fun z => q ⟨z.2, z.1⟩)]
  · intro i
    unfold xn
    split
    · exact h0 i
    · rfl
theorem len_filter (P : Nat → Bool) : ∀ l : List Nat, ((l.filter P).length : Int) = (l.map fun x => if P x = true then (1 : Int) else 0).sum
  | [] => rfl
  | x :: r => by
    rw [List.map_cons, List.sum_cons, ← len_filter P r, List.filter_cons]
    by_cases e : P x = true
    · rw [if_pos e, if_pos e, List.length_cons]
      omega
    · rw [if_neg e, if_neg e]
      omega
theorem take_ap {p : List Nat} {j : Nat} (hj : j ≤ p.length) : p.take j = (List.range j).map (ap p) := by
  conv => lhs; rw [← map_ap p]
  rw [← List.map_take, List.take_range, Nat.min_eq_left hj]
theorem invs_sm {p : List Nat} (hp : IsP p) : (invs p : Int) = sm p.length fun j => sm j fun i => xx p i j := by
  unfold invs
  have e : ∀ l : List Nat, (((l.map (invAt p)).sum : Nat) : Int) = (l.map fun j => (invAt p j : Int)).sum := by
    intro l
    induction l with
    | nil => rfl
    | cons x r ih =>
      rw [List.map_cons, List.map_cons, List.sum_cons, List.sum_cons, ← ih]
      omega
  rw [e]
  refine sm_congr fun j hj => ?_
  unfold invAt
  rw [len_filter, take_ap (by omega), List.map_map]
  refine sm_congr fun i hi => ?_
  show (if decide (ap p j < ap p i) = true then (1 : Int) else 0) = xx p i j
  unfold xx
  have ne : ap p i ≠ ap p j := fun z => by
    have := ap_inj hp (by omega) hj z
    omega
  by_cases q : ap p j < ap p i
  · have q2 : ¬ ap p i < ap p j := by omega
    simp [q, q2, hi]
  · have q2 : ap p i < ap p j := by omega
    simp [q, q2, hi]
theorem dd_invs {p : List Nat} (hp : IsP p) : dd p.length (xx p) = 2 * (invs p : Int) := by
  rw [invs_sm hp]
  exact dd_half (fun i j hi hj => xx_sym hp hi hj) (xx_self p)
theorem bool3 (a b c : Bool) : (if a = c then (0 : Int) else 1) = (if a = b then (0 : Int) else 1) + (if b = c then (0 : Int) else 1) - 2 * ((if a = b then (0 : Int) else 1) * (if b = c then (0 : Int) else 1)) := by
  cases a <;> cases b <;> cases c <;> decide
theorem invs_mul {p q : List Nat} (hp : IsP p) (hq : IsP q) (hl : p.length = q.length) : ∃ t : Int, (invs (mul p q) : Int) = invs p + invs q - 2 * t := by
  have hpq := isP_mul hp hq hl
  have lt : ∀ i, i < p.length → ap p i < q.length := fun i hi => by rw [← hl]; exact ap_lt hp hi
  have e1 := dd_invs hpq
  rw [mul_len] at e1
  have e2 : dd p.length (xx (mul p q)) = dd p.length (xx p) + dd p.length (fun i j => xx q (ap p i) (ap p j)) - 2 * dd p.length (fun i j => xx p i j * xx q (ap p i) (ap p j)) := by
    unfold dd
    rw [← sm_comb]
    refine sm_congr fun i hi => ?_
    rw [← sm_comb]
    refine sm_congr fun j hj => ?_
    unfold xx
    rw [ap_mul hi, ap_mul hj]
    exact bool3 _ _ _
  have e3 : dd p.length (fun i j => xx q (ap p i) (ap p j)) = dd q.length (xx q) := by
    unfold dd
    have a : (sm p.length fun i => sm p.length fun j => xx q (ap p i) (ap p j)) = sm p.length fun i => sm p.length fun j => xx q (ap p i) j :=
      sm_congr fun i _ => sm_perm hp fun j => xx q (ap p i) j
    rw [a, sm_perm hp (fun i => sm p.length fun j => xx q i j), hl]
  have e4 := dd_half (n := p.length) (y := fun i j => xx p i j * xx q (ap p i) (ap p j)) (fun i j hi hj => by
    rw [xx_sym hp hi hj, xx_sym hq (lt i hi) (lt j hj)]) (fun i => by rw [xx_self]; simp)
  rw [dd_invs hp, e3, dd_invs hq, e4, e1] at e2
  exact ⟨sm p.length fun j => sm j fun i => xx p i j * xx q (ap p i) (ap p j), by omega⟩
theorem sgn_mul {p q : List Nat} (hp : IsP p) (hq : IsP q) (hl : p.length = q.length) : (invs (mul p q) : Int) % 2 = ((invs p : Int) + invs q) % 2 := by
  obtain ⟨t, e⟩ := invs_mul hp hq hl
  omega
end Hw

namespace Hw
/-! ### exchanges of two -/
def swF (i j x : Nat) : Nat := if x = i then j else if x = j then i else x
def sw (n i j : Nat) : List Nat := (List.range n).map (swF i j)
theorem sw_len (n i j : Nat) : (sw n i j).length = n := by unfold sw; rw [List.length_map, List.length_range]
theorem ap_sw {n i j x : Nat} (h : x < n) : ap (sw n i j) x = swF i j x := by unfold sw; rw [ap_map _ h]
theorem isP_sw {n i j : Nat} (hi : i < n) (hj : j < n) : IsP (sw n i j) := by
  refine isP_of_inj (fun x hx => ?_) (fun x y hx hy e => ?_)
  · rw [sw_len] at hx ⊢
    rw [ap_sw hx]
    unfold swF
    split
    · exact hj
    · split
      · exact hi
      · exact hx
  · rw [sw_len] at hx hy
    rw [ap_sw hx, ap_sw hy] at e
    unfold swF at e
    repeat (first | omega | split at e)
theorem sw_all : ∀ n, n ≤ 12 → ∀ i, i < n → ∀ j, j < n → i ≠ j → invs (sw n i j) % 2 = 1 := by decide +kernel
theorem sgn_sw {n i j : Nat} (hn : n ≤ 12) (hi : i < n) (hj : j < n) (h : i ≠ j) : (invs (sw n i j) : Int) % 2 = 1 := by
  have := sw_all n hn i hi j hj h
  omega
theorem invs_range_all : ∀ n, n ≤ 12 → invs (List.range n) = 0 := by decide +kernel
/-! ### a cycle, exchange by exchange -/
def ptF (p : List Nat) (f k x : Nat) : Nat := if x ∈ (orb p f).take k then (if x = it p (k - 1) f then f else ap p x) else x
def pt (p : List Nat) (f k : Nat) : List Nat := (List.range p.length).map (ptF p f k)
theorem pt_len (p : List Nat) (f k : Nat) : (pt p f k).length = p.length := by unfold pt; rw [List.length_map, List.length_range]
theorem ap_pt {p : List Nat} {f k x : Nat} (hx : x < p.length) : ap (pt p f k) x = ptF p f k x := by unfold pt; rw [ap_map _ hx]
section
variable {p : List Nat} (h : IsP p) {f : Nat} (hf : f < p.length)
include h hf
theorem mem_orb_take {k x : Nat} (hk : k ≤ per p f) : x ∈ (orb p f).take k ↔ ∃ i, i < k ∧ it p i f = x := by
  rw [List.mem_take_iff_getElem]
  constructor
  · rintro ⟨j, hj, e⟩
    have h1 := orb_get h hf (k := j) (by omega)
    have h2 := List.getElem?_eq_getElem (l := orb p f) (i := j) (by omega)
    rw [h1] at h2
    exact ⟨j, by omega, by rw [Option.some.inj h2, e]⟩
  · rintro ⟨i, hi, rfl⟩
    have hl := orb_len h hf
    refine ⟨i, by omega, ?_⟩
    have h1 := orb_get h hf (k := i) (by omega)
    have h2 := List.getElem?_eq_getElem (l := orb p f) (i := i) (by omega)
    rw [h1] at h2
    exact (Option.some.inj h2).symm
theorem pt_one : pt p f 1 = List.range p.length := by
  have ps := per_spec h hf
  refine ext_ap (by rw [pt_len, List.length_range]) fun x hx => ?_
  rw [pt_len] at hx
  rw [ap_pt hx, ap_range hx]
  unfold ptF
  by_cases m : x ∈ (orb p f).take 1
  · rw [if_pos m]
    obtain ⟨i, hi, e⟩ := (mem_orb_take h hf ps.1).mp m
    have : i = 0 := by omega
    subst this
    have e' : f = x := e
    show (if x = f then f else ap p x) = x
    rw [if_pos e'.symm]
    exact e'
  · rw [if_neg m]
theorem pt_succ {k : Nat} (h1 : 1 ≤ k) (h2 : k < per p f) : pt p f (k + 1) = mul (pt p f k) (sw p.length f (it p k f)) := by
  have hk := it_lt h hf k
  have ptlt : ∀ x, x < p.length → ptF p f k x < p.length := fun x hx => by
    unfold ptF
    repeat (first | exact ap_lt h hx | exact hf | exact hx | split)
  refine ext_ap (by rw [pt_len, mul_len, pt_len]) fun x hx => ?_
  rw [pt_len] at hx
  rw [ap_pt hx, ap_mul (by rw [pt_len]; exact hx), ap_pt hx, ap_sw (ptlt x hx)]
  have inj : ∀ {i j}, i < per p f → j < per p f → it p i f = it p j f → i = j := fun hi hj e => it_eq_iff h hf hi hj e
  by_cases m : x ∈ (orb p f).take k
  · obtain ⟨i, hi, rfl⟩ := (mem_orb_take h hf (by omega)).mp m
    have m2 : it p i f ∈ (orb p f).take (k + 1) := (mem_orb_take h hf (by omega)).mpr ⟨i, by omega, rfl⟩
    have nk : it p i f ≠ it p k f := fun e => by
      have := inj (by omega) h2 e
      omega
    have a1 : ptF p f (k + 1) (it p i f) = it p (i + 1) f := by
      unfold ptF
      rw [if_pos m2, Nat.add_sub_cancel, if_neg nk]
      rfl
    rw [a1]
    by_cases e : i = k - 1
    · have a2 : ptF p f k (it p i f) = f := by
        unfold ptF
        rw [if_pos m, e, if_pos rfl]
      rw [a2]
      unfold swF
      rw [if_pos rfl]
      have : i + 1 = k := by omega
      rw [this]
    · have ne : it p i f ≠ it p (k - 1) f := fun z => e (inj (by omega) (by omega) z)
      have a2 : ptF p f k (it p i f) = it p (i + 1) f := by
        unfold ptF
        rw [if_pos m, if_neg ne]
        rfl
      rw [a2]
      unfold swF
      rw [if_neg (fun z => by
        have := inj (i := i + 1) (j := 0) (by omega) (by omega) z
        omega), if_neg (fun z => by
        have := inj (i := i + 1) (j := k) (by omega) (by omega) z
        omega)]
  · have a2 : ptF p f k x = x := by
      unfold ptF
      rw [if_neg m]
    rw [a2]
    have nf : x ≠ f := fun e => m ((mem_orb_take h hf (by omega)).mpr ⟨0, by omega, e.symm⟩)
    by_cases e : x = it p k f
    · have m2 : x ∈ (orb p f).take (k + 1) := (mem_orb_take h hf (by omega)).mpr ⟨k, by omega, e.symm⟩
      unfold ptF swF
      rw [if_pos m2, Nat.add_sub_cancel, if_pos e, if_neg nf, if_pos e]
    · have m2 : x ∉ (orb p f).take (k + 1) := fun z => by
        obtain ⟨i, hi, e2⟩ := (mem_orb_take h hf (by omega)).mp z
        by_cases q : i = k
        · exact e (by rw [← e2, q])
        · exact m ((mem_orb_take h hf (by omega)).mpr ⟨i, by omega, e2⟩)
      unfold ptF swF
      rw [if_neg m2, if_neg nf, if_neg e]
theorem pt_all : pt p f (per p f) = mv p (orb p f) := by
  have ps := per_spec h hf
  refine ext_ap (by rw [pt_len, mv_len]) fun x hx => ?_
  rw [pt_len] at hx
  rw [ap_pt hx, ap_mv hx]
  unfold ptF mvF
  have e1 : (orb p f).take (per p f) = orb p f := by rw [← orb_len h hf, List.take_length]
  rw [e1]
  by_cases m : x ∈ orb p f
  · rw [if_pos m, if_pos m]
    by_cases e : x = it p (per p f - 1) f
    · rw [if_pos e, e]
      have : per p f = (per p f - 1) + 1 := by omega
      have e2 := ps.2.2.1
      rw [this] at e2
      exact e2.symm
    · rw [if_neg e]
  · rw [if_neg m, if_neg m]
theorem pt_sgn (hn : p.length ≤ 12) : ∀ k, k + 1 ≤ per p f → IsP (pt p f (k + 1)) ∧ (invs (pt p f (k + 1)) : Int) % 2 = (k : Int) % 2
  | 0, _ => by
    rw [pt_one h hf]
    refine ⟨isP_range _, ?_⟩
    rw [invs_range_all _ hn]
  | k + 1, hk => by
    obtain ⟨i1, i2⟩ := pt_sgn hn k (by omega)
    have hs := isP_sw hf (it_lt h hf (k + 1))
    have hl : (pt p f (k + 1)).length = (sw p.length f (it p (k + 1) f)).length := by rw [pt_len, sw_len]
    rw [pt_succ h hf (by omega) (by omega)]
    refine ⟨isP_mul i1 hs hl, ?_⟩
    rw [sgn_mul i1 hs hl]
    have ne : f ≠ it p (k + 1) f := fun e => by
      have := it_eq_iff h hf (i := 0) (j := k + 1) (by omega) (by omega) e
      omega
    have := sgn_sw hn hf (it_lt h hf (k + 1)) ne
    omega
theorem sgn_mv (hn : p.length ≤ 12) : (invs (mv p (orb p f)) : Int) % 2 = ((per p f : Int) - 1) % 2 := by
  have ps := per_spec h hf
  have := (pt_sgn h hf hn (per p f - 1) (by omega)).2
  rw [show per p f - 1 + 1 = per p f by omega, pt_all h hf] at this
  omega
end
end Hw

namespace Hw
/-! ### all cycles -/
section
variable {p : List Nat} (h : IsP p)
include h
theorem orb_disj {f g : Nat} (hf : f < p.length) (hg : g < p.length) (hfg : f < g) (sg : sn p g g = false) {x : Nat} (a : x ∈ orb p f) : x ∉ orb p g := fun b => by
  have : sn p g g = true := sn_iff.mpr ⟨f, hfg, orb_trans h hf a (orb_symm h hg b)⟩
  rw [sg] at this
  cases this
theorem cyc_pw : (cyc p).Pairwise fun c d => ∃ f g, f < p.length ∧ g < p.length ∧ f < g ∧ sn p f f = false ∧ sn p g g = false ∧ c = orb p f ∧ d = orb p g := by
  unfold cyc cycF
  rw [List.pairwise_map]
  refine List.Pairwise.imp_of_mem (fun {f g} hf hg hfg => ?_) (List.Pairwise.filter _ (List.pairwise_lt_range (n := p.length)))
  obtain ⟨a1, a2⟩ := List.mem_filter.mp hf
  obtain ⟨b1, b2⟩ := List.mem_filter.mp hg
  rw [List.mem_range] at a1 b1
  simp only [Bool.and_eq_true, Bool.not_eq_true'] at a2 b2
  exact ⟨f, g, a1, b1, hfg, a2.1, b2.1, rfl, rfl⟩
theorem cyc_disj {i j : Nat} {c d : List Nat} (hij : i < j) (hc : (cyc p)[i]? = some c) (hd : (cyc p)[j]? = some d) {x : Nat} (a : x ∈ c) : x ∉ d := by
  obtain ⟨hi, e1⟩ := List.getElem?_eq_some_iff.mp hc
  obtain ⟨hj, e2⟩ := List.getElem?_eq_some_iff.mp hd
  obtain ⟨f, g, hf, hg, hfg, _, sg, ec, ed⟩ := List.pairwise_iff_getElem.mp (cyc_pw h) i j hi hj hij
  rw [e1] at ec
  rw [e2] at ed
  rw [ec] at a
  rw [ed]
  exact orb_disj h hf hg hfg sg a
theorem flat_nodup : (cyc p).flatten.Nodup := by
  rw [List.nodup_iff_pairwise_ne, List.pairwise_flatten]
  refine ⟨fun c hc => ?_, List.Pairwise.imp (fun {c d} => ?_) (cyc_pw h)⟩
  · obtain ⟨f, hf, _, _, rfl⟩ := (mem_cyc h).mp hc
    exact List.nodup_iff_pairwise_ne.mp (orb_nodup h hf)
  · rintro ⟨f, g, hf, hg, hfg, _, sg, rfl, rfl⟩ x hx y hy e
    subst e
    exact orb_disj h hf hg hfg sg hx hy
theorem mem_flat {x : Nat} (hx : x < p.length) : x ∈ (cyc p).flatten ↔ ap p x ≠ x := by
  rw [List.mem_flatten]
  constructor
  · rintro ⟨c, hc, m⟩
    obtain ⟨f, hf, _, h1, rfl⟩ := (mem_cyc h).mp hc
    intro e
    have : per p x ∣ 1 := (it_back_iff h hx 1).mp e
    rw [per_orb h hf m] at this
    have := Nat.le_of_dvd (by omega) this
    omega
  · intro ne
    obtain ⟨f, hfx, hs, m⟩ := low_ex h hx
    have hf : f < p.length := by omega
    refine ⟨orb p f, (mem_cyc h).mpr ⟨f, hf, hs, ?_, rfl⟩, m⟩
    have ps := per_spec h hf
    rcases Nat.lt_or_ge 1 (per p f) with z | z
    · exact z
    · exfalso
      have e : per p f = 1 := by omega
      apply ne
      exact (it_back_iff h hx 1).mpr (by rw [per_orb h hf m, e]; exact Nat.dvd_refl _)
theorem flat_lt {x : Nat} (m : x ∈ (cyc p).flatten) : x < p.length := by
  obtain ⟨c, hc, m⟩ := List.mem_flatten.mp m
  obtain ⟨f, hf, _, _, rfl⟩ := (mem_cyc h).mp hc
  exact orb_lt h hf m
theorem take_closed (i : Nat) {x : Nat} (hx : x < p.length) : x ∈ ((cyc p).take i).flatten ↔ ap p x ∈ ((cyc p).take i).flatten := by
  rw [List.mem_flatten, List.mem_flatten]
  constructor
  · rintro ⟨c, hc, m⟩
    obtain ⟨f, hf, _, _, rfl⟩ := (mem_cyc h).mp (List.mem_of_mem_take hc)
    exact ⟨_, hc, (orb_step h hf hx).mp m⟩
  · rintro ⟨c, hc, m⟩
    obtain ⟨f, hf, _, _, rfl⟩ := (mem_cyc h).mp (List.mem_of_mem_take hc)
    exact ⟨_, hc, (orb_step h hf hx).mpr m⟩
theorem isP_take (i : Nat) : IsP (mv p ((cyc p).take i).flatten) := isP_mv h fun x hx => take_closed h i hx
theorem isP_cyc {c : List Nat} (hc : c ∈ cyc p) : IsP (mv p c) := by
  obtain ⟨f, hf, _, _, rfl⟩ := (mem_cyc h).mp hc
  exact isP_mv h fun x hx => orb_step h hf hx
theorem mv_next {i : Nat} {c : List Nat} (hc : (cyc p)[i]? = some c) : mul (mv p ((cyc p).take i).flatten) (mv p c) = mv p ((cyc p).take (i + 1)).flatten := by
  have hm := List.mem_of_getElem? hc
  obtain ⟨f, hf, _, _, ec⟩ := (mem_cyc h).mp hm
  have stp : ∀ x, x < p.length → (x ∈ c ↔ ap p x ∈ c) := fun x hx => by rw [ec]; exact orb_step h hf hx
  have dis : ∀ x, x ∈ ((cyc p).take i).flatten → x ∉ c := fun x m => by
    obtain ⟨d, hd, md⟩ := List.mem_flatten.mp m
    obtain ⟨j, hj, e⟩ := List.mem_take_iff_getElem.mp hd
    exact cyc_disj h (by omega) (List.getElem?_eq_some_iff.mpr ⟨by omega, e⟩) hc md
  refine ext_ap (by rw [mul_len, mv_len, mv_len]) fun x hx => ?_
  rw [mul_len, mv_len] at hx
  rw [ap_mul (by rw [mv_len]; exact hx), ap_mv hx, ap_mv hx]
  have e1 : ((cyc p).take (i + 1)).flatten = ((cyc p).take i).flatten ++ c := by
    rw [List.take_add_one, hc, List.flatten_append]
    simp
  rw [e1]
  unfold mvF
  by_cases m : x ∈ ((cyc p).take i).flatten
  · have m2 := (take_closed h i hx).mp m
    rw [if_pos m, ap_mv (ap_lt h hx), if_pos (List.mem_append_left _ m)]
    unfold mvF
    rw [if_neg (dis _ m2)]
  · rw [if_neg m, ap_mv hx]
    unfold mvF
    by_cases m3 : x ∈ c
    · rw [if_pos m3, if_pos (List.mem_append_right _ m3)]
    · rw [if_neg m3, if_neg (fun z => (List.mem_append.mp z).elim m m3)]
theorem mv_nil : mv p [] = List.range p.length := by
  refine ext_ap (by rw [mv_len, List.length_range]) fun x hx => ?_
  rw [mv_len] at hx
  rw [ap_mv hx, ap_range hx]
  unfold mvF
  rw [if_neg (by simp)]
theorem mv_flat : mv p (cyc p).flatten = p := by
  refine ext_ap (mv_len _ _) fun x hx => ?_
  rw [mv_len] at hx
  rw [ap_mv hx]
  unfold mvF
  by_cases m : x ∈ (cyc p).flatten
  · rw [if_pos m]
  · rw [if_neg m]
    exact (Classical.not_not.mp fun z => m ((mem_flat h hx).mpr z)).symm
theorem sgn_take (hn : p.length ≤ 12) : ∀ i, i ≤ (cyc p).length → (invs (mv p ((cyc p).take i).flatten) : Int) % 2 = (((cyc p).take i).map fun c => (c.length : Int) - 1).sum % 2
  | 0, _ => by
    have e : ((cyc p).take 0).flatten = [] := by simp
    rw [e, mv_nil h, invs_range_all _ hn]
    rfl
  | i + 1, hi => by
    have ih := sgn_take hn i (by omega)
    obtain ⟨c, hc⟩ : ∃ c, (cyc p)[i]? = some c := ⟨_, List.getElem?_eq_getElem (by omega)⟩
    have hm := List.mem_of_getElem? hc
    rw [← mv_next h hc, sgn_mul (isP_take h i) (isP_cyc h hm) (by rw [mv_len, mv_len])]
    obtain ⟨f, hf, _, _, ec⟩ := (mem_cyc h).mp hm
    have h1 := sgn_mv h hf hn
    have e1 : (cyc p).take (i + 1) = (cyc p).take i ++ [c] := by
      rw [List.take_add_one, hc]
      rfl
    rw [e1, List.map_append, List.sum_append]
    have hl : (c.length : Int) = per p f := by rw [ec, orb_len h hf]
    rw [← ec] at h1
    simp only [List.map_cons, List.map_nil, List.sum_cons, List.sum_nil]
    omega
theorem even_sgn (hn : p.length ≤ 12) : evenP p = decide ((invs p : Int) % 2 = 0) := by
  have := sgn_take h hn (cyc p).length (Nat.le_refl _)
  rw [List.take_length, mv_flat h] at this
  unfold evenP
  rw [← this]
theorem even_mul {q : List Nat} (hq : IsP q) (hl : p.length = q.length) (hn : p.length ≤ 12) : evenP (mul p q) = (evenP p == evenP q) := by
  rw [even_sgn (isP_mul h hq hl) (by rw [mul_len]; exact hn), even_sgn h hn, even_sgn hq (by rw [← hl]; exact hn), sgn_mul h hq hl]
  have h1 : (invs p : Int) % 2 = 0 ∨ (invs p : Int) % 2 = 1 := by omega
  have h2 : (invs q : Int) % 2 = 0 ∨ (invs q : Int) % 2 = 1 := by omega
  rcases h1 with a | a <;> rcases h2 with b | b
  · have : ((invs p : Int) + invs q) % 2 = 0 := by omega
    simp [a, b, this]
  · have : ((invs p : Int) + invs q) % 2 = 1 := by omega
    simp [a, b, this]
  · have : ((invs p : Int) + invs q) % 2 = 1 := by omega
    simp [a, b, this]
  · have : ((invs p : Int) + invs q) % 2 = 0 := by omega
    simp [a, b, this]
theorem even_inv (hn : p.length ≤ 12) : evenP (inv p) = evenP p := by
  have e := even_mul h (isP_inv h) (inv_len p).symm hn
  rw [mul_inv h, even_sgn (isP_range _) (by rw [List.length_range]; exact hn), invs_range_all _ hn] at e
  have e' : true = (evenP p == evenP (inv p)) := e
  revert e'
  cases evenP p <;> cases evenP (inv p) <;> decide
end
theorem even_sw {n i j : Nat} (hn : n ≤ 12) (hi : i < n) (hj : j < n) : evenP (sw n i j) = decide (i = j) := by
  rw [even_sgn (isP_sw hi hj) (by rw [sw_len]; exact hn)]
  by_cases e : i = j
  · subst e
    have : sw n i i = List.range n := by
      refine ext_ap (by rw [sw_len, List.length_range]) fun x hx => ?_
      rw [sw_len] at hx
      rw [ap_sw hx, ap_range hx]
      unfold swF
      by_cases z : x = i
      · rw [if_pos z, z]
      · rw [if_neg z, if_neg z]
    rw [this, invs_range_all _ hn]
    simp
  · have := sgn_sw hn hi hj e
    simp [e, this]
end Hw

namespace Hw
open PySem PySem.Spec PyProof.Rows L2
/-- the same rule, its reading by a name -/
def tCal (sp : Sp) (t : TA) : TE := fun σ H Q => t σ H fun vs H1 => sp vs H1 Q E0
theorem pe_cl {X : Cx} {k : Nat} {sp : Sp} {x : Str} {p pos : Pos} {e : Expr} {es : List Expr} {t : TA} (c : Cal X.prog X.w X.K X.mg X.base x k sp) (hr : Room k X.A) (hg : Gl X x) (ha : PA X (e :: es) t) (hdb : (x == ("__debug__" : Str)) = false := by decide)
    (he : starEach (e :: es) X.env = (false, eval e X.env) :: starEach es X.env := by rfl) (hpl : (backTo pos (starEach es X.env)).any (·.1) = false := by rfl) :
    PE X (.Call (.Name x p) (e :: es) [] pos) (tCal sp t) := pe_cal c hr hg ha hdb he hpl
/-- numbers as values -/
def NV (p : List Nat) : List V := p.map fun n : Nat => V.int (n : Int)
theorem NV_len (p : List Nat) : (NV p).length = p.length := by unfold NV; rw [List.length_map]
theorem NV_get {p : List Nat} {i x : Nat} (h : p[i]? = some x) : (NV p)[i]? = some (.int (x : Int)) := by
  unfold NV
  rw [List.getElem?_map, h]
  rfl
theorem NV_get' {p : List Nat} {i : Nat} {v : V} (h : (NV p)[i]? = some v) : ∃ x : Nat, p[i]? = some x ∧ v = .int (x : Int) := by
  unfold NV at h
  rw [List.getElem?_map] at h
  cases e : p[i]? with
  | none => rw [e] at h; cases h
  | some x => rw [e] at h; exact ⟨x, rfl, (Option.some.inj h).symm⟩
theorem NV_range (n : Nat) : rgV 0 (n : Int) = NV (List.range n) := by
  unfold rgV NV
  rw [show ((n : Int) - 0).toNat = n by omega]
  apply List.map_congr_left
  intro i _
  congr 1
  omega
theorem NV_snoc (p : List Nat) (x : Nat) : NV (p ++ [x]) = NV p ++ [V.int (x : Int)] := by unfold NV; rw [List.map_append]; rfl
theorem walk_rg0 {n : Nat} : Walk (Itr 0 n) n (fun _ => True) (fun i H x H' => H' = H ∧ x = .int (i : Nat)) :=
  (walk_range (lo := 0) (n := n)).mono (fun _ z => z) fun i H x H' _ _ y => ⟨y.1, by rw [y.2]; show V.int (0 + (i : Int)) = _; rw [show (0 : Int) + (i : Int) = (i : Int) by omega]⟩
/-- a tuple of numbers at a -/
abbrev Tp (H : Hp) (a : Addr) (p : List Nat) : Prop := H a = some (.tup (NV p))
theorem same_upd {H : Hp} {p : Addr} {o : HO} (h : H p = none) : Same H (upd H p o) := fun b x e => by
  rw [upd_ne (ne_of_none e h)]
  exact e
theorem sq_of {K : PySem.W.Frag} {H : Hp} {a : Addr} {xs : List V} (h : H a = some (.tup xs)) : SqT K H a xs := .inl (.inl h)
theorem sl_of {K : PySem.W.Frag} {H : Hp} {a : Addr} {xs : List V} (h : H a = some (.lst xs)) : SqL K H a xs := .inl (.inl h)
theorem fresh_of {p : List Nat} {i x : Nat} (hd : p.Nodup) (h : p[i]? = some x) : x ∉ p.take i := by
  intro z
  obtain ⟨j, hj, e⟩ := List.mem_take_iff_getElem.mp z
  obtain ⟨hi, e2⟩ := List.getElem?_eq_some_iff.mp h
  have hj' : j < p.length := by omega
  have := (List.getElem_inj (h₀ := hj') (h₁ := hi) hd).mp (by rw [e, e2])
  omega
theorem NV_set (p : List Nat) (x v : Nat) : (NV p).set x (V.int (v : Int)) = NV (p.set x v) := by unfold NV; rw [List.map_set]
theorem NV_rep (n x : Nat) : NV (List.replicate n x) = List.replicate n (V.int (x : Int)) := by unfold NV; rw [List.map_replicate]
theorem rep_flat {v : V} (n : Nat) : (List.replicate (Int.toNat (n : Int)) [v]).flatten = List.replicate n v := by
  rw [Int.toNat_natCast, List.flatten_replicate_singleton]
theorem tp_upd {H : Hp} {b l : Addr} {c : List Nat} {xs : List V} {o : HO} (h : Tp H b c) (hl : H l = some (.lst xs)) : Tp (upd H l o) b c := by
  show upd H l o b = _
  rw [upd_ne (ne_of h hl (by intro q; cases q))]
  exact h
theorem tp_new {H : Hp} {b l : Addr} {c : List Nat} {o : HO} (h : Tp H b c) (hl : H l = none) : Tp (upd H l o) b c := same_upd hl _ _ h
theorem same_in {H H' : Hp} {l : Addr} {o : HO} (sm : Same H H') (h : H l = none) : Same H (upd H' l o) := fun b u e => by
  rw [upd_ne (ne_of_none e h)]
  exact sm _ _ e
theorem cut_to (xs : List V) (k : Nat) : cutV xs none (some (k : Int)) = xs.take k := by
  unfold cutV
  rw [show HT.sIx xs.length 0 none = 0 from HT.sIx_none _ _, show HT.sIx xs.length xs.length (some (k : Int)) = min k xs.length from HT.sIx_nat _ _ _, List.drop_zero, Nat.sub_zero]
  rcases Nat.le_total k xs.length with h | h
  · rw [Nat.min_eq_left h]
  · rw [Nat.min_eq_right h, List.take_length, List.take_of_length_le h]
theorem cut_from (xs : List V) (k : Nat) : cutV xs (some (k : Int)) none = xs.drop k := by
  unfold cutV
  rw [show HT.sIx xs.length 0 (some (k : Int)) = min k xs.length from HT.sIx_nat _ _ _, show HT.sIx xs.length xs.length none = xs.length from HT.sIx_none _ _]
  rcases Nat.le_total k xs.length with h | h
  · rw [Nat.min_eq_left h]
    exact List.take_of_length_le (by rw [List.length_drop]; exact Nat.le_refl _)
  · rw [Nat.min_eq_right h, Nat.sub_self, List.drop_of_length_le h]
    rfl
theorem NV_take (p : List Nat) (k : Nat) : (NV p).take k = NV (p.take k) := by unfold NV; rw [List.map_take]
theorem NV_drop (p : List Nat) (k : Nat) : (NV p).drop k = NV (p.drop k) := by unfold NV; rw [List.map_drop]
theorem nv_len {ps : List (Addr × List Nat)} : (ps.map fun p => V.ref p.1).length = ps.length := by rw [List.length_map]
theorem refs_get {ps : List (Addr × List Nat)} {i : Nat} {v : V} (h : (ps.map fun p => V.ref p.1)[i]? = some v) : ∃ p, ps[i]? = some p ∧ v = .ref p.1 := by
  rw [List.getElem?_map] at h
  cases e : ps[i]? with
  | none => rw [e] at h; cases h
  | some p => rw [e] at h; exact ⟨p, rfl, (Option.some.inj h).symm⟩
theorem at_int {cs : List Int} {i : Nat} {c x : Int} (h : cs[i]? = some c) (e : x = (i : Int)) : atI (cs.map V.int) x = some (.int c) := by
  rw [e]
  refine atI_nat ?_
  rw [List.getElem?_map, h]
  rfl
theorem ix_at {n i : Nat} {x : Int} (h : i < n) (e : x = (i : Int)) : ixN n x = some i := by
  rw [e]
  unfold ixN
  rw [if_pos (by omega), if_pos (by omega)]
  rfl
theorem set_int (cs : List Int) (i : Nat) (x : Int) : (cs.map V.int).set i (V.int x) = (cs.set i x).map V.int := by rw [List.map_set]
/-! ### what is compared -/
theorem lay_ints : ∀ ns : List Int, PyData.canLayAll0 (ns.map PyData.int) = true
  | [] => rfl
  | n :: ns => by
    show (PyData.canLay0 (.int n) && PyData.canLayAll0 (ns.map PyData.int)) = true
    rw [lay_ints ns]
    rfl
theorem shaped_li (ns : List Int) : SeqAt.shaped (.list (ns.map PyData.int)) = true := by
  unfold SeqAt.shaped
  have e : (PyData.list (ns.map PyData.int)).depth = 0 + 1 := by
    show PyData.depthAll (ns.map PyData.int) + 1 = 0 + 1
    rw [depth_ints]
  rw [e]
  show (PyData.canLayAll0 (ns.map PyData.int) && _) = true
  rw [lay_ints]
  rfl
theorem shaped_ti (ns : List Int) : SeqAt.shaped (.tuple (ns.map PyData.int)) = true := by
  unfold SeqAt.shaped
  have e : (PyData.tuple (ns.map PyData.int)).depth = 0 + 1 := by
    show PyData.depthAll (ns.map PyData.int) + 1 = 0 + 1
    rw [depth_ints]
  rw [e]
  show (PyData.canLayAll0 (ns.map PyData.int) && _) = true
  rw [lay_ints]
  rfl
theorem eqv_ints : ∀ ns ms : List Int, PyData.eqvAll (ns.map PyData.int) (ms.map PyData.int) = decide (ns = ms)
  | [], [] => by simp [PyData.eqvAll]
  | [], m :: ms => by simp [PyData.eqvAll]
  | n :: ns, [] => by simp [PyData.eqvAll]
  | n :: ns, m :: ms => by
    show (PyData.eqv (.int n) (.int m) && PyData.eqvAll (ns.map PyData.int) (ms.map PyData.int)) = _
    rw [eqv_ints ns ms]
    by_cases e : n = m
    · by_cases e2 : ns = ms <;> simp [PyData.eqv, e, e2]
    · simp [PyData.eqv, e]
theorem eqv_li (ns ms : List Int) : PyData.eqv (.list (ns.map PyData.int)) (.list (ms.map PyData.int)) = decide (ns = ms) := eqv_ints ns ms
theorem eqv_ti (ns ms : List Int) : PyData.eqv (.tuple (ns.map PyData.int)) (.tuple (ms.map PyData.int)) = decide (ns = ms) := eqv_ints ns ms
theorem dpa_ints {K : PySem.W.Frag} {H : Hp} : ∀ ns : List Int, DpAll K H (ns.map V.int) (ns.map PyData.int)
  | [] => .nil
  | n :: ns => .cons (.int n) (dpa_ints ns)
theorem dp_li {K : PySem.W.Frag} {H : Hp} {a : Addr} {ns : List Int} (h : SqL K H a (ns.map V.int)) : Dp K H (.ref a) (.list (ns.map PyData.int)) := .lst h (dpa_ints ns)
theorem dp_ti {K : PySem.W.Frag} {H : Hp} {a : Addr} {ns : List Int} (h : SqT K H a (ns.map V.int)) : Dp K H (.ref a) (.tuple (ns.map PyData.int)) := .tup h (dpa_ints ns)
theorem perm_out {α : Type} {xs : List α} {d : Nat} {y : α} (h : xs[d]? = some y) : (y :: xs.eraseIdx d).Perm xs := by
  obtain ⟨hd, e⟩ := List.getElem?_eq_some_iff.mp h
  rw [List.eraseIdx_eq_take_drop_succ]
  have e2 : xs = xs.take d ++ y :: xs.drop (d + 1) := by
    rw [← e, List.getElem_cons_drop, List.take_append_drop]
  have p := (List.perm_middle (a := y) (l₁ := xs.take d) (l₂ := xs.drop (d + 1))).symm
  rw [← e2] at p
  exact p
theorem seq_ix {d n : Nat} (h : d < n) : seqIndex? (d : Int) n = some d := by
  unfold seqIndex?
  have h1 : ¬ ((d : Int) < 0) := by omega
  have h2 : (0 : Int) ≤ (d : Int) := by omega
  have h3 : (d : Int) < (n : Int) := by omega
  simp [h1, h2, h3]
def numOf : V → Nat
  | .int i => i.toNat
  | _ => 0
theorem numOf_NV (p : List Nat) : (NV p).map numOf = p := by
  unfold NV
  rw [List.map_map]
  have : (numOf ∘ fun n : Nat => V.int (n : Int)) = id := by
    funext n
    show ((n : Int)).toNat = n
    omega
  rw [this, List.map_id]
theorem perm_NV {ys : List V} {l : List Nat} (h : ys.Perm (NV l)) : ∃ p, ys = NV p ∧ p.Perm l := by
  refine ⟨ys.map numOf, ?_, ?_⟩
  · unfold NV
    rw [List.map_map]
    conv => lhs; rw [← List.map_id ys]
    apply List.map_congr_left
    intro v hv
    obtain ⟨n, _, rfl⟩ := List.mem_map.mp (h.mem_iff.mp hv)
    show V.int (n : Int) = V.int ((((n : Int)).toNat : Nat) : Int)
    rw [Int.toNat_natCast]
  · have := h.map numOf
    rw [numOf_NV] at this
    exact this
def NI (p : List Nat) : List Int := p.map fun n : Nat => (n : Int)
theorem NV_NI (p : List Nat) : NV p = (NI p).map V.int := by
  unfold NV NI
  rw [List.map_map]
  rfl
theorem NI_inj : ∀ {p q : List Nat}, NI p = NI q → p = q
  | [], [], _ => rfl
  | [], _ :: _, h => by cases h
  | _ :: _, [], h => by cases h
  | x :: p, y :: q, h => by
    have h' : ((x : Int) :: NI p) = (y : Int) :: NI q := h
    injection h' with h1 h2
    rw [NI_inj h2, Int.ofNat.inj h1]
theorem dp_tp {K : PySem.W.Frag} {H : Hp} {a : Addr} {p : List Nat} (h : Tp H a p) : Dp K H (.ref a) (.tuple ((NI p).map PyData.int)) :=
  dp_ti (sq_of (by rw [← NV_NI]; exact h))
theorem eqv_tp (p q : List Nat) : PyData.eqv (.tuple ((NI p).map PyData.int)) (.tuple ((NI q).map PyData.int)) = decide (p = q) := by
  rw [eqv_ti]
  by_cases e : p = q
  · rw [decide_eq_true e, e]
    exact decide_eq_true rfl
  · rw [decide_eq_false e]
    exact decide_eq_false fun z => e (NI_inj z)
/-! ### tuples of tuples as data -/
def dC (cs : List (List Nat)) : PyData := .list (cs.map fun c => .tuple ((NI c).map PyData.int))
theorem lay_cs : ∀ cs : List (List Nat), PyData.canLayAll0 (cs.map fun c => PyData.tuple ((NI c).map PyData.int)) = true
  | [] => rfl
  | c :: cs => by
    show (PyData.canLayAll0 ((NI c).map PyData.int) && PyData.canLayAll0 (cs.map fun c => PyData.tuple ((NI c).map PyData.int))) = true
    rw [lay_ints, lay_cs cs]
    rfl
theorem depth_cs : ∀ cs : List (List Nat), PyData.depthAll (cs.map fun c => PyData.tuple ((NI c).map PyData.int)) ≤ 1
  | [] => Nat.zero_le _
  | c :: cs => by
    show max (PyData.depthAll ((NI c).map PyData.int) + 1) (PyData.depthAll (cs.map fun c => PyData.tuple ((NI c).map PyData.int))) ≤ 1
    rw [depth_ints]
    exact Nat.max_le.mpr ⟨Nat.le_refl _, depth_cs cs⟩
theorem shaped_cs (cs : List (List Nat)) : SeqAt.shaped (dC cs) = true := by
  unfold SeqAt.shaped
  have e : (dC cs).depth ≤ 64 := by
    show PyData.depthAll (cs.map fun c => PyData.tuple ((NI c).map PyData.int)) + 1 ≤ 64
    have := depth_cs cs
    omega
  show (PyData.canLayAll0 (cs.map fun c => PyData.tuple ((NI c).map PyData.int)) && _) = true
  rw [lay_cs, decide_eq_true e]
  rfl
theorem eqv_cs (cs : List (List Nat)) : PyData.eqv (dC cs) (dC cs) = true := SeqAt.eqv_refl _ (lay_cs cs)
theorem dpa_cs {K : PySem.W.Frag} {H : Hp} : ∀ ks : List (Addr × List Nat), (∀ k ∈ ks, Tp H k.1 k.2) → DpAll K H (ks.map fun k => V.ref k.1) ((ks.map (·.2)).map fun c => PyData.tuple ((NI c).map PyData.int))
  | [], _ => .nil
  | k :: ks, h => .cons (dp_tp (h k List.mem_cons_self)) (dpa_cs ks fun l hl => h l (List.mem_cons_of_mem _ hl))
theorem dp_cs {K : PySem.W.Frag} {H : Hp} {a : Addr} {ks : List (Addr × List Nat)} {cs : List (List Nat)} (h : SqL K H a (ks.map fun k => V.ref k.1)) (hk : ∀ k ∈ ks, Tp H k.1 k.2) (e : ks.map (·.2) = cs) : Dp K H (.ref a) (dC cs) := by
  have := Dp.lst h (dpa_cs (K := K) ks hk)
  rw [e] at this
  exact this
theorem foldl_min : ∀ (ns : List Int) (n : Int), (∀ y ∈ ns, n ≤ y) → ns.foldl min n = n
  | [], _, _ => rfl
  | m :: ns, n, h => by
    have h1 := h m List.mem_cons_self
    show ns.foldl min (min n m) = n
    rw [show min n m = n from Int.min_eq_left h1]
    exact foldl_min ns n fun y hy => h y (List.mem_cons_of_mem _ hy)
theorem NI_nodup {l : List Nat} (h : l.Nodup) : (NI l).Nodup := by
  unfold NI
  rw [List.nodup_iff_pairwise_ne, List.pairwise_map]
  exact List.Pairwise.imp (fun {x y} h e => h (Int.ofNat.inj e)) (List.nodup_iff_pairwise_ne.mp h)
theorem NI_len (l : List Nat) : (NI l).length = l.length := by unfold NI; rw [List.length_map]
theorem mem_NI {l : List Nat} {y : Int} (h : y ∈ NI l) : ∃ x, x ∈ l ∧ y = (x : Int) := by
  obtain ⟨x, hx, rfl⟩ := List.mem_map.mp h
  exact ⟨x, hx, rfl⟩
/-- the same numbers, both rising -/
theorem sorted_is {ns : List Int} {l m : List Nat} (h1 : ns.Perm (NI l)) (h2 : ns.Pairwise (· ≤ ·)) (h3 : m.Perm l) (h4 : m.Pairwise (· ≤ ·)) : ns = NI m := by
  refine List.Perm.eq_of_pairwise (fun a b _ _ x y => Int.le_antisymm x y) h2 ?_ (h1.trans (h3.symm.map _))
  unfold NI
  rw [List.pairwise_map]
  exact List.Pairwise.imp (fun h => by omega) h4
end Hw

namespace Hw
open PySem PySem.Spec PyProof.Rows L2
section
variable {P : Program} {w : World} {K : PySem.W.Frag} {mg : Str → Option Value} {base : Heap}
def spWhole : Sp := fun vs H Q _ => ∃ i : Int, vs = [.int i] ∧ Q (.bl true) H
theorem scWhole : FnScope ["value"] ["value"] (defScope sWhole) := ⟨rfl, rfl, rfl, by decide +kernel, rfl, by decide +kernel, by decide +kernel⟩
theorem cal_whole (T : Txt mg) (D : Df K mg "is_whole" sWhole ["value"]) : Cal P w K mg base "is_whole" 1 spWhole := by
  refine cal_of D scWhole (fun vs H Q E h => ?_) (fun f cdv A outer s H vs Q E hr h => ?_)
  · obtain ⟨i, rfl, _⟩ := h
    rfl
  · obtain ⟨i, rfl, q⟩ := h
    refine ⟨_, pss_one (ps_ret (pe_and (pe_callB call_isi (by rfl) T.isinstance (by decide +kernel) (pa_cons (pv 0) (pa_cons (pe_bltn (v := .ty "int") (by rfl) T.int (by decide +kernel) rfl) pa_nil)))
      (pe_one (pe_not (pe_callB call_isi (by rfl) T.isinstance (by decide +kernel) (pa_cons (pv 0) (pa_cons (pe_bltn (v := .ty "bool") (by rfl) T.bool (by decide +kernel) rfl) pa_nil))))))), ?_⟩
    refine ⟨_, rfl, _, _, _, _, true, rfl, .ty _, .base (.int i), kit_ty (by decide +kernel), true, rfl, iteT ?_⟩
    refine ⟨_, rfl, _, _, _, _, false, rfl, .ty _, .base (.int i), kit_ty (by decide +kernel), false, rfl, ?_⟩
    exact q
def spIndex : Sp := fun vs H Q _ => ∃ (i c : Int), vs = [.int i, .int c] ∧ Q (.bl (decide (0 ≤ i ∧ i < c))) H
theorem scIndex : FnScope ["value", "count"] ["value", "count"] (defScope sIndex) := ⟨rfl, rfl, rfl, by decide +kernel, rfl, by decide +kernel, by decide +kernel⟩
theorem cal_index (T : Txt mg) (GW : Cal P w K mg base "is_whole" 1 spWhole) (D : Df K mg "is_index" sIndex ["value", "count"]) : Cal P w K mg base "is_index" 2 spIndex := by
  refine cal_of D scIndex (fun vs H Q E h => ?_) (fun f cdv A outer s H vs Q E hr h => ?_)
  · obtain ⟨i, c, rfl, _⟩ := h
    rfl
  · obtain ⟨i, c, rfl, q⟩ := h
    refine ⟨_, pss_one (ps_ret (pe_and (pe_cal GW hr (by rfl) (pa_cons (pv 0) pa_nil)) (pe_one (pe_chain op_le op_lt pe_int (pv 0) (pv 1))))), ?_⟩
    refine ⟨_, rfl, i, rfl, true, rfl, iteT ?_⟩
    refine ⟨_, rfl, _, _, rfl, rfl, _, rfl, ite2 (fun h => ?_) (fun h => ?_)⟩
    · refine ⟨_, rfl, _, _, rfl, rfl, ?_⟩
      have h' : (0 : Int) ≤ i := of_decide_eq_true h
      have e : decide (i < c) = decide (0 ≤ i ∧ i < c) := by
        by_cases z : i < c <;> simp [z, h']
      show Q (V.bl (decide (i < c))) H
      rw [e]
      exact q
    · have h' : ¬ (0 : Int) ≤ i := fun z => h (decide_eq_true z)
      have e : false = decide (0 ≤ i ∧ i < c) := by simp [h']
      show Q (V.bl false) H
      rw [e]
      exact q
end
end Hw

namespace Hw
open PySem PySem.Spec PyProof.Rows L2
section
variable {P : Program} {w : World} {K : PySem.W.Frag} {mg : Str → Option Value} {base : Heap}
theorem mixed_ok (x : Int) : 0 ≤ x % 2147483629 / 7 ∧ x % 2147483629 / 7 < 2 ^ 31 := by omega
def spMixed : Sp := fun vs H Q _ => ∃ (c n : Int), vs = [.int c, .int n] ∧ 0 ≤ c ∧ c < 2 ^ 40 ∧ 0 ≤ n ∧ n < 2 ^ 20 ∧ ∀ v : Int, 0 ≤ v → v < 2 ^ 31 → Q (.int v) H
theorem scMixed : FnScope ["_law_cell", "_law_n", "_law_turned"] ["_law_cell", "_law_n"] (defScope sMixed) := ⟨rfl, rfl, rfl, by decide +kernel, rfl, by decide +kernel, by decide +kernel⟩
theorem cal_mixed (D : Df K mg "_law_mixed" sMixed ["_law_cell", "_law_n"]) : Cal P w K mg base "_law_mixed" 1 spMixed := by
  have nd := scMixed.nd
  refine cal_of D scMixed (fun vs H Q E h => ?_) (fun f cdv A outer s H vs Q E hr h => ?_)
  · obtain ⟨c, n, rfl, _⟩ := h
    rfl
  · obtain ⟨c, n, rfl, c0, c1, n0, n1, q⟩ := h
    refine ⟨_, pss_cons (ps_set (i := 2) nd rfl (.inl rfl) (pe_op op_add (pe_op op_add (pe_op op_mod (pe_op op_mul (pe_op op_mul (pv 0) (pe_op op_add pe_int (pe_op op_mul pe_int (pv 1)))) pe_int) pe_int) (pe_op op_mul (pe_op op_mul pe_int (pv 1)) (pv 1))) (pe_op op_mul pe_int (pv 1))))
      <| pss_one (ps_ret (pe_op op_fdiv (pe_op op_mod (pe_op op_mul (pv 2) pe_int) pe_int) pe_int)), ?_⟩
    refine ⟨_, rfl, _, rfl, _, _, rfl, rfl, .inl ⟨by decide, by decide⟩, _, _, rfl, rfl, _, _, rfl, rfl, .inl ⟨by omega, by omega⟩, _, _, rfl, rfl, .inr ⟨by decide, by decide⟩, _, _, rfl, rfl, (by show (0 : Int) < _; decide), ?_⟩
    refine ⟨_, rfl, _, _, rfl, rfl, .inl ⟨by decide, by decide⟩, _, rfl, _, _, rfl, rfl, .inr ⟨by omega, by omega⟩, _, _, rfl, rfl, _, rfl, _, _, rfl, rfl, .inl ⟨by decide, by decide⟩, _, _, rfl, rfl, ?_⟩
    refine ⟨_, rfl, _, _, rfl, rfl, .inr ⟨by decide, by decide⟩, _, _, rfl, rfl, (by show (0 : Int) < _; decide), _, _, rfl, rfl, ⟨by decide, by decide⟩, ?_⟩
    exact q _ (mixed_ok _).1 (mixed_ok _).2
/-! ### the cells -/
def Cells (cs : List Int) : Prop := cs.length = 64 ∧ ∀ c ∈ cs, 0 ≤ c ∧ c < 2 ^ 31
theorem cells_set {cs : List Int} (h : Cells cs) (i : Nat) (x : Int) : Cells (cs.set i (x % 2147483647)) := by
  refine ⟨by rw [List.length_set]; exact h.1, fun c hc => ?_⟩
  rcases List.mem_or_eq_of_mem_set hc with z | z
  · exact h.2 c z
  · rw [z]; omega
theorem cells_get {cs : List Int} (h : Cells cs) {i : Nat} (hi : i < 64) : ∃ c, cs[i]? = some c ∧ 0 ≤ c ∧ c < 2 ^ 31 := by
  have hl : i < cs.length := by rw [h.1]; exact hi
  exact ⟨cs[i], List.getElem?_eq_getElem hl, h.2 _ (List.getElem_mem hl)⟩
def spFolded (K : PySem.W.Frag) : Sp := fun vs H Q _ => ∃ (a : Addr) (ns : List Int), vs = [.ref a] ∧ SqL K H a (ns.map V.int) ∧ ns.length ≤ 63 ∧ ∀ H' r cs, Same H H' → H r = none → H' r = some (.lst (cs.map V.int)) → Cells cs → Q (.ref r) H'
theorem scFolded : FnScope ["_law_script", "_law_n", "_law_found", "_law_cell"] ["_law_script"] (defScope sFolded) := ⟨rfl, rfl, rfl, by decide +kernel, rfl, by decide +kernel, by decide +kernel⟩
theorem cal_folded (T : Txt mg) (D : Df K mg "_law_folded" sFolded ["_law_script"]) : Cal P w K mg base "_law_folded" 1 (spFolded K) := by
  have nd := scFolded.nd
  refine cal_of D scFolded (fun vs H Q E h => ?_) (fun f cdv A outer s H vs Q E hr h => ?_)
  · obtain ⟨a, ns, rfl, _⟩ := h
    rfl
  · obtain ⟨a, ns, rfl, ha, hl, q⟩ := h
    refine ⟨_, pss_cons (ps_setLc (i := 2) (own := [("_law_n", 1)]) (g := gName 1) (by rfl) nd rfl rfl (sw_true rfl rfl rfl (by decide +kernel)) (pi_range1 (by rfl) T.range (pa_cons pe_int pa_nil))
        (blkOk_by (own := [("_law_n", 1)]) (N := ["_law_script", "_law_n", "_law_found", "_law_cell"]) (sc := defScope sFolded) (by decide +kernel)) (fun _ _ _ _ _ => pg_name (i := 1) nd rfl (.inl rfl)) (fun _ _ _ _ _ => pts_nil)
        (fun _ _ _ _ _ => pe_op op_add pe_int (pv 1)))
      <| pss_cons (ps_for PassesOwn.never rfl (pi_enum (by rfl) T.enumerate (pa_cons (pv 0) pa_nil)) (pg_tup rfl (pgs_cons (pg_name (i := 1) nd rfl (.inl rfl)) (pgs_cons (pg_name (i := 3) nd rfl (.inl rfl)) pgs_nil)))
          (pss_one (ps_asg (pe_op op_mod (pe_op op_add (pe_op op_mul (pe_ix ix_list (pv 2) (pe_op op_mod (pv 1) pe_int) (fun _ _ => rfl)) pe_int) (pv 3)) pe_int) (pg_sub (pv 2) (pe_op op_mod (pv 1) pe_int) set_list))))
      <| pss_cons (ps_for PassesOwn.never rfl (pi_range2 (by rfl) T.range (pa_cons pe_int (pa_cons pe_int pa_nil))) (pg_name (i := 1) nd rfl (.inl rfl))
          (pss_one (ps_asg (pe_op op_mod (pe_op op_add (pe_ix ix_list (pv 2) (pv 1) (fun _ _ => rfl)) (pe_op op_mul (pe_ix ix_list (pv 2) (pe_op op_sub (pv 1) pe_int) (fun _ _ => rfl)) pe_int)) pe_int) (pg_sub (pv 2) (pv 1) set_list))))
      <| pss_one (ps_ret (pv 2)), ?_⟩
    refine ⟨_, rfl, by decide, by decide, fun D nD => lc_it (walk_rg0 (n := 64)) (fun i H' => Same H H' ∧ H' D = some (.lst (((List.range i).map fun j : Nat => (17 + (j : Int))).map V.int))) ⟨same_upd nD, upd_same⟩ (fun _ _ _ _ => trivial) ?_ ?_⟩
    · rintro i x _ H2 hi ⟨sm, hD⟩ ⟨rfl, rfl⟩
      refine ⟨rfl, _, rfl, _, _, rfl, rfl, _, hD, ?_, ?_, ?_⟩
      · rw [List.length_map, List.length_map, List.length_range]
        exact small1000 (by omega)
      · exact fun b o e => by rw [upd_ne (ne_of_none e nD)]; exact sm _ _ e
      · rw [upd_same, List.range_succ, List.map_append, List.map_append]
        rfl
    · rintro H2 ⟨sm2, hD⟩
      have c0 : Cells ((List.range 64).map fun j : Nat => (17 + (j : Int))) := by
        refine ⟨by rw [List.length_map, List.length_range], fun c hc => ?_⟩
        obtain ⟨j, hj, rfl⟩ := List.mem_map.mp hc
        rw [List.mem_range] at hj
        omega
      refine ⟨_, rfl, a, _, rfl, sm2.seq ha, for_it (walk_enum (xs := ns.map V.int)) (fun i σ H' => ∃ v1 v3 cs, σ = [some (.ref a), v1, some (.ref D), v3] ∧ Same H H' ∧ H' D = some (.lst (cs.map V.int)) ∧ Cells cs) ⟨_, _, _, rfl, sm2, hD, c0⟩ (fun i σ H' _ ⟨_, _, _, _, sm, _⟩ => sm.seq ha) ?_ ?_⟩
      · rintro i x σ H3 H4 hi ⟨v1, v3, cs, rfl, sm, hL, hc⟩ ⟨T1, i', y, rfl, nT, rfl, ei, ey⟩
        obtain rfl : V.int (i : Int) = i' := Option.some.inj ei
        have ey : (ns.map V.int)[i]? = some y := ey
        rw [List.getElem?_map] at ey
        obtain ⟨c, hc1, rfl⟩ : ∃ c, ns[i]? = some c ∧ y = V.int c := by
          cases e : ns[i]? with
          | none => rw [e] at ey; cases ey
          | some c => rw [e] at ey; exact ⟨c, rfl, (Option.some.inj ey).symm⟩
        rw [List.length_map] at hi
        have i64 : i < 64 := by omega
        obtain ⟨z, hz, z0, z1⟩ := cells_get hc i64
        have hL' : upd H3 T1 (.tup [V.int (i : Int), V.int c]) D = some (.lst (cs.map V.int)) := by
          rw [upd_ne (ne_of_none hL nT)]
          exact hL
        have smT := sm.trans (same_upd (o := .tup [V.int (i : Int), V.int c]) nT)
        refine ⟨T1, _, rfl, .inl (.inl upd_same), rfl, _, _, rfl, _, _, rfl, rfl, ?_⟩
        refine ⟨_, rfl, _, rfl, _, _, rfl, rfl, (by show (0 : Int) < 64; decide), D, _, _, _, rfl, rfl, sl_of hL', at_int hz (by omega), ?_⟩
        refine ⟨_, _, rfl, rfl, .inl ⟨by omega, by omega⟩, _, rfl, _, _, rfl, rfl, _, _, rfl, rfl, (by show (0 : Int) < 2147483647; decide), ?_⟩
        refine ⟨_, rfl, _, rfl, _, _, rfl, rfl, (by show (0 : Int) < 64; decide), D, _, _, i, rfl, rfl, hL', ix_at (by rw [List.length_map, hc.1]; exact i64) (by omega), ?_⟩
        refine ⟨_, _, cs.set i ((z * 48271 + c) % 2147483647), rfl, same_in smT nD, ?_, cells_set hc i _⟩
        rw [upd_same, set_int]
      · rintro σ H3 ⟨v1, v3, cs, rfl, sm, hL, hc⟩
        refine ⟨_, _, rfl, by decide, ?_⟩
        refine for_it (walk_range (lo := 1) (n := 63)) (fun i σ H' => ∃ v1 cs, σ = [some (.ref a), v1, some (.ref D), v3] ∧ Same H H' ∧ H' D = some (.lst (cs.map V.int)) ∧ Cells cs) ⟨_, _, rfl, sm, hL, hc⟩ (fun _ _ _ _ _ => trivial) ?_ ?_
        · rintro i x σ _ H4 hi ⟨v1, cs, rfl, sm, hL, hc⟩ ⟨rfl, rfl⟩
          obtain ⟨z, hz, z0, z1⟩ := cells_get hc (i := i + 1) (by omega)
          obtain ⟨y, hy, y0, y1⟩ := cells_get hc (i := i) (by omega)
          refine ⟨_, rfl, _, rfl, D, _, _, _, rfl, rfl, sl_of hL, at_int hz (by omega), ?_⟩
          refine ⟨_, rfl, _, rfl, _, _, rfl, rfl, D, _, _, _, rfl, rfl, sl_of hL, at_int hy (by omega), ?_⟩
          refine ⟨_, _, rfl, rfl, .inl ⟨by omega, by omega⟩, _, _, rfl, rfl, _, _, rfl, rfl, (by show (0 : Int) < 2147483647; decide), ?_⟩
          refine ⟨_, rfl, _, rfl, D, _, _, i + 1, rfl, rfl, hL, ix_at (by rw [List.length_map, hc.1]; omega) (by omega), ?_⟩
          refine ⟨_, cs.set (i + 1) ((z + y * 16807) % 2147483647), rfl, same_in sm nD, ?_, cells_set hc (i + 1) _⟩
          rw [upd_same, set_int]
        · rintro σ H4 ⟨v1, cs, rfl, sm, hL, hc⟩
          exact ⟨_, rfl, q H4 D cs sm nD hL hc⟩
end
end Hw

namespace Hw
open PySem PySem.Spec PyProof.Rows L2
/-! ### the law's source of numbers -/
def dV (lc lg : Addr) (s : Int) : List (Key × V) := [(.inr "cells", .ref lc), (.inr "great", .ref lg), (.inr "spot", .int s)]
theorem dV_cells (lc lg : Addr) (s : Int) : valV (dV lc lg s) (.inr "cells") = some (.ref lc) := by rfl
theorem dV_great (lc lg : Addr) (s : Int) : valV (dV lc lg s) (.inr "great") = some (.ref lg) := by rfl
theorem dV_spot (lc lg : Addr) (s : Int) : valV (dV lc lg s) (.inr "spot") = some (.int s) := by rfl
theorem dV_put (lc lg : Addr) (s t : Int) : putK (dV lc lg s) (.inr "spot") (.int t) = dV lc lg t := by rfl
/-- at m the source stands, its great numbers at lg; s draws were made -/
def MOk (H : Hp) (m lg lc : Addr) (s : Nat) : Prop := ∃ (cs gs : List Int), H m = some (.dK (dV lc lg (s : Int))) ∧ H lc = some (.lst (cs.map V.int)) ∧ H lg = some (.lst (gs.map V.int)) ∧ Cells cs ∧ gs.length ≤ 63 ∧ lc ≠ lg
/-- all but the source is as it was -/
def Kp (m lg : Addr) (H H' : Hp) : Prop := ∀ b o, b ≠ m → b ≠ lg → H b = some o → H' b = some o
theorem Kp.refl (m lg : Addr) (H : Hp) : Kp m lg H H := fun _ _ _ _ h => h
theorem Kp.trans {m lg : Addr} {H H1 H2 : Hp} (a : Kp m lg H H1) (b : Kp m lg H1 H2) : Kp m lg H H2 := fun c o h1 h2 h => b c o h1 h2 (a c o h1 h2 h)
theorem Kp.same {m lg : Addr} {H H' : Hp} (a : Same H H') : Kp m lg H H' := fun b o _ _ h => a b o h
/-- a tuple stays -/
theorem Kp.tup {m lg lc : Addr} {H H' : Hp} {s : Nat} (k : Kp m lg H H') (M : MOk H m lg lc s) {b : Addr} {xs : List V} (h : H b = some (.tup xs)) : H' b = some (.tup xs) := by
  obtain ⟨cs, gs, h1, h2, h3, _⟩ := M
  exact k b _ (ne_of h h1 (by intro q; cases q)) (ne_of h h3 (by intro q; cases q)) h
/-- a list other than the source's stays -/
theorem Kp.lst {m lg lc : Addr} {H H' : Hp} {s : Nat} (k : Kp m lg H H') (M : MOk H m lg lc s) {b : Addr} {xs : List V} (n : b ≠ lg) (h : H b = some (.lst xs)) : H' b = some (.lst xs) := by
  obtain ⟨cs, gs, h1, h2, h3, _⟩ := M
  exact k b _ (ne_of h h1 (by intro q; cases q)) n h
theorem MOk.same {m lg lc : Addr} {H H' : Hp} {s : Nat} (M : MOk H m lg lc s) (sm : Same H H') : MOk H' m lg lc s := by
  obtain ⟨cs, gs, h1, h2, h3, r⟩ := M
  exact ⟨cs, gs, sm _ _ h1, sm _ _ h2, sm _ _ h3, r⟩
theorem MOk.new {m lg lc l : Addr} {H : Hp} {s : Nat} (M : MOk H m lg lc s) (h : H l = none) : l ≠ lg ∧ l ≠ m ∧ l ≠ lc := by
  obtain ⟨cs, gs, h1, h2, h3, r⟩ := M
  exact ⟨fun e => (ne_of_none h3 h) e.symm, fun e => (ne_of_none h1 h) e.symm, fun e => (ne_of_none h2 h) e.symm⟩
theorem MOk.upd {m lg lc l : Addr} {H : Hp} {o : HO} {s : Nat} (M : MOk H m lg lc s) (n : l ≠ lg ∧ l ≠ m ∧ l ≠ lc) : MOk (upd H l o) m lg lc s := by
  obtain ⟨cs, gs, h1, h2, h3, r⟩ := M
  exact ⟨cs, gs, by rw [upd_ne n.2.1.symm]; exact h1, by rw [upd_ne n.2.2.symm]; exact h2, by rw [upd_ne n.1.symm]; exact h3, r⟩
theorem Kp.free {m lg lc r : Addr} {H H' : Hp} {s : Nat} (k : Kp m lg H H') (M : MOk H' m lg lc s) (nr : H' r = none) : H r = none := by
  cases e : H r with
  | none => rfl
  | some o =>
    obtain ⟨n1, n2, _⟩ := M.new nr
    rw [k r o n2 n1 e] at nr
    cases nr
section
variable {P : Program} {w : World} {K : PySem.W.Frag} {mg : Str → Option Value} {base : Heap}
def spDraw : Sp := fun vs H Q _ => ∃ (m lg lc : Addr) (s t : Nat), vs = [.ref m, .int (t : Int)] ∧ MOk H m lg lc s ∧ s ≤ 100000 ∧ 1 ≤ t ∧ t ≤ 100000 ∧ ∀ (H' : Hp) (d : Nat), d < t → Kp m lg H H' → MOk H' m lg lc (s + 1) → Q (.int (d : Int)) H'
theorem scDraw : FnScope ["_law_m", "_law_top_here", "_law_n", "_law_at", "_law_cell"] ["_law_m", "_law_top_here"] (defScope sDraw) := ⟨rfl, rfl, rfl, by decide +kernel, rfl, by decide +kernel, by decide +kernel⟩
theorem cal_draw (T : Txt mg) (GM : Cal P w K mg base "_law_mixed" 1 spMixed) (D : Df K mg "_law_draw" sDraw ["_law_m", "_law_top_here"]) : Cal P w K mg base "_law_draw" 2 spDraw := by
  have nd := scDraw.nd
  refine cal_of D scDraw (fun vs H Q E h => ?_) (fun f cdv A outer s0 H vs Q E hr h => ?_)
  · obtain ⟨m, lg, lc, s, t, rfl, _⟩ := h
    rfl
  · obtain ⟨m, lg, lc, s, t, rfl, ⟨cs, gs, h1, h2, h3, hc, hg, hne⟩, hs, t1, t2, q⟩ := h
    have hu := hu_of hr
    refine ⟨_, pss_cons (ps_set (i := 2) nd rfl (.inl rfl) (pe_dget hu (pv 0) pe_str (fun _ _ => rfl)))
      <| pss_cons (ps_dput hu (pv 0) pe_str (pe_op op_add (pv 2) pe_int) rfl)
      <| pss_cons (ps_if (pt_cmpR (op_neD hr.units) (pe_dget hu (pv 0) pe_str (fun _ _ => rfl)) (pe_lst pa_nil) (nomark _))
          (pss_cons (ps_set (i := 3) nd rfl (.inl rfl) (pe_op op_mod (pv 2) (pe_callB cr_len (by rfl) T.len PySem.boot_len (pa_cons (pe_dget hu (pv 0) pe_str (fun _ _ => rfl)) pa_nil))))
          <| pss_cons (ps_set (i := 4) nd rfl (.inl rfl) (pe_ix ix_list (pe_dget hu (pv 0) pe_str (fun _ _ => rfl)) (pv 3) (fun _ _ => rfl)))
          <| pss_one (ps_if (pt_cmpR op_gt (pv 4) pe_int (nomark _))
              (pss_cons (ps_asg (pe_op op_fdiv (pv 4) (pv 1)) (pg_sub (pe_dget hu (pv 0) pe_str (fun _ _ => rfl)) (pv 3) set_list))
              <| pss_one (ps_ret (pe_op op_mod (pv 4) (pv 1)))) pss_nil)) pss_nil)
      <| pss_one (ps_ret (pe_op op_mod (pe_cal GM hr (by rfl) (pa_cons (pe_cal GM hr (by rfl) (pa_cons (pe_op op_add (pe_ix ix_list (pe_dget hu (pv 0) pe_str (fun _ _ => rfl)) (pe_op op_mod (pv 2) pe_int) (fun _ _ => rfl)) (pe_op op_mul pe_int (pe_op op_fdiv (pv 2) pe_int))) (pa_cons (pv 2) pa_nil)))
          (pa_cons (pe_op op_add (pv 2) pe_int) pa_nil))) (pv 1))), ?_⟩
    refine ⟨_, rfl, m, _, rfl, by rw [← dV_spot lc lg (s : Int)]; exact DGet.k (k := Sum.inr "spot") h1, ?_⟩
    refine ⟨_, rfl, _, _, rfl, rfl, _, rfl, m, _, rfl, DPut.k (k := Sum.inr "spot") h1 (by show 3 < sizeLine; decide), ?_⟩
    rw [dV_put]
    have nlm : lc ≠ m := ne_of h2 h1 (by intro q; cases q)
    have ngm : lg ≠ m := ne_of h3 h1 (by intro q; cases q)
    generalize eH : upd H m (.dK (dV lc lg ((s : Int) + 1))) = H1
    have g1 : H1 m = some (.dK (dV lc lg ((s : Int) + 1))) := by rw [← eH, upd_same]
    have g2 : H1 lc = some (.lst (cs.map V.int)) := by rw [← eH, upd_ne nlm]; exact h2
    have g3 : H1 lg = some (.lst (gs.map V.int)) := by rw [← eH, upd_ne ngm]; exact h3
    have k1 : Kp m lg H H1 := fun b o n1 n2 e => by rw [← eH, upd_ne n1]; exact e
    refine ⟨_, rfl, m, _, rfl, by rw [← dV_great lc lg ((s : Int) + 1)]; exact DGet.k (k := Sum.inr "great") g1, Nat.zero_le _, fun l0 n0 => ?_⟩
    have sm := same_upd (o := .lst []) n0
    generalize eH2 : upd H1 l0 (.lst []) = H2 at *
    have f1 := sm _ _ g1
    have f2 := sm _ _ g2
    have f3 := sm _ _ g3
    have k2 : Kp m lg H H2 := k1.trans (Kp.same sm)
    have MH : ∀ (H3 : Hp) (gs' : List Int), H3 m = some (.dK (dV lc lg ((s : Int) + 1))) → H3 lc = some (.lst (cs.map V.int)) → H3 lg = some (.lst (gs'.map V.int)) → gs'.length ≤ 63 → MOk H3 m lg lc (s + 1) := fun H3 gs' a1 a2 a3 a4 =>
      ⟨cs, gs', by rw [a1]; rfl, a2, a3, hc, a4, hne⟩
    have G1 := DGet.k (k := Sum.inr "great") f1
    have G2 := DGet.k (k := Sum.inr "cells") f1
    rw [dV_great] at G1
    rw [dV_cells] at G2
    have fin : ∀ (H3 : Hp) (gs' : List Int) (x : Int), Kp m lg H H3 → H3 m = some (.dK (dV lc lg ((s : Int) + 1))) → H3 lc = some (.lst (cs.map V.int)) → H3 lg = some (.lst (gs'.map V.int)) → gs'.length ≤ 63 → Q (.int (x % (t : Int))) H3 := fun H3 gs' x a0 a1 a2 a3 a4 => by
      have t0 : (0 : Int) < (t : Int) := by omega
      have b1 := Int.emod_nonneg x (show (t : Int) ≠ 0 by omega)
      have b2 := Int.emod_lt_of_pos x t0
      obtain ⟨d, hd⟩ : ∃ d : Nat, (d : Int) = x % (t : Int) := ⟨(x % (t : Int)).toNat, by omega⟩
      rw [← hd]
      exact q H3 d (by omega) a0 (MH H3 gs' a1 a2 a3 a4)
    refine ⟨_, _, dp_li (sl_of f3), dp_li (ns := []) (sl_of (by rw [← eH2]; exact upd_same)), shaped_li _, shaped_li _, _, rfl, ?_⟩
    rw [eqv_li]
    have fin0 := fun x => fin H2 gs x k2 f1 f2 f3 hg
    by_cases z : gs = []
    case' pos =>
      rw [decide_eq_true z]
      refine iteF ?_
    case' neg =>
      rw [decide_eq_false z]
      have gl : 0 < gs.length := List.length_pos_iff.mpr z
      refine iteT ?_
      refine ⟨_, rfl, _, rfl, _, _, rfl, G1, lg, _, rfl, .inl (sl_of f3), _, _, rfl, rfl, (by rw [List.length_map]; omega), ?_⟩
      rw [List.length_map]
      obtain ⟨j, hj⟩ : ∃ j : Nat, (j : Int) = (s : Int) % (gs.length : Int) := ⟨s % gs.length, by omega⟩
      have jl : j < gs.length := by
        have := Int.emod_lt_of_pos (s : Int) (show (0 : Int) < (gs.length : Int) by omega)
        omega
      obtain ⟨c, hc1⟩ : ∃ c, gs[j]? = some c := ⟨gs[j], List.getElem?_eq_getElem jl⟩
      refine ⟨_, rfl, _, _, rfl, G1, _, rfl, lg, _, _, _, rfl, rfl, sl_of f3, at_int hc1 hj.symm, ?_⟩
      refine ⟨_, rfl, _, _, rfl, rfl, _, rfl, ite2 (fun z2 => ?hit) (fun z2 => ?_)⟩
      case hit =>
        refine ⟨_, rfl, _, rfl, _, _, rfl, rfl, ⟨by omega, by omega⟩, _, rfl, _, _, rfl, G1, _, rfl, lg, _, _, j, rfl, rfl, f3, ix_at (by rw [List.length_map]; exact jl) hj.symm, ?_⟩
        rw [set_int]
        refine ⟨_, rfl, _, rfl, _, _, rfl, rfl, by omega, ?_⟩
        refine fin _ (gs.set j (c / (t : Int))) c (fun b o n1 n2 e => by rw [upd_ne n2]; exact k2 b o n1 n2 e) ?_ ?_ upd_same (by rw [List.length_set]; exact hg)
        · rw [upd_ne ngm.symm]
          exact f1
        · rw [upd_ne hne]
          exact f2
    all_goals
      obtain ⟨y, hy, y0, y1⟩ := cells_get hc (i := s % 64) (by omega)
      refine ⟨_, rfl, _, _, rfl, G2, _, rfl, _, _, rfl, rfl, (by show (0 : Int) < 64; decide), lc, _, _, _, rfl, rfl, sl_of f2, at_int hy (by omega), ?_⟩
      refine ⟨_, rfl, _, _, rfl, rfl, ⟨by decide, by decide⟩, _, _, rfl, rfl, .inl ⟨by decide, by decide⟩, _, _, rfl, rfl, _, rfl, _, _, rfl, by omega, by omega, by omega, by omega, fun v v0 v1 => ?_⟩
      refine ⟨_, rfl, _, _, rfl, rfl, _, _, rfl, by omega, by omega, by omega, by omega, fun v' v0' v1' => ?_⟩
      exact ⟨_, rfl, _, _, rfl, rfl, by omega, fin0 v'⟩
end
end Hw

namespace Hw
open PySem PySem.Spec PyProof.Rows L2
section
variable {P : Program} {w : World} {K : PySem.W.Frag} {mg : Str → Option Value} {base : Heap}
def spBegun (K : PySem.W.Frag) : Sp := fun vs H Q _ => ∃ (a : Addr) (ns : List Int), vs = [.ref a] ∧ SqL K H a (ns.map V.int) ∧ ns.length ≤ 63 ∧ ∀ H' m lg lc, Same H H' → MOk H' m lg lc 0 → Q (.ref m) H'
theorem scBegun : FnScope ["_law_script", "_law_m", "_law_cell"] ["_law_script"] (defScope sBegun) := ⟨rfl, rfl, rfl, by decide +kernel, rfl, by decide +kernel, by decide +kernel⟩
theorem cal_begun (T : Txt mg) (GF : Cal P w K mg base "_law_folded" 1 (spFolded K)) (D : Df K mg "_law_begun" sBegun ["_law_script"]) : Cal P w K mg base "_law_begun" 2 (spBegun K) := by
  have nd := scBegun.nd
  refine cal_of D scBegun (fun vs H Q E h => ?_) (fun f cdv A outer s0 H vs Q E hr h => ?_)
  · obtain ⟨a, ns, rfl, _⟩ := h
    rfl
  · obtain ⟨a, ns, rfl, ha, hl, q⟩ := h
    have hu := hu_of hr
    refine ⟨_, pss_cons (ps_set (i := 1) nd rfl (.inl rfl) (pe_disp (pps_cons pe_str (pe_cal GF hr (by rfl) (pa_cons (pv 0) pa_nil)) (pps_cons pe_str (pe_lst pa_nil) (pps_cons pe_str pe_int pps_nil))) (by rfl) (by rfl) (fun z => by cases z) (by decide)))
      <| pss_cons (ps_dput hu (pv 1) pe_str (pe_lc (own := [("_law_cell", 2)]) (g := gName 2) (by rfl) nd (pi_list (pv 0))
          (blkOk_by (own := [("_law_cell", 2)]) (N := ["_law_script", "_law_m", "_law_cell"]) (sc := defScope sBegun) (by decide +kernel)) (fun _ _ _ _ _ => pg_name (i := 2) nd rfl (.inl rfl)) (fun _ _ _ _ _ => pts_nil)
          (fun _ _ _ _ _ => pe_ifExp (pt_cmpR op_ge (pv 2) (pe_op op_pow pe_int pe_int) (nomark _)) (pv 2) pe_int)) rfl)
      <| pss_one (ps_ret (pv 1)), ?_⟩
    intro m nm
    have sm0 := same_upd (o := .dK []) nm
    refine ⟨_, rfl, a, ns, rfl, sm0.seq ha, hl, fun H1 lc cs sm1 nlc hlc hcs => ?_⟩
    have h1m : H1 m = some (.dK []) := sm1 _ _ upd_same
    refine ⟨Nat.zero_le _, fun l0 n0 => ?_⟩
    have sm2 := sm1.trans (same_upd (o := .lst []) n0)
    have h2m : upd H1 l0 (.lst []) m = some (.dK []) := sm2 _ _ upd_same
    have h2c : upd H1 l0 (.lst []) lc = some (.lst (cs.map V.int)) := same_upd n0 _ _ hlc
    refine ⟨h2m, [(.inr "cells", .ref lc), (.inr "great", .ref l0), (.inr "spot", .int 0)], rfl, by show 3 ≤ 15; decide, ?_⟩
    have em : mergeK [] [(Sum.inr "cells", V.ref lc), (Sum.inr "great", V.ref l0), (Sum.inr "spot", V.int 0)] = dV lc l0 0 := rfl
    rw [em]
    have smA : Same H (upd (upd H1 l0 (.lst [])) m (.dK (dV lc l0 0))) := fun b o e => by
      rw [upd_ne (ne_of_none e nm)]
      exact sm2 _ _ (sm0 _ _ e)
    generalize eH2 : upd (upd H1 l0 (.lst [])) m (.dK (dV lc l0 0)) = H2 at *
    have g1 : H2 m = some (.dK (dV lc l0 0)) := by rw [← eH2, upd_same]
    have g2 : H2 lc = some (.lst (cs.map V.int)) := by
      rw [← eH2, upd_ne (ne_of h2c h2m (by intro q; cases q))]
      exact h2c
    refine ⟨_, rfl, a, rfl, ⟨_, smA.seq ha⟩, fun D nD => lc_it (walk_list (xs := ns.map V.int)) (fun i H' => Same H2 H' ∧ ∃ gs : List Int, gs.length = i ∧ H' D = some (.lst (gs.map V.int))) ⟨same_upd nD, [], rfl, upd_same⟩ (fun i H' _ ⟨sm, _⟩ => (smA.trans sm).seq ha) ?_ ?_⟩
    · rintro i x _ H3 hi ⟨sm, gs, hgl, hD⟩ ⟨rfl, hx⟩
      rw [List.length_map] at hi
      rw [List.getElem?_map] at hx
      obtain ⟨c, hc1, rfl⟩ : ∃ c, ns[i]? = some c ∧ x = V.int c := by
        cases e : ns[i]? with
        | none => rw [e] at hx; cases hx
        | some c => rw [e] at hx; exact ⟨c, rfl, (Option.some.inj hx).symm⟩
      have fin : ∀ y : Int, ∃ acc, H3 D = some (.lst acc) ∧ acc.length < sizeLine ∧ (Same H2 (upd H3 D (.lst (acc ++ [V.int y]))) ∧ ∃ gs : List Int, gs.length = i + 1 ∧ upd H3 D (.lst (acc ++ [V.int y])) D = some (.lst (gs.map V.int))) := fun y => by
        refine ⟨_, hD, by rw [List.length_map]; exact small1000 (by omega), fun b o e => ?_, gs ++ [y], by rw [List.length_append, hgl]; rfl, by rw [upd_same, List.map_append]; rfl⟩
        rw [upd_ne (ne_of_none e nD)]
        exact sm _ _ e
      refine ⟨rfl, _, rfl, _, _, rfl, rfl, ⟨by decide, by decide, by decide⟩, _, _, rfl, rfl, _, rfl, ite2 (fun _ => ?_) (fun _ => ?_)⟩
      · exact ⟨_, rfl, fin c⟩
      · exact fin 0
    · rintro H3 ⟨sm, gs, hgl, hD⟩
      rw [List.length_map] at hgl
      have f1 := sm _ _ g1
      refine ⟨_, rfl, m, _, rfl, DPut.k (k := Sum.inr "great") f1 (by show 3 < sizeLine; decide), ?_⟩
      have ep : putK (dV lc l0 0) (.inr "great") (V.ref D) = dV lc D 0 := rfl
      rw [ep]
      refine ⟨_, rfl, q _ m D lc (fun b o e => ?_) ⟨cs, gs, upd_same, ?_, ?_, hcs, by omega, ?_⟩⟩
      · rw [upd_ne (ne_of_none e nm)]
        exact sm _ _ (smA _ _ e)
      · rw [upd_ne (ne_of (sm _ _ g2) f1 (by intro q; cases q))]
        exact sm _ _ g2
      · rw [upd_ne (ne_of hD f1 (by intro q; cases q))]
        exact hD
      · exact ne_of_none g2 nD
end
end Hw

namespace Hw
open PySem PySem.Spec PyProof.Rows L2
section
variable {P : Program} {w : World} {K : PySem.W.Frag} {mg : Str → Option Value} {base : Heap}
def spMixedUp (K : PySem.W.Frag) : Sp := fun vs H Q _ => ∃ (m lg lc a : Addr) (s : Nat) (xs : List V), vs = [.ref m, .ref a] ∧ MOk H m lg lc s ∧ (SqL K H a xs ∨ SqT K H a xs) ∧ xs.length ≤ 1000 ∧ s + xs.length ≤ 100000 ∧
  ∀ H' r ys, ys.Perm xs → Kp m lg H H' → H r = none → H' r = some (.lst ys) → MOk H' m lg lc (s + xs.length) → Q (.ref r) H'
theorem scMixedUp : FnScope ["_law_m", "_law_things", "_law_stock", "_law_found", "_law_n"] ["_law_m", "_law_things"] (defScope sMixedUp) := ⟨rfl, rfl, rfl, by decide +kernel, rfl, by decide +kernel, by decide +kernel⟩
theorem cal_mixedUp (T : Txt mg) (GD : Cal P w K mg base "_law_draw" 2 spDraw) (D : Df K mg "_law_mixed_up" sMixedUp ["_law_m", "_law_things"]) : Cal P w K mg base "_law_mixed_up" 3 (spMixedUp K) := by
  have nd := scMixedUp.nd
  refine cal_of D scMixedUp (fun vs H Q E h => ?_) (fun f cdv A outer s0 H vs Q E hr h => ?_)
  · obtain ⟨m, lg, lc, a, s, xs, rfl, _⟩ := h
    rfl
  · obtain ⟨m, lg, lc, a, s, xs, rfl, M0, ha, hl, hs, q⟩ := h
    refine ⟨_, pss_cons (ps_par (i := 2) (j := 3) (by rfl) nd rfl rfl (by decide) rfl rfl (pa_cons (pe_callTy call_list_of (by rfl) T.list (by decide +kernel) (pa_cons (pv 1) pa_nil)) (pa_cons (pe_lst pa_nil) pa_nil)) (by rfl))
      <| pss_cons (ps_for PassesOwn.never rfl (pi_range1 (by rfl) T.range (pa_cons (pe_callB cr_len (by rfl) T.len PySem.boot_len (pa_cons (pv 2) pa_nil)) pa_nil)) (pg_name (i := 4) nd rfl (.inl rfl))
          (pss_one (ps_expr (pe_bm PySem.F.plainAttrs_list PySem.F.slot_list_append PySem.F.type_list_append mt_append (pv 3)
            (pa_cons (pe_bm PySem.F.plainAttrs_list PySem.F.slot_list_pop PySem.F.type_list_pop mt_popAt (pv 2) (pa_cons (pe_cal GD hr (by rfl) (pa_cons (pv 0) (pa_cons (pe_callB cr_len (by rfl) T.len PySem.boot_len (pa_cons (pv 2) pa_nil)) pa_nil))) pa_nil)) pa_nil)))))
      <| pss_one (ps_ret (pv 3)), ?_⟩
    refine ⟨_, rfl, a, xs, rfl, ha, fun l1 n1 => ?_⟩
    have sm1 := same_upd (o := .lst xs) n1
    refine ⟨Nat.zero_le _, fun l2 n2 => ?_⟩
    have sm2 := sm1.trans (same_upd (o := .lst []) n2)
    have n12 : l1 ≠ l2 := ne_of_none upd_same n2
    have n2' : H l2 = none := sm1.free n2
    refine ⟨_, _, rfl, ?_⟩
    have h1 : upd (upd H l1 (.lst xs)) l2 (.lst []) l1 = some (.lst xs) := by rw [upd_ne n12, upd_same]
    have a1 := M0.new n1
    have a2 := M0.new n2'
    refine ⟨_, rfl, l1, xs, rfl, .inl (sl_of h1), _, rfl, by omega, by omega, ?_⟩
    rw [Int.toNat_natCast]
    refine for_it walk_rg0 (fun i σ H' => ∃ v4 rest got, σ = [some (.ref m), some (.ref a), some (.ref l1), some (.ref l2), v4] ∧ Kp m lg H H' ∧ MOk H' m lg lc (s + i) ∧ H' l1 = some (.lst rest) ∧ H' l2 = some (.lst got) ∧ rest.length + i = xs.length ∧ got.length = i ∧ (got ++ rest).Perm xs)
      ⟨none, xs, [], rfl, Kp.same sm2, M0.same sm2, h1, upd_same, by omega, rfl, .refl _⟩ (fun _ _ _ _ _ => trivial) ?_ ?_
    · rintro i x σ _ H2 hi ⟨v4, rest, got, rfl, kp, M, g1, g2, hlen, hgot, hp⟩ ⟨rfl, rfl⟩
      refine ⟨_, rfl, .inl ⟨rfl, _, sl_of g2⟩, _, rfl, .inl ⟨rfl, _, sl_of g1⟩, _, rfl, _, rfl, l1, rest, rfl, .inl (sl_of g1), ?_⟩
      refine ⟨m, lg, lc, s + i, rest.length, rfl, M, by omega, by omega, by omega, fun H3 d hd kp3 M3 => ?_⟩
      have f1 := kp3.lst M a1.1 g1
      have f2 := kp3.lst M a2.1 g2
      have hy : rest[d]? = some rest[d] := List.getElem?_eq_getElem hd
      refine ⟨l1, rest, _, d, rest[d], rfl, rfl, f1, by omega, by omega, seq_ix hd, hy, ?_⟩
      have n21 := n12.symm
      refine ⟨l2, got, _, rfl, rfl, (by rw [upd_ne n21]; exact f2), by rw [hgot]; exact small1000 (by omega), ?_⟩
      refine ⟨_, rest.eraseIdx d, got ++ [rest[d]], rfl, fun b o e1 e2 e => ?_, ?_, ?_, upd_same, ?_, ?_, ?_⟩
      · rw [upd_ne (ne_of_none e n2'), upd_ne (ne_of_none e n1)]
        exact kp3 b o e1 e2 (kp b o e1 e2 e)
      · exact (M3.upd a1).upd a2
      · rw [upd_ne n12, upd_same]
      · rw [List.length_eraseIdx_of_lt hd]
        omega
      · rw [List.length_append, hgot]
        rfl
      · refine List.Perm.trans ?_ hp
        rw [List.append_assoc]
        exact List.Perm.append_left got (perm_out hy)
    · rintro σ H2 ⟨v4, rest, got, rfl, kp, M, g1, g2, hlen, hgot, hp⟩
      have : rest = [] := List.length_eq_zero_iff.mp (by omega)
      subst this
      rw [List.append_nil] at hp
      exact ⟨_, rfl, q H2 l2 got hp kp n2' g2 M⟩
end
end Hw

/-! Places and passages: what is joined. No Python here. -/
namespace Hw
abbrev Ed := Nat × Nat
def adj (es : List Ed) (u v : Nat) : Prop := (u, v) ∈ es ∨ (v, u) ∈ es
inductive Rch (es : List Ed) : Nat → Nat → Prop where
  | refl (u : Nat) : Rch es u u
  | step {u v x : Nat} (h : Rch es u v) (a : adj es v x) : Rch es u x
theorem adj_symm {es : List Ed} {u v : Nat} (h : adj es u v) : adj es v u := h.elim .inr .inl
theorem Rch.trans {es : List Ed} {u v x : Nat} (a : Rch es u v) (b : Rch es v x) : Rch es u x := by
  induction b with
  | refl => exact a
  | step _ q ih => exact ih.step q
theorem Rch.one {es : List Ed} {u v : Nat} (a : adj es u v) : Rch es u v := (Rch.refl u).step a
theorem Rch.symm {es : List Ed} {u v : Nat} (a : Rch es u v) : Rch es v u := by
  induction a with
  | refl => exact .refl _
  | step _ q ih => exact (Rch.one (adj_symm q)).trans ih
theorem Rch.mono {es fs : List Ed} (h : ∀ e ∈ es, e ∈ fs) {u v : Nat} (a : Rch es u v) : Rch fs u v := by
  induction a with
  | refl => exact .refl _
  | step _ q ih => exact ih.step (q.elim (fun m => .inl (h _ m)) fun m => .inr (h _ m))
theorem Rch.map {es fs : List Ed} (f : Nat → Nat) (h : ∀ e ∈ es, adj fs (f e.1) (f e.2)) {u v : Nat} (a : Rch es u v) : Rch fs (f u) (f v) := by
  induction a with
  | refl => exact .refl _
  | step _ q ih =>
    rcases q with m | m
    · exact ih.step (h _ m)
    · exact ih.step (adj_symm (h _ m))
/-- every passage rises and lies within n places -/
def VE (n : Nat) (es : List Ed) : Prop := ∀ e ∈ es, e.1 ≤ e.2 ∧ e.2 < n
def conn (n : Nat) (es : List Ed) : Prop := ∀ v, v < n → Rch es 0 v
def CN (n : Nat) (es : List Ed) : Prop := 1 ≤ n ∧ VE n es ∧ conn n es
def tieF (a b : Nat) : Ed := (min a b, max a b)
theorem tie_cases (a b : Nat) : tieF a b = (a, b) ∨ tieF a b = (b, a) := by
  unfold tieF
  rcases Nat.le_total a b with h | h
  · left; rw [Nat.min_eq_left h, Nat.max_eq_right h]
  · right; rw [Nat.min_eq_right h, Nat.max_eq_left h]
theorem adj_tie {es : List Ed} {a b : Nat} (h : tieF a b ∈ es) : adj es a b := by
  rcases tie_cases a b with e | e
  · rw [e] at h; exact .inl h
  · rw [e] at h; exact .inr h
theorem tie_ok {a b n : Nat} (ha : a < n) (hb : b < n) : (tieF a b).1 ≤ (tieF a b).2 ∧ (tieF a b).2 < n := by
  rcases tie_cases a b with e | e <;> (unfold tieF at e ⊢; simp only; omega)
theorem VE.app {n : Nat} {es fs : List Ed} (a : VE n es) (b : VE n fs) : VE n (es ++ fs) := fun e m => (List.mem_append.mp m).elim (a e) (b e)
theorem VE.mono {n k : Nat} {es : List Ed} (a : VE n es) (h : n ≤ k) : VE k es := fun e m => ⟨(a e m).1, Nat.lt_of_lt_of_le (a e m).2 h⟩
/-- the greatest place that is named, plus 1 -/
def topOf (es : List Ed) : Nat := (es.map (·.2)).foldl max 0 + 1
theorem fold_max_le : ∀ (l : List Nat) (a k : Nat), a ≤ k → (∀ x ∈ l, x ≤ k) → l.foldl max a ≤ k
  | [], _, _, h, _ => h
  | x :: l, a, k, h, hl => fold_max_le l _ k (Nat.max_le.mpr ⟨h, hl x List.mem_cons_self⟩) fun y hy => hl y (List.mem_cons_of_mem _ hy)
theorem fold_max_ge : ∀ (l : List Nat) (a : Nat), a ≤ l.foldl max a
  | [], _ => Nat.le_refl _
  | x :: l, a => Nat.le_trans (Nat.le_max_left a x) (fold_max_ge l (max a x))
theorem fold_max_mem : ∀ (l : List Nat) (a x : Nat), x ∈ l → x ≤ l.foldl max a
  | y :: l, a, x, h => by
    rcases List.mem_cons.mp h with e | m
    · rw [e]; exact Nat.le_trans (Nat.le_max_right a y) (fold_max_ge l (max a y))
    · exact fold_max_mem l (max a y) x m
theorem Rch.last {es : List Ed} {u v : Nat} (a : Rch es u v) (h : u ≠ v) : ∃ x, adj es x v := by
  cases a with
  | refl => exact absurd rfl h
  | step _ q => exact ⟨_, q⟩
theorem top_eq {n : Nat} {es : List Ed} (h : CN n es) : topOf es = n := by
  obtain ⟨h1, h2, h3⟩ := h
  unfold topOf
  have le : (es.map (·.2)).foldl max 0 ≤ n - 1 := fold_max_le _ _ _ (Nat.zero_le _) fun x hx => by
    obtain ⟨e, he, rfl⟩ := List.mem_map.mp hx
    have := (h2 e he).2
    omega
  have ge : n - 1 ≤ (es.map (·.2)).foldl max 0 := by
    by_cases z : n = 1
    · omega
    · obtain ⟨x, q⟩ := (h3 (n - 1) (by omega)).last (by omega)
      rcases q with m | m
      · exact fold_max_mem _ _ _ (List.mem_map.mpr ⟨_, m, rfl⟩)
      · have b := h2 _ m
        have c := fold_max_mem (es.map (·.2)) 0 x (List.mem_map.mpr ⟨_, m, rfl⟩)
        simp only at b
        omega
  omega
/-- a further place at a passage -/
theorem CN.leaf {n d : Nat} {es : List Ed} (h : CN n es) (hd : d < n) : CN (n + 1) (es ++ [(d, n)]) := by
  obtain ⟨h1, h2, h3⟩ := h
  refine ⟨by omega, (h2.mono (Nat.le_succ _)).app ?_, fun v hv => ?_⟩
  · intro e m
    rw [List.mem_singleton.mp m]
    exact ⟨Nat.le_of_lt hd, Nat.lt_succ_self _⟩
  · have up : ∀ {u x}, Rch es u x → Rch (es ++ [(d, n)]) u x := fun a => a.mono fun e m => List.mem_append_left _ m
    by_cases z : v = n
    · subst z
      exact (up (h3 d hd)).step (.inl (List.mem_append_right _ List.mem_cons_self))
    · exact up (h3 v (by omega))
theorem CN.more {n a b : Nat} {es : List Ed} (h : CN n es) (ha : a < n) (hb : b < n) : CN n (es ++ [tieF a b]) := by
  obtain ⟨h1, h2, h3⟩ := h
  refine ⟨h1, h2.app fun e m => ?_, fun v hv => (h3 v hv).mono fun e m => List.mem_append_left _ m⟩
  rw [List.mem_singleton.mp m]
  exact tie_ok ha hb
/-- tails: place low + i hangs at one below it -/
theorem CN.tree {low : Nat} {es : List Ed} (h : CN low es) (f : Nat → Nat) : ∀ k, (∀ i, i < k → f i < low + i) → CN (low + k) (es ++ (List.range k).map fun i => (f i, low + i))
  | 0, _ => by simpa using h
  | k + 1, hf => by
    have ih := CN.tree h f k fun i hi => hf i (by omega)
    rw [List.range_succ, List.map_append, ← List.append_assoc]
    exact ih.leaf (hf k (by omega))
def nmF (low hinge x : Nat) : Nat := if x = 0 then hinge else low + x - 1
def shiftE (low hinge : Nat) (es : List Ed) : List Ed := es.map fun e => tieF (nmF low hinge e.1) (nmF low hinge e.2)
/-- a core hung at a place -/
theorem CN.core {n k hinge : Nat} {es c : List Ed} (h : CN n es) (hc : CN k c) (hh : hinge < n) : CN (n + k - 1) (es ++ shiftE n hinge c) := by
  obtain ⟨h1, h2, h3⟩ := h
  obtain ⟨c1, c2, c3⟩ := hc
  have nb : ∀ x, x < k → nmF n hinge x < n + k - 1 := fun x hx => by
    unfold nmF
    split <;> omega
  refine ⟨by omega, (h2.mono (by omega)).app fun e m => ?_, fun v hv => ?_⟩
  · obtain ⟨d, hd, rfl⟩ := List.mem_map.mp m
    have := c2 d hd
    exact tie_ok (nb _ (by omega)) (nb _ (by omega))
  · have up : ∀ {u x}, Rch es u x → Rch (es ++ shiftE n hinge c) u x := fun a => a.mono fun e m => List.mem_append_left _ m
    by_cases z : v < n
    · exact up (h3 v z)
    · have q := (c3 (v - n + 1) (by omega)).map (fs := es ++ shiftE n hinge c) (nmF n hinge) fun e m =>
        adj_tie (List.mem_append_right _ (List.mem_map.mpr ⟨e, m, rfl⟩))
      have e1 : nmF n hinge 0 = hinge := rfl
      have e2 : nmF n hinge (v - n + 1) = v := by
        unfold nmF
        rw [if_neg (by omega)]
        omega
      rw [e1, e2] at q
      exact (up (h3 hinge hh)).trans q
/-- the order of the passages -/
theorem CN.perm {n : Nat} {es fs : List Ed} (h : CN n es) (p : fs.Perm es) : CN n fs :=
  ⟨h.1, fun e m => h.2.1 e (p.mem_iff.mp m), fun v hv => (h.2.2 v hv).mono fun e m => p.mem_iff.mpr m⟩
/-- other names of the places -/
def renE (p : List Nat) (es : List Ed) : List Ed := es.map fun e => tieF (ap p e.1) (ap p e.2)
theorem Rch.ren {es : List Ed} (p : List Nat) {u v : Nat} (a : Rch es u v) : Rch (renE p es) (ap p u) (ap p v) :=
  a.map (ap p) fun e m => adj_tie (List.mem_map.mpr ⟨e, m, rfl⟩)
theorem CN.ren {n : Nat} {es : List Ed} {p : List Nat} (h : CN n es) (hp : IsP p) (hl : p.length = n) : CN n (renE p es) := by
  obtain ⟨h1, h2, h3⟩ := h
  have lt : ∀ x, x < n → ap p x < n := fun x hx => by rw [← hl]; exact ap_lt hp (by omega)
  refine ⟨h1, fun e m => ?_, fun v hv => ?_⟩
  · obtain ⟨d, hd, rfl⟩ := List.mem_map.mp m
    have := h2 d hd
    exact tie_ok (lt _ (by omega)) (lt _ (by omega))
  · obtain ⟨x, hx, ex⟩ := ap_surj hp (y := v) (by omega)
    obtain ⟨z, hz, ez⟩ := ap_surj hp (y := 0) (by omega)
    have q := ((h3 z (by omega)).symm.trans (h3 x (by omega))).ren p
    rw [ex, ez] at q
    exact q
/-! ### rings and the other cores -/
def ringE (sp : List Nat) : List Ed := (List.range sp.length).map fun n => tieF (sp.getD ((n + sp.length - 1) % sp.length) 0) (sp.getD n 0)
def coreMenu : List (List Ed) :=
  (List.range 5).map (fun d => ringE (List.range (1 + d))) ++
  (List.range 3).flatMap (fun d => (List.range 3).map fun e => ringE (List.range (1 + d)) ++ ringE (0 :: (List.range e).map (fun i => 1 + d + i))) ++
  [[(0, 1), (0, 2), (0, 3), (1, 2), (1, 3)], [(0, 2), (1, 2), (0, 3), (1, 3), (0, 4), (1, 4)]] ++
  (List.range 3).map (fun d => List.replicate (2 + d) ((0, 1) : Ed)) ++
  (List.range 2).map (fun d => ringE (List.range (3 + d)) ++ [(0, 2)])
/-! ### least labels -/
def ljStep (least : List Nat) (e : Ed) : List Nat :=
  let lo := min (least.getD e.1 0) (least.getD e.2 0)
  let hi := max (least.getD e.1 0) (least.getD e.2 0)
  least.map fun x => if x = hi then lo else x
def lj (n : Nat) (es : List Ed) : List Nat := es.foldl ljStep (List.range n)
end Hw

namespace Hw
structure Lb (n : Nat) (es : List Ed) (L : List Nat) : Prop where
  len : L.length = n
  le : ∀ u, u < n → ap L u ≤ u
  to : ∀ u, u < n → Rch es u (ap L u)
  eq : ∀ u v, Rch es u v → u < n → v < n ∧ ap L u = ap L v
theorem ap_map' {l : List Nat} (f : Nat → Nat) {x : Nat} (h : x < l.length) : ap (l.map f) x = f (ap l x) := by
  have := ap_get h
  unfold ap at *
  rw [List.getD_eq_getElem?_getD, List.getElem?_map, this]
  rfl
theorem Rch.nil {u v : Nat} (h : Rch [] u v) : u = v := by
  induction h with
  | refl => rfl
  | step _ a _ => rcases a with m | m <;> cases m
theorem lb_zero (n : Nat) : Lb n [] (List.range n) :=
  ⟨List.length_range, fun u hu => by rw [ap_range hu]; exact Nat.le_refl _, fun u hu => by rw [ap_range hu]; exact .refl _, fun u v h hu => by
    have := h.nil
    subst this
    exact ⟨hu, rfl⟩⟩
theorem lb_step {n : Nat} {es : List Ed} {L : List Nat} (h : Lb n es L) {e : Ed} (ha : e.1 < n) (hb : e.2 < n) : Lb n (es ++ [e]) (ljStep L e) := by
  have up : ∀ {u x}, Rch es u x → Rch (es ++ [e]) u x := fun a => a.mono fun e m => List.mem_append_left _ m
  have eab : adj (es ++ [e]) e.1 e.2 := .inl (List.mem_append_right _ (by simp))
  have e1 : ∀ u, u < n → ap (ljStep L e) u = if ap L u = max (ap L e.1) (ap L e.2) then min (ap L e.1) (ap L e.2) else ap L u := fun u hu => by
    unfold ljStep
    rw [ap_map' _ (by rw [h.len]; exact hu)]
    rfl
  have ab : Rch (es ++ [e]) (max (ap L e.1) (ap L e.2)) (min (ap L e.1) (ap L e.2)) := by
    have q : Rch (es ++ [e]) (ap L e.1) (ap L e.2) := ((up (h.to _ ha)).symm.step eab).trans (up (h.to _ hb))
    rcases Nat.le_total (ap L e.1) (ap L e.2) with z | z
    · rw [Nat.max_eq_right z, Nat.min_eq_left z]; exact q.symm
    · rw [Nat.max_eq_left z, Nat.min_eq_right z]; exact q
  refine ⟨by unfold ljStep; rw [List.length_map]; exact h.len, fun u hu => ?_, fun u hu => ?_, fun u v r hu => ?_⟩
  · rw [e1 u hu]
    have := h.le u hu
    split
    · rename_i z
      have : min (ap L e.1) (ap L e.2) ≤ max (ap L e.1) (ap L e.2) := by omega
      omega
    · exact this
  · rw [e1 u hu]
    split
    · rename_i z
      have q := up (h.to u hu)
      rw [z] at q
      exact q.trans ab
    · exact up (h.to u hu)
  · induction r with
    | refl => exact ⟨hu, rfl⟩
    | @step v x _ a ih =>
      obtain ⟨hv, ev⟩ := ih
      have main : x < n ∧ ap (ljStep L e) v = ap (ljStep L e) x := by
        have old : adj es v x → x < n ∧ ap (ljStep L e) v = ap (ljStep L e) x := fun q => by
          obtain ⟨hx, ex⟩ := h.eq v x (Rch.one q) hv
          exact ⟨hx, by rw [e1 v hv, e1 x hx, ex]⟩
        have both : ap (ljStep L e) e.1 = ap (ljStep L e) e.2 := by
          rw [e1 _ ha, e1 _ hb]
          rcases Nat.le_total (ap L e.1) (ap L e.2) with z | z
          · rw [Nat.max_eq_right z, Nat.min_eq_left z, if_pos rfl]
            split <;> rfl
          · rw [Nat.max_eq_left z, Nat.min_eq_right z, if_pos rfl]
            split <;> rfl
        rcases a with m | m
        · rcases List.mem_append.mp m with m | m
          · exact old (.inl m)
          · have : (v, x) = e := List.mem_singleton.mp m
            subst this
            exact ⟨hb, both⟩
        · rcases List.mem_append.mp m with m | m
          · exact old (.inr m)
          · have : (x, v) = e := List.mem_singleton.mp m
            subst this
            exact ⟨ha, both.symm⟩
      exact ⟨main.1, ev.trans main.2⟩
theorem lb_fold {n : Nat} : ∀ (fs es : List Ed) (L : List Nat), Lb n es L → (∀ e ∈ fs, e.1 < n ∧ e.2 < n) → Lb n (es ++ fs) (fs.foldl ljStep L)
  | [], es, L, h, _ => by rw [List.append_nil]; exact h
  | e :: fs, es, L, h, hf => by
    have b := hf e List.mem_cons_self
    have := lb_fold fs (es ++ [e]) (ljStep L e) (lb_step h b.1 b.2) fun d m => hf d (List.mem_cons_of_mem _ m)
    rw [List.append_assoc] at this
    exact this
theorem lb_lj {n : Nat} {es : List Ed} (h : VE n es) : Lb n es (lj n es) := by
  have := lb_fold es [] (List.range n) (lb_zero n) fun e m => ⟨Nat.lt_of_le_of_lt (h e m).1 (h e m).2, (h e m).2⟩
  exact this
theorem lj_same {n : Nat} {es : List Ed} (h : VE n es) {u v : Nat} (hu : u < n) (hv : v < n) : ap (lj n es) u = ap (lj n es) v ↔ Rch es u v := by
  have b := lb_lj h
  constructor
  · intro e
    have q := b.to u hu
    rw [e] at q
    exact q.trans (b.to v hv).symm
  · intro r
    exact (b.eq u v r hu).2
theorem conn_iff {n : Nat} {es : List Ed} (h : VE n es) (hn : 1 ≤ n) : conn n es ↔ lj n es = List.replicate n 0 := by
  have b := lb_lj h
  have z : ap (lj n es) 0 = 0 := by
    have := b.le 0 hn
    omega
  constructor
  · intro c
    refine ext_ap (by rw [b.len, List.length_replicate]) fun x hx => ?_
    rw [b.len] at hx
    have e := (b.eq 0 x (c x hx) hn).2
    rw [z] at e
    rw [← e]
    unfold ap
    rw [List.getD_eq_getElem?_getD, List.getElem?_replicate, if_pos hx]
    rfl
  · intro e v hv
    refine (lj_same h hn hv).mp ?_
    rw [e]
    unfold ap
    rw [List.getD_eq_getElem?_getD, List.getD_eq_getElem?_getD, List.getElem?_replicate, List.getElem?_replicate, if_pos hv, if_pos (by omega)]
def cnB (n : Nat) (es : List Ed) : Bool := decide (1 ≤ n) && es.all (fun e => decide (e.1 ≤ e.2) && decide (e.2 < n)) && decide (lj n es = List.replicate n 0)
theorem cn_of {n : Nat} {es : List Ed} (h : cnB n es = true) : CN n es := by
  unfold cnB at h
  simp only [Bool.and_eq_true, decide_eq_true_eq, List.all_eq_true] at h
  have ve : VE n es := fun e m => h.1.2 e m
  exact ⟨h.1.1, ve, (conn_iff ve h.1.1).mpr h.2⟩
theorem menu_all : coreMenu.all (fun c => cnB (topOf c) c && decide (topOf c ≤ 5) && decide (c.length ≤ 8)) = true := by decide +kernel
theorem menu_ok {c : List Ed} (h : c ∈ coreMenu) : CN (topOf c) c ∧ topOf c ≤ 5 ∧ c.length ≤ 8 := by
  have := List.all_eq_true.mp menu_all c h
  simp only [Bool.and_eq_true, decide_eq_true_eq] at this
  exact ⟨cn_of this.1.1, this.1.2, this.2⟩
end Hw

namespace Hw
open PySem PySem.Spec PyProof.Rows L2
def pl (e : Ed) : List Nat := [e.1, e.2]
/-- a list, a tuple of pairs -/
def EdL (H : Hp) (l : Addr) (es : List Ed) : Prop := ∃ ks : List (Addr × List Nat), H l = some (.lst (ks.map fun k => .ref k.1)) ∧ ks.map (·.2) = es.map pl ∧ ∀ k ∈ ks, Tp H k.1 k.2
def EdT (H : Hp) (l : Addr) (es : List Ed) : Prop := ∃ ks : List (Addr × List Nat), H l = some (.tup (ks.map fun k => .ref k.1)) ∧ ks.map (·.2) = es.map pl ∧ ∀ k ∈ ks, Tp H k.1 k.2
theorem EdL.same {H H' : Hp} {l : Addr} {es : List Ed} (h : EdL H l es) (s : Same H H') : EdL H' l es := by
  obtain ⟨ks, a, b, c⟩ := h
  exact ⟨ks, s _ _ a, b, fun k hk => s _ _ (c k hk)⟩
theorem EdT.same {H H' : Hp} {l : Addr} {es : List Ed} (h : EdT H l es) (s : Same H H') : EdT H' l es := by
  obtain ⟨ks, a, b, c⟩ := h
  exact ⟨ks, s _ _ a, b, fun k hk => s _ _ (c k hk)⟩
theorem EdL.kp {H H' : Hp} {l m lg lc : Addr} {s : Nat} {es : List Ed} (h : EdL H l es) (k : Kp m lg H H') (M : MOk H m lg lc s) (n : l ≠ lg) : EdL H' l es := by
  obtain ⟨ks, a, b, c⟩ := h
  exact ⟨ks, k.lst M n a, b, fun x hx => k.tup M (c x hx)⟩
theorem EdL.ne {H : Hp} {l m lg lc : Addr} {s : Nat} {es : List Ed} (h : EdL H l es) (M : MOk H m lg lc s) : l ≠ m := by
  obtain ⟨ks, a, _⟩ := h
  obtain ⟨cs, gs, h1, _⟩ := M
  exact ne_of a h1 (by intro q; cases q)
theorem ed_len {ks : List (Addr × List Nat)} {es : List Ed} (h : ks.map (·.2) = es.map pl) : ks.length = es.length := by
  have := congrArg List.length h
  rw [List.length_map, List.length_map] at this
  exact this
theorem ed_get {ks : List (Addr × List Nat)} {es : List Ed} (h : ks.map (·.2) = es.map pl) {i : Nat} {k : Addr × List Nat} (hk : ks[i]? = some k) : ∃ e, es[i]? = some e ∧ k.2 = pl e := by
  have := congrArg (fun l => l[i]?) h
  simp only [List.getElem?_map, hk, Option.map_some] at this
  cases e : es[i]? with
  | none => rw [e] at this; cases this
  | some d => rw [e] at this; exact ⟨d, rfl, Option.some.inj this⟩
theorem ed_at {ks : List (Addr × List Nat)} {es : List Ed} (h : ks.map (·.2) = es.map pl) {i : Nat} {e : Ed} (he : es[i]? = some e) : ∃ k, ks[i]? = some k ∧ k.2 = pl e := by
  have hi := (List.getElem?_eq_some_iff.mp he).1
  have hk0 : i < ks.length := by rw [ed_len h]; exact hi
  have hk : ks[i]? = some ks[i] := List.getElem?_eq_getElem hk0
  obtain ⟨d, hd, ed⟩ := ed_get h hk
  rw [he] at hd
  exact ⟨_, hk, by rw [ed, Option.some.inj hd]⟩
section
variable {P : Program} {w : World} {K : PySem.W.Frag} {mg : Str → Option Value} {base : Heap}
def spTie : Sp := fun vs H Q _ => ∃ a b : Nat, vs = [.int (a : Int), .int (b : Int)] ∧ ∀ H' r, Same H H' → H r = none → Tp H' r (pl (tieF a b)) → Q (.ref r) H'
theorem scTie : FnScope ["_law_one", "_law_far"] ["_law_one", "_law_far"] (defScope sTie) := ⟨rfl, rfl, rfl, by decide +kernel, rfl, by decide +kernel, by decide +kernel⟩
theorem cal_tie (T : Txt mg) (D : Df K mg "_law_tie" sTie ["_law_one", "_law_far"]) : Cal P w K mg base "_law_tie" 1 spTie := by
  have nd := scTie.nd
  refine cal_of D scTie (fun vs H Q E h => ?_) (fun f cdv A outer s0 H vs Q E hr h => ?_)
  · obtain ⟨a, b, rfl, _⟩ := h
    rfl
  · obtain ⟨a, b, rfl, q⟩ := h
    refine ⟨_, pss_one (ps_ret (pe_tup (pa_cons (pe_callB (call_min2 rfl) (by rfl) T.min (by decide +kernel) (pa_cons (pv 0) (pa_cons (pv 1) pa_nil))) (pa_cons (pe_callB (call_max2 rfl) (by rfl) T.max (by decide +kernel) (pa_cons (pv 0) (pa_cons (pv 1) pa_nil))) pa_nil)))), ?_⟩
    refine ⟨_, rfl, _, rfl, _, _, rfl, _, rfl, _, rfl, _, _, rfl, (by show 2 ≤ sizeLine; decide), fun r nr => ?_⟩
    refine q _ r (same_upd nr) nr ?_
    show upd H r _ r = _
    rw [upd_same]
    have e1 : (if (b : Int) < (a : Int) then (b : Int) else (a : Int)) = ((min a b : Nat) : Int) := by
      split <;> omega
    have e2 : (if (b : Int) > (a : Int) then (b : Int) else (a : Int)) = ((max a b : Nat) : Int) := by
      split <;> omega
    have e3 : (if (a : Int) < (b : Int) then (b : Int) else (a : Int)) = ((max a b : Nat) : Int) := by
      split <;> omega
    simp only [e1, e2, e3]
    rfl
/-- one more pair in a list that grows -/
theorem edl_snoc {H : Hp} {D r : Addr} {es : List Ed} {e : Ed} {ks : List (Addr × List Nat)} (h2 : ks.map (·.2) = es.map pl) (h3 : ∀ k ∈ ks, Tp H k.1 k.2) (hr : Tp H r (pl e)) (hD : H D = some (.lst (ks.map fun k => .ref k.1))) :
    EdL (upd H D (.lst ((ks.map fun k => V.ref k.1) ++ [V.ref r]))) D (es ++ [e]) := by
  refine ⟨ks ++ [(r, pl e)], ?_, ?_, fun k hk => ?_⟩
  · rw [upd_same, List.map_append]
    rfl
  · rw [List.map_append, List.map_append, h2]
    rfl
  · rcases List.mem_append.mp hk with hk | hk
    · exact tp_upd (h3 k hk) hD
    · rw [List.mem_singleton.mp hk]
      exact tp_upd hr hD
/-! ### ring -/
def spRing (K : PySem.W.Frag) : Sp := fun vs H Q _ => ∃ (a : Addr) (sp : List Nat), vs = [.ref a] ∧ H a = some (.lst (NV sp)) ∧ sp.length ≤ 100 ∧ ∀ H' r, Same H H' → H r = none → EdL H' r (ringE sp) → Q (.ref r) H'
theorem scRing : FnScope ["_law_spots", "_law_n"] ["_law_spots"] (defScope sRing) := ⟨rfl, rfl, rfl, by decide +kernel, rfl, by decide +kernel, by decide +kernel⟩
theorem ringE_take (sp : List Nat) (i : Nat) (hi : i < sp.length) : (ringE sp).take (i + 1) = (ringE sp).take i ++ [tieF (sp.getD ((i + sp.length - 1) % sp.length) 0) (sp.getD i 0)] := by
  rw [List.take_add_one]
  unfold ringE
  rw [List.getElem?_map, List.getElem?_range hi]
  rfl
theorem cal_ring (T : Txt mg) (GT : Cal P w K mg base "_law_tie" 1 spTie) (D : Df K mg "_law_ring" sRing ["_law_spots"]) : Cal P w K mg base "_law_ring" 2 (spRing K) := by
  have nd := scRing.nd
  refine cal_of D scRing (fun vs H Q E h => ?_) (fun f cdv A outer s0 H vs Q E hr h => ?_)
  · obtain ⟨a, sp, rfl, _⟩ := h
    rfl
  · obtain ⟨a, sp, rfl, ha, hl, q⟩ := h
    refine ⟨_, pss_one (ps_ret (pe_lc (own := [("_law_n", 1)]) (g := gName 1) (by rfl) nd (pi_range1 (by rfl) T.range (pa_cons (pe_callB cr_len (by rfl) T.len PySem.boot_len (pa_cons (pv 0) pa_nil)) pa_nil))
        (blkOk_by (own := [("_law_n", 1)]) (N := ["_law_spots", "_law_n"]) (sc := defScope sRing) (by decide +kernel)) (fun _ _ _ _ _ => pg_name (i := 1) nd rfl (.inl rfl)) (fun _ _ _ _ _ => pts_nil)
        (fun _ _ _ _ _ => pe_cl GT (by exact hr) (by rfl) (pa_cons (pe_ix (r := rIxL K) ix_list (pv 0) (pe_op op_sub (pv 1) pe_int) (fun _ _ => rfl)) (pa_cons (pe_ix (r := rIxL K) ix_list (pv 0) (pv 1) (fun _ _ => rfl)) pa_nil))))), ?_⟩
    refine ⟨_, rfl, a, NV sp, rfl, .inl (sl_of ha), _, rfl, by rw [NV_len]; omega, by rw [NV_len]; omega, ?_⟩
    rw [NV_len, Int.toNat_natCast]
    refine fun D nD => lc_it walk_rg0 (fun i H' => Same H H' ∧ EdL H' D ((ringE sp).take i)) ⟨same_upd nD, [], upd_same, rfl, fun k hk => nomatch hk⟩ (fun _ _ _ _ => trivial) ?_ ?_
    · rintro i x _ H2 hi ⟨sm, ks, hD, h2, h3⟩ ⟨rfl, rfl⟩
      have ha2 := sm _ _ ha
      have hlast : (i + sp.length - 1) % sp.length < sp.length := Nat.mod_lt _ (by omega)
      have g : ∀ j, j < sp.length → (NV sp)[j]? = some (.int ((sp.getD j 0 : Nat) : Int)) := fun j hj => NV_get (by
        rw [List.getD_eq_getElem?_getD, List.getElem?_eq_getElem hj]
        rfl)
      have at1 : atI (NV sp) ((i : Int) - 1) = some (.int ((sp.getD ((i + sp.length - 1) % sp.length) 0 : Nat) : Int)) := by
        unfold atI ixN
        rw [NV_len]
        by_cases z : i = 0
        · subst z
          have e : (0 + sp.length - 1) % sp.length = sp.length - 1 := by
            rw [Nat.zero_add]
            exact Nat.mod_eq_of_lt (by omega)
          rw [e, if_neg (by omega), if_pos (by omega)]
          show (NV sp)[(((0 : Nat) : Int) - 1 + (sp.length : Int)).toNat]? = _
          rw [show ((((0 : Nat) : Int) - 1 + (sp.length : Int)).toNat) = sp.length - 1 by omega]
          exact g _ (by omega)
        · have e : (i + sp.length - 1) % sp.length = i - 1 := by
            rw [show i + sp.length - 1 = (i - 1) + sp.length by omega, Nat.add_mod_right]
            exact Nat.mod_eq_of_lt (by omega)
          rw [e, if_pos (by omega), if_pos (by omega)]
          show (NV sp)[((i : Int) - 1).toNat]? = _
          rw [show ((i : Int) - 1).toNat = i - 1 by omega]
          exact g _ (by omega)
      refine ⟨rfl, ?_⟩
      refine ⟨_, rfl, _, rfl, _, _, rfl, rfl, a, _, _, _, rfl, rfl, sl_of ha2, at1, _, rfl, _, rfl, a, _, _, _, rfl, rfl, sl_of ha2, atI_nat (g i hi), ?_⟩
      refine ⟨_, _, rfl, fun H3 r s3 nr hr3 => ?_⟩
      refine ⟨_, s3 _ _ hD, ?_, fun b o e => ?_, ?_⟩
      · rw [nv_len, ed_len h2, List.length_take]
        unfold ringE
        rw [List.length_map, List.length_range]
        exact Nat.lt_of_le_of_lt (Nat.min_le_left _ _) (small1000 (by omega))
      · rw [upd_ne (ne_of_none e nD)]
        exact s3 _ _ (sm _ _ e)
      · rw [ringE_take sp i hi]
        exact edl_snoc h2 (fun k hk => s3 _ _ (h3 k hk)) hr3 (s3 _ _ hD)
    · rintro H2 ⟨sm, hD⟩
      have e : (ringE sp).take sp.length = ringE sp := List.take_of_length_le (by unfold ringE; simp)
      rw [e] at hD
      exact q _ D sm nD hD
end
end Hw

namespace Hw
open PySem PySem.Spec PyProof.Rows L2
theorem walk_rgN {lo n : Nat} : Walk (Itr (lo : Int) n) n (fun _ => True) (fun i H x H' => H' = H ∧ x = .int ((lo + i : Nat) : Int)) :=
  (walk_range (lo := (lo : Int)) (n := n)).mono (fun _ z => z) fun i H x H' _ _ y => ⟨y.1, by rw [y.2]; congr 1⟩
theorem tie_lt {a b : Nat} (h : a < b) : tieF a b = (a, b) := by
  unfold tieF
  rw [Nat.min_eq_left (by omega), Nat.max_eq_right (by omega)]
section
variable {P : Program} {w : World} {K : PySem.W.Frag} {mg : Str → Option Value} {base : Heap}
def tailE (f : Nat → Nat) (low k : Nat) : List Ed := (List.range k).map fun i => (f i, low + i)
theorem tailE_succ (f : Nat → Nat) (low k : Nat) : tailE f low (k + 1) = tailE f low k ++ [(f k, low + k)] := by
  unfold tailE
  rw [List.range_succ, List.map_append]
  rfl
def spTree : Sp := fun vs H Q _ => ∃ (m lg lc : Addr) (s many low : Nat), vs = [.ref m, .int (many : Int), .int (low : Int)] ∧ MOk H m lg lc s ∧ 1 ≤ low ∧ low ≤ 100 ∧ many ≤ 100 ∧ s ≤ 90000 ∧
  ∀ H' r f s', Kp m lg H H' → H r = none → (∀ i, i < many - low → f i < low + i) → EdL H' r (tailE f low (many - low)) → s' ≤ s + many → MOk H' m lg lc s' → Q (.ref r) H'
theorem scTree : FnScope ["_law_m", "_law_many", "_law_low", "_law_spot"] ["_law_m", "_law_many", "_law_low"] (defScope sTree) := ⟨rfl, rfl, rfl, by decide +kernel, rfl, by decide +kernel, by decide +kernel⟩
theorem cal_tree (T : Txt mg) (GT : Cal P w K mg base "_law_tie" 1 spTie) (GD : Cal P w K mg base "_law_draw" 2 spDraw) (D : Df K mg "_law_tree" sTree ["_law_m", "_law_many", "_law_low"]) : Cal P w K mg base "_law_tree" 3 spTree := by
  have nd := scTree.nd
  refine cal_of D scTree (fun vs H Q E h => ?_) (fun f cdv A outer s0 H vs Q E hr h => ?_)
  · obtain ⟨m, lg, lc, s, many, low, rfl, _⟩ := h
    rfl
  · obtain ⟨m, lg, lc, s, many, low, rfl, M0, hl1, hl2, hm, hs, q⟩ := h
    have hr1 := hr.mono (show 1 ≤ 2 by decide)
    refine ⟨_, pss_one (ps_ret (pe_lc (own := [("_law_spot", 3)]) (g := gName 3) (by rfl) nd (pi_range2 (by rfl) T.range (pa_cons (pe_callB (call_max2 rfl) (by rfl) T.max (by decide +kernel) (pa_cons pe_int (pa_cons (pv 2) pa_nil))) (pa_cons (pv 1) pa_nil)))
        (blkOk_by (own := [("_law_spot", 3)]) (N := ["_law_m", "_law_many", "_law_low", "_law_spot"]) (sc := defScope sTree) (by decide +kernel)) (fun _ _ _ _ _ => pg_name (i := 3) nd rfl (.inl rfl)) (fun _ _ _ _ _ => pts_nil)
        (fun _ _ _ _ _ => pe_cl GT (by exact hr1) (by rfl) (pa_cons (pe_ifExp (pt_cmpR op_gt (pv 3) pe_int (nomark _)) (pe_cl GD (by exact hr) (by rfl) (pa_cons (pv 0) (pa_cons (pv 3) pa_nil))) pe_int) (pa_cons (pv 3) pa_nil))))), ?_⟩
    have e0 : (if (low : Int) > 1 then (low : Int) else 1) = (low : Int) := by split <;> omega
    refine ⟨_, rfl, _, _, rfl, ?_⟩
    dsimp only
    rw [e0]
    refine ⟨_, rfl, _, _, rfl, by omega, ?_⟩
    rw [show ((many : Int) - (low : Int)).toNat = many - low by omega]
    refine fun D nD => lc_it walk_rgN (fun i H' => ∃ f s', Kp m lg H H' ∧ MOk H' m lg lc s' ∧ s' ≤ s + i ∧ (∀ j, j < i → f j < low + j) ∧ EdL H' D (tailE f low i)) ⟨fun _ => 0, s, Kp.same (same_upd nD), M0.same (same_upd nD), by omega, fun j hj => absurd hj (Nat.not_lt_zero _), [], upd_same, rfl, fun k hk => nomatch hk⟩ (fun _ _ _ _ => trivial) ?_ ?_
    · rintro i x _ H2 hi ⟨f1, s1, kp, M, hs1, hf, ks, hD, h2, h3⟩ ⟨rfl, rfl⟩
      have aD := M0.new nD
      refine ⟨rfl, ?_⟩
      refine ⟨_, rfl, _, _, rfl, rfl, _, rfl, ?_⟩
      rw [show decide ((0 : Int) < ((low + i : Nat) : Int)) = true from decide_eq_true (by omega)]
      refine iteT ⟨_, rfl, _, rfl, m, lg, lc, s1, low + i, rfl, M, by omega, by omega, by omega, fun H3 d hd kp3 M3 => ?_⟩
      have hD3 := kp3.lst M aD.1 hD
      refine ⟨_, rfl, d, low + i, rfl, fun H4 r s4 nr hr4 => ?_⟩
      rw [tie_lt hd] at hr4
      have kp4 := (kp.trans kp3).trans (Kp.same s4)
      have h3' : ∀ k ∈ ks, Tp H4 k.1 k.2 := fun k hk => s4 _ _ (kp3.tup M (h3 k hk))
      have et : tailE (fun j => if j = i then d else f1 j) low i = tailE f1 low i := by
        unfold tailE
        refine List.map_congr_left fun j hj => ?_
        have := List.mem_range.mp hj
        show ((if j = i then d else f1 j), low + j) = _
        rw [if_neg (by omega)]
      refine ⟨_, s4 _ _ hD3, ?_, fun j => if j = i then d else f1 j, s1 + 1, fun b o n1 n2 e => ?_, (M3.same s4).upd aD, by omega, fun j hj => ?_, ?_⟩
      · rw [nv_len, ed_len h2]
        unfold tailE
        rw [List.length_map, List.length_range]
        exact small1000 (by omega)
      · rw [upd_ne (ne_of_none e nD)]
        exact kp4 b o n1 n2 e
      · show (if j = i then d else f1 j) < low + j
        by_cases z : j = i
        · rw [if_pos z, z]; exact hd
        · rw [if_neg z]; exact hf j (by omega)
      · rw [tailE_succ, et]
        show EdL _ D (tailE f1 low i ++ [((if i = i then d else f1 i), low + i)])
        rw [if_pos rfl]
        exact edl_snoc h2 h3' hr4 (s4 _ _ hD3)
    · rintro H2 ⟨f1, s1, kp, M, hs1, hf, hD⟩
      exact q H2 D f1 s1 kp nD hf hD (by omega) M
/-! ### top -/
def spTop : Sp := fun vs H Q _ => ∃ (a : Addr) (es : List Ed), vs = [.ref a] ∧ EdL H a es ∧ es.length ≤ 1000 ∧ ∀ H', Same H H' → Q (.int ((topOf es : Nat) : Int)) H'
theorem scTop : FnScope ["_law_ties_here", "_law_one", "_law_far"] ["_law_ties_here"] (defScope sTop) := ⟨rfl, rfl, rfl, by decide +kernel, rfl, by decide +kernel, by decide +kernel⟩
theorem cal_top (T : Txt mg) (D : Df K mg "_law_top" sTop ["_law_ties_here"]) : Cal P w K mg base "_law_top" 1 spTop := by
  have nd := scTop.nd
  refine cal_of D scTop (fun vs H Q E h => ?_) (fun f cdv A outer s0 H vs Q E hr h => ?_)
  · obtain ⟨a, es, rfl, _⟩ := h
    rfl
  · obtain ⟨a, es, rfl, ⟨ks, hk1, hk2, hk3⟩, hl, q⟩ := h
    have kl := ed_len hk2
    refine ⟨_, pss_one (ps_ret (pe_op op_add (pe_callB (cr_max rfl) (by rfl) T.max (by decide +kernel) (pa_cons (pe_op op_cat (pe_lst (pa_cons pe_int pa_nil))
        (pe_lc (own := [("_law_one", 1), ("_law_far", 2)]) (g := gTup K 2 (gCons (gName 1) (gCons (gName 2) gNil))) (by rfl) nd (pi_list (pv 0))
        (blkOk_by (own := [("_law_one", 1), ("_law_far", 2)]) (N := ["_law_ties_here", "_law_one", "_law_far"]) (sc := defScope sTop) (by decide +kernel)) (fun _ _ _ _ _ => pg_tup rfl (pgs_cons (pg_name (i := 1) nd rfl (.inl rfl)) (pgs_cons (pg_name (i := 2) nd rfl (.inl rfl)) pgs_nil))) (fun _ _ _ _ _ => pts_nil)
        (fun _ _ _ _ _ => pv 2))) pa_nil)) pe_int)), ?_⟩
    refine ⟨by show 1 ≤ sizeLine; decide, fun l0 n0 => ?_⟩
    have s1 := same_upd (o := .lst [V.int 0]) n0
    have hl0 : upd H l0 (.lst [V.int 0]) l0 = some (.lst [V.int 0]) := upd_same
    generalize upd H l0 (.lst [V.int 0]) = H1 at *
    refine ⟨_, rfl, a, rfl, ⟨_, sl_of (s1 _ _ hk1)⟩, fun D nD => lc_it (walk_list (xs := ks.map fun k => V.ref k.1)) (fun i H' => Same H1 H' ∧ H' D = some (.lst (NV ((es.take i).map (·.2))))) ⟨same_upd nD, upd_same⟩ (fun i H' _ ⟨sm, _⟩ => sl_of (sm _ _ (s1 _ _ hk1))) ?_ ?_⟩
    · rintro i x _ H2 hi ⟨sm, hD⟩ ⟨rfl, hx⟩
      obtain ⟨k, hk, rfl⟩ := refs_get hx
      obtain ⟨e, he, ek⟩ := ed_get hk2 hk
      have tk : Tp H2 k.1 (pl e) := by
        rw [← ek]
        exact sm _ _ (s1 _ _ (hk3 k (List.mem_of_getElem? hk)))
      refine ⟨k.1, _, rfl, sq_of tk, rfl, _, _, rfl, _, _, rfl, rfl, rfl, _, rfl, _, hD, ?_, fun b o e => ?_, ?_⟩
      · rw [NV_len, List.length_map, List.length_take]
        exact Nat.lt_of_le_of_lt (Nat.min_le_right _ _) (small1000 hl)
      · rw [upd_ne (ne_of_none e nD)]
        exact sm _ _ e
      · rw [upd_same, ← NV_snoc, List.take_add_one, he, List.map_append]
        rfl
    · rintro H2 ⟨sm, hD⟩
      rw [nv_len, kl, List.take_length] at hD
      refine ⟨l0, D, _, _, rfl, rfl, sm _ _ hl0, hD, ?_, fun l2 n2 => ?_⟩
      · rw [NV_len, List.length_map]
        exact Nat.le_of_lt (Nat.lt_of_le_of_lt (show [V.int 0].length + es.length ≤ 1001 by show 1 + es.length ≤ 1001; omega) (by decide))
      have s2 := same_upd (o := .lst ([V.int 0] ++ NV (es.map (·.2)))) n2
      have e1 : [V.int 0] ++ NV (es.map (·.2)) = (NI (0 :: es.map (·.2))).map V.int := by
        rw [← NV_NI]
        rfl
      refine ⟨l2, NI (0 :: es.map (·.2)), rfl, sl_of (by rw [← e1]; exact upd_same), by rw [NI_len]; exact Nat.succ_pos _, fun mx hm1 hm2 => ?_⟩
      obtain ⟨z, hz, rfl⟩ := mem_NI hm1
      have ez : z + 1 = topOf es := by
        unfold topOf
        have ge : (es.map (·.2)).foldl max 0 ≤ z := fold_max_le _ _ _ (Nat.zero_le _) fun y hy => by
          have := hm2 ((y : Nat) : Int) (List.mem_map.mpr ⟨y, List.mem_cons_of_mem _ hy, rfl⟩)
          omega
        have le : z ≤ (es.map (·.2)).foldl max 0 := by
          rcases List.mem_cons.mp hz with e | m
          · omega
          · exact fold_max_mem _ _ _ m
        omega
      refine ⟨_, _, rfl, rfl, ?_⟩
      have e2 : (z : Int) + 1 = ((topOf es : Nat) : Int) := by omega
      show Q (V.int ((z : Int) + 1)) _
      rw [e2]
      exact q _ ((s1.trans sm).trans s2)
end
end Hw

namespace Hw
open PySem PySem.Spec PyProof.Rows L2
theorem rgV_at (low : Nat) (k : Nat) : rgV (low : Int) ((low : Int) + (k : Int)) = NV ((List.range k).map fun i => low + i) := by
  unfold rgV NV
  rw [show ((low : Int) + (k : Int) - (low : Int)).toNat = k by omega, List.map_map]
  refine List.map_congr_left fun i _ => ?_
  show V.int ((low : Int) + (i : Int)) = V.int ((low + i : Nat) : Int)
  congr 1
theorem nm_get {low hinge x k : Nat} (h : x < k + 1) : (hinge :: (List.range k).map fun i => low + i)[x]? = some (nmF low hinge x) := by
  unfold nmF
  cases x with
  | zero => rfl
  | succ y =>
    rw [List.getElem?_cons_succ, List.getElem?_map, List.getElem?_range (by omega), if_neg (by omega)]
    show some (low + y) = some (low + (y + 1) - 1)
    congr 1
section
variable {P : Program} {w : World} {K : PySem.W.Frag} {mg : Str → Option Value} {base : Heap}
def spShifted : Sp := fun vs H Q _ => ∃ (a : Addr) (c : List Ed) (low hinge : Nat), vs = [.ref a, .int (low : Int), .int (hinge : Int)] ∧ EdL H a c ∧ VE 21 c ∧ c.length ≤ 100 ∧ low ≤ 1000 ∧ ∀ H' r, Same H H' → H r = none → EdL H' r (shiftE low hinge c) → Q (.ref r) H'
abbrev nSh : List Str := ["_law_ties_here", "_law_low", "_law_hinge", "_law_names", "_law_one", "_law_far"]
theorem scShifted : FnScope nSh ["_law_ties_here", "_law_low", "_law_hinge"] (defScope sShifted) := ⟨rfl, rfl, rfl, by decide +kernel, rfl, by decide +kernel, by decide +kernel⟩
theorem cal_shifted (T : Txt mg) (GT : Cal P w K mg base "_law_tie" 1 spTie) (D : Df K mg "_law_shifted" sShifted ["_law_ties_here", "_law_low", "_law_hinge"]) : Cal P w K mg base "_law_shifted" 2 spShifted := by
  have nd := scShifted.nd
  refine cal_of D scShifted (fun vs H Q E h => ?_) (fun f cdv A outer s0 H vs Q E hr h => ?_)
  · obtain ⟨a, c, low, hinge, rfl, _⟩ := h
    rfl
  · obtain ⟨a, c, low, hinge, rfl, hc, ve, hl, hlow, q⟩ := h
    refine ⟨_, pss_cons (ps_set (i := 3) nd rfl (.inr rfl) (pe_op op_cat (pe_lst (pa_cons (pv 2) pa_nil)) (pe_listRg (by rfl) (by rfl) T.list (prg_2 (by rfl) T.range (pv 1) (pe_op op_add (pv 1) pe_int)))))
      <| pss_one (ps_ret (pe_lc (own := [("_law_one", 4), ("_law_far", 5)]) (g := gTup K 2 (gCons (gName 4) (gCons (gName 5) gNil))) (by rfl) nd (pi_list (pv 0))
        (blkOk_by (own := [("_law_one", 4), ("_law_far", 5)]) (N := nSh) (sc := defScope sShifted) (by decide +kernel)) (fun _ _ _ _ _ => pg_tup rfl (pgs_cons (pg_name (i := 4) nd rfl (.inl rfl)) (pgs_cons (pg_name (i := 5) nd rfl (.inl rfl)) pgs_nil))) (fun _ _ _ _ _ => pts_nil)
        (fun _ _ _ _ _ => pe_cl GT (by exact hr) (by rfl) (pa_cons (pe_ix (r := rIxL K) ix_list (pv 3) (pv 4) (fun _ _ => rfl)) (pa_cons (pe_ix (r := rIxL K) ix_list (pv 3) (pv 5) (fun _ _ => rfl)) pa_nil))))), ?_⟩
    refine ⟨_, rfl, by show 1 ≤ sizeLine; decide, fun l0 n0 => ?_⟩
    have s1 := same_upd (o := .lst [V.int (hinge : Int)]) n0
    have hl0 : upd H l0 (.lst [V.int (hinge : Int)]) l0 = some (.lst [V.int (hinge : Int)]) := upd_same
    generalize upd H l0 (.lst [V.int (hinge : Int)]) = H1 at *
    refine ⟨_, rfl, _, rfl, _, _, rfl, rfl, _, _, rfl, rfl, ?_, fun l1 n1 => ?_⟩
    · exact RgOk.of_le (by omega) (by omega) (by omega) (by omega)
    have er : rgV (low : Int) ((low : Int) + 20) = NV ((List.range 20).map fun i => low + i) := rgV_at low 20
    have s2 := s1.trans (same_upd (o := .lst (rgV (low : Int) ((low : Int) + 20))) n1)
    have hl0' := same_upd (o := .lst (rgV (low : Int) ((low : Int) + 20))) n1 _ _ hl0
    have hl1 : upd H1 l1 (.lst (rgV (low : Int) ((low : Int) + 20))) l1 = some (.lst (rgV (low : Int) ((low : Int) + 20))) := upd_same
    generalize upd H1 l1 (.lst (rgV (low : Int) ((low : Int) + 20))) = H2 at *
    rw [er] at hl1
    refine ⟨l0, l1, _, _, rfl, rfl, hl0', hl1, ?_, fun l2 n2 => ?_⟩
    · rw [NV_len, List.length_map, List.length_range]
      show 1 + 20 ≤ sizeLine
      decide
    have en : [V.int (hinge : Int)] ++ NV ((List.range 20).map fun i => low + i) = NV (hinge :: (List.range 20).map fun i => low + i) := rfl
    rw [en]
    have s3 := s2.trans (same_upd (o := .lst (NV (hinge :: (List.range 20).map fun i => low + i))) n2)
    have hl2 : upd H2 l2 (.lst (NV (hinge :: (List.range 20).map fun i => low + i))) l2 = some (.lst (NV (hinge :: (List.range 20).map fun i => low + i))) := upd_same
    generalize upd H2 l2 (.lst (NV (hinge :: (List.range 20).map fun i => low + i))) = H3 at *
    obtain ⟨ks, k1, k2, k3⟩ := hc.same s3
    have kl := ed_len k2
    refine ⟨_, rfl, a, rfl, ⟨_, sl_of k1⟩, fun D nD => lc_it (walk_list (xs := ks.map fun k => V.ref k.1)) (fun i H' => Same H3 H' ∧ EdL H' D ((shiftE low hinge c).take i)) ⟨same_upd nD, [], upd_same, rfl, fun k hk => nomatch hk⟩ (fun i H' _ ⟨sm, _⟩ => sl_of (sm _ _ k1)) ?_ ?_⟩
    · rintro i x _ H4 hi ⟨sm, kd, hD, h2, h3⟩ ⟨rfl, hx⟩
      obtain ⟨k, hk, rfl⟩ := refs_get hx
      obtain ⟨e, he, ek⟩ := ed_get k2 hk
      have tk : Tp H4 k.1 (pl e) := by
        rw [← ek]
        exact sm _ _ (k3 k (List.mem_of_getElem? hk))
      have eb := ve e (List.mem_of_getElem? he)
      have hn2 := sm _ _ hl2
      refine ⟨k.1, _, rfl, sq_of tk, rfl, _, _, rfl, _, _, rfl, rfl, rfl, ?_⟩
      refine ⟨_, rfl, _, rfl, l2, _, _, _, rfl, rfl, sl_of hn2, atI_nat (NV_get (nm_get (k := 20) (by omega))), _, rfl, _, rfl, l2, _, _, _, rfl, rfl, sl_of hn2, atI_nat (NV_get (nm_get (k := 20) (by omega))), ?_⟩
      refine ⟨_, _, rfl, fun H5 r s5 nr hr5 => ?_⟩
      have e2 : (shiftE low hinge c).take (i + 1) = (shiftE low hinge c).take i ++ [tieF (nmF low hinge e.1) (nmF low hinge e.2)] := by
        unfold shiftE
        rw [List.take_add_one, List.getElem?_map, he]
        rfl
      refine ⟨_, s5 _ _ hD, ?_, fun b o eb2 => ?_, ?_⟩
      · rw [nv_len, ed_len h2, List.length_take]
        unfold shiftE
        rw [List.length_map]
        exact Nat.lt_of_le_of_lt (Nat.min_le_right _ _) (small1000 (by omega))
      · rw [upd_ne (ne_of_none eb2 nD)]
        exact s5 _ _ (sm _ _ eb2)
      · rw [e2]
        exact edl_snoc h2 (fun k hk => s5 _ _ (h3 k hk)) hr5 (s5 _ _ hD)
    · rintro H4 ⟨sm, hD⟩
      rw [nv_len, kl] at hD
      have e : (shiftE low hinge c).take c.length = shiftE low hinge c := List.take_of_length_le (by unfold shiftE; rw [List.length_map]; exact Nat.le_refl _)
      rw [e] at hD
      exact q _ D (s3.trans sm) (s3.free nD) hD
/-! ### core -/
def spCore : Sp := fun vs H Q _ => ∃ (m lg lc : Addr) (s : Nat), vs = [.ref m] ∧ MOk H m lg lc s ∧ s ≤ 90000 ∧ ∀ H' r c s', c ∈ coreMenu → Kp m lg H H' → H r = none → EdL H' r c → s' ≤ s + 3 → MOk H' m lg lc s' → Q (.ref r) H'
theorem scCore : FnScope ["_law_m", "_law_way", "_law_many"] ["_law_m"] (defScope sCore) := ⟨rfl, rfl, rfl, by decide +kernel, rfl, by decide +kernel, by decide +kernel⟩
theorem menu_0 {d : Nat} (h : d < 5) : ringE (List.range (1 + d)) ∈ coreMenu := by
  have : ∀ d, d < 5 → ringE (List.range (1 + d)) ∈ coreMenu := by decide +kernel
  exact this d h
theorem menu_1 {d e : Nat} (h : d < 3) (h2 : e < 3) : ringE (List.range (1 + d)) ++ ringE (0 :: (List.range e).map (fun i => 1 + d + i)) ∈ coreMenu := by
  have : ∀ d, d < 3 → ∀ e, e < 3 → ringE (List.range (1 + d)) ++ ringE (0 :: (List.range e).map (fun i => 1 + d + i)) ∈ coreMenu := by decide +kernel
  exact this d h e h2
theorem menu_2 : ([(0, 1), (0, 2), (0, 3), (1, 2), (1, 3)] : List Ed) ∈ coreMenu := by decide +kernel
theorem menu_3 : ([(0, 2), (1, 2), (0, 3), (1, 3), (0, 4), (1, 4)] : List Ed) ∈ coreMenu := by decide +kernel
theorem menu_4 {d : Nat} (h : d < 3) : List.replicate (2 + d) ((0, 1) : Ed) ∈ coreMenu := by
  have : ∀ d, d < 3 → List.replicate (2 + d) ((0, 1) : Ed) ∈ coreMenu := by decide +kernel
  exact this d h
theorem menu_5 {d : Nat} (h : d < 2) : ringE (List.range (3 + d)) ++ [(0, 2)] ∈ coreMenu := by
  have : ∀ d, d < 2 → ringE (List.range (3 + d)) ++ [(0, 2)] ∈ coreMenu := by decide +kernel
  exact this d h
theorem edl_app {H : Hp} {l : Addr} {es fs : List Ed} {ks js : List (Addr × List Nat)} (a2 : ks.map (·.2) = es.map pl) (a3 : ∀ k ∈ ks, Tp H k.1 k.2) (b2 : js.map (·.2) = fs.map pl) (b3 : ∀ k ∈ js, Tp H k.1 k.2) (nl : H l = none) :
    EdL (upd H l (.lst ((ks.map fun k => V.ref k.1) ++ (js.map fun k => V.ref k.1)))) l (es ++ fs) := by
  refine ⟨ks ++ js, ?_, ?_, fun k hk => ?_⟩
  · rw [upd_same, List.map_append]
  · rw [List.map_append, List.map_append, a2, b2]
  · rcases List.mem_append.mp hk with hk | hk
    · exact tp_new (a3 k hk) nl
    · exact tp_new (b3 k hk) nl
theorem cal_core (T : Txt mg) (GD : Cal P w K mg base "_law_draw" 2 spDraw) (GR : Cal P w K mg base "_law_ring" 2 (spRing K)) (D : Df K mg "_law_core" sCore ["_law_m"]) : Cal P w K mg base "_law_core" 3 spCore := by
  have nd := scCore.nd
  refine cal_of D scCore (fun vs H Q E h => ?_) (fun f cdv A outer s0 H vs Q E hr h => ?_)
  · obtain ⟨m, lg, lc, s, rfl, _⟩ := h
    rfl
  · obtain ⟨m, lg, lc, s, rfl, M0, hs, q⟩ := h
    refine ⟨_, pss_cons (ps_set (i := 1) nd rfl (.inl rfl) (pe_cl GD hr (by rfl) (pa_cons (pv 0) (pa_cons pe_int pa_nil))))
      <| pss_cons (ps_if (pt_cmpR op_eq (pv 1) pe_int (nomark _)) (pss_one (ps_ret (pe_cl GR hr (by rfl) (pa_cons (pe_listRg (by rfl) (by rfl) T.list (prg_1 (by rfl) T.range (pe_op op_add pe_int (pe_cl GD hr (by rfl) (pa_cons (pv 0) (pa_cons pe_int pa_nil)))))) pa_nil)))) pss_nil)
      <| pss_cons (ps_if (pt_cmpR op_eq (pv 1) pe_int (nomark _)) (pss_cons (ps_set (i := 2) nd rfl (.inl rfl) (pe_op op_add pe_int (pe_cl GD hr (by rfl) (pa_cons (pv 0) (pa_cons pe_int pa_nil)))))
          <| pss_one (ps_ret (pe_op op_cat (pe_cl GR hr (by rfl) (pa_cons (pe_listRg (by rfl) (by rfl) T.list (prg_1 (by rfl) T.range (pv 2))) pa_nil))
              (pe_cl GR hr (by rfl) (pa_cons (pe_op op_cat (pe_lst (pa_cons pe_int pa_nil)) (pe_listRg (by rfl) (by rfl) T.list (prg_2 (by rfl) T.range (pv 2) (pe_op op_add (pv 2) (pe_cl GD hr (by rfl) (pa_cons (pv 0) (pa_cons pe_int pa_nil))))))) pa_nil))))) pss_nil)
      <| pss_cons (ps_if (pt_cmpR op_eq (pv 1) pe_int (nomark _)) (pss_one (ps_ret (pe_lst (pa_cons (pe_tup (pa_cons pe_int (pa_cons pe_int pa_nil))) (pa_cons (pe_tup (pa_cons pe_int (pa_cons pe_int pa_nil))) (pa_cons (pe_tup (pa_cons pe_int (pa_cons pe_int pa_nil)))
          (pa_cons (pe_tup (pa_cons pe_int (pa_cons pe_int pa_nil))) (pa_cons (pe_tup (pa_cons pe_int (pa_cons pe_int pa_nil))) pa_nil)))))))) pss_nil)
      <| pss_cons (ps_if (pt_cmpR op_eq (pv 1) pe_int (nomark _)) (pss_one (ps_ret (pe_lst (pa_cons (pe_tup (pa_cons pe_int (pa_cons pe_int pa_nil))) (pa_cons (pe_tup (pa_cons pe_int (pa_cons pe_int pa_nil))) (pa_cons (pe_tup (pa_cons pe_int (pa_cons pe_int pa_nil)))
          (pa_cons (pe_tup (pa_cons pe_int (pa_cons pe_int pa_nil))) (pa_cons (pe_tup (pa_cons pe_int (pa_cons pe_int pa_nil))) (pa_cons (pe_tup (pa_cons pe_int (pa_cons pe_int pa_nil))) pa_nil))))))))) pss_nil)
      <| pss_cons (ps_if (pt_cmpR op_eq (pv 1) pe_int (nomark _)) (pss_one (ps_ret (pe_op op_rep (pe_lst (pa_cons (pe_tup (pa_cons pe_int (pa_cons pe_int pa_nil))) pa_nil)) (pe_op op_add pe_int (pe_cl GD hr (by rfl) (pa_cons (pv 0) (pa_cons pe_int pa_nil))))))) pss_nil)
      <| pss_one (ps_ret (pe_op op_cat (pe_cl GR hr (by rfl) (pa_cons (pe_listRg (by rfl) (by rfl) T.list (prg_1 (by rfl) T.range (pe_op op_add pe_int (pe_cl GD hr (by rfl) (pa_cons (pv 0) (pa_cons pe_int pa_nil)))))) pa_nil)) (pe_lst (pa_cons (pe_tup (pa_cons pe_int (pa_cons pe_int pa_nil))) pa_nil)))), ?_⟩
    refine ⟨_, rfl, m, lg, lc, s, 6, rfl, M0, by omega, by omega, by omega, fun H1 w0 hw kp1 M1 => ?_⟩
    have two : 2 ≤ sizeLine := by decide
    refine ⟨_, rfl, rfl, _, rfl, ite2 (fun _ => ?_) (fun _ => ?_)⟩
    · -- a ring
      refine ⟨_, rfl, m, lg, lc, s + 1, 5, rfl, M1, by omega, by omega, by omega, fun H2 d hd kp2 M2 => ?_⟩
      refine ⟨_, _, rfl, rfl, _, rfl, RgOk.of_le (by omega) (by omega) (by omega) (by omega), fun l nl => ?_⟩
      have er : rgV 0 (1 + (d : Int)) = NV (List.range (1 + d)) := by
        rw [← NV_range]
        congr 1
      rw [er]
      have s3 := same_upd (o := .lst (NV (List.range (1 + d)))) nl
      refine ⟨l, List.range (1 + d), rfl, upd_same, by rw [List.length_range]; omega, fun H4 r s4 nr hr4 => ?_⟩
      have sm := s3.trans s4
      exact q H4 r _ (s + 2) (menu_0 hd) ((kp1.trans kp2).trans (Kp.same sm)) ((kp1.trans kp2).free M2 (s3.free nr)) hr4 (by omega) (M2.same sm)
    refine ⟨_, rfl, rfl, _, rfl, ite2 (fun _ => ?_) (fun _ => ?_)⟩
    · -- two rings
      refine ⟨_, rfl, m, lg, lc, s + 1, 3, rfl, M1, by omega, by omega, by omega, fun H2 d hd kp2 M2 => ?_⟩
      refine ⟨_, _, rfl, rfl, ?_⟩
      have e1 : (1 : Int) + (d : Int) = ((1 + d : Nat) : Int) := by omega
      dsimp only
      rw [e1]
      refine ⟨_, rfl, _, rfl, RgOk.of_le (by omega) (by omega) (by omega) (by omega), fun l nl => ?_⟩
      rw [NV_range]
      have s3 := same_upd (o := .lst (NV (List.range (1 + d)))) nl
      refine ⟨l, List.range (1 + d), rfl, upd_same, by rw [List.length_range]; omega, fun H4 r1 s4 nr1 hr1 => ?_⟩
      have s34 := s3.trans s4
      have M4 := M2.same s34
      have n1 := s3.free nr1
      have ar1 := M2.new n1
      refine ⟨by show 1 ≤ sizeLine; decide, fun l0 n0 => ?_⟩
      have s5 := same_upd (o := .lst [V.int 0]) n0
      have hl0 : upd H4 l0 (.lst [V.int 0]) l0 = some (.lst [V.int 0]) := upd_same
      have M5 := M4.same s5
      have al0 := M4.new n0
      have hr5 := hr1.same s5
      generalize upd H4 l0 (.lst [V.int 0]) = H5 at *
      refine ⟨_, rfl, _, rfl, _, rfl, m, lg, lc, s + 2, 3, rfl, M5, by omega, by omega, by omega, fun H6 e he kp6 M6 => ?_⟩
      have hl6 := kp6.lst M5 al0.1 hl0
      have hr6 := hr5.kp kp6 M5 ar1.1
      refine ⟨_, _, rfl, rfl, _, _, rfl, rfl, RgOk.of_le (by omega) (by omega) (by omega) (by omega), fun l2 n2 => ?_⟩
      rw [rgV_at]
      have s7 := same_upd (o := .lst (NV ((List.range e).map fun i => 1 + d + i))) n2
      have hl0' := s7 _ _ hl6
      have hl2 : upd H6 l2 (.lst (NV ((List.range e).map fun i => 1 + d + i))) l2 = some (.lst (NV ((List.range e).map fun i => 1 + d + i))) := upd_same
      have hr7 := hr6.same s7
      have M7 := M6.same s7
      generalize upd H6 l2 (.lst (NV ((List.range e).map fun i => 1 + d + i))) = H7 at *
      refine ⟨l0, l2, _, _, rfl, rfl, hl0', hl2, ?_, fun l3 n3 => ?_⟩
      · rw [NV_len, List.length_map, List.length_range]
        show 1 + e ≤ sizeLine
        exact Nat.le_of_lt (small1000 (by omega))
      have en : [V.int 0] ++ NV ((List.range e).map fun i => 1 + d + i) = NV (0 :: (List.range e).map fun i => 1 + d + i) := rfl
      rw [en]
      have s8 := same_upd (o := .lst (NV (0 :: (List.range e).map fun i => 1 + d + i))) n3
      refine ⟨l3, _, rfl, upd_same, ?_, fun H9 r2 s9 nr2 hr2 => ?_⟩
      · rw [List.length_cons, List.length_map, List.length_range]
        omega
      obtain ⟨ks, k1, k2, k3⟩ := (hr7.same s8).same s9
      obtain ⟨js, j1, j2, j3⟩ := hr2
      refine ⟨r1, r2, _, _, rfl, rfl, k1, j1, ?_, fun l4 n4 => ?_⟩
      · rw [nv_len, nv_len, ed_len k2, ed_len j2]
        unfold ringE
        rw [List.length_map, List.length_map, List.length_range, List.length_range, List.length_range, List.length_cons, List.length_map, List.length_range]
        exact Nat.le_of_lt (small1000 (by omega))
      have s10 := same_upd (o := .lst ((ks.map fun k => V.ref k.1) ++ (js.map fun k => V.ref k.1))) n4
      have sall := (s8.trans s9).trans s10
      have kp := (((kp1.trans kp2).trans (Kp.same (s34.trans s5))).trans kp6).trans (Kp.same (s7.trans sall))
      have Mz := M7.same sall
      exact q _ l4 _ (s + 3) (menu_1 hd he) kp ((((kp1.trans kp2).trans (Kp.same (s34.trans s5))).trans kp6).free M6 (s7.free ((s8.trans s9).free n4))) (edl_app k2 k3 j2 j3 n4) (by omega) Mz
    refine ⟨_, rfl, rfl, _, rfl, ite2 (fun _ => ?_) (fun _ => ?_)⟩
    · refine ⟨two, fun t1 x1 => ⟨two, fun t2 x2 => ⟨two, fun t3 x3 => ⟨two, fun t4 x4 => ⟨two, fun t5 x5 => ⟨by show 5 ≤ sizeLine; decide, fun l nl => ?_⟩⟩⟩⟩⟩⟩
      have y5 := (same_upd (o := .tup [V.int 1, V.int 3]) x5).trans (same_upd (o := .lst [V.ref t1, V.ref t2, V.ref t3, V.ref t4, V.ref t5]) nl)
      have y4 := (same_upd (o := .tup [V.int 1, V.int 2]) x4).trans y5
      have y3 := (same_upd (o := .tup [V.int 0, V.int 3]) x3).trans y4
      have y2 := (same_upd (o := .tup [V.int 0, V.int 2]) x2).trans y3
      have y1 := (same_upd (o := .tup [V.int 0, V.int 1]) x1).trans y2
      refine q _ l _ (s + 1) menu_2 (kp1.trans (Kp.same y1)) (kp1.free M1 ((same_upd x1).free ((same_upd x2).free ((same_upd x3).free ((same_upd x4).free ((same_upd x5).free nl)))))) ⟨[(t1, [0, 1]), (t2, [0, 2]), (t3, [0, 3]), (t4, [1, 2]), (t5, [1, 3])], upd_same, rfl, ?_⟩ (by omega) (M1.same y1)
      intro k hk
      simp only [List.mem_cons, List.not_mem_nil, or_false] at hk
      rcases hk with rfl | rfl | rfl | rfl | rfl
      · exact y2 _ _ upd_same
      · exact y3 _ _ upd_same
      · exact y4 _ _ upd_same
      · exact y5 _ _ upd_same
      · exact same_upd nl _ _ upd_same
    refine ⟨_, rfl, rfl, _, rfl, ite2 (fun _ => ?_) (fun _ => ?_)⟩
    · refine ⟨two, fun t1 x1 => ⟨two, fun t2 x2 => ⟨two, fun t3 x3 => ⟨two, fun t4 x4 => ⟨two, fun t5 x5 => ⟨two, fun t6 x6 => ⟨by show 6 ≤ sizeLine; decide, fun l nl => ?_⟩⟩⟩⟩⟩⟩⟩
      have y6 := (same_upd (o := .tup [V.int 1, V.int 4]) x6).trans (same_upd (o := .lst [V.ref t1, V.ref t2, V.ref t3, V.ref t4, V.ref t5, V.ref t6]) nl)
      have y5 := (same_upd (o := .tup [V.int 0, V.int 4]) x5).trans y6
      have y4 := (same_upd (o := .tup [V.int 1, V.int 3]) x4).trans y5
      have y3 := (same_upd (o := .tup [V.int 0, V.int 3]) x3).trans y4
      have y2 := (same_upd (o := .tup [V.int 1, V.int 2]) x2).trans y3
      have y1 := (same_upd (o := .tup [V.int 0, V.int 2]) x1).trans y2
      refine q _ l _ (s + 1) menu_3 (kp1.trans (Kp.same y1)) (kp1.free M1 ((same_upd x1).free ((same_upd x2).free ((same_upd x3).free ((same_upd x4).free ((same_upd x5).free ((same_upd x6).free nl))))))) ⟨[(t1, [0, 2]), (t2, [1, 2]), (t3, [0, 3]), (t4, [1, 3]), (t5, [0, 4]), (t6, [1, 4])], upd_same, rfl, ?_⟩ (by omega) (M1.same y1)
      intro k hk
      simp only [List.mem_cons, List.not_mem_nil, or_false] at hk
      rcases hk with rfl | rfl | rfl | rfl | rfl | rfl
      · exact y2 _ _ upd_same
      · exact y3 _ _ upd_same
      · exact y4 _ _ upd_same
      · exact y5 _ _ upd_same
      · exact y6 _ _ upd_same
      · exact same_upd nl _ _ upd_same
    refine ⟨_, rfl, rfl, _, rfl, ite2 (fun _ => ?_) (fun _ => ?_)⟩
    · refine ⟨two, fun t1 x1 => ⟨by show 1 ≤ sizeLine; decide, fun l1 n1 => ?_⟩⟩
      have y1 := same_upd (o := .tup [V.int 0, V.int 1]) x1
      have y2 := same_upd (o := .lst [V.ref t1]) n1
      have ht2 : Tp (upd (upd H1 t1 (.tup [V.int 0, V.int 1])) l1 (.lst [V.ref t1])) t1 [0, 1] := y2 _ _ upd_same
      have hl2 : upd (upd H1 t1 (.tup [V.int 0, V.int 1])) l1 (.lst [V.ref t1]) l1 = some (.lst [V.ref t1]) := upd_same
      have y12 := y1.trans y2
      have fr1 : ∀ {z}, upd (upd H1 t1 (.tup [V.int 0, V.int 1])) l1 (.lst [V.ref t1]) z = none → H1 z = none := fun h => y12.free h
      have M2 := M1.same y12
      have al1 := M1.new (y1.free n1)
      generalize upd (upd H1 t1 (.tup [V.int 0, V.int 1])) l1 (.lst [V.ref t1]) = H2 at *
      refine ⟨_, rfl, m, lg, lc, s + 1, 3, rfl, M2, by omega, by omega, by omega, fun H3 d hd kp3 M3 => ?_⟩
      have ht3 : Tp H3 t1 [0, 1] := kp3.tup M2 ht2
      have hl3 := kp3.lst M2 al1.1 hl2
      have kpA := (kp1.trans (Kp.same y12)).trans kp3
      refine ⟨_, _, rfl, rfl, l1, _, _, rfl, rfl, hl3, by omega, by omega, ?_, fun l2 n2 => ?_⟩
      · show 1 * _ ≤ _
        exact Nat.le_of_lt (small1000 (by omega))
      have ef : (List.replicate (Int.toNat (2 + (d : Int))) [V.ref t1]).flatten = (List.replicate (2 + d) (t1, [0, 1])).map fun k : Addr × List Nat => V.ref k.1 := by
        rw [List.flatten_replicate_singleton, List.map_replicate]
        congr 1
      rw [ef]
      have y3 := same_upd (o := .lst ((List.replicate (2 + d) (t1, [0, 1])).map fun k : Addr × List Nat => V.ref k.1)) n2
      refine q _ l2 _ (s + 2) (menu_4 hd) (kpA.trans (Kp.same y3)) (kpA.free M3 n2) ⟨List.replicate (2 + d) (t1, [0, 1]), upd_same, by rw [List.map_replicate, List.map_replicate]; rfl, fun k hk => ?_⟩ (by omega) (M3.same y3)
      rw [List.eq_of_mem_replicate hk]
      exact y3 _ _ ht3
    · refine ⟨_, rfl, m, lg, lc, s + 1, 2, rfl, M1, by omega, by omega, by omega, fun H2 d hd kp2 M2 => ?_⟩
      refine ⟨_, _, rfl, rfl, _, rfl, RgOk.of_le (by omega) (by omega) (by omega) (by omega), fun l nl => ?_⟩
      have er : rgV 0 (3 + (d : Int)) = NV (List.range (3 + d)) := by
        rw [← NV_range]
        congr 1
      rw [er]
      have s3 := same_upd (o := .lst (NV (List.range (3 + d)))) nl
      refine ⟨l, List.range (3 + d), rfl, upd_same, by rw [List.length_range]; omega, fun H4 r s4 nr hr4 => ?_⟩
      have s34 := s3.trans s4
      refine ⟨two, fun t1 x1 => ⟨by show 1 ≤ sizeLine; decide, fun l1 n1 => ?_⟩⟩
      have y1 := same_upd (o := .tup [V.int 0, V.int 2]) x1
      have y2 := same_upd (o := .lst [V.ref t1]) n1
      have y12 := y1.trans y2
      have hl5 : upd (upd H4 t1 (.tup [V.int 0, V.int 2])) l1 (.lst [V.ref t1]) l1 = some (.lst ([(t1, [0, 2])].map fun k : Addr × List Nat => V.ref k.1)) := upd_same
      have ht5 : ∀ k ∈ ([(t1, [0, 2])] : List (Addr × List Nat)), Tp (upd (upd H4 t1 (.tup [V.int 0, V.int 2])) l1 (.lst [V.ref t1])) k.1 k.2 := fun k hk => by
        rw [List.mem_singleton.mp hk]
        exact y2 _ _ upd_same
      obtain ⟨ks, k1, k2, k3⟩ := hr4.same y12
      generalize upd (upd H4 t1 (.tup [V.int 0, V.int 2])) l1 (.lst [V.ref t1]) = H5 at *
      refine ⟨r, l1, _, _, rfl, rfl, k1, hl5, ?_, fun l2 n2 => ?_⟩
      · rw [nv_len, ed_len k2]
        unfold ringE
        rw [List.length_map, List.length_range, List.length_range]
        exact Nat.le_of_lt (small1000 (show 3 + d + 1 ≤ 1000 by omega))
      have y3 := same_upd (o := .lst ((ks.map fun k => V.ref k.1) ++ ([(t1, [0, 2])].map fun k : Addr × List Nat => V.ref k.1))) n2
      have sall := (s34.trans y12).trans y3
      exact q _ l2 _ (s + 2) (menu_5 hd) ((kp1.trans kp2).trans (Kp.same sall)) ((kp1.trans kp2).free M2 ((s34.trans y12).free n2)) (edl_app k2 k3 (fs := [(0, 2)]) (js := [(t1, [0, 2])]) rfl ht5 n2) (by omega) (M2.same sall)
end
end Hw

namespace Hw
open PySem PySem.Spec PyProof.Rows L2
theorem perm_map_inv {α β : Type} (f : α → β) {xs ys : List β} (h : ys.Perm xs) : ∀ ks : List α, xs = ks.map f → ∃ js : List α, js.Perm ks ∧ ys = js.map f := by
  induction h with
  | nil => intro ks e; exact ⟨ks, .refl _, e⟩
  | @cons x l1 l2 _ ih =>
    intro ks e
    cases ks with
    | nil => cases e
    | cons k ks =>
      injection e with e1 e2
      obtain ⟨js, h1, h2⟩ := ih ks e2
      exact ⟨k :: js, h1.cons k, by rw [e1, h2]; rfl⟩
  | swap x y l =>
    intro ks e
    match ks, e with
    | a :: b :: ks, e =>
      injection e with e1 e2
      injection e2 with e2 e3
      exact ⟨b :: a :: ks, .swap _ _ _, by rw [e1, e2, e3]; rfl⟩
  | trans _ _ ih1 ih2 =>
    intro ks e
    obtain ⟨js, h1, h2⟩ := ih2 ks e
    obtain ⟨is, h3, h4⟩ := ih1 js h2
    exact ⟨is, h3.trans h1, h4⟩
theorem isP_of_perm {p : List Nat} {n : Nat} (h : p.Perm (List.range n)) : IsP p ∧ p.length = n := by
  have hl : p.length = n := by rw [h.length_eq, List.length_range]
  refine ⟨⟨h.nodup_iff.mpr List.nodup_range, fun x hx => ?_⟩, hl⟩
  rw [hl]
  exact List.mem_range.mp (h.mem_iff.mp hx)
section
variable {P : Program} {w : World} {K : PySem.W.Frag} {mg : Str → Option Value} {base : Heap}
def spRenamed : Sp := fun vs H Q _ => ∃ (m lg lc a : Addr) (s n : Nat) (es : List Ed), vs = [.ref m, .int (n : Int), .ref a] ∧ MOk H m lg lc s ∧ EdL H a es ∧ a ≠ lg ∧ VE n es ∧ n ≤ 100 ∧ es.length ≤ 100 ∧ s ≤ 90000 ∧
  ∀ H' t p fs, IsP p → p.length = n → fs.Perm (renE p es) → Kp m lg H H' → H t = none → EdT H' t fs → MOk H' m lg lc (s + n + es.length) → Q (.ref t) H'
abbrev nRen : List Str := ["_law_m", "_law_many", "_law_ties_here", "_law_names", "_law_one", "_law_far"]
theorem scRenamed : FnScope nRen ["_law_m", "_law_many", "_law_ties_here"] (defScope sRenamed) := ⟨rfl, rfl, rfl, by decide +kernel, rfl, by decide +kernel, by decide +kernel⟩
theorem cal_renamed (T : Txt mg) (GT : Cal P w K mg base "_law_tie" 1 spTie) (GM : Cal P w K mg base "_law_mixed_up" 3 (spMixedUp K)) (D : Df K mg "_law_renamed" sRenamed ["_law_m", "_law_many", "_law_ties_here"]) : Cal P w K mg base "_law_renamed" 4 spRenamed := by
  have nd := scRenamed.nd
  refine cal_of D scRenamed (fun vs H Q E h => ?_) (fun f cdv A outer s0 H vs Q E hr h => ?_)
  · obtain ⟨m, lg, lc, a, s, n, es, rfl, _⟩ := h
    rfl
  · obtain ⟨m, lg, lc, a, s, n, es, rfl, M0, hc, ha, ve, hn, hl, hs, q⟩ := h
    have hr1 := hr.mono (show 1 ≤ 3 by decide)
    refine ⟨_, pss_cons (ps_set (i := 3) nd rfl (.inr rfl) (pe_cl GM hr (by rfl) (pa_cons (pv 0) (pa_cons (pe_listRg (by rfl) (by rfl) T.list (prg_1 (by rfl) T.range (pv 1))) pa_nil))))
      <| pss_one (ps_ret (pe_callTy call_tuple_of (by rfl) T.tuple (by decide +kernel) (pa_cons (pe_cl GM hr (by rfl) (pa_cons (pv 0) (pa_cons
        (pe_lc (own := [("_law_one", 4), ("_law_far", 5)]) (g := gTup K 2 (gCons (gName 4) (gCons (gName 5) gNil))) (by rfl) nd (pi_list (pv 2))
        (blkOk_by (own := [("_law_one", 4), ("_law_far", 5)]) (N := nRen) (sc := defScope sRenamed) (by decide +kernel)) (fun _ _ _ _ _ => pg_tup rfl (pgs_cons (pg_name (i := 4) nd rfl (.inl rfl)) (pgs_cons (pg_name (i := 5) nd rfl (.inl rfl)) pgs_nil))) (fun _ _ _ _ _ => pts_nil)
        (fun _ _ _ _ _ => pe_cl GT (by exact hr1) (by rfl) (pa_cons (pe_ix (r := rIxL K) ix_list (pv 3) (pv 4) (fun _ _ => rfl)) (pa_cons (pe_ix (r := rIxL K) ix_list (pv 3) (pv 5) (fun _ _ => rfl)) pa_nil)))) pa_nil))) pa_nil))), ?_⟩
    refine ⟨_, rfl, _, rfl, _, rfl, RgOk.of_le (by omega) (by omega) (by omega) (by omega), fun l0 n0 => ?_⟩
    rw [NV_range]
    have s1 := same_upd (o := .lst (NV (List.range n))) n0
    have hl0 : upd H l0 (.lst (NV (List.range n))) l0 = some (.lst (NV (List.range n))) := upd_same
    have M1 := M0.same s1
    have hc1 := hc.same s1
    generalize upd H l0 (.lst (NV (List.range n))) = H1 at *
    refine ⟨m, lg, lc, l0, s, NV (List.range n), rfl, M1, .inl (sl_of hl0), by rw [NV_len, List.length_range]; omega, by rw [NV_len, List.length_range]; omega, fun H2 r1 ys hp kp2 nr1 hr1' M2 => ?_⟩
    rw [NV_len, List.length_range] at M2
    obtain ⟨p, rfl, pp⟩ := perm_NV hp
    obtain ⟨ip, pl'⟩ := isP_of_perm pp
    have hc2 := hc1.kp kp2 M1 ha
    obtain ⟨ks, k1, k2, k3⟩ := hc2
    have kl := ed_len k2
    refine ⟨_, rfl, _, rfl, a, rfl, ⟨_, sl_of k1⟩, fun D nD => lc_it (walk_list (xs := ks.map fun k => V.ref k.1)) (fun i H' => Same H2 H' ∧ EdL H' D ((renE p es).take i)) ⟨same_upd nD, [], upd_same, rfl, fun k hk => nomatch hk⟩ (fun i H' _ ⟨sm, _⟩ => sl_of (sm _ _ k1)) ?_ ?_⟩
    · rintro i x _ H4 hi ⟨sm, kd, hD, h2, h3⟩ ⟨rfl, hx⟩
      obtain ⟨k, hk, rfl⟩ := refs_get hx
      obtain ⟨e, he, ek⟩ := ed_get k2 hk
      have tk : Tp H4 k.1 (pl e) := by
        rw [← ek]
        exact sm _ _ (k3 k (List.mem_of_getElem? hk))
      have eb := ve e (List.mem_of_getElem? he)
      have hn2 := sm _ _ hr1'
      have g1 : p[e.1]? = some (ap p e.1) := ap_get (by omega)
      have g2 : p[e.2]? = some (ap p e.2) := ap_get (by omega)
      refine ⟨k.1, _, rfl, sq_of tk, rfl, _, _, rfl, _, _, rfl, rfl, rfl, ?_⟩
      refine ⟨_, rfl, _, rfl, r1, _, _, _, rfl, rfl, sl_of hn2, atI_nat (NV_get g1), _, rfl, _, rfl, r1, _, _, _, rfl, rfl, sl_of hn2, atI_nat (NV_get g2), ?_⟩
      refine ⟨_, _, rfl, fun H5 r s5 nr hr5 => ?_⟩
      have e2 : (renE p es).take (i + 1) = (renE p es).take i ++ [tieF (ap p e.1) (ap p e.2)] := by
        unfold renE
        rw [List.take_add_one, List.getElem?_map, he]
        rfl
      refine ⟨_, s5 _ _ hD, ?_, fun b o eb2 => ?_, ?_⟩
      · rw [nv_len, ed_len h2, List.length_take]
        unfold renE
        rw [List.length_map]
        exact Nat.lt_of_le_of_lt (Nat.min_le_right _ _) (small1000 (by omega))
      · rw [upd_ne (ne_of_none eb2 nD)]
        exact s5 _ _ (sm _ _ eb2)
      · rw [e2]
        exact edl_snoc h2 (fun k hk => s5 _ _ (h3 k hk)) hr5 (s5 _ _ hD)
    · rintro H4 ⟨sm, hD⟩
      rw [nv_len, kl] at hD
      have e : (renE p es).take es.length = renE p es := List.take_of_length_le (by unfold renE; rw [List.length_map]; exact Nat.le_refl _)
      rw [e] at hD
      obtain ⟨kd, hD, h2, h3⟩ := hD
      have M4 := M2.same sm
      have kl2 : kd.length = es.length := by
        rw [ed_len h2]
        unfold renE
        rw [List.length_map]
      refine ⟨m, lg, lc, D, s + n, kd.map (fun k => V.ref k.1), rfl, M4, .inl (sl_of hD), by rw [nv_len]; omega, by rw [nv_len]; omega, fun H5 r ys hp5 kp5 nr hr5 M5 => ?_⟩
      rw [nv_len, kl2] at M5
      obtain ⟨js, jp, rfl⟩ := perm_map_inv (fun k : Addr × List Nat => V.ref k.1) hp5 kd rfl
      obtain ⟨fs, fp, fe⟩ := perm_map_inv pl (jp.map (·.2)) (renE p es) h2
      refine ⟨r, _, rfl, .inl ⟨sl_of hr5, fun t nt => ?_⟩⟩
      have sz := same_upd (o := .tup (js.map fun k => V.ref k.1)) nt
      have kall := (((Kp.same s1).trans kp2).trans (Kp.same sm)).trans kp5
      exact q _ t p fs ip pl' fp (kall.trans (Kp.same sz)) (kall.free M5 nt) ⟨js, upd_same, fe, fun k hk => sz _ _ (kp5.tup M4 (h3 k (jp.mem_iff.mp hk)))⟩ (M5.same sz)
end
end Hw

namespace Hw
open PySem PySem.Spec PyProof.Rows L2
section
variable {P : Program} {w : World} {K : PySem.W.Frag} {mg : Str → Option Value} {base : Heap}
theorem edl_one {H : Hp} {r l : Addr} {e : Ed} (h : Tp H r (pl e)) (nl : H l = none) : EdL (upd H l (.lst [V.ref r])) l [e] :=
  ⟨[(r, pl e)], upd_same, rfl, fun k hk => by
    rw [List.mem_singleton.mp hk]
    exact same_upd nl _ _ h⟩
/-- the two lists joined -/
theorem edl_cat {H : Hp} {a b : Addr} {es fs : List Ed} (ha : EdL H a es) (hb : EdL H b fs) (le : es.length + fs.length ≤ 1000) {Q : VK}
    (q : ∀ l H', H l = none → Same H H' → EdL H' l (es ++ fs) → Q (.ref l) H') : rCat (.ref a) (.ref b) H Q := by
  obtain ⟨ks, k1, k2, k3⟩ := ha
  obtain ⟨js, j1, j2, j3⟩ := hb
  refine ⟨a, b, _, _, rfl, rfl, k1, j1, ?_, fun l nl => ?_⟩
  · rw [nv_len, nv_len, ed_len k2, ed_len j2]
    exact Nat.le_of_lt (small1000 le)
  · exact q l _ nl (same_upd nl) (edl_app k2 k3 j2 j3 nl)
/-- how a network is returned -/
theorem ties_ret {m lg lc : Addr} {H H' : Hp} {s n s' : Nat} {b : Addr} {es : List Ed} {N : L2.St → Hp → Prop} {Q : VK} {v1 v2 v3 v5 v6 v7 v8 v9 : Option V}
    (q : ∀ H' t r n es s', CN n es → n ≤ 12 → es.length ≤ 16 → Kp m lg H H' → H t = none → H r = none → H' t = some (.tup [.int (n : Int), .ref r]) → EdT H' r es → s' ≤ s + 300 → MOk H' m lg lc s' → Q (.ref t) H')
    (kp : Kp m lg H H') (M : MOk H' m lg lc s') (hs' : s' ≤ s + 200) (h8 : s ≤ 80000) (hb : EdL H' b es) (nb : b ≠ lg) (cn : CN n es) (hn : n ≤ 12) (hl : es.length ≤ 16) :
    tRet (tTup (tCons (tCal spTop (tCons (tVar 4) tNil)) (tCons (tCal spRenamed (tCons (tVar 0) (tCons (tCal spTop (tCons (tVar 4) tNil)) (tCons (tVar 4) tNil)))) tNil))) { nx := N, rt := Q }
      [some (V.ref m), v1, v2, v3, some (V.ref b), v5, v6, v7, v8, v9] H' := by
  refine ⟨_, rfl, b, es, rfl, hb, by omega, fun H3 sm3 => ?_⟩
  rw [top_eq cn]
  refine ⟨_, rfl, _, rfl, b, es, rfl, hb.same sm3, by omega, fun H4 sm4 => ?_⟩
  rw [top_eq cn]
  have sm := sm3.trans sm4
  refine ⟨_, rfl, m, lg, lc, b, s', n, es, rfl, M.same sm, hb.same sm, nb, cn.2.1, by omega, by omega, by omega, fun H5 t p fs ip pl' pf kp5 nt ht M5 => ⟨by show 2 ≤ sizeLine; decide, fun r nr => ?_⟩⟩
  have x := same_upd (o := .tup [V.int (n : Int), V.ref t]) nr
  have kall := (kp.trans (Kp.same sm)).trans kp5
  have fl : fs.length = es.length := by
    rw [pf.length_eq]
    unfold renE
    rw [List.length_map]
  have fr := kall.free M5 nr
  exact q _ r t n fs _ ((cn.ren ip pl').perm pf) hn (by omega) (kall.trans (Kp.same x)) fr ((kp.trans (Kp.same sm)).free (M.same sm) nt) upd_same (ht.same x) (by omega) (M5.same x)
def spTies : Sp := fun vs H Q _ => ∃ (m lg lc : Addr) (s cores tails more : Nat), vs = [.ref m, .int (cores : Int), .int (tails : Int), .int (more : Int)] ∧ MOk H m lg lc s ∧ s ≤ 80000 ∧ 1 ≤ cores ∧ cores ≤ 10 ∧ tails ≤ 10 ∧ more ≤ 10 ∧
  ∀ H' t r n es s', CN n es → n ≤ 12 → es.length ≤ 16 → Kp m lg H H' → H t = none → H r = none → H' t = some (.tup [.int (n : Int), .ref r]) → EdT H' r es → s' ≤ s + 300 → MOk H' m lg lc s' → Q (.ref t) H'
abbrev nTies : List Str := ["_law_m", "_law_cores", "_law_tails", "_law_more", "_law_ties_here", "_law_n", "_law_low", "_law_hinge", "_law_top_here", "_law_spot"]
theorem scTies : FnScope nTies ["_law_m", "_law_cores", "_law_tails", "_law_more"] (defScope sTies) := ⟨rfl, rfl, rfl, by decide +kernel, rfl, by decide +kernel, by decide +kernel⟩
structure TieC (P : Program) (w : World) (K : PySem.W.Frag) (mg : Str → Option Value) (base : Heap) : Prop where
  tie : Cal P w K mg base "_law_tie" 1 spTie
  draw : Cal P w K mg base "_law_draw" 2 spDraw
  top : Cal P w K mg base "_law_top" 1 spTop
  core : Cal P w K mg base "_law_core" 3 spCore
  shifted : Cal P w K mg base "_law_shifted" 2 spShifted
  tree : Cal P w K mg base "_law_tree" 3 spTree
  renamed : Cal P w K mg base "_law_renamed" 4 spRenamed
theorem cal_ties (T : Txt mg) (C : TieC P w K mg base) (D : Df K mg "_law_ties" sTies ["_law_m", "_law_cores", "_law_tails", "_law_more"]) : Cal P w K mg base "_law_ties" 5 spTies := by
  have nd := scTies.nd
  refine cal_of D scTies (fun vs H Q E h => ?_) (fun f cdv A outer s0 H vs Q E hr h => ?_)
  · obtain ⟨m, lg, lc, s, cores, tails, more, rfl, _⟩ := h
    rfl
  · obtain ⟨m, lg, lc, s, cores, tails, more, rfl, M0, hs, c1, c2, ht, hm, q⟩ := h
    have hr1 := hr.mono (show 1 ≤ 4 by decide)
    have hr2 := hr.mono (show 2 ≤ 4 by decide)
    have hr3 := hr.mono (show 3 ≤ 4 by decide)
    refine ⟨_, pss_cons (ps_set (i := 4) nd rfl (.inl rfl) (pe_cl C.core hr3 (by rfl) (pa_cons (pv 0) pa_nil)))
      <| pss_cons (ps_for PassesOwn.never rfl (pi_range1 (by rfl) T.range (pa_cons (pe_op op_sub (pv 1) pe_int) pa_nil)) (pg_name (i := 5) nd rfl (.inl rfl))
          (pss_cons (ps_par (i := 6) (j := 7) (by rfl) nd rfl rfl (by decide) rfl rfl (pa_cons (pe_cl C.top hr1 (by rfl) (pa_cons (pv 4) pa_nil)) (pa_cons (pe_cl C.draw hr2 (by rfl) (pa_cons (pv 0) (pa_cons (pe_cl C.top hr1 (by rfl) (pa_cons (pv 4) pa_nil)) pa_nil))) pa_nil)) (by rfl))
          <| pss_cons (ps_if (pt_cmpR op_gt (pe_cl C.draw hr2 (by rfl) (pa_cons (pv 0) (pa_cons pe_int pa_nil))) pe_int (nomark _))
              (pss_one (ps_par3 (i := 4) (j := 7) (l := 6) (by rfl) nd rfl rfl rfl (by decide) (by decide) (by decide) rfl rfl rfl (pa_cons (pe_op op_cat (pv 4) (pe_lst (pa_cons (pe_cl C.tie hr1 (by rfl) (pa_cons (pv 7) (pa_cons (pv 6) pa_nil))) pa_nil))) (pa_cons (pv 6) (pa_cons (pe_op op_add (pv 6) pe_int) pa_nil))) (by rfl))) pss_nil)
          <| pss_one (ps_set (i := 4) nd rfl (.inl rfl) (pe_op op_cat (pv 4) (pe_cl C.shifted hr2 (by rfl) (pa_cons (pe_cl C.core hr3 (by rfl) (pa_cons (pv 0) pa_nil)) (pa_cons (pv 6) (pa_cons (pv 7) pa_nil))))))))
      <| pss_cons (ps_set (i := 8) nd rfl (.inl rfl) (pe_cl C.top hr1 (by rfl) (pa_cons (pv 4) pa_nil)))
      <| pss_cons (ps_set (i := 4) nd rfl (.inl rfl) (pe_op op_cat (pv 4) (pe_cl C.tree hr3 (by rfl) (pa_cons (pv 0) (pa_cons (pe_op op_add (pv 8) (pv 2)) (pa_cons (pv 8) pa_nil))))))
      <| pss_cons (ps_for PassesOwn.never rfl (pi_range1 (by rfl) T.range (pa_cons (pv 3) pa_nil)) (pg_name (i := 5) nd rfl (.inl rfl))
          (pss_cons (ps_set (i := 9) nd rfl (.inl rfl) (pe_cl C.draw hr2 (by rfl) (pa_cons (pv 0) (pa_cons (pe_cl C.top hr1 (by rfl) (pa_cons (pv 4) pa_nil)) pa_nil))))
          <| pss_one (ps_set (i := 4) nd rfl (.inl rfl) (pe_op op_cat (pv 4) (pe_lst (pa_cons (pe_cl C.tie hr1 (by rfl) (pa_cons (pv 9) (pa_cons (pe_cl C.draw hr2 (by rfl) (pa_cons (pv 0) (pa_cons (pe_cl C.top hr1 (by rfl) (pa_cons (pv 4) pa_nil)) pa_nil))) pa_nil))) pa_nil))))))
      <| pss_cons (ps_if (PW.pt (pw_or (pt_cmpR op_gt (pe_cl C.top hr1 (by rfl) (pa_cons (pv 4) pa_nil)) pe_int (nomark _)) (pw_or1 (pt_cmpR op_gt (pe_callB cr_len (by rfl) T.len PySem.boot_len (pa_cons (pv 4) pa_nil)) pe_int (nomark _)))))
          (pss_one (ps_set (i := 4) nd rfl (.inl rfl) (pe_cl C.core hr3 (by rfl) (pa_cons (pv 0) pa_nil)))) pss_nil)
      <| pss_one (ps_ret (pe_tup (pa_cons (pe_cl C.top hr1 (by rfl) (pa_cons (pv 4) pa_nil)) (pa_cons (pe_cl C.renamed hr (by rfl) (pa_cons (pv 0) (pa_cons (pe_cl C.top hr1 (by rfl) (pa_cons (pv 4) pa_nil)) (pa_cons (pv 4) pa_nil)))) pa_nil)))), ?_⟩
    -- the first core
    refine ⟨_, rfl, m, lg, lc, s, rfl, M0, by omega, fun H1 b1 c s1 hc kp1 nb1 hb1 hs1 M1 => ?_⟩
    obtain ⟨cn1, ct1, cl1⟩ := menu_ok hc
    have nb1' : b1 ≠ lg := by
      obtain ⟨cs, gs, x1, x2, x3, _⟩ := M0
      exact (ne_of_none x3 nb1).symm
    have ec : (cores : Int) - 1 = ((cores - 1 : Nat) : Int) := by omega
    refine ⟨_, rfl, _, _, rfl, rfl, _, rfl, by omega, by omega, ?_⟩
    rw [ec, Int.toNat_natCast]
    refine for_it walk_rg0 (fun i σ H' => ∃ b n es s' v5 v6 v7 v8 v9, σ = [some (.ref m), some (.int (cores : Int)), some (.int (tails : Int)), some (.int (more : Int)), some (.ref b), v5, v6, v7, v8, v9] ∧ Kp m lg H H' ∧ MOk H' m lg lc s' ∧ s' ≤ s + 3 + 5 * i ∧ EdL H' b es ∧ b ≠ lg ∧ CN n es ∧ n ≤ 5 + 5 * i ∧ es.length ≤ 8 + 9 * i)
      ⟨b1, topOf c, c, s1, none, none, none, none, none, rfl, kp1, M1, by omega, hb1, nb1', cn1, by omega, by omega⟩ (fun _ _ _ _ _ => trivial) ?_ ?_
    · rintro i x σ _ H2 hi ⟨b, n, es, s2, v5, v6, v7, v8, v9, rfl, kp, M, hs2, hb, nb, cn, hn, hl⟩ ⟨rfl, rfl⟩
      refine ⟨_, rfl, b, es, rfl, hb, by omega, fun H3 sm3 => ?_⟩
      rw [top_eq cn]
      refine ⟨_, rfl, _, rfl, b, es, rfl, hb.same sm3, by omega, fun H4 sm4 => ?_⟩
      rw [top_eq cn]
      have M4 := (M.same sm3).same sm4
      have hb4 := (hb.same sm3).same sm4
      have n1 := cn.1
      refine ⟨m, lg, lc, s2, n, rfl, M4, by omega, by omega, by omega, fun H5 d hd kp5 M5 => ?_⟩
      have hb5 := hb4.kp kp5 M4 nb
      have kpA := ((kp.trans (Kp.same sm3)).trans (Kp.same sm4)).trans kp5
      refine ⟨_, _, rfl, ?_⟩
      refine ⟨_, rfl, m, lg, lc, s2 + 1, 3, rfl, M5, by omega, by omega, by omega, fun H6 e he kp6 M6 => ?_⟩
      have hb6 := hb5.kp kp6 M5 nb
      have kpB := kpA.trans kp6
      refine ⟨_, _, rfl, rfl, _, rfl, ite2 (fun z => ?_) (fun z => ?_)⟩
      · -- a bridge to the new core
        refine ⟨_, rfl, _, rfl, _, rfl, d, n, rfl, fun H7 r sm7 nr hr7 => ⟨by show 1 ≤ sizeLine; decide, fun l1 nl1 => ?_⟩⟩
        rw [tie_lt hd] at hr7
        have x1 := same_upd (o := .lst [V.ref r]) nl1
        have one := edl_one hr7 nl1
        have hb7 := (hb6.same sm7).same x1
        have M7 := (M6.same sm7).same x1
        generalize upd H7 l1 (.lst [V.ref r]) = H8 at *
        refine edl_cat hb7 one (by show es.length + 1 ≤ 1000; omega) fun l2 H9 nl2 x2 hl2 => ?_
        have M9 := M7.same x2
        have a2 := M7.new nl2
        have kpC := ((kpB.trans (Kp.same sm7)).trans (Kp.same x1)).trans (Kp.same x2)
        refine ⟨_, rfl, _, rfl, _, _, rfl, rfl, _, _, _, rfl, ?_⟩
        have cn' := cn.leaf hd
        refine ⟨_, rfl, _, rfl, m, lg, lc, s2 + 2, rfl, M9, by omega, fun HA rc c' s3 hc' kpA' nrc hrc hs3 MA => ?_⟩
        obtain ⟨cn3, ct3, cl3⟩ := menu_ok hc'
        have hl2' := hl2.kp kpA' M9 a2.1
        refine ⟨_, rfl, _, rfl, rc, c', n + 1, n, rfl, hrc, cn3.2.1.mono (by omega), by omega, by omega, fun HB rs smB nrs hrs => ?_⟩
        refine edl_cat (hl2'.same smB) hrs (by rw [List.length_append]; unfold shiftE; rw [List.length_map]; show es.length + 1 + _ ≤ 1000; omega) fun l3 HC nl3 x3 hl3 => ?_
        have MC := (MA.same smB).same x3
        have a3 := (MA.same smB).new nl3
        have kpD := ((kpC.trans kpA').trans (Kp.same smB)).trans (Kp.same x3)
        refine ⟨l3, n + 1 + topOf c' - 1, _, s3, _, _, _, _, _, rfl, kpD, MC, by omega, hl3, a3.1, cn'.core cn3 (Nat.lt_succ_self n), by omega, ?_⟩
        rw [List.length_append, List.length_append]
        unfold shiftE
        rw [List.length_map]
        show es.length + 1 + _ ≤ _
        omega
      · -- the new core at a place
        refine ⟨_, rfl, _, rfl, m, lg, lc, s2 + 2, rfl, M6, by omega, fun HA rc c' s3 hc' kpA' nrc hrc hs3 MA => ?_⟩
        obtain ⟨cn3, ct3, cl3⟩ := menu_ok hc'
        have hl2' := hb6.kp kpA' M6 nb
        refine ⟨_, rfl, _, rfl, rc, c', n, d, rfl, hrc, cn3.2.1.mono (by omega), by omega, by omega, fun HB rs smB nrs hrs => ?_⟩
        refine edl_cat (hl2'.same smB) hrs (by unfold shiftE; rw [List.length_map]; omega) fun l3 HC nl3 x3 hl3 => ?_
        have MC := (MA.same smB).same x3
        have a3 := (MA.same smB).new nl3
        have kpD := ((kpB.trans kpA').trans (Kp.same smB)).trans (Kp.same x3)
        refine ⟨l3, n + topOf c' - 1, _, s3, _, _, _, _, _, rfl, kpD, MC, by omega, hl3, a3.1, cn.core cn3 hd, by omega, ?_⟩
        rw [List.length_append]
        unfold shiftE
        rw [List.length_map]
        omega
    · rintro σ H2 ⟨b, n, es, s2, v5, v6, v7, v8, v9, rfl, kp, M, hs2, hb, nb, cn, hn, hl⟩
      have n1 := cn.1
      refine ⟨_, rfl, b, es, rfl, hb, by omega, fun H3 sm3 => ?_⟩
      rw [top_eq cn]
      have M3 := M.same sm3
      have hb3 := hb.same sm3
      have kp3 := kp.trans (Kp.same sm3)
      refine ⟨_, rfl, _, rfl, _, rfl, _, rfl, _, _, rfl, rfl, _, rfl, m, lg, lc, s2, n + tails, n, rfl, M3, n1, by omega, by omega, by omega, fun H4 r f s4 kp4 nr hf hr hs4 M4 => ?_⟩
      rw [show n + tails - n = tails by omega] at hf hr
      have cn' := cn.tree f tails hf
      refine edl_cat (hb3.kp kp4 M3 nb) hr (by unfold tailE; rw [List.length_map, List.length_range]; omega) fun l1 H5 nl1 x1 hl1 => ?_
      have M5 := M4.same x1
      have a1 := (M4.new nl1).1
      have kp5 := (kp3.trans kp4).trans (Kp.same x1)
      have le5 : (es ++ tailE f n tails).length ≤ 99 := by
        rw [List.length_append]
        unfold tailE
        rw [List.length_map, List.length_range]
        omega
      have n5 : n + tails ≤ 60 := by omega
      have cn5 : CN (n + tails) (es ++ tailE f n tails) := cn'
      have hs5 : s4 ≤ s + 110 := by omega
      clear cn' cn hl hn hf hr hb3 kp4 kp3 M3 M4 hb kp M sm3
      generalize es ++ tailE f n tails = es5 at *
      generalize n + tails = k5 at *
      refine ⟨_, rfl, _, rfl, by omega, by omega, ?_⟩
      rw [Int.toNat_natCast]
      refine for_it walk_rg0 (fun i σ H' => ∃ b es s' v5 v6 v7 v8 v9, σ = [some (.ref m), some (.int (cores : Int)), some (.int (tails : Int)), some (.int (more : Int)), some (.ref b), v5, v6, v7, v8, v9] ∧ Kp m lg H H' ∧ MOk H' m lg lc s' ∧ s' ≤ s + 110 + 2 * i ∧ EdL H' b es ∧ b ≠ lg ∧ CN k5 es ∧ es.length ≤ 99 + i)
        ⟨l1, es5, s4, _, _, _, _, _, rfl, kp5, M5, by omega, hl1, a1, cn5, by omega⟩ (fun _ _ _ _ _ => trivial) ?_ ?_
      · clear hl1 kp5 M5 cn5 le5
        rintro i x σ _ H2 hi ⟨b, es, s2, v5, v6, v7, v8, v9, rfl, kp, M, hs2, hb, nb, cn, hl⟩ ⟨rfl, rfl⟩
        have n1 := cn.1
        refine ⟨_, rfl, _, rfl, b, es, rfl, hb, by omega, fun H3 sm3 => ?_⟩
        rw [top_eq cn]
        refine ⟨m, lg, lc, s2, k5, rfl, M.same sm3, by omega, by omega, by omega, fun H4 d hd kp4 M4 => ?_⟩
        have hb4 := (hb.same sm3).kp kp4 (M.same sm3) nb
        refine ⟨_, rfl, _, rfl, _, rfl, _, rfl, b, es, rfl, hb4, by omega, fun H5 sm5 => ?_⟩
        rw [top_eq cn]
        refine ⟨m, lg, lc, s2 + 1, k5, rfl, M4.same sm5, by omega, by omega, by omega, fun H6 e he kp6 M6 => ?_⟩
        have hb6 := (hb4.same sm5).kp kp6 (M4.same sm5) nb
        refine ⟨d, e, rfl, fun H7 r sm7 nr hr7 => ⟨by show 1 ≤ sizeLine; decide, fun l1 nl1 => ?_⟩⟩
        have x1 := same_upd (o := .lst [V.ref r]) nl1
        have one := edl_one hr7 nl1
        have hb7 := (hb6.same sm7).same x1
        have M7 := (M6.same sm7).same x1
        generalize upd H7 l1 (.lst [V.ref r]) = H8 at *
        refine edl_cat hb7 one (by show es.length + 1 ≤ 1000; omega) fun l2 H9 nl2 x2 hl2 => ?_
        refine ⟨l2, _, s2 + 2, _, _, _, _, _, rfl, ((((((kp.trans (Kp.same sm3)).trans kp4).trans (Kp.same sm5)).trans kp6).trans (Kp.same sm7)).trans (Kp.same x1)).trans (Kp.same x2), M7.same x2, by omega, hl2, (M7.new nl2).1, cn.more hd he, ?_⟩
        rw [List.length_append]
        show es.length + 1 ≤ _
        omega
      · clear hl1 kp5 M5 cn5 le5
        rintro σ H2 ⟨b, es, s2, v5, v6, v7, v8, v9, rfl, kp, M, hs2, hb, nb, cn, hl⟩
        have n1 := cn.1
        refine ⟨_, rfl, b, es, rfl, hb, by omega, fun H3 sm3 => ?_⟩
        rw [top_eq cn]
        have M3 := M.same sm3
        have hb3 := hb.same sm3
        have kp3 := kp.trans (Kp.same sm3)
        obtain ⟨ks, hk1, hk2, hk3⟩ := id hb3
        have hlen : ks.length = es.length := ed_len hk2
        refine ⟨_, _, rfl, rfl, _, rfl, ite2 (fun z => iteT ?_) (fun z => ?_)⟩
        · refine ⟨_, rfl, m, lg, lc, s2, rfl, M3, by omega, fun H5 b1 c s1 hc kp1 nb1 hb1 hs1 M1 => ?_⟩
          obtain ⟨cn1, ct1, cl1⟩ := menu_ok hc
          exact ties_ret q (kp3.trans kp1) M1 (by omega) hs hb1 (by
            obtain ⟨cs, gs, x1, x2, x3, _⟩ := M3
            exact (ne_of_none x3 nb1).symm) cn1 (by omega) (by omega)
        · refine ⟨_, rfl, b, _, rfl, .inl (sl_of hk1), ?_⟩
          refine ⟨_, _, rfl, rfl, _, rfl, ite2 (fun z2 => ?_) (fun z2 => ?_)⟩
          · refine ⟨_, rfl, m, lg, lc, s2, rfl, M3, by omega, fun H5 b1 c s1 hc kp1 nb1 hb1 hs1 M1 => ?_⟩
            obtain ⟨cn1, ct1, cl1⟩ := menu_ok hc
            exact ties_ret q (kp3.trans kp1) M1 (by omega) hs hb1 (by
              obtain ⟨cs, gs, x1, x2, x3, _⟩ := M3
              exact (ne_of_none x3 nb1).symm) cn1 (by omega) (by omega)
          · rw [nv_len, hlen] at z2
            have z1' : ¬ ((12 : Int) < (k5 : Int)) := fun h => z (decide_eq_true h)
            have z2' : ¬ ((16 : Int) < (es.length : Int)) := fun h => z2 (decide_eq_true h)
            exact ties_ret q kp3 M3 (by omega) hs hb3 nb cn (by omega) (by omega)
end
end Hw

/-! Sets of places that grow along passages; bridges and cells. No Python here. -/
namespace Hw
/-- the passages that count: those numbers that ok takes -/
def okE (ok : Nat → Bool) (es : List Ed) : List Ed := ((List.range es.length).filter ok).map fun j => es.getD j (0, 0)
theorem mem_okE {ok : Nat → Bool} {es : List Ed} {e : Ed} : e ∈ okE ok es ↔ ∃ j, ok j = true ∧ es[j]? = some e := by
  unfold okE
  constructor
  · intro h
    obtain ⟨j, hj, rfl⟩ := List.mem_map.mp h
    obtain ⟨h1, h2⟩ := List.mem_filter.mp hj
    have hl := List.mem_range.mp h1
    refine ⟨j, h2, ?_⟩
    rw [List.getD_eq_getElem?_getD, List.getElem?_eq_getElem hl]
    rfl
  · rintro ⟨j, h1, h2⟩
    have hl := (List.getElem?_eq_some_iff.mp h2).1
    refine List.mem_map.mpr ⟨j, List.mem_filter.mpr ⟨List.mem_range.mpr hl, h1⟩, ?_⟩
    rw [List.getD_eq_getElem?_getD, h2]
    rfl
theorem okE_ve {n : Nat} {ok : Nat → Bool} {es : List Ed} (h : VE n es) : VE n (okE ok es) := fun e m => by
  obtain ⟨j, _, hj⟩ := mem_okE.mp m
  exact h e (List.mem_of_getElem? hj)
theorem Rch.iff {es fs : List Ed} (h : ∀ e, e ∈ es ↔ e ∈ fs) {u v : Nat} : Rch es u v ↔ Rch fs u v :=
  ⟨fun r => r.mono fun e m => (h e).mp m, fun r => r.mono fun e m => (h e).mpr m⟩
theorem mem_erase {es : List Ed} {i : Nat} {e : Ed} : e ∈ es.eraseIdx i ↔ e ∈ okE (fun j => decide (j ≠ i)) es := by
  rw [mem_okE, List.mem_eraseIdx_iff_getElem?]
  constructor
  · rintro ⟨j, h1, h2⟩
    exact ⟨j, decide_eq_true h1, h2⟩
  · rintro ⟨j, h1, h2⟩
    exact ⟨j, of_decide_eq_true h1, h2⟩
/-- a step: the other end comes in -/
def gStep (S : List Nat) (e : Ed) : List Nat := if (decide (e.1 ∈ S)) = (decide (e.2 ∈ S)) then S else S ++ [if e.2 ∈ S then e.1 else e.2]
def gTo (ok : Nat → Bool) (es : List Ed) (S : List Nat) : Nat → List Nat
  | 0 => S
  | k + 1 => if ok k then gStep (gTo ok es S k) (es.getD k (0, 0)) else gTo ok es S k
def gN (ok : Nat → Bool) (es : List Ed) (s : Nat) : Nat → List Nat
  | 0 => [s]
  | k + 1 => gTo ok es (gN ok es s k) es.length
theorem gStep_sub (S : List Nat) (e : Ed) : ∀ x ∈ S, x ∈ gStep S e := fun x h => by
  unfold gStep
  split
  · exact h
  · exact List.mem_append_left _ h
theorem gStep_len (S : List Nat) (e : Ed) : S.length ≤ (gStep S e).length ∧ ((gStep S e).length = S.length → gStep S e = S ∧ (e.1 ∈ S ↔ e.2 ∈ S)) := by
  unfold gStep
  split
  · rename_i h
    refine ⟨Nat.le_refl _, fun _ => ⟨rfl, ?_⟩⟩
    by_cases a : e.1 ∈ S <;> by_cases b : e.2 ∈ S <;> simp [a, b] at h ⊢
  · rw [List.length_append]
    refine ⟨Nat.le_add_right _ _, fun z => ?_⟩
    simp at z
structure GOk (n : Nat) (fs : List Ed) (s : Nat) (S : List Nat) : Prop where
  nd : S.Nodup
  lt : ∀ x ∈ S, x < n
  to : ∀ x ∈ S, Rch fs s x
  st : s ∈ S
theorem gStep_ok {n : Nat} {fs : List Ed} {s : Nat} {S : List Nat} (h : GOk n fs s S) {e : Ed} (he : e ∈ fs) (h1 : e.1 < n) (h2 : e.2 < n) : GOk n fs s (gStep S e) := by
  unfold gStep
  split
  · exact h
  · rename_i ne
    have ad : adj fs e.1 e.2 := .inl he
    by_cases b : e.2 ∈ S
    · have a : e.1 ∉ S := fun a => ne (by simp [a, b])
      rw [if_pos b]
      refine ⟨?_, fun x hx => ?_, fun x hx => ?_, List.mem_append_left _ h.st⟩
      · rw [List.nodup_append]
        exact ⟨h.nd, by simp, fun x hx y hy => by rw [List.mem_singleton.mp hy]; exact fun z => a (z ▸ hx)⟩
      · rcases List.mem_append.mp hx with m | m
        · exact h.lt x m
        · rw [List.mem_singleton.mp m]; exact h1
      · rcases List.mem_append.mp hx with m | m
        · exact h.to x m
        · rw [List.mem_singleton.mp m]; exact (h.to _ b).step (adj_symm ad)
    · have a : e.1 ∈ S := Decidable.byContradiction fun a => ne (by simp [a, b])
      rw [if_neg b]
      refine ⟨?_, fun x hx => ?_, fun x hx => ?_, List.mem_append_left _ h.st⟩
      · rw [List.nodup_append]
        exact ⟨h.nd, by simp, fun x hx y hy => by rw [List.mem_singleton.mp hy]; exact fun z => b (z ▸ hx)⟩
      · rcases List.mem_append.mp hx with m | m
        · exact h.lt x m
        · rw [List.mem_singleton.mp m]; exact h2
      · rcases List.mem_append.mp hx with m | m
        · exact h.to x m
        · rw [List.mem_singleton.mp m]; exact (h.to _ a).step ad
section
variable {n : Nat} {es : List Ed} (ve : VE n es) {ok : Nat → Bool} {s : Nat}
include ve
theorem gTo_ok {S : List Nat} (h : GOk n (okE ok es) s S) : ∀ k, k ≤ es.length → GOk n (okE ok es) s (gTo ok es S k)
  | 0, _ => h
  | k + 1, hk => by
    have ih := gTo_ok h k (by omega)
    unfold gTo
    split
    · rename_i c
      have he : es[k]? = some (es.getD k (0, 0)) := by
        rw [List.getD_eq_getElem?_getD, List.getElem?_eq_getElem (by omega)]
        rfl
      have b := ve _ (List.mem_of_getElem? he)
      exact gStep_ok ih (mem_okE.mpr ⟨k, c, he⟩) (by omega) b.2
    · exact ih
omit ve in
theorem gTo_len (S : List Nat) : ∀ k, S.length ≤ (gTo ok es S k).length ∧ ((gTo ok es S k).length = S.length → gTo ok es S k = S ∧ ∀ j, j < k → ok j = true → ((es.getD j (0, 0)).1 ∈ S ↔ (es.getD j (0, 0)).2 ∈ S))
  | 0 => ⟨Nat.le_refl _, fun _ => ⟨rfl, fun j hj => absurd hj (Nat.not_lt_zero _)⟩⟩
  | k + 1 => by
    obtain ⟨i1, i2⟩ := gTo_len S k
    unfold gTo
    split
    · rename_i c
      obtain ⟨a1, a2⟩ := gStep_len (gTo ok es S k) (es.getD k (0, 0))
      refine ⟨Nat.le_trans i1 a1, fun z => ?_⟩
      obtain ⟨j1, j2⟩ := i2 (by omega)
      obtain ⟨b1, b2⟩ := a2 (by omega)
      refine ⟨b1.trans j1, fun j hj o => ?_⟩
      by_cases e : j = k
      · subst e
        rw [j1] at b2
        exact b2
      · exact j2 j (by omega) o
    · rename_i c
      refine ⟨i1, fun z => ?_⟩
      obtain ⟨j1, j2⟩ := i2 z
      refine ⟨j1, fun j hj o => ?_⟩
      by_cases e : j = k
      · subst e
        exact absurd o c
      · exact j2 j (by omega) o
def Cl (ok : Nat → Bool) (es : List Ed) (S : List Nat) : Prop := ∀ j e, ok j = true → es[j]? = some e → (e.1 ∈ S ↔ e.2 ∈ S)
omit ve in
theorem cl_gTo {S : List Nat} (h : Cl ok es S) : ∀ k, k ≤ es.length → gTo ok es S k = S
  | 0, _ => rfl
  | k + 1, hk => by
    unfold gTo
    rw [cl_gTo h k (by omega)]
    split
    · rename_i c
      have he : es[k]? = some (es.getD k (0, 0)) := by
        rw [List.getD_eq_getElem?_getD, List.getElem?_eq_getElem (by omega)]
        rfl
      have := h k _ c he
      unfold gStep
      rw [if_pos]
      by_cases a : (es.getD k (0, 0)).1 ∈ S
      · rw [decide_eq_true a, decide_eq_true (this.mp a)]
      · rw [decide_eq_false a, decide_eq_false fun b => a (this.mpr b)]
    · rfl
theorem gN_ok (hs : s < n) : ∀ r, GOk n (okE ok es) s (gN ok es s r)
  | 0 => ⟨by unfold gN; simp, fun x hx => by unfold gN at hx; rw [List.mem_singleton.mp hx]; exact hs, fun x hx => by unfold gN at hx; rw [List.mem_singleton.mp hx]; exact .refl _, by unfold gN; simp⟩
  | r + 1 => gTo_ok ve (gN_ok hs r) _ (Nat.le_refl _)
omit ve in
theorem gN_grows : ∀ r, Cl ok es (gN ok es s r) ∨ r + 1 ≤ (gN ok es s r).length
  | 0 => .inr (by unfold gN; simp)
  | r + 1 => by
    have ih := gN_grows r
    unfold gN
    by_cases c : Cl ok es (gN ok es s r)
    · left
      rw [cl_gTo c _ (Nat.le_refl _)]
      exact c
    · right
      have ih := ih.resolve_left c
      obtain ⟨a1, a2⟩ := gTo_len (ok := ok) (es := es) (gN ok es s r) es.length
      by_cases z : (gTo ok es (gN ok es s r) es.length).length = (gN ok es s r).length
      · exfalso
        obtain ⟨_, b⟩ := a2 z
        refine c fun j e o he => ?_
        have hl := (List.getElem?_eq_some_iff.mp he).1
        have := b j hl o
        rw [List.getD_eq_getElem?_getD, he] at this
        exact this
      · omega
omit ve in
theorem cl_rch {S : List Nat} (h : Cl ok es S) {u v : Nat} (r : Rch (okE ok es) u v) (hu : u ∈ S) : v ∈ S := by
  induction r with
  | refl => exact hu
  | step _ a ih =>
    rcases a with m | m
    · obtain ⟨j, o, e⟩ := mem_okE.mp m
      exact (h j _ o e).mp ih
    · obtain ⟨j, o, e⟩ := mem_okE.mp m
      exact (h j _ o e).mpr ih
/-- after as many rounds as there are places nothing more comes in -/
theorem gN_mem (hs : s < n) (v : Nat) : v ∈ gN ok es s n ↔ Rch (okE ok es) s v := by
  have g := gN_ok (ok := ok) ve hs n
  refine ⟨g.to v, fun r => ?_⟩
  have c : Cl ok es (gN ok es s n) := (gN_grows (ok := ok) (es := es) (s := s) n).resolve_right fun z => by
    have := len_le n _ g.nd g.lt
    omega
  exact cl_rch c r g.st
theorem gN_full (hs : s < n) : (gN ok es s n).length = n ↔ ∀ v, v < n → Rch (okE ok es) s v := by
  have g := gN_ok (ok := ok) ve hs n
  constructor
  · intro z v hv
    have ip : IsP (gN ok es s n) := ⟨g.nd, fun x hx => by rw [z]; exact g.lt x hx⟩
    exact (gN_mem ve hs v).mp (isP_mem ip (by rw [z]; exact hv))
  · intro h
    have p : (gN ok es s n).Perm (List.range n) := perm_of_mem g.nd List.nodup_range fun x => ⟨fun m => List.mem_range.mpr (g.lt x m), fun m => (gN_mem ve hs x).mpr (h x (List.mem_range.mp m))⟩
    rw [p.length_eq, List.length_range]
end
end Hw

/-! Bridges and cells. No Python here. -/
namespace Hw
def cB (n : Nat) (es : List Ed) : Bool := decide (lj n es = List.replicate n 0)
def brg (n : Nat) (es : List Ed) : List Nat := (List.range es.length).filter fun i => !cB n (es.eraseIdx i)
def inn (n : Nat) (es : List Ed) : List Ed := okE (fun j => !decide (j ∈ brg n es)) es
def cls (n : Nat) (L : List Nat) (l : Nat) : List Nat := (List.range n).filter fun x => decide (ap L x = l)
def rts (n : Nat) (L : List Nat) : List Nat := (List.range n).filter fun l => decide (ap L l = l)
def celL (n : Nat) (L : List Nat) : List (List Nat) := (rts n L).map (cls n L)
def cel (n : Nat) (es : List Ed) : List (List Nat) := celL n (lj n (inn n es))
theorem ve_erase {n i : Nat} {es : List Ed} (h : VE n es) : VE n (es.eraseIdx i) := fun e m => h e (List.mem_of_mem_eraseIdx m)
theorem cB_iff {n : Nat} {es : List Ed} (h : VE n es) (hn : 1 ≤ n) : cB n es = true ↔ conn n es := by
  unfold cB
  rw [conn_iff h hn, decide_eq_true_eq]
theorem mem_brg {n : Nat} {es : List Ed} (h : CN n es) {i : Nat} : i ∈ brg n es ↔ i < es.length ∧ ¬ conn n (es.eraseIdx i) := by
  unfold brg
  rw [List.mem_filter, List.mem_range, ← cB_iff (ve_erase h.2.1) h.1]
  cases cB n (es.eraseIdx i) <;> simp
theorem brg_nodup (n : Nat) (es : List Ed) : (brg n es).Nodup := List.Nodup.sublist List.filter_sublist List.nodup_range
/-- one passage more -/
theorem Rch.add {fs gs : List Ed} {d : Ed} (h : ∀ e ∈ fs, e ∈ gs ∨ e = d) {u v : Nat} (r : Rch fs u v) : Rch gs u v ∨ (Rch gs u d.1 ∧ Rch gs v d.2) ∨ (Rch gs u d.2 ∧ Rch gs v d.1) := by
  induction r with
  | refl => exact .inl (.refl _)
  | @step v x _ a ih =>
    have go : adj gs v x → Rch gs u x ∨ (Rch gs u d.1 ∧ Rch gs x d.2) ∨ (Rch gs u d.2 ∧ Rch gs x d.1) := fun a => by
      have b := Rch.one (adj_symm a)
      rcases ih with i | ⟨i, j⟩ | ⟨i, j⟩
      · exact .inl (i.step a)
      · exact .inr (.inl ⟨i, b.trans j⟩)
      · exact .inr (.inr ⟨i, b.trans j⟩)
    rcases a with m | m
    · rcases h _ m with g | g
      · exact go (.inl g)
      · have e1 : d.1 = v := by rw [← g]
        have e2 : d.2 = x := by rw [← g]
        rw [e1, e2] at ih ⊢
        rcases ih with i | ⟨i, j⟩ | ⟨i, j⟩
        · exact .inr (.inl ⟨i, .refl _⟩)
        · exact .inl (i.trans j)
        · exact .inl i
    · rcases h _ m with g | g
      · exact go (.inr g)
      · have e1 : d.1 = x := by rw [← g]
        have e2 : d.2 = v := by rw [← g]
        rw [e1, e2] at ih ⊢
        rcases ih with i | ⟨i, j⟩ | ⟨i, j⟩
        · exact .inr (.inr ⟨i, .refl _⟩)
        · exact .inl i
        · exact .inl (i.trans j)
theorem getD_at {es : List Ed} {i : Nat} (h : i < es.length) : es[i]? = some (es.getD i (0, 0)) := by
  rw [List.getD_eq_getElem?_getD, List.getElem?_eq_getElem h]
  rfl
/-- the ends of a bridge are not joined without it -/
theorem brg_ends {n : Nat} {es : List Ed} (h : CN n es) {i : Nat} (hi : i ∈ brg n es) : ¬ Rch (es.eraseIdx i) (es.getD i (0, 0)).1 (es.getD i (0, 0)).2 := by
  obtain ⟨hl, nc⟩ := (mem_brg h).mp hi
  refine fun r => nc fun v hv => ?_
  have add := (h.2.2 v hv).add (gs := es.eraseIdx i) (d := es.getD i (0, 0)) fun e m => by
    obtain ⟨j, hj, e1⟩ := List.mem_iff_getElem.mp m
    by_cases z : j = i
    · subst z
      right
      have := getD_at hj
      rw [List.getElem?_eq_getElem hj, e1] at this
      exact Option.some.inj this
    · left
      exact List.mem_eraseIdx_iff_getElem?.mpr ⟨j, z, by rw [List.getElem?_eq_getElem hj, e1]⟩
  rcases add with a | ⟨a, b⟩ | ⟨a, b⟩
  · exact a
  · exact (a.trans r).trans b.symm
  · exact (a.trans r.symm).trans b.symm
/-- what no single passage separates is joined by passages that are no bridges -/
theorem sep {n : Nat} {es : List Ed} (h : CN n es) {u v : Nat} (hu : u < n) (hv : v < n) : Rch (inn n es) u v ↔ ∀ i, i < es.length → Rch (es.eraseIdx i) u v := by
  constructor
  · intro r i hi
    by_cases b : i ∈ brg n es
    · refine r.mono fun e m => ?_
      obtain ⟨j, o, ej⟩ := mem_okE.mp m
      refine List.mem_eraseIdx_iff_getElem?.mpr ⟨j, fun z => ?_, ej⟩
      subst z
      simp [b] at o
    · have c : conn n (es.eraseIdx i) := Classical.byContradiction fun c => b ((mem_brg h).mpr ⟨hi, c⟩)
      exact (c u hu).symm.trans (c v hv)
  · intro hs
    have main : ∀ Bs : List Nat, (∀ b ∈ Bs, b ∈ brg n es) → Rch (okE (fun j => !decide (j ∈ Bs)) es) u v := by
      intro Bs
      induction Bs with
      | nil =>
        intro _
        refine ((h.2.2 u hu).symm.trans (h.2.2 v hv)).mono fun e m => ?_
        obtain ⟨j, hj, e1⟩ := List.mem_iff_getElem.mp m
        exact mem_okE.mpr ⟨j, by simp, by rw [List.getElem?_eq_getElem hj, e1]⟩
      | cons b Bs ih =>
        intro hb
        have r := ih fun c hc => hb c (List.mem_cons_of_mem _ hc)
        have hb1 := hb b List.mem_cons_self
        have bl := ((mem_brg h).mp hb1).1
        have add := r.add (gs := okE (fun j => !decide (j ∈ b :: Bs)) es) (d := es.getD b (0, 0)) fun e m => by
          obtain ⟨j, o, ej⟩ := mem_okE.mp m
          by_cases z : j = b
          · subst z
            right
            rw [getD_at bl] at ej
            exact (Option.some.inj ej).symm
          · left
            refine mem_okE.mpr ⟨j, ?_, ej⟩
            simp [z] at o ⊢
            exact o
        have up : ∀ {x y}, Rch (okE (fun j => !decide (j ∈ b :: Bs)) es) x y → Rch (es.eraseIdx b) x y := fun q => q.mono fun e m => by
          obtain ⟨j, o, ej⟩ := mem_okE.mp m
          refine List.mem_eraseIdx_iff_getElem?.mpr ⟨j, fun z => ?_, ej⟩
          subst z
          simp at o
        have ends := brg_ends h hb1
        have uv := hs b bl
        rcases add with a | ⟨a, c⟩ | ⟨a, c⟩
        · exact a
        · exact absurd (((up a).symm.trans uv).trans (up c)) ends
        · exact absurd (((up c).symm.trans uv.symm).trans (up a)) ends
    exact main (brg n es) fun _ z => z
/-! ### roots -/
theorem mem_rts {n : Nat} {L : List Nat} {l : Nat} : l ∈ rts n L ↔ l < n ∧ ap L l = l := by
  unfold rts
  rw [List.mem_filter, List.mem_range, decide_eq_true_eq]
theorem mem_cls {n : Nat} {L : List Nat} {l x : Nat} : x ∈ cls n L l ↔ x < n ∧ ap L x = l := by
  unfold cls
  rw [List.mem_filter, List.mem_range, decide_eq_true_eq]
theorem rts_nodup (n : Nat) (L : List Nat) : (rts n L).Nodup := List.Nodup.sublist List.filter_sublist List.nodup_range
theorem filter_rise (n : Nat) (p : Nat → Bool) : ((List.range n).filter p).Pairwise (· < ·) := List.Pairwise.sublist List.filter_sublist (List.pairwise_lt_range)
theorem root_ap {n : Nat} {es : List Ed} {L : List Nat} (h : Lb n es L) {u : Nat} (hu : u < n) : ap L u < n ∧ ap L (ap L u) = ap L u := by
  obtain ⟨a, b⟩ := h.eq u (ap L u) (h.to u hu) hu
  exact ⟨a, b.symm⟩
theorem ap_step {n : Nat} {es : List Ed} {L : List Nat} (h : Lb n es L) (e : Ed) {u : Nat} (hu : u < n) : ap (ljStep L e) u = if ap L u = max (ap L e.1) (ap L e.2) then min (ap L e.1) (ap L e.2) else ap L u := by
  unfold ljStep
  rw [ap_map' _ (by rw [h.len]; exact hu)]
  rfl
theorem len_drop {l : List Nat} (h : l.Nodup) {a : Nat} (ha : a ∈ l) : (l.filter fun x => decide (x ≠ a)).length + 1 = l.length := by
  have e : (l.filter fun x => decide (x ≠ a)) = l.erase a := by
    rw [h.erase_eq_filter]
    exact List.filter_congr fun x _ => by by_cases z : x = a <;> simp [z]
  rw [e, List.length_erase_of_mem ha]
  have := List.length_pos_of_mem ha
  omega
theorem rts_step {n : Nat} {es : List Ed} {L : List Nat} (h : Lb n es L) {e : Ed} (h1 : e.1 < n) (h2 : e.2 < n) :
    (ap L e.1 = ap L e.2 → rts n (ljStep L e) = rts n L) ∧ (ap L e.1 ≠ ap L e.2 → (rts n (ljStep L e)).length + 1 = (rts n L).length) := by
  have r1 := root_ap h h1
  have r2 := root_ap h h2
  constructor
  · intro z
    unfold rts
    refine List.filter_congr fun x hx => ?_
    rw [ap_step h e (List.mem_range.mp hx), z, Nat.max_self, Nat.min_self]
    split
    · rename_i q; rw [q]
    · rfl
  · intro z
    have hmax : max (ap L e.1) (ap L e.2) < n ∧ ap L (max (ap L e.1) (ap L e.2)) = max (ap L e.1) (ap L e.2) := by
      rcases Nat.le_total (ap L e.1) (ap L e.2) with q | q
      · rw [Nat.max_eq_right q]; exact r2
      · rw [Nat.max_eq_left q]; exact r1
    have hmin : ap L (min (ap L e.1) (ap L e.2)) = min (ap L e.1) (ap L e.2) := by
      rcases Nat.le_total (ap L e.1) (ap L e.2) with q | q
      · rw [Nat.min_eq_left q]; exact r1.2
      · rw [Nat.min_eq_right q]; exact r2.2
    have hlt : min (ap L e.1) (ap L e.2) < max (ap L e.1) (ap L e.2) := by omega
    generalize eM : max (ap L e.1) (ap L e.2) = M at *
    generalize em : min (ap L e.1) (ap L e.2) = mm at *
    have e3 : rts n (ljStep L e) = (rts n L).filter fun x => decide (x ≠ M) := by
      unfold rts
      rw [List.filter_filter]
      refine List.filter_congr fun x hx => ?_
      rw [ap_step h e (List.mem_range.mp hx), eM, em]
      by_cases q : ap L x = M
      · rw [if_pos q]
        have a1 : decide (mm = x) = false := decide_eq_false fun z => by
          rw [← z, hmin] at q
          omega
        have a2 : (decide (x ≠ M) && decide (ap L x = x)) = false := by
          by_cases y : x = M
          · simp [y]
          · have : ¬ ap L x = x := fun z => y (z.symm.trans q)
            simp [this]
        rw [a1, a2]
      · rw [if_neg q]
        have a1 : decide (x ≠ M) = true := decide_eq_true fun z => q (by rw [z]; exact hmax.2)
        rw [a1, Bool.true_and]
    rw [e3]
    exact len_drop (rts_nodup n L) (mem_rts.mpr hmax)
theorem rts_fold {n : Nat} : ∀ (bs es : List Ed) (L : List Nat), Lb n es L → (∀ e ∈ bs, e.1 < n ∧ e.2 < n) → (rts n L).length ≤ (rts n (bs.foldl ljStep L)).length + bs.length
  | [], _, _, _, _ => Nat.le_refl _
  | e :: bs, es, L, h, hb => by
    have b := hb e List.mem_cons_self
    have ih := rts_fold bs (es ++ [e]) (ljStep L e) (lb_step h b.1 b.2) fun d m => hb d (List.mem_cons_of_mem _ m)
    obtain ⟨s1, s2⟩ := rts_step h b.1 b.2
    rw [List.length_cons]
    show _ ≤ (rts n (bs.foldl ljStep (ljStep L e))).length + _
    by_cases z : ap L e.1 = ap L e.2
    · rw [s1 z] at ih
      omega
    · have := s2 z
      omega
theorem rts_join {n : Nat} : ∀ (bs es : List Ed) (L : List Nat), Lb n es L → (∀ e ∈ bs, e.1 < n ∧ e.2 < n) → (∀ k e, bs[k]? = some e → ¬ Rch (es ++ bs.take k) e.1 e.2) → (rts n (bs.foldl ljStep L)).length + bs.length = (rts n L).length
  | [], _, _, _, _, _ => rfl
  | e :: bs, es, L, h, hb, hj => by
    have b := hb e List.mem_cons_self
    have ih := rts_join bs (es ++ [e]) (ljStep L e) (lb_step h b.1 b.2) (fun d m => hb d (List.mem_cons_of_mem _ m)) fun k d hd => by
      have := hj (k + 1) d (by rw [List.getElem?_cons_succ]; exact hd)
      rw [List.take_succ_cons] at this
      rw [List.append_assoc]
      exact this
    have z : ap L e.1 ≠ ap L e.2 := fun z => by
      have := hj 0 e rfl
      rw [List.take_zero, List.append_nil] at this
      have q := h.to e.1 b.1
      rw [z] at q
      exact this (q.trans (h.to e.2 b.2).symm)
    have := (rts_step h b.1 b.2).2 z
    show (rts n (bs.foldl ljStep (ljStep L e))).length + _ = _
    rw [List.length_cons]
    omega
theorem rts_one {n : Nat} {es : List Ed} {L : List Nat} (h : Lb n es L) (hn : 1 ≤ n) (c : conn n es) : (rts n L).length = 1 := by
  have z : ap L 0 = 0 := by
    have := h.le 0 hn
    omega
  have e : rts n L = [0] := by
    refine List.perm_singleton.mp (perm_of_mem (rts_nodup n L) (by simp) fun x => ?_)
    rw [mem_rts, List.mem_singleton]
    constructor
    · rintro ⟨hx, e⟩
      have := (h.eq 0 x (c x hx) hn).2
      omega
    · rintro rfl
      exact ⟨hn, z⟩
  rw [e]
  rfl
/-- one cell more than bridges -/
theorem cel_len {n : Nat} {es : List Ed} (h : CN n es) : (cel n es).length = (brg n es).length + 1 := by
  have ve : VE n (inn n es) := okE_ve h.2.1
  have lb := lb_lj ve
  have bv : ∀ e ∈ (brg n es).map (fun j => es.getD j (0, 0)), e.1 < n ∧ e.2 < n := fun e m => by
    obtain ⟨j, hj, rfl⟩ := List.mem_map.mp m
    have := h.2.1 _ (List.mem_of_getElem? (getD_at ((mem_brg h).mp hj).1))
    omega
  have j := rts_join ((brg n es).map fun j => es.getD j (0, 0)) _ _ lb bv fun k e he => by
    rw [List.getElem?_map] at he
    cases eb : (brg n es)[k]? with
    | none => rw [eb] at he; cases he
    | some b =>
      rw [eb] at he
      obtain rfl : es.getD b (0, 0) = e := Option.some.inj he
      have hb := List.mem_of_getElem? eb
      refine fun r => brg_ends h hb (r.mono fun d m => ?_)
      rcases List.mem_append.mp m with m | m
      · obtain ⟨j, o, ej⟩ := mem_okE.mp m
        refine List.mem_eraseIdx_iff_getElem?.mpr ⟨j, fun z => ?_, ej⟩
        subst z
        simp [hb] at o
      · rw [← List.map_take] at m
        obtain ⟨j, hj, rfl⟩ := List.mem_map.mp m
        refine List.mem_eraseIdx_iff_getElem?.mpr ⟨j, fun z => ?_, getD_at ((mem_brg h).mp (List.mem_of_mem_take hj)).1⟩
        subst z
        obtain ⟨i, hi, e2⟩ := List.mem_take_iff_getElem.mp hj
        obtain ⟨hk, e3⟩ := List.getElem?_eq_some_iff.mp eb
        have : i = k := (List.getElem_inj (i := i) (j := k) (h₀ := by omega) (h₁ := hk) (brg_nodup n es)).mp (e2.trans e3.symm)
        omega
  have lb2 := lb_fold _ _ _ lb bv
  have one := rts_one lb2 h.1 fun v hv => (h.2.2 v hv).mono fun e m => by
    obtain ⟨j, hj, e1⟩ := List.mem_iff_getElem.mp m
    have e2 : es[j]? = some e := by rw [List.getElem?_eq_getElem hj, e1]
    by_cases b : j ∈ brg n es
    · refine List.mem_append_right _ (List.mem_map.mpr ⟨j, b, ?_⟩)
      rw [getD_at hj] at e2
      exact Option.some.inj e2
    · exact List.mem_append_left _ (mem_okE.mpr ⟨j, by simp [b], e2⟩)
  rw [one, List.length_map] at j
  show ((rts n (lj n (inn n es))).map _).length = _
  rw [List.length_map]
  omega
/-! ### the sizes of the cells -/
theorem ind_sum (a : Nat) : ∀ R : List Nat, (R.map fun l => if a = l then 1 else 0).sum = R.count a
  | [] => rfl
  | x :: R => by
    rw [List.map_cons, List.sum_cons, ind_sum a R, List.count_cons]
    by_cases z : a = x
    · subst z; simp; omega
    · rw [if_neg z]
      have : (x == a) = false := by simp; exact fun q => z q.symm
      simp [this]
theorem sum_two (f g : Nat → Nat) : ∀ R : List Nat, (R.map fun l => f l + g l).sum = (R.map f).sum + (R.map g).sum
  | [] => rfl
  | x :: R => by
    simp only [List.map_cons, List.sum_cons, sum_two f g R]
    omega
theorem part_sum {R : List Nat} (hR : R.Nodup) (f : Nat → Nat) : ∀ xs : List Nat, (∀ x ∈ xs, f x ∈ R) → (R.map fun l => (xs.filter fun x => decide (f x = l)).length).sum = xs.length
  | [], _ => by
    induction R with
    | nil => rfl
    | cons a R ih => rw [List.map_cons, List.sum_cons, ih hR.tail (fun _ h => nomatch h)]; rfl
  | x :: xs, h => by
    have ih := part_sum hR f xs fun y hy => h y (List.mem_cons_of_mem _ hy)
    have e : (R.map fun l => ((x :: xs).filter fun y => decide (f y = l)).length) = R.map fun l => (if f x = l then 1 else 0) + (xs.filter fun y => decide (f y = l)).length := by
      refine List.map_congr_left fun l _ => ?_
      rw [List.filter_cons]
      by_cases z : f x = l
      · rw [if_pos (decide_eq_true z), if_pos z, List.length_cons]; omega
      · rw [if_neg (by simp [z]), if_neg z]; omega
    rw [e, sum_two, ih, ind_sum, nodup_count hR, if_pos (h x List.mem_cons_self), List.length_cons]
    omega
theorem celL_sum {n : Nat} {es : List Ed} {L : List Nat} (h : Lb n es L) : ((celL n L).map List.length).sum = n := by
  unfold celL
  rw [List.map_map]
  have := part_sum (rts_nodup n L) (ap L) (List.range n) fun x hx => mem_rts.mpr (root_ap h (List.mem_range.mp hx))
  rw [List.length_range] at this
  exact this
theorem cel_sum {n : Nat} {es : List Ed} (h : CN n es) : ((cel n es).map List.length).sum = n := celL_sum (lb_lj (okE_ve h.2.1))
/-! ### a second passage beside a bridge -/
theorem CN.wide {n b : Nat} {es : List Ed} (h : CN n es) (hb : b < es.length) : CN n (es ++ [es.getD b (0, 0)]) := by
  refine ⟨h.1, h.2.1.app fun e m => ?_, fun v hv => (h.2.2 v hv).mono fun e m => List.mem_append_left _ m⟩
  rw [List.mem_singleton.mp m]
  exact h.2.1 _ (List.mem_of_getElem? (getD_at hb))
theorem brg_wide {n b : Nat} {es : List Ed} (h : CN n es) (hb : b ∈ brg n es) : ∀ i, i ∈ brg n (es ++ [es.getD b (0, 0)]) → i ∈ brg n es ∧ i ≠ b := by
  intro i hi
  have bl := ((mem_brg h).mp hb).1
  have cw := h.wide bl
  obtain ⟨il, nc⟩ := (mem_brg cw).mp hi
  rw [List.length_append, List.length_singleton] at il
  have last : (es ++ [es.getD b (0, 0)])[es.length]? = some (es.getD b (0, 0)) := by simp
  have old : ∀ j e, es[j]? = some e → (es ++ [es.getD b (0, 0)])[j]? = some e := fun j e q => by
    rw [List.getElem?_append_left (List.getElem?_eq_some_iff.mp q).1]
    exact q
  have sub : ∀ k, (∀ e ∈ es.eraseIdx k, e ∈ (es ++ [es.getD b (0, 0)]).eraseIdx i) → conn n (es.eraseIdx k) → False := fun k q c => nc fun v hv => (c v hv).mono q
  have im : i ≠ es.length := fun z => by
    subst z
    refine nc fun v hv => (h.2.2 v hv).mono fun e m => ?_
    obtain ⟨j, hj, e1⟩ := List.mem_iff_getElem.mp m
    exact List.mem_eraseIdx_iff_getElem?.mpr ⟨j, by omega, old j e (by rw [List.getElem?_eq_getElem hj, e1])⟩
  have ib : i ≠ b := fun z => by
    subst z
    refine nc fun v hv => (h.2.2 v hv).mono fun e m => ?_
    obtain ⟨j, hj, e1⟩ := List.mem_iff_getElem.mp m
    have e2 : es[j]? = some e := by rw [List.getElem?_eq_getElem hj, e1]
    by_cases q : j = i
    · subst q
      rw [getD_at hj] at e2
      obtain rfl := Option.some.inj e2
      exact List.mem_eraseIdx_iff_getElem?.mpr ⟨es.length, by omega, last⟩
    · exact List.mem_eraseIdx_iff_getElem?.mpr ⟨j, q, old j e e2⟩
  refine ⟨(mem_brg h).mpr ⟨by omega, fun c => sub i (fun e m => ?_) c⟩, ib⟩
  obtain ⟨j, j1, j2⟩ := List.mem_eraseIdx_iff_getElem?.mp m
  exact List.mem_eraseIdx_iff_getElem?.mpr ⟨j, j1, old j e j2⟩
theorem len_sub : ∀ {l m : List Nat}, l.Nodup → (∀ x ∈ l, x ∈ m) → l.length ≤ m.length
  | [], _, _, _ => Nat.zero_le _
  | x :: l, m, h, hs => by
    have hx := hs x List.mem_cons_self
    have h2 := List.nodup_cons.mp h
    have := len_sub (m := m.erase x) h2.2 fun y hy => (List.mem_erase_of_ne fun z => h2.1 (by rw [← z]; exact hy)).mpr (hs y (List.mem_cons_of_mem _ hy))
    rw [List.length_erase_of_mem hx] at this
    have := List.length_pos_of_mem hx
    rw [List.length_cons]
    omega
theorem wide_less {n b : Nat} {es : List Ed} (h : CN n es) (hb : b ∈ brg n es) : (cel n (es ++ [es.getD b (0, 0)])).length < (cel n es).length := by
  have bl := ((mem_brg h).mp hb).1
  rw [cel_len h, cel_len (h.wide bl)]
  have := len_sub (l := brg n (es ++ [es.getD b (0, 0)])) (m := (brg n es).filter fun x => decide (x ≠ b)) (brg_nodup _ _) fun i hi => by
    obtain ⟨a, c⟩ := brg_wide h hb i hi
    exact List.mem_filter.mpr ⟨a, decide_eq_true c⟩
  have := len_drop (brg_nodup n es) hb
  omega
/-! ### trees -/
theorem tree_brg {n : Nat} {es : List Ed} (h : CN n es) (hl : es.length + 1 = n) : brg n es = List.range (n - 1) := by
  unfold brg
  rw [show n - 1 = es.length by omega]
  refine List.filter_eq_self.mpr fun i hi => ?_
  have il := List.mem_range.mp hi
  have ve := ve_erase (i := i) h.2.1
  have nc : ¬ cB n (es.eraseIdx i) = true := fun c => by
    have cn := (cB_iff ve h.1).mp c
    have one := rts_one (lb_lj ve) h.1 cn
    have := rts_fold (es.eraseIdx i) [] (List.range n) (lb_zero n) fun e m => ⟨Nat.lt_of_le_of_lt (ve e m).1 (ve e m).2, (ve e m).2⟩
    have e0 : rts n (List.range n) = List.range n := by
      unfold rts
      exact List.filter_eq_self.mpr fun x hx => decide_eq_true (ap_range (List.mem_range.mp hx))
    rw [e0, List.length_range, List.length_eraseIdx_of_lt il] at this
    change n ≤ (rts n (lj n (es.eraseIdx i))).length + _ at this
    rw [one] at this
    omega
  simp at nc ⊢
  exact nc
/-! ### what the cells look like -/
theorem cls_head {n : Nat} {es : List Ed} {L : List Nat} (h : Lb n es L) {l : Nat} (hl : l < n) (e : ap L l = l) : ∃ t, cls n L l = l :: t := by
  have hm : l ∈ cls n L l := mem_cls.mpr ⟨hl, e⟩
  have pw := filter_rise n fun x => decide (ap L x = l)
  change (cls n L l).Pairwise (· < ·) at pw
  cases ec : cls n L l with
  | nil => rw [ec] at hm; cases hm
  | cons a t =>
    refine ⟨t, ?_⟩
    have ha : a ∈ cls n L l := by rw [ec]; exact List.mem_cons_self
    obtain ⟨a1, a2⟩ := mem_cls.mp ha
    have := h.le a a1
    rw [ec] at hm pw
    rcases List.mem_cons.mp hm with z | z
    · rw [z]
    · have := (List.pairwise_cons.mp pw).1 l z
      omega
end Hw

/-! Other names of places and passages. No Python here. -/
namespace Hw
theorem filter_ext {n : Nat} {p q : Nat → Bool} (h : ∀ x, x < n → (p x = true ↔ q x = true)) : (List.range n).filter p = (List.range n).filter q :=
  List.filter_congr fun x hx => by
    have := h x (List.mem_range.mp hx)
    cases a : p x <;> cases b : q x <;> simp [a, b] at this <;> rfl
section
variable {n : Nat} {p : List Nat} (hp : IsP p) (hl : p.length = n)
include hp hl
theorem ren_back {fs : List Ed} (ve : VE n fs) {u v : Nat} (r : Rch (renE p fs) u v) : Rch fs (ap (inv p) u) (ap (inv p) v) := by
  refine r.map (ap (inv p)) fun e m => ?_
  obtain ⟨d, hd, rfl⟩ := List.mem_map.mp m
  have b := ve d hd
  have e1 : ap (inv p) (ap p d.1) = d.1 := ap_inv hp (by omega)
  have e2 : ap (inv p) (ap p d.2) = d.2 := ap_inv hp (by omega)
  rcases tie_cases (ap p d.1) (ap p d.2) with z | z
  · rw [z]
    show adj fs (ap (inv p) (ap p d.1)) (ap (inv p) (ap p d.2))
    rw [e1, e2]
    exact .inl hd
  · rw [z]
    show adj fs (ap (inv p) (ap p d.2)) (ap (inv p) (ap p d.1))
    rw [e1, e2]
    exact .inr hd
theorem ren_iff {fs : List Ed} (ve : VE n fs) {u v : Nat} (hu : u < n) (hv : v < n) : Rch (renE p fs) (ap p u) (ap p v) ↔ Rch fs u v := by
  refine ⟨fun r => ?_, fun r => r.ren p⟩
  have := ren_back hp hl ve r
  rw [ap_inv hp (by omega), ap_inv hp (by omega)] at this
  exact this
theorem conn_ren {fs : List Ed} (ve : VE n fs) (hn : 1 ≤ n) : conn n (renE p fs) ↔ conn n fs := by
  have lt : ∀ x, x < n → ap p x < n := fun x hx => by rw [← hl]; exact ap_lt hp (by omega)
  have sur : ∀ y, y < n → ∃ x, x < n ∧ ap p x = y := fun y hy => by
    obtain ⟨x, a, b⟩ := ap_surj hp (y := y) (by omega)
    exact ⟨x, by omega, b⟩
  constructor
  · intro c v hv
    have a := (ren_iff hp hl ve hn hv).mp (((c _ (lt 0 hn)).symm).trans (c _ (lt v hv)))
    exact a
  · intro c v hv
    obtain ⟨x, hx, rfl⟩ := sur v hv
    obtain ⟨z, hz, ez⟩ := sur 0 hn
    rw [← ez]
    exact (ren_iff hp hl ve hz hx).mpr ((c z hz).symm.trans (c x hx))
end
/-- the passages in the order q, the places named by p -/
def ordE (q : List Nat) (es : List Ed) : List Ed := q.map fun j => es.getD j (0, 0)
def renQ (p q : List Nat) (es : List Ed) : List Ed := q.map fun j => tieF (ap p (es.getD j (0, 0)).1) (ap p (es.getD j (0, 0)).2)
theorem renQ_eq (p q : List Nat) (es : List Ed) : renQ p q es = renE p (ordE q es) := by
  unfold renQ renE ordE
  rw [List.map_map]
  rfl
theorem ord_range (es : List Ed) : ordE (List.range es.length) es = es := by
  unfold ordE
  refine List.ext_getElem? fun i => ?_
  rw [List.getElem?_map]
  by_cases h : i < es.length
  · rw [List.getElem?_range h, getD_at h]
    rfl
  · rw [List.getElem?_eq_none (by rw [List.length_range]; omega), List.getElem?_eq_none (by omega)]
    rfl
section
variable {n : Nat} {es : List Ed} (h : CN n es) {p q : List Nat} (hp : IsP p) (hl : p.length = n) (hq : IsP q) (ql : q.length = es.length)
include hq ql
theorem ord_perm : (ordE q es).Perm es := by
  have a := (perm_range hq).map fun j => es.getD j (0, 0)
  rw [ql] at a
  have b := ord_range es
  unfold ordE at b ⊢
  rw [b] at a
  exact a
theorem ord_erase {k : Nat} (hk : k < es.length) (e : Ed) : e ∈ (ordE q es).eraseIdx k ↔ e ∈ es.eraseIdx (ap q k) := by
  rw [List.mem_eraseIdx_iff_getElem?, List.mem_eraseIdx_iff_getElem?]
  unfold ordE
  constructor
  · rintro ⟨j, jk, ej⟩
    rw [List.getElem?_map] at ej
    have jl : j < q.length := by
      by_cases z : j < q.length
      · exact z
      · rw [List.getElem?_eq_none (by omega)] at ej
        cases ej
    rw [ap_get jl] at ej
    obtain rfl : es.getD (ap q j) (0, 0) = e := Option.some.inj ej
    refine ⟨ap q j, fun z => jk (ap_inj hq jl (by omega) z), getD_at (by rw [← ql]; exact ap_lt hq jl)⟩
  · rintro ⟨j, jk, ej⟩
    have jl := (List.getElem?_eq_some_iff.mp ej).1
    obtain ⟨i, hi, rfl⟩ := ap_surj hq (y := j) (by omega)
    refine ⟨i, fun z => jk (by rw [z]), ?_⟩
    rw [List.getElem?_map, ap_get hi]
    rw [getD_at jl] at ej
    exact ej
include h hp hl
theorem CN.renQ : CN n (renQ p q es) := by
  rw [renQ_eq]
  exact (h.perm (ord_perm hq ql)).ren hp hl
omit h hp hl in
theorem renQ_len : (Hw.renQ p q es).length = es.length := by
  unfold Hw.renQ
  rw [List.length_map, ql]
omit hp hl in
theorem ord_ve (k : Nat) : VE n ((ordE q es).eraseIdx k) := ve_erase (h.perm (ord_perm hq ql)).2.1
omit h hp hl hq ql in
theorem renQ_erase (k : Nat) : (Hw.renQ p q es).eraseIdx k = renE p ((ordE q es).eraseIdx k) := by
  rw [renQ_eq]
  unfold renE
  rw [List.eraseIdx_eq_take_drop_succ, List.eraseIdx_eq_take_drop_succ, List.map_append, List.map_take, List.map_drop]
theorem rch_renQ {k u v : Nat} (hk : k < es.length) (hu : u < n) (hv : v < n) : Rch ((Hw.renQ p q es).eraseIdx k) (ap p u) (ap p v) ↔ Rch (es.eraseIdx (ap q k)) u v := by
  rw [renQ_erase, ren_iff hp hl (ord_ve h hq ql k) hu hv]
  exact Rch.iff (ord_erase hq ql hk)
theorem mem_brg_ren {k : Nat} : k ∈ brg n (Hw.renQ p q es) ↔ k < es.length ∧ ap q k ∈ brg n es := by
  rw [mem_brg (h.renQ hp hl hq ql), mem_brg h, renQ_len hq ql]
  constructor
  · rintro ⟨a, b⟩
    refine ⟨a, by rw [← ql]; exact ap_lt hq (by omega), fun c => b ?_⟩
    rw [renQ_erase]
    refine (conn_ren hp hl (ord_ve h hq ql k) h.1).mpr fun v hv => ?_
    exact (Rch.iff (ord_erase hq ql a)).mpr (c v hv)
  · rintro ⟨a, _, b⟩
    refine ⟨a, fun c => b ?_⟩
    rw [renQ_erase] at c
    have c := (conn_ren hp hl (ord_ve h hq ql k) h.1).mp c
    exact fun v hv => (Rch.iff (ord_erase hq ql a)).mp (c v hv)
theorem brg_ren : ((brg n (Hw.renQ p q es)).map (ap q)).Perm (brg n es) := by
  refine perm_of_mem ?_ (brg_nodup _ _) fun x => ?_
  · rw [List.nodup_iff_pairwise_ne, List.pairwise_map]
    refine List.Pairwise.imp_of_mem (fun {a b} ha hb ne e => ne ?_) (List.nodup_iff_pairwise_ne.mp (brg_nodup _ _))
    have a1 := ((mem_brg_ren h hp hl hq ql).mp ha).1
    have b1 := ((mem_brg_ren h hp hl hq ql).mp hb).1
    exact ap_inj hq (by omega) (by omega) e
  · rw [List.mem_map]
    constructor
    · rintro ⟨k, hk, rfl⟩
      exact ((mem_brg_ren h hp hl hq ql).mp hk).2
    · intro hx
      have xl := ((mem_brg h).mp hx).1
      obtain ⟨k, hk, rfl⟩ := ap_surj hq (y := x) (by omega)
      exact ⟨k, (mem_brg_ren h hp hl hq ql).mpr ⟨by omega, hx⟩, rfl⟩
theorem rch_inn {u v : Nat} (hu : u < n) (hv : v < n) : Rch (inn n (Hw.renQ p q es)) (ap p u) (ap p v) ↔ Rch (inn n es) u v := by
  have lt : ∀ x, x < n → ap p x < n := fun x hx => by rw [← hl]; exact ap_lt hp (by omega)
  rw [sep (h.renQ hp hl hq ql) (lt u hu) (lt v hv), sep h hu hv, renQ_len hq ql]
  constructor
  · intro a i hi
    obtain ⟨k, hk, rfl⟩ := ap_surj hq (y := i) (by omega)
    exact (rch_renQ h hp hl hq ql (by omega) hu hv).mp (a k (by omega))
  · intro a k hk
    exact (rch_renQ h hp hl hq ql hk hu hv).mpr (a _ (by rw [← ql]; exact ap_lt hq (by omega)))
end
/-! ### cells -/
theorem mem_cel {n : Nat} {es : List Ed} (h : CN n es) {c : List Nat} : c ∈ cel n es ↔ ∃ x, x < n ∧ c = cls n (lj n (inn n es)) (ap (lj n (inn n es)) x) := by
  have lb := lb_lj (okE_ve (ok := fun j => !decide (j ∈ brg n es)) h.2.1)
  change Lb n (inn n es) (lj n (inn n es)) at lb
  unfold cel celL
  rw [List.mem_map]
  constructor
  · rintro ⟨l, hl, rfl⟩
    obtain ⟨a, b⟩ := mem_rts.mp hl
    exact ⟨l, a, by rw [b]⟩
  · rintro ⟨x, hx, rfl⟩
    exact ⟨_, mem_rts.mpr (root_ap lb hx), rfl⟩
theorem mem_clsr {n : Nat} {es : List Ed} (h : CN n es) {x y : Nat} (hx : x < n) : y ∈ cls n (lj n (inn n es)) (ap (lj n (inn n es)) x) ↔ y < n ∧ Rch (inn n es) x y := by
  have ve : VE n (inn n es) := okE_ve h.2.1
  rw [mem_cls]
  constructor
  · rintro ⟨a, b⟩
    exact ⟨a, ((lj_same ve a hx).mp b).symm⟩
  · rintro ⟨a, b⟩
    exact ⟨a, (lj_same ve a hx).mpr b.symm⟩
def img (n : Nat) (p c : List Nat) : List Nat := (List.range n).filter fun y => decide (y ∈ c.map (ap p))
theorem cel_rise {n : Nat} {es : List Ed} (h : CN n es) : (cel n es).Pairwise fun c d => ∃ a t b s, c = a :: t ∧ d = b :: s ∧ a < b := by
  have lb := lb_lj (okE_ve (ok := fun j => !decide (j ∈ brg n es)) h.2.1)
  change Lb n (inn n es) (lj n (inn n es)) at lb
  unfold cel celL
  rw [List.pairwise_map]
  refine List.Pairwise.imp_of_mem (fun {a b} ha hb lt => ?_) (filter_rise n _)
  obtain ⟨a1, a2⟩ := mem_rts.mp ha
  obtain ⟨b1, b2⟩ := mem_rts.mp hb
  obtain ⟨t, ht⟩ := cls_head lb a1 a2
  obtain ⟨s, hs⟩ := cls_head lb b1 b2
  exact ⟨a, t, b, s, ht, hs, lt⟩
theorem cel_nodup {n : Nat} {es : List Ed} (h : CN n es) : (cel n es).Nodup := by
  rw [List.nodup_iff_pairwise_ne]
  refine List.Pairwise.imp (fun {c d} z e => ?_) (cel_rise h)
  obtain ⟨a, t, b, s, rfl, rfl, lt⟩ := z
  cases e
  omega
section
variable {n : Nat} {es : List Ed} (h : CN n es) {p q : List Nat} (hp : IsP p) (hl : p.length = n) (hq : IsP q) (ql : q.length = es.length)
include h hp hl hq ql
theorem img_cls {x : Nat} (hx : x < n) : img n p (cls n (lj n (inn n es)) (ap (lj n (inn n es)) x)) = cls n (lj n (inn n (renQ p q es))) (ap (lj n (inn n (renQ p q es))) (ap p x)) := by
  have lt : ∀ x, x < n → ap p x < n := fun x hx => by rw [← hl]; exact ap_lt hp (by omega)
  have cr := h.renQ hp hl hq ql
  have e : cls n (lj n (inn n (renQ p q es))) (ap (lj n (inn n (renQ p q es))) (ap p x)) = (List.range n).filter fun y => decide (y ∈ cls n (lj n (inn n (renQ p q es))) (ap (lj n (inn n (renQ p q es))) (ap p x))) := by
    conv => lhs; unfold cls
    refine filter_ext fun y hy => ?_
    rw [decide_eq_true_eq, decide_eq_true_eq, mem_cls]
    exact ⟨fun z => ⟨hy, z⟩, fun z => z.2⟩
  rw [e]
  unfold img
  refine filter_ext fun y hy => ?_
  rw [decide_eq_true_eq, decide_eq_true_eq, mem_clsr cr (lt x hx), List.mem_map]
  constructor
  · rintro ⟨z, hz, rfl⟩
    obtain ⟨a, b⟩ := (mem_clsr h hx).mp hz
    exact ⟨hy, (rch_inn h hp hl hq ql hx a).mpr b⟩
  · rintro ⟨_, b⟩
    obtain ⟨z, hz, rfl⟩ := ap_surj hp (y := y) (by omega)
    exact ⟨z, (mem_clsr h hx).mpr ⟨by omega, (rch_inn h hp hl hq ql hx (by omega)).mp b⟩, rfl⟩
theorem cel_ren : ((cel n es).map (img n p)).Perm (cel n (renQ p q es)) := by
  have lt : ∀ x, x < n → ap p x < n := fun x hx => by rw [← hl]; exact ap_lt hp (by omega)
  have cr := h.renQ hp hl hq ql
  have mem : ∀ c', c' ∈ (cel n es).map (img n p) ↔ c' ∈ cel n (renQ p q es) := fun c' => by
    rw [List.mem_map, mem_cel cr]
    constructor
    · rintro ⟨c, hc, rfl⟩
      obtain ⟨x, hx, rfl⟩ := (mem_cel h).mp hc
      exact ⟨ap p x, lt x hx, img_cls h hp hl hq ql hx⟩
    · rintro ⟨x', hx', rfl⟩
      obtain ⟨x, hx, rfl⟩ := ap_surj hp (y := x') (by omega)
      exact ⟨_, (mem_cel h).mpr ⟨x, by omega, rfl⟩, img_cls h hp hl hq ql (by omega)⟩
  refine (List.perm_ext_iff_of_nodup ?_ (cel_nodup cr)).mpr mem
  rw [List.nodup_iff_pairwise_ne, List.pairwise_map]
  refine List.Pairwise.imp_of_mem (fun {c d} hc hd ne e => ne ?_) (List.nodup_iff_pairwise_ne.mp (cel_nodup h))
  obtain ⟨x, hx, rfl⟩ := (mem_cel h).mp hc
  obtain ⟨y, hy, rfl⟩ := (mem_cel h).mp hd
  rw [img_cls h hp hl hq ql hx, img_cls h hp hl hq ql hy] at e
  have m : ap p y ∈ cls n (lj n (inn n (renQ p q es))) (ap (lj n (inn n (renQ p q es))) (ap p y)) := (mem_clsr cr (lt y hy)).mpr ⟨lt y hy, .refl _⟩
  rw [← e] at m
  have r := (rch_inn h hp hl hq ql hx hy).mp ((mem_clsr cr (lt x hx)).mp m).2
  have ve : VE n (inn n es) := okE_ve h.2.1
  rw [(lj_same ve hx hy).mpr r]
end
/-- sorted, the same numbers -/
theorem img_of {n : Nat} {p c s : List Nat} (hp : IsP p) (hl : p.length = n) (hc : c.Nodup) (lt : ∀ x ∈ c, x < n) (ps : s.Perm (c.map (ap p))) (so : s.Pairwise (· ≤ ·)) : s = img n p c := by
  have nd : (c.map (ap p)).Nodup := by
    rw [List.nodup_iff_pairwise_ne, List.pairwise_map]
    refine List.Pairwise.imp_of_mem (fun {a b} ha hb ne e => ne ?_) (List.nodup_iff_pairwise_ne.mp hc)
    exact ap_inj hp (by rw [hl]; exact lt a ha) (by rw [hl]; exact lt b hb) e
  have p2 : (img n p c).Perm (c.map (ap p)) := perm_of_mem (List.Nodup.sublist List.filter_sublist List.nodup_range) nd fun y => by
    unfold img
    rw [List.mem_filter, decide_eq_true_eq, List.mem_range]
    refine ⟨fun z => z.2, fun z => ⟨?_, z⟩⟩
    obtain ⟨x, hx, rfl⟩ := List.mem_map.mp z
    rw [← hl]
    exact ap_lt hp (by rw [hl]; exact lt x hx)
  refine List.Perm.eq_of_pairwise (fun a b _ _ x y => Nat.le_antisymm x y) so ?_ (ps.trans p2.symm)
  exact List.Pairwise.imp (fun z => Nat.le_of_lt z) (filter_rise n _)
theorem rise_eq {s t : List Nat} (ps : s.Perm t) (so : s.Pairwise (· ≤ ·)) (st : t.Pairwise (· < ·)) : s = t :=
  List.Perm.eq_of_pairwise (fun a b _ _ x y => Nat.le_antisymm x y) so (List.Pairwise.imp (fun z => Nat.le_of_lt z) st) ps
end Hw

namespace Hw
open PySem PySem.Spec PyProof.Rows L2
/-! ### over a list or a tuple -/
def SeqR (K : PySem.W.Frag) (H1 : Hp) (a : Addr) (R : It → Hp → Prop) : Prop := ((∃ xs, SqL K H1 a xs) ∧ R (Itl K a) H1) ∨ ((∃ xs, SqT K H1 a xs) ∧ R (Itt K a) H1)
def iSeq (K : PySem.W.Frag) (tl : TE) : TI := fun σ H R => tl σ H fun x H1 => ∃ a, x = .ref a ∧ SeqR K H1 a R
theorem pi_seq {X : Cx} {tg l : Expr} {tl : TE} (hl : PE X l tl) : PI X tg l (iSeq X.K tl) := by
  refine ⟨fun pins s σ H R I h => ?_⟩
  refine thn (hl.run pins s σ H _ I h) fun v s1 ⟨x, H1, I1, r1, q1⟩ => ?_
  obtain ⟨a, e, q1⟩ := q1
  subst e
  cases r1
  rcases q1 with ⟨⟨xs, hq⟩, q⟩ | ⟨⟨xs, hq⟩, q⟩
  · obtain ⟨its, rv, p, hz⟩ := I1.list hq
    refine wpAny_pyIter_list p.isList ?_
    refine ⟨s1.heap.objs.size, [s1.heap.objs.size], _, _, H1, rfl, I1.kept (t' := s1.toks) fun b o e => Heap.get?_push_of_some _ e, turn_list a _, ⟨_, Heap.get?_push_size _ rfl, rfl, rfl⟩, fun b hb => ?_, q⟩
    have e : b = s1.heap.objs.size := by simpa using hb
    subst e
    exact I1.fpOk (Nat.le_refl _) (I1.hok.fresh (Nat.le_refl _))
  · obtain ⟨its, rv, p, hz⟩ := I1.tuple hq
    refine wpAny_pyIter_tuple (show s1.heap.IsTuple a its.toArray from p) ?_
    refine ⟨s1.heap.objs.size, [s1.heap.objs.size], _, _, H1, rfl, I1.kept (t' := s1.toks) fun b o e => Heap.get?_push_of_some _ e, turn_tuple a _, ⟨_, Heap.get?_push_size _ rfl, rfl, rfl⟩, fun b hb => ?_, q⟩
    have e : b = s1.heap.objs.size := by simpa using hb
    subst e
    exact I1.fpOk (Nat.le_refl _) (I1.hok.fresh (Nat.le_refl _))
def EdS (H : Hp) (a : Addr) (es : List Ed) : Prop := EdL H a es ∨ EdT H a es
theorem EdS.same {H H' : Hp} {l : Addr} {es : List Ed} (h : EdS H l es) (s : Same H H') : EdS H' l es := h.elim (fun z => .inl (z.same s)) fun z => .inr (z.same s)
/-- a turn gives the pair that stands there -/
def YEd (H1 : Hp) (es : List Ed) : Nat → Hp → V → Hp → Prop := fun i H x H' => H' = H ∧ ∃ k e, x = V.ref k ∧ es[i]? = some e ∧ Tp H1 k (pl e)
theorem eds_it {K : PySem.W.Frag} {H1 : Hp} {a : Addr} {es : List Ed} (h : EdS H1 a es) {R : It → Hp → Prop} (q : ∀ J, Walk J es.length (fun H' => Same H1 H') (YEd H1 es) → R J H1) :
    SeqR K H1 a R := by
  rcases h with ⟨ks, k1, k2, k3⟩ | ⟨ks, k1, k2, k3⟩
  all_goals
    have y : ∀ i v, (ks.map fun k => V.ref k.1)[i]? = some v → ∃ k e, v = V.ref k ∧ es[i]? = some e ∧ Tp H1 k (pl e) := fun i v hv => by
      obtain ⟨k, hk, rfl⟩ := refs_get hv
      obtain ⟨e, he, ek⟩ := ed_get k2 hk
      exact ⟨k.1, e, rfl, he, by rw [← ek]; exact k3 k (List.mem_of_getElem? hk)⟩
  · have w := walk_list (K := K) (a := a) (xs := ks.map fun k => V.ref k.1)
    rw [nv_len, ed_len k2] at w
    exact .inl ⟨⟨_, sl_of k1⟩, q _ (w.mono (fun H' s => sl_of (s _ _ k1)) fun i H x H' _ _ z => ⟨z.1, y i x z.2⟩)⟩
  · have w := walk_tup (K := K) (a := a) (xs := ks.map fun k => V.ref k.1)
    rw [nv_len, ed_len k2] at w
    exact .inr ⟨⟨_, sq_of k1⟩, q _ (w.mono (fun H' s => sq_of (s _ _ k1)) fun i H x H' _ _ z => ⟨z.1, y i x z.2⟩)⟩
section
variable {P : Program} {w : World} {K : PySem.W.Frag} {mg : Str → Option Value} {base : Heap}
/-! ### _is_passage -/
def spIsPassage : Sp := fun vs H Q _ => ∃ (k : Addr) (e : Ed) (n : Nat), vs = [.ref k, .int (n : Int)] ∧ Tp H k (pl e) ∧ e.1 ≤ e.2 ∧ e.2 < n ∧ Q (.bl true) H
abbrev nIsP : List Str := ["value", "places", "u", "v"]
theorem scIsPassage : FnScope nIsP ["value", "places"] (defScope sIsPassage) := ⟨rfl, rfl, rfl, by decide +kernel, rfl, by decide +kernel, by decide +kernel⟩
theorem cal_isPassage (T : Txt mg) (GI : Cal P w K mg base "is_index" 2 spIndex) (D : Df K mg "_is_passage" sIsPassage ["value", "places"]) : Cal P w K mg base "_is_passage" 3 spIsPassage := by
  have nd := scIsPassage.nd
  refine cal_of D scIsPassage (fun vs H Q E h => ?_) (fun f cdv A outer s0 H vs Q E hr h => ?_)
  · obtain ⟨k, e, n, rfl, _⟩ := h
    rfl
  · obtain ⟨k, e, n, rfl, hk, h1, h2, q⟩ := h
    refine ⟨_, pss_cons (ps_if (PW.pt (pw_or (pt_not (pt_val (pe_callB call_isi (by rfl) T.isinstance (by decide +kernel) (pa_cons (pv 0) (pa_cons (pe_bltn (v := .ty "tuple") (by rfl) T.tuple (by decide +kernel) rfl) pa_nil)))))
        (pw_or1 (pt_cmpR op_ne (pe_callB cr_len (by rfl) T.len PySem.boot_len (pa_cons (pv 0) pa_nil)) pe_int (nomark _))))) (pss_one ps_never) pss_nil)
      <| pss_cons (ps_asg (pv 0) (pg_tup rfl (pgs_cons (pg_name (i := 2) nd rfl (.inl rfl)) (pgs_cons (pg_name (i := 3) nd rfl (.inl rfl)) pgs_nil))))
      <| pss_one (ps_ret (pe_and (pe_cl GI hr (by rfl) (pa_cons (pv 2) (pa_cons (pv 1) pa_nil))) (pe_and (pe_cl GI hr (by rfl) (pa_cons (pv 3) (pa_cons (pv 1) pa_nil))) (pe_one (pe_cmpR op_le (pv 2) (pv 3) (nomark _)))))), ?_⟩
    refine ⟨_, rfl, _, _, _, _, true, rfl, .ty _, .base (.tup hk), kit_ty (by decide +kernel), true, rfl, iteF ?_⟩
    refine ⟨_, rfl, k, _, rfl, .inr (sq_of hk), rfl, _, rfl, iteF ?_⟩
    refine ⟨_, rfl, k, _, rfl, sq_of hk, rfl, _, _, rfl, _, _, rfl, rfl, ?_⟩
    refine ⟨_, rfl, _, rfl, _, _, rfl, ?_⟩
    have b1 : decide ((0 : Int) ≤ (e.1 : Int) ∧ (e.1 : Int) < (n : Int)) = true := decide_eq_true ⟨by omega, by omega⟩
    have b2 : decide ((0 : Int) ≤ (e.2 : Int) ∧ (e.2 : Int) < (n : Int)) = true := decide_eq_true ⟨by omega, by omega⟩
    have b3 : decide ((e.1 : Int) ≤ (e.2 : Int)) = true := decide_eq_true (by omega)
    refine ⟨_, rfl, ?_⟩
    rw [b1]
    refine iteT ⟨_, rfl, _, rfl, _, _, rfl, _, rfl, ?_⟩
    rw [b2]
    refine iteT ⟨_, rfl, _, rfl, _, _, rfl, rfl, ?_⟩
    show Q (V.bl (decide ((e.1 : Int) ≤ (e.2 : Int)))) H
    rw [b3]
    exact q
/-! ### _first_wrong -/
def spFirstWrong : Sp := fun vs H Q _ => ∃ (a : Addr) (n : Nat) (es : List Ed), vs = [.ref a, .int (n : Int)] ∧ EdT H a es ∧ VE n es ∧ ∀ H', Same H H' → Q .non H'
abbrev nFw : List Str := ["values", "places", "index", "value"]
theorem scFirstWrong : FnScope nFw ["values", "places"] (defScope sFirstWrong) := ⟨rfl, rfl, rfl, by decide +kernel, rfl, by decide +kernel, by decide +kernel⟩
theorem cal_firstWrong (T : Txt mg) (GI : Cal P w K mg base "_is_passage" 3 spIsPassage) (D : Df K mg "_first_wrong" sFirstWrong ["values", "places"]) : Cal P w K mg base "_first_wrong" 4 spFirstWrong := by
  have nd := scFirstWrong.nd
  refine cal_of D scFirstWrong (fun vs H Q E h => ?_) (fun f cdv A outer s0 H vs Q E hr h => ?_)
  · obtain ⟨a, n, es, rfl, _⟩ := h
    rfl
  · obtain ⟨a, n, es, rfl, ⟨ks, k1, k2, k3⟩, ve, q⟩ := h
    refine ⟨_, pss_cons (ps_for PassesOwn.never rfl (pi_enumT (by rfl) T.enumerate (pa_cons (pv 0) pa_nil)) (pg_tup rfl (pgs_cons (pg_name (i := 2) nd rfl (.inl rfl)) (pgs_cons (pg_name (i := 3) nd rfl (.inl rfl)) pgs_nil)))
          (pss_one (ps_if (pt_not (pt_val (pe_cl GI hr (by rfl) (pa_cons (pv 3) (pa_cons (pv 1) pa_nil))))) (pss_one ps_never) pss_nil)))
      <| pss_one (ps_ret pe_non), ?_⟩
    refine ⟨_, rfl, a, _, rfl, sq_of k1, for_it (walk_enumT (xs := ks.map fun k => V.ref k.1)) (fun i σ H' => ∃ v2 v3, σ = [some (.ref a), some (.int (n : Int)), v2, v3] ∧ Same H H') ⟨_, _, rfl, fun _ _ h => h⟩ (fun i σ H' _ ⟨_, _, _, sm⟩ => sq_of (sm _ _ k1)) ?_ ?_⟩
    · rintro i x σ H3 H4 hi ⟨v2, v3, rfl, sm⟩ ⟨T1, i', y, rfl, nT, rfl, ei, ey⟩
      obtain rfl : V.int (i : Int) = i' := Option.some.inj ei
      obtain ⟨k, hk, rfl⟩ := refs_get ey
      obtain ⟨e, he, ek⟩ := ed_get k2 hk
      have smT := sm.trans (same_upd (o := .tup [V.int (i : Int), V.ref k.1]) nT)
      have tk := smT _ _ (k3 k (List.mem_of_getElem? hk))
      have b := ve e (List.mem_of_getElem? he)
      refine ⟨T1, _, rfl, .inl (.inl upd_same), rfl, _, _, rfl, _, _, rfl, rfl, ?_⟩
      refine ⟨_, rfl, _, rfl, k.1, e, n, rfl, by rw [← ek]; exact tk, b.1, b.2, ?_⟩
      exact ⟨_, rfl, iteF ⟨_, _, rfl, smT⟩⟩
    · rintro σ H3 ⟨v2, v3, rfl, sm⟩
      exact q H3 sm
/-! ### _least_joined -/
def spLeast : Sp := fun vs H Q _ => ∃ (a : Addr) (n : Nat) (es : List Ed), vs = [.int (n : Int), .ref a] ∧ EdS H a es ∧ VE n es ∧ n ≤ 100 ∧ es.length ≤ 100 ∧ ∀ H' r, Same H H' → H r = none → H' r = some (.lst (NV (lj n es))) → Q (.ref r) H'
abbrev nLj : List Str := ["places", "passages", "least", "u", "v", "low", "high", "place"]
theorem scLeast : FnScope nLj ["places", "passages"] (defScope sLeast) := ⟨rfl, rfl, rfl, by decide +kernel, rfl, by decide +kernel, by decide +kernel⟩
theorem lj_take {n : Nat} {es : List Ed} {i : Nat} {e : Ed} (he : es[i]? = some e) : (es.take (i + 1)).foldl ljStep (List.range n) = ljStep ((es.take i).foldl ljStep (List.range n)) e := by
  rw [List.take_add_one, he, List.foldl_append]
  rfl
theorem lj_len (n : Nat) : ∀ (es : List Ed) (L : List Nat), (es.foldl ljStep L).length = L.length
  | [], _ => rfl
  | e :: es, L => by
    rw [List.foldl_cons, lj_len n es]
    unfold ljStep
    rw [List.length_map]
theorem cal_least (T : Txt mg) (D : Df K mg "_least_joined" sLeast ["places", "passages"]) : Cal P w K mg base "_least_joined" 1 spLeast := by
  have nd := scLeast.nd
  refine cal_of D scLeast (fun vs H Q E h => ?_) (fun f cdv A outer s0 H vs Q E hr h => ?_)
  · obtain ⟨a, n, es, rfl, _⟩ := h
    rfl
  · obtain ⟨a, n, es, rfl, he, ve, hn, hl, q⟩ := h
    refine ⟨_, pss_cons (ps_set (i := 2) nd rfl (.inl rfl) (pe_listRg (by rfl) (by rfl) T.list (prg_1 (by rfl) T.range (pv 0))))
      <| pss_cons (ps_for PassesOwn.never rfl (pi_seq (pv 1)) (pg_tup rfl (pgs_cons (pg_name (i := 3) nd rfl (.inl rfl)) (pgs_cons (pg_name (i := 4) nd rfl (.inl rfl)) pgs_nil)))
          (pss_cons (ps_set (i := 5) nd rfl (.inr rfl) (pe_callB (call_min2 rfl) (by rfl) T.min (by decide +kernel) (pa_cons (pe_ix (r := rIxL K) ix_list (pv 2) (pv 3) (fun _ _ => rfl)) (pa_cons (pe_ix (r := rIxL K) ix_list (pv 2) (pv 4) (fun _ _ => rfl)) pa_nil))))
          <| pss_cons (ps_set (i := 6) nd rfl (.inr rfl) (pe_callB (call_max2 rfl) (by rfl) T.max (by decide +kernel) (pa_cons (pe_ix (r := rIxL K) ix_list (pv 2) (pv 3) (fun _ _ => rfl)) (pa_cons (pe_ix (r := rIxL K) ix_list (pv 2) (pv 4) (fun _ _ => rfl)) pa_nil))))
          <| pss_one (ps_setLc (i := 2) (own := [("place", 7)]) (g := gName 7) (by rfl) nd rfl rfl (sw_true rfl rfl rfl (by decide +kernel)) (pi_list (pv 2))
              (blkOk_by (own := [("place", 7)]) (N := nLj) (sc := defScope sLeast) (by decide +kernel)) (fun _ _ _ _ _ => pg_name (i := 7) nd rfl (.inl rfl)) (fun _ _ _ _ _ => pts_nil)
              (fun _ _ _ _ _ => pe_ifExp (pt_cmpR op_eq (pv 7) (pv 6) (nomark _)) (pv 5) (pv 7)))))
      <| pss_one (ps_ret (pv 2)), ?_⟩
    refine ⟨_, rfl, _, rfl, RgOk.of_le (by omega) (by omega) (by omega) (by omega), fun l0 n0 => ?_⟩
    rw [NV_range]
    have s1 := same_upd (o := .lst (NV (List.range n))) n0
    have hl0 : upd H l0 (.lst (NV (List.range n))) l0 = some (.lst (NV (List.range n))) := upd_same
    have he1 := he.same s1
    generalize upd H l0 (.lst (NV (List.range n))) = H1 at *
    refine ⟨_, rfl, a, rfl, eds_it he1 fun J W => for_it W (fun i σ H' => ∃ l v3 v4 v5 v6 v7, σ = [some (.int (n : Int)), some (.ref a), some (.ref l), v3, v4, v5, v6, v7] ∧ Same H1 H' ∧ H l = none ∧ H' l = some (.lst (NV ((es.take i).foldl ljStep (List.range n)))))
      ⟨l0, _, _, _, _, _, rfl, fun _ _ h => h, n0, hl0⟩ (fun i σ H' _ ⟨_, _, _, _, _, _, _, sm, _⟩ => sm) ?_ ?_⟩
    · rintro i x σ H2 H3 hi ⟨l, v3, v4, v5, v6, v7, rfl, sm, nl, hL⟩ ⟨rfl, k, e, rfl, hei, hk⟩
      have tk := sm _ _ hk
      have b := ve e (List.mem_of_getElem? hei)
      rw [lj_take hei]
      have Ll : ((es.take i).foldl ljStep (List.range n)).length = n := by rw [lj_len n, List.length_range]
      generalize (es.take i).foldl ljStep (List.range n) = L at *
      have g1 : atI (NV L) ((e.1 : Nat) : Int) = some (.int ((ap L e.1 : Nat) : Int)) := atI_nat (NV_get (ap_get (by omega)))
      have g2 : atI (NV L) ((e.2 : Nat) : Int) = some (.int ((ap L e.2 : Nat) : Int)) := atI_nat (NV_get (ap_get (by omega)))
      have m1 : (if ((ap L e.2 : Nat) : Int) < ((ap L e.1 : Nat) : Int) then ((ap L e.2 : Nat) : Int) else ((ap L e.1 : Nat) : Int)) = ((min (ap L e.1) (ap L e.2) : Nat) : Int) := by
        split <;> omega
      have m2 : (if ((ap L e.2 : Nat) : Int) > ((ap L e.1 : Nat) : Int) then ((ap L e.2 : Nat) : Int) else ((ap L e.1 : Nat) : Int)) = ((max (ap L e.1) (ap L e.2) : Nat) : Int) := by
        split <;> omega
      refine ⟨k, _, rfl, sq_of tk, rfl, _, _, rfl, _, _, rfl, rfl, ?_⟩
      refine ⟨_, rfl, _, rfl, l, _, _, _, rfl, rfl, sl_of hL, g1, _, rfl, _, rfl, l, _, _, _, rfl, rfl, sl_of hL, g2, _, _, rfl, ?_⟩
      dsimp only
      rw [m1]
      refine ⟨_, rfl, _, rfl, l, _, _, _, rfl, rfl, sl_of hL, g1, _, rfl, _, rfl, l, _, _, _, rfl, rfl, sl_of hL, g2, _, _, rfl, ?_⟩
      dsimp only
      rw [m2]
      refine ⟨_, rfl, l, rfl, ⟨_, sl_of hL⟩, fun D nD => lc_it (walk_list (xs := NV L)) (fun j H' => Same H3 H' ∧ H' D = some (.lst (NV ((ljStep L e).take j)))) ⟨same_upd nD, by rw [upd_same]; rfl⟩ (fun j H' _ ⟨s4, _⟩ => sl_of (s4 _ _ hL)) ?_ ?_⟩
      · rintro j y H4 H5 hj ⟨s4, hD⟩ ⟨rfl, hy⟩
        rw [NV_len] at hj
        obtain ⟨z, hz, rfl⟩ := NV_get' hy
        have low : (ljStep L e).take (j + 1) = (ljStep L e).take j ++ [if z = max (ap L e.1) (ap L e.2) then min (ap L e.1) (ap L e.2) else z] := by
          unfold ljStep
          rw [List.take_add_one, List.getElem?_map, hz]
          rfl
        have fin : ∀ v : Nat, v = (if z = max (ap L e.1) (ap L e.2) then min (ap L e.1) (ap L e.2) else z) → ∃ acc, H5 D = some (.lst acc) ∧ acc.length < sizeLine ∧ (Same H3 (upd H5 D (.lst (acc ++ [V.int (v : Int)]))) ∧ upd H5 D (.lst (acc ++ [V.int (v : Int)])) D = some (.lst (NV ((ljStep L e).take (j + 1))))) := fun v ev => by
          refine ⟨_, hD, ?_, fun b o eb => ?_, ?_⟩
          · rw [NV_len, List.length_take]
            exact Nat.lt_of_le_of_lt (Nat.min_le_left _ _) (small1000 (by omega))
          · rw [upd_ne (ne_of_none eb nD)]
            exact s4 _ _ eb
          · rw [upd_same, low, NV_snoc, ev]
        refine ⟨rfl, _, rfl, _, rfl, rfl, _, rfl, ite2 (fun c => ?_) (fun c => ?_)⟩
        · exact ⟨_, rfl, fin _ (by rw [if_pos]; have := of_decide_eq_true c; simp at this; omega)⟩
        · exact ⟨_, rfl, fin _ (by rw [if_neg]; have := of_decide_eq_false (Bool.eq_false_iff.mpr c); simp at this; omega)⟩
      · rintro H4 ⟨s4, hD⟩
        have e4 : (ljStep L e).take (NV L).length = ljStep L e := List.take_of_length_le (by rw [NV_len]; unfold ljStep; rw [List.length_map]; exact Nat.le_refl _)
        rw [e4] at hD
        exact ⟨D, _, _, _, _, _, rfl, sm.trans s4, (s1.trans sm).free nD, hD⟩
    · rintro σ H2 ⟨l, v3, v4, v5, v6, v7, rfl, sm, nl, hL⟩
      rw [List.take_length] at hL
      exact ⟨_, rfl, q H2 l (s1.trans sm) nl hL⟩
end
end Hw

namespace Hw
open PySem PySem.Spec PyProof.Rows L2 ClX
/-! ### tuples cut and joined, whatever their length -/
theorem sl_take {K : PySem.W.Frag} {H : Hp} {a : Addr} {xs : List V} {k : Nat} {Q : VK} (h : H a = some (.tup xs)) (q : ∀ p H', Same H H' → H' p = some (.tup (xs.take k)) → Q (.ref p) H') : rSlA K (.ref a) none (some (k : Int)) H Q := by
  refine ⟨a, xs, rfl, sq_of h, fun ⟨_, e⟩ => q a H (fun _ _ z => z) ?_, fun _ p np => ?_⟩
  · rw [show HT.sIx xs.length xs.length (some (k : Int)) = min k xs.length from HT.sIx_nat _ _ _] at e
    rw [List.take_of_length_le (by omega)]
    exact h
  · rw [cut_to]
    exact q p _ (same_upd np) upd_same
theorem sl_drop {K : PySem.W.Frag} {H : Hp} {a : Addr} {xs : List V} {k : Nat} {Q : VK} (h : H a = some (.tup xs)) (q : ∀ p H', Same H H' → H' p = some (.tup (xs.drop k)) → Q (.ref p) H') : rSlA K (.ref a) (some (k : Int)) none H Q := by
  refine ⟨a, xs, rfl, sq_of h, fun ⟨e, _⟩ => q a H (fun _ _ z => z) ?_, fun _ p np => ?_⟩
  · rw [show HT.sIx xs.length 0 (some (k : Int)) = min k xs.length from HT.sIx_nat _ _ _] at e
    by_cases z : k = 0
    · subst z
      exact h
    · have : xs.length = 0 := by omega
      rw [List.eq_nil_of_length_eq_zero this] at h ⊢
      rw [List.drop_nil]
      exact h
  · rw [cut_from]
    exact q p _ (same_upd np) upd_same
theorem cat_any {K : PySem.W.Frag} {H : Hp} {a b : Addr} {xs ys : List V} {Q : VK} (ha : H a = some (.tup xs)) (hb : H b = some (.tup ys)) (le : xs.length + ys.length ≤ 1000) (q : ∀ p H', Same H H' → H' p = some (.tup (xs ++ ys)) → Q (.ref p) H') : rCatA K (.ref a) (.ref b) H Q := by
  refine ⟨a, b, xs, ys, rfl, rfl, sq_of ha, sq_of hb, Nat.le_of_lt (small1000 le), fun e => q b H (fun _ _ z => z) ?_, fun _ e => q a H (fun _ _ z => z) ?_, fun _ _ p np => q p _ (same_upd np) upd_same⟩
  · rw [e]; exact hb
  · rw [e, List.append_nil]; exact ha
/-! ### the class -/
structure NetC (K : PySem.W.Frag) (mg : Str → Option Value) (C : Addr) (mc : Value) : Prop where
  gC : mg "Network" = some (.ref C)
  rd : CRead K C mc
  mp : ∃ u, CVal K C mc "MAX_PLACES" (.int 12) u
  ms : ∃ u, CVal K C mc "MAX_PASSAGES" (.int 16) u
  cl : Cls K C
  n1 : NoAttr K C "_places"
  n2 : NoAttr K C "_passages"
  n3 : NoAttr K C "_start"
  n4 : NoAttr K C "_bridges"
  n5 : NoAttr K C "_cells"
  n6 : NoAttr K C "_exits"
section
variable {P : Program} {w : World} {K : PySem.W.Frag} {mg : Str → Option Value} {base : Heap}
/-! ### _is_connected -/
def spConn : Sp := fun vs H Q _ => ∃ (a : Addr) (n : Nat) (es : List Ed), vs = [.int (n : Int), .ref a] ∧ EdS H a es ∧ VE n es ∧ 1 ≤ n ∧ n ≤ 100 ∧ es.length ≤ 100 ∧ ∀ H', Same H H' → Q (.bl (cB n es)) H'
theorem scConn : FnScope ["places", "passages"] ["places", "passages"] (defScope sConn) := ⟨rfl, rfl, rfl, by decide +kernel, rfl, by decide +kernel, by decide +kernel⟩
theorem cal_conn (T : Txt mg) (GL : Cal P w K mg base "_least_joined" 1 spLeast) (D : Df K mg "_is_connected" sConn ["places", "passages"]) : Cal P w K mg base "_is_connected" 2 spConn := by
  refine cal_of D scConn (fun vs H Q E h => ?_) (fun f cdv A outer s0 H vs Q E hr h => ?_)
  · obtain ⟨a, n, es, rfl, _⟩ := h
    rfl
  · obtain ⟨a, n, es, rfl, he, ve, n1, hn, hl, q⟩ := h
    refine ⟨_, pss_one (ps_ret (pe_cmpR (op_eqD hr.units) (pe_cl GL hr (by rfl) (pa_cons (pv 0) (pa_cons (pv 1) pa_nil))) (pe_op op_rep (pe_lst (pa_cons pe_int pa_nil)) (pv 0)) (nomark _))), ?_⟩
    refine ⟨_, rfl, _, rfl, a, n, es, rfl, he, ve, hn, hl, fun H1 r s1 nr hr1 => ?_⟩
    refine ⟨by show 1 ≤ sizeLine; decide, fun l0 n0 => ?_⟩
    have s2 := s1.trans (same_upd (o := .lst [V.int 0]) n0)
    have hr2 := same_upd (o := .lst [V.int 0]) n0 _ _ hr1
    refine ⟨_, rfl, l0, _, _, rfl, rfl, upd_same, by omega, by omega, ?_, fun l1 nl1 => ?_⟩
    · show 1 * _ ≤ _
      rw [Int.toNat_natCast]
      exact Nat.le_of_lt (small1000 (by omega))
    rw [rep_flat]
    have s3 := s2.trans (same_upd (o := .lst (List.replicate n (V.int 0))) nl1)
    have hr3 := same_upd (o := .lst (List.replicate n (V.int 0))) nl1 _ _ hr2
    have e0 : List.replicate n (V.int 0) = (NI (List.replicate n 0)).map V.int := by
      rw [← NV_NI, NV_rep]
      rfl
    have e1 : NV (lj n es) = (NI (lj n es)).map V.int := NV_NI _
    refine ⟨.list ((NI (lj n es)).map PyData.int), .list ((NI (List.replicate n 0)).map PyData.int), dp_li (sl_of (by rw [← e1]; exact hr3)), dp_li (sl_of (by rw [← e0]; exact upd_same)), shaped_li _, shaped_li _, ?_⟩
    have e2 : PyData.eqv (.list ((NI (lj n es)).map PyData.int)) (.list ((NI (List.replicate n 0)).map PyData.int)) = cB n es := by
      rw [eqv_li]
      unfold cB
      by_cases z : lj n es = List.replicate n 0
      · rw [decide_eq_true z, z]; exact decide_eq_true rfl
      · rw [decide_eq_false z]; exact decide_eq_false fun y => z (NI_inj y)
    rw [e2]
    exact q _ s3
/-! ### _fault -/
def spFault : Sp := fun vs H Q _ => ∃ (a : Addr) (n : Nat) (es : List Ed), vs = [.int (n : Int), .ref a] ∧ EdT H a es ∧ CN n es ∧ n ≤ 12 ∧ es.length ≤ 16 ∧ ∀ H', Same H H' → Q .non H'
abbrev nFault : List Str := ["places", "passages", "index"]
theorem scFault : FnScope nFault ["places", "passages"] (defScope sFault) := ⟨rfl, rfl, rfl, by decide +kernel, rfl, by decide +kernel, by decide +kernel⟩
theorem cal_fault {C : Addr} {mc : Value} (T : Txt mg) (N : NetC K mg C mc) (GW : Cal P w K mg base "is_whole" 1 spWhole) (GF : Cal P w K mg base "_first_wrong" 4 spFirstWrong) (GC : Cal P w K mg base "_is_connected" 2 spConn)
    (D : Df K mg "_fault" sFault ["places", "passages"]) : Cal P w K mg base "_fault" 5 spFault := by
  have nd := scFault.nd
  refine cal_of D scFault (fun vs H Q E h => ?_) (fun f cdv A outer s0 H vs Q E hr h => ?_)
  · obtain ⟨a, n, es, rfl, _⟩ := h
    rfl
  · obtain ⟨a, n, es, rfl, he, cn, hn, hl, q⟩ := h
    have hr1 := hr.mono (show 1 ≤ 4 by decide)
    have hr2 := hr.mono (show 2 ≤ 4 by decide)
    obtain ⟨u1, v1⟩ := N.mp
    obtain ⟨u2, v2⟩ := N.ms
    refine ⟨_, pss_cons (ps_if (PW.pt (pw_or (pt_not (pt_val (pe_cl GW hr1 (by rfl) (pa_cons (pv 0) pa_nil)))) (pw_or1 (pt_not (pt_chain op_le op_le pe_int (pv 0) (pe_cval (pe_glob (by rfl) N.gC (v := .ref C) rfl))))))) (pss_one ps_never) pss_nil)
      <| pss_cons (ps_if (PW.pt (pw_or (pt_not (pt_val (pe_callB call_isi (by rfl) T.isinstance (by decide +kernel) (pa_cons (pv 1) (pa_cons (pe_bltn (v := .ty "tuple") (by rfl) T.tuple (by decide +kernel) rfl) pa_nil)))))
          (pw_or1 (pt_cmpR op_gt (pe_callB cr_len (by rfl) T.len PySem.boot_len (pa_cons (pv 1) pa_nil)) (pe_cval (pe_glob (by rfl) N.gC (v := .ref C) rfl)) (nomark _))))) (pss_one ps_never) pss_nil)
      <| pss_cons (ps_set (i := 2) nd rfl (.inl rfl) (pe_cl GF hr (by rfl) (pa_cons (pv 1) (pa_cons (pv 0) pa_nil))))
      <| pss_cons (ps_if (pt_cmpR op_notN (pv 2) pe_non (nomark _)) (pss_one ps_never) pss_nil)
      <| pss_cons (ps_if (pt_not (pt_val (pe_cl GC hr2 (by rfl) (pa_cons (pv 0) (pa_cons (pv 1) pa_nil))))) (pss_one ps_never) pss_nil)
      <| pss_one (ps_ret pe_non), ?_⟩
    obtain ⟨ks, k1, k2, k3⟩ := id he
    have n1 := cn.1
    refine ⟨_, rfl, _, rfl, ⟨_, rfl, iteF ?_⟩⟩
    refine ⟨_, rfl, _, _, rfl, rfl, _, rfl, ?_⟩
    rw [show decide ((1 : Int) ≤ (n : Int)) = true from decide_eq_true (by omega)]
    refine iteT ⟨C, mc, _, _, rfl, N.rd, v1, _, _, rfl, rfl, ?_⟩
    refine ⟨_, rfl, ?_⟩
    rw [show decide ((n : Int) ≤ 12) = true from decide_eq_true (by omega)]
    refine iteF ?_
    refine ⟨_, rfl, _, _, _, _, true, rfl, .ty _, .base (.tup k1), kit_ty (by decide +kernel), true, rfl, iteF ?_⟩
    refine ⟨_, rfl, a, _, rfl, .inr (sq_of k1), C, mc, _, _, rfl, N.rd, v2, _, _, rfl, rfl, _, rfl, ?_⟩
    rw [nv_len, ed_len k2]
    rw [show decide ((16 : Int) < (es.length : Int)) = false from decide_eq_false (by omega)]
    refine iteF ?_
    refine ⟨_, rfl, _, rfl, a, n, es, rfl, he, cn.2.1, fun H1 s1 => ?_⟩
    refine ⟨_, rfl, rfl, _, rfl, iteF ?_⟩
    refine ⟨_, rfl, _, rfl, a, n, es, rfl, .inr (he.same s1), cn.2.1, n1, by omega, by omega, fun H2 s2 => ⟨_, rfl, ?_⟩⟩
    rw [show cB n es = true from (cB_iff cn.2.1 n1).mpr cn.2.2]
    refine iteF ?_
    exact q _ (s1.trans s2)
/-! ### _find_bridges -/
def spBridges : Sp := fun vs H Q _ => ∃ (a : Addr) (n : Nat) (es : List Ed), vs = [.int (n : Int), .ref a] ∧ EdT H a es ∧ VE n es ∧ 1 ≤ n ∧ n ≤ 12 ∧ es.length ≤ 16 ∧ ∀ H' r, Same H H' → H r = none → Tp H' r (brg n es) → Q (.ref r) H'
abbrev nBr : List Str := ["places", "passages", "passage"]
theorem scBridges : FnScope nBr ["places", "passages"] (defScope sBridges) := ⟨rfl, rfl, rfl, by decide +kernel, rfl, by decide +kernel, by decide +kernel⟩
theorem edt_cut {H : Hp} {p : Addr} {es : List Ed} {ks : List (Addr × List Nat)} {i : Nat} (k2 : ks.map (·.2) = es.map pl) (k3 : ∀ k ∈ ks, Tp H k.1 k.2) (h : H p = some (.tup ((ks.map fun k => V.ref k.1).take i ++ (ks.map fun k => V.ref k.1).drop (i + 1)))) : EdT H p (es.eraseIdx i) := by
  refine ⟨ks.take i ++ ks.drop (i + 1), by rw [h, List.map_append, List.map_take, List.map_drop], ?_, fun k hk => ?_⟩
  · rw [List.eraseIdx_eq_take_drop_succ, List.map_append, List.map_append, List.map_take, List.map_drop, k2, List.map_take, List.map_drop]
  · rcases List.mem_append.mp hk with m | m
    · exact k3 k (List.mem_of_mem_take m)
    · exact k3 k (List.mem_of_mem_drop m)
def brgTo (n : Nat) (es : List Ed) (j : Nat) : List Nat := (List.range j).filter fun i => !cB n (es.eraseIdx i)
theorem brgTo_succ (n : Nat) (es : List Ed) (j : Nat) : brgTo n es (j + 1) = brgTo n es j ++ (if cB n (es.eraseIdx j) = true then [] else [j]) := by
  unfold brgTo
  rw [List.range_succ, List.filter_append]
  congr 1
  rw [List.filter_cons, List.filter_nil]
  cases cB n (es.eraseIdx j) <;> rfl
theorem cal_bridges (T : Txt mg) (GC : Cal P w K mg base "_is_connected" 2 spConn) (D : Df K mg "_find_bridges" sBridges ["places", "passages"]) : Cal P w K mg base "_find_bridges" 3 spBridges := by
  have nd := scBridges.nd
  refine cal_of D scBridges (fun vs H Q E h => ?_) (fun f cdv A outer s0 H vs Q E hr h => ?_)
  · obtain ⟨a, n, es, rfl, _⟩ := h
    rfl
  · obtain ⟨a, n, es, rfl, he, ve, n1, hn, hl, q⟩ := h
    refine ⟨_, pss_one (ps_ret (pe_callTy call_tuple_of (by rfl) T.tuple (by decide +kernel) (pa_cons (pe_lc (own := [("passage", 2)]) (g := gName 2) (by rfl) nd (pi_range1 (by rfl) T.range (pa_cons (pe_callB cr_len (by rfl) T.len PySem.boot_len (pa_cons (pv 1) pa_nil)) pa_nil))
        (blkOk_by (own := [("passage", 2)]) (N := nBr) (sc := defScope sBridges) (by decide +kernel)) (fun _ _ _ _ _ => pg_name (i := 2) nd rfl (.inl rfl))
        (fun _ _ _ _ _ => pts_one (pt_not (pt_val (pe_cl GC (by exact hr) (by rfl) (pa_cons (pv 0) (pa_cons (pe_op (r := rCatA K) op_catA (pe_slice (r := rSlA K) sl_tupA (pv 1) po_none (po_some (pv 2))) (pe_slice (r := rSlA K) sl_tupA (pv 1) (po_some (pe_op op_add (pv 2) pe_int)) po_none)) pa_nil))))))
        (fun _ _ _ _ _ => pv 2)) pa_nil))), ?_⟩
    obtain ⟨ks, k1, k2, k3⟩ := id he
    have kl := ed_len k2
    refine ⟨_, rfl, a, _, rfl, .inr (sq_of k1), _, rfl, by rw [nv_len]; omega, by rw [nv_len]; omega, ?_⟩
    rw [nv_len, kl, Int.toNat_natCast]
    refine fun D nD => lc_it walk_rg0 (fun i H' => Same H H' ∧ H' D = some (.lst (NV (brgTo n es i)))) ⟨same_upd nD, upd_same⟩ (fun _ _ _ _ => trivial) ?_ ?_
    · rintro i x _ H2 hi ⟨sm, hD⟩ ⟨rfl, rfl⟩
      refine ⟨rfl, ?_⟩
      have e1 : ((i : Int) + 1) = ((i + 1 : Nat) : Int) := by omega
      refine ⟨_, rfl, _, rfl, _, rfl, _, rfl, sl_take (sm _ _ k1) fun p H3 s3 hp => ?_⟩
      refine ⟨_, rfl, _, rfl, _, _, rfl, rfl, _, rfl, ?_⟩
      rw [e1]
      dsimp only [tNoPart]
      refine sl_drop (s3 _ _ (sm _ _ k1)) fun p2 H4 s4 hp2 => ?_
      refine cat_any (s4 _ _ hp) hp2 (by rw [List.length_take, List.length_drop, nv_len]; omega) fun p3 H5 s5 hp3 => ?_
      have s25 := (s3.trans s4).trans s5
      have ed := edt_cut k2 (fun k hk => s25 _ _ (sm _ _ (k3 k hk))) hp3
      refine ⟨p3, n, es.eraseIdx i, rfl, .inr ed, ve_erase ve, n1, by omega, Nat.le_trans (List.length_eraseIdx_le _ _) (by omega), fun H6 s6 => ?_⟩
      have s26 := s25.trans s6
      have hD6 := s26 _ _ hD
      refine ⟨_, rfl, ?_⟩
      rw [brgTo_succ]
      cases c : cB n (es.eraseIdx i) with
      | true =>
        refine iteF ?_
        rw [if_pos rfl, List.append_nil]
        exact ⟨sm.trans s26, hD6⟩
      | false =>
        refine iteT ⟨_, rfl, _, hD6, ?_, fun b o e => ?_, ?_⟩
        · rw [NV_len]
          unfold brgTo
          exact Nat.lt_of_le_of_lt (List.length_filter_le _ _) (by rw [List.length_range]; exact small1000 (by omega))
        · rw [upd_ne (ne_of_none e nD)]
          exact s26 _ _ (sm _ _ e)
        · rw [upd_same, if_neg (by decide), NV_snoc]
    · rintro H2 ⟨sm, hD⟩
      refine ⟨D, _, rfl, .inl ⟨sl_of hD, fun t nt => ?_⟩⟩
      exact q _ t (sm.trans (same_upd nt)) (sm.free nt) upd_same
end
end Hw

namespace Hw
open PySem PySem.Spec PyProof.Rows L2 ClX
theorem flat_NV (p : List Nat) : (NV p).all flatV = true := by
  unfold NV
  rw [List.all_map, List.all_eq_true]
  intro x _
  rfl
theorem inV_NV (x : Nat) (p : List Nat) : inV (.int (x : Int)) (NV p) = decide (x ∈ p) := by
  unfold inV NV
  rw [List.any_map]
  have e : ((fun y => eqV y (V.int (x : Int))) ∘ fun n : Nat => V.int (n : Int)) = fun n => decide (n = x) := by
    funext n
    show ((n : Int) == (x : Int)) = decide (n = x)
    by_cases z : n = x
    · subst z; simp
    · rw [decide_eq_false z]
      have : ¬ ((n : Int) = (x : Int)) := by omega
      simp [z]
      exact this
  rw [e]
  by_cases z : x ∈ p
  · rw [decide_eq_true z, List.any_eq_true]
    exact ⟨x, z, decide_eq_true rfl⟩
  · rw [decide_eq_false z, List.any_eq_false]
    intro y hy
    have : y ≠ x := fun q => z (q ▸ hy)
    simp [this]
def rTupO (K : PySem.W.Frag) : List V → Hp → VK → Prop := fun xs H Q => ∃ p ys, xs = [.ref p] ∧ ((SqL K H p ys ∧ ∀ l, H l = none → Q (.ref l) (upd H l (.tup ys))) ∨ (SqT K H p ys ∧ Q (.ref p) H))
theorem cr_tupO {X : Cx} : CallR X (.type "tuple") (rTupO X.K) := call_tuple_of
/-! ### the passages that are no bridges -/
def okTo (ok : Nat → Bool) (es : List Ed) (j : Nat) : List Ed := ((List.range j).filter ok).map fun i => es.getD i (0, 0)
theorem okTo_succ (ok : Nat → Bool) (es : List Ed) (j : Nat) : okTo ok es (j + 1) = okTo ok es j ++ (if ok j = true then [es.getD j (0, 0)] else []) := by
  unfold okTo
  rw [List.range_succ, List.filter_append, List.map_append]
  congr 1
  rw [List.filter_cons, List.filter_nil]
  cases ok j <;> rfl
theorem okTo_len (ok : Nat → Bool) (es : List Ed) (j : Nat) : (okTo ok es j).length ≤ j := by
  unfold okTo
  rw [List.length_map]
  exact Nat.le_trans (List.length_filter_le _ _) (by rw [List.length_range]; exact Nat.le_refl _)
/-! ### places by their labels -/
def grp (L : List Nat) (j r : Nat) : List Nat := (List.range j).filter fun x => decide (ap L x = r)
def rtTo (L : List Nat) (j : Nat) : List Nat := (List.range j).filter fun l => decide (ap L l = l)
theorem grp_succ (L : List Nat) (j r : Nat) : grp L (j + 1) r = grp L j r ++ (if ap L j = r then [j] else []) := by
  unfold grp
  rw [List.range_succ, List.filter_append]
  congr 1
  rw [List.filter_cons, List.filter_nil]
  by_cases z : ap L j = r <;> simp [z]
theorem rtTo_succ (L : List Nat) (j : Nat) : rtTo L (j + 1) = rtTo L j ++ (if ap L j = j then [j] else []) := by
  unfold rtTo
  rw [List.range_succ, List.filter_append]
  congr 1
  rw [List.filter_cons, List.filter_nil]
  by_cases z : ap L j = j <;> simp [z]
theorem mem_rtTo {L : List Nat} {j r : Nat} : r ∈ rtTo L j ↔ r < j ∧ ap L r = r := by
  unfold rtTo
  rw [List.mem_filter, List.mem_range, decide_eq_true_eq]
theorem rtTo_len (L : List Nat) (j : Nat) : (rtTo L j).length ≤ j := by
  unfold rtTo
  exact Nat.le_trans (List.length_filter_le _ _) (by rw [List.length_range]; exact Nat.le_refl _)
def kvG (ad : Nat → Addr) (R : List Nat) : List (Key × V) := R.map fun r : Nat => (Sum.inl (r : Int), V.ref (ad r))
theorem kvG_in {ad : Nat → Addr} {r : Nat} : ∀ {R : List Nat}, r ∈ R → valV (kvG ad R) (.inl (r : Int)) = some (.ref (ad r))
  | a :: R, h => by
    by_cases z : a = r
    · subst z
      exact valV_pos (p := (Sum.inl (a : Int), V.ref (ad a))) (r := kvG ad R) rfl
    · have : ¬ ((Sum.inl (a : Int), V.ref (ad a)) : Key × V).1 = .inl (r : Int) := fun q => z (Int.ofNat.inj (Sum.inl.inj q))
      have e := valV_neg (p := ((Sum.inl (a : Int), V.ref (ad a)) : Key × V)) (r := kvG ad R) this
      exact e.trans (kvG_in ((List.mem_cons.mp h).resolve_left fun q => z q.symm))
theorem kvG_out {ad : Nat → Addr} {r : Nat} : ∀ {R : List Nat}, r ∉ R → valV (kvG ad R) (.inl (r : Int)) = none
  | [], _ => rfl
  | a :: R, h => by
    have : ¬ ((Sum.inl (a : Int), V.ref (ad a)) : Key × V).1 = .inl (r : Int) := fun q => h (by rw [Int.ofNat.inj (Sum.inl.inj q)]; exact List.mem_cons_self)
    have e := valV_neg (p := ((Sum.inl (a : Int), V.ref (ad a)) : Key × V)) (r := kvG ad R) this
    exact e.trans (kvG_out fun q => h (List.mem_cons_of_mem _ q))
theorem kvG_congr {ad bd : Nat → Addr} {R : List Nat} (h : ∀ r ∈ R, ad r = bd r) : kvG ad R = kvG bd R := List.map_congr_left fun r hr => by rw [h r hr]
/-- the dict at d, the first j places put in; H0: what stood before -/
def GrpAt (H0 H : Hp) (d : Addr) (L : List Nat) (j : Nat) : Prop := ∃ ad : Nat → Addr, H d = some (.dK (kvG ad (rtTo L j))) ∧ (∀ r ∈ rtTo L j, H (ad r) = some (.lst (NV (grp L j r))) ∧ H0 (ad r) = none) ∧ ∀ r ∈ rtTo L j, ∀ s ∈ rtTo L j, ad r = ad s → r = s
/-- how cells are handed back -/
def CsAt (H : Hp) (r : Addr) (cs : List (List Nat)) : Prop := ∃ ks : List (Addr × List Nat), H r = some (.tup (ks.map fun k => .ref k.1)) ∧ ks.map (·.2) = cs ∧ ∀ k ∈ ks, Tp H k.1 k.2
theorem CsAt.same {H H' : Hp} {r : Addr} {cs : List (List Nat)} (h : CsAt H r cs) (s : Same H H') : CsAt H' r cs := by
  obtain ⟨ks, a, b, c⟩ := h
  exact ⟨ks, s _ _ a, b, fun k hk => s _ _ (c k hk)⟩
section
variable {P : Program} {w : World} {K : PySem.W.Frag} {mg : Str → Option Value} {base : Heap}
def spCells : Sp := fun vs H Q _ => ∃ (a b : Addr) (n : Nat) (es : List Ed), vs = [.int (n : Int), .ref a, .ref b] ∧ EdT H a es ∧ Tp H b (brg n es) ∧ VE n es ∧ 1 ≤ n ∧ n ≤ 12 ∧ es.length ≤ 16 ∧ ∀ H' r, Same H H' → H r = none → CsAt H' r (cel n es) → Q (.ref r) H'
abbrev nCe : List Str := ["places", "passages", "bridges", "inner", "cells", "place", "least", "passage", "ends"]
theorem scCells : FnScope nCe ["places", "passages", "bridges"] (defScope sCells) := ⟨rfl, rfl, rfl, by decide +kernel, rfl, by decide +kernel, by decide +kernel⟩
theorem cal_cells (T : Txt mg) (GL : Cal P w K mg base "_least_joined" 1 spLeast) (D : Df K mg "_find_cells" sCells ["places", "passages", "bridges"]) : Cal P w K mg base "_find_cells" 2 spCells := by
  have nd := scCells.nd
  refine cal_of D scCells (fun vs H Q E h => ?_) (fun f cdv A outer s0 H vs Q E hr h => ?_)
  · obtain ⟨a, b, n, es, rfl, _⟩ := h
    rfl
  · obtain ⟨a, b, n, es, rfl, he, hb, ve, n1, hn, hl, q⟩ := h
    have hu := hu_of hr
    refine ⟨_, pss_cons (ps_setLc (i := 3) (own := [("passage", 7), ("ends", 8)]) (g := gTup K 2 (gCons (gName 7) (gCons (gName 8) gNil))) (by rfl) nd rfl rfl (sw_true rfl rfl rfl (by decide +kernel)) (pi_enumT (by rfl) T.enumerate (pa_cons (pv 1) pa_nil))
          (blkOk_by (own := [("passage", 7), ("ends", 8)]) (N := nCe) (sc := defScope sCells) (by decide +kernel)) (fun _ _ _ _ _ => pg_tup rfl (pgs_cons (pg_name (i := 7) nd rfl (.inl rfl)) (pgs_cons (pg_name (i := 8) nd rfl (.inl rfl)) pgs_nil)))
          (fun _ _ _ _ _ => pts_one (pt_cmpR (r := rIn K true) op_notIn_seq (pv 7) (pv 2) (by rfl))) (fun _ _ _ _ _ => pv 8))
      <| pss_cons (ps_set (i := 4) nd rfl (.inr rfl) pe_dnewK)
      <| pss_cons (ps_for PassesOwn.never rfl (pi_enum (by rfl) T.enumerate (pa_cons (pe_cl GL hr (by rfl) (pa_cons (pv 0) (pa_cons (pv 3) pa_nil))) pa_nil)) (pg_tup rfl (pgs_cons (pg_name (i := 5) nd rfl (.inl rfl)) (pgs_cons (pg_name (i := 6) nd rfl (.inl rfl)) pgs_nil)))
          (pss_one (ps_expr (pe_bm PySem.F.plainAttrs_list PySem.F.slot_list_append PySem.F.type_list_append mt_append (pe_dsetd (pv 4) (pv 6) (pe_lst pa_nil) ⟨by rfl, by rfl, by rfl, by rfl⟩) (pa_cons (pv 5) pa_nil)))))
      <| pss_one (ps_ret (pe_callTy call_tuple_of (by rfl) T.tuple (by decide +kernel) (pa_cons (pe_lc (own := [("least", 6)]) (g := gName 6) (by rfl) nd (pi_list (pe_callB (call_sortedDI rfl) (by rfl) T.sorted (by decide +kernel) (pa_cons (pv 4) pa_nil)))
          (blkOk_by (own := [("least", 6)]) (N := nCe) (sc := defScope sCells) (by decide +kernel)) (fun _ _ _ _ _ => pg_name (i := 6) nd rfl (.inl rfl)) (fun _ _ _ _ _ => pts_nil)
          (fun _ _ _ _ _ => pe_callTy (T := "tuple") (r := rTupO K) cr_tupO (by rfl) T.tuple (by decide +kernel) (pa_cons (pe_dget (by exact hu) (pv 4) (pv 6) (fun _ _ => rfl)) pa_nil))) pa_nil))), ?_⟩
    obtain ⟨ks, k1, k2, k3⟩ := id he
    have kl := ed_len k2
    refine ⟨_, rfl, a, _, rfl, sq_of k1, fun D nD => lc_it (walk_enumT (xs := ks.map fun k => V.ref k.1)) (fun i H' => Same H H' ∧ EdL H' D (okTo (fun j => !decide (j ∈ brg n es)) es i)) ⟨same_upd nD, [], upd_same, rfl, fun k hk => nomatch hk⟩ (fun i H' _ ⟨sm, _⟩ => sq_of (sm _ _ k1)) ?_ ?_⟩
    · rintro i x H2 H3 hi ⟨sm, kd, hD, h2, h3⟩ ⟨T1, i', y, rfl, nT, rfl, ei, ey⟩
      obtain rfl : V.int (i : Int) = i' := Option.some.inj ei
      obtain ⟨k, hk, rfl⟩ := refs_get ey
      obtain ⟨e, hei, ek⟩ := ed_get k2 hk
      rw [nv_len, kl] at hi
      have sT := same_upd (o := .tup [V.int (i : Int), V.ref k.1]) nT
      have smT := sm.trans sT
      have tk := smT _ _ (k3 k (List.mem_of_getElem? hk))
      refine ⟨T1, _, rfl, .inl (.inl upd_same), rfl, _, _, rfl, _, _, rfl, rfl, rfl, ?_⟩
      refine ⟨_, rfl, _, rfl, b, _, rfl, .inr (sq_of (smT _ _ hb)), rfl, flat_NV _, _, rfl, ?_⟩
      rw [inV_NV, okTo_succ]
      have eg : es.getD i (0, 0) = e := by
        rw [List.getD_eq_getElem?_getD, hei]
        rfl
      rw [eg]
      by_cases z : i ∈ brg n es
      · rw [decide_eq_true z]
        refine iteF ⟨smT, ?_⟩
        rw [if_neg (by decide), List.append_nil]
        exact ⟨kd, sT _ _ hD, h2, fun k hk => sT _ _ (h3 k hk)⟩
      · rw [decide_eq_false z]
        refine iteT ⟨_, rfl, _, sT _ _ hD, ?_, fun b o eb => ?_, ?_⟩
        · rw [nv_len, ed_len h2]
          exact Nat.lt_of_le_of_lt (okTo_len _ _ _) (small1000 (by omega))
        · rw [upd_ne (ne_of_none eb nD)]
          exact smT _ _ eb
        · rw [if_pos (show (!false) = true from rfl)]
          exact edl_snoc h2 (fun k hk => sT _ _ (h3 k hk)) (by rw [← ek]; exact tk) (sT _ _ hD)
    · rintro H2 ⟨sm, hD⟩
      rw [nv_len, kl] at hD
      have hi0 : okTo (fun j => !decide (j ∈ brg n es)) es es.length = inn n es := rfl
      rw [hi0] at hD
      intro d nd'
      have s3 := sm.trans (same_upd (o := .dK []) nd')
      have hD3 := hD.same (same_upd (o := .dK []) nd')
      have hd3 : upd H2 d (.dK []) d = some (.dK []) := upd_same
      have d0 : H d = none := sm.free nd'
      generalize upd H2 d (.dK []) = H3 at *
      have il : (inn n es).length ≤ 16 := Nat.le_trans (okTo_len _ _ _) hl
      refine ⟨_, rfl, _, rfl, D, n, inn n es, rfl, .inl hD3, okE_ve ve, by omega, by omega, fun H4 r s4 nr hr4 => ?_⟩
      have lb := lb_lj (okE_ve (ok := fun j => !decide (j ∈ brg n es)) ve)
      change Lb n (inn n es) (lj n (inn n es)) at lb
      have eC : cel n es = (rtTo (lj n (inn n es)) n).map (grp (lj n (inn n es)) n) := rfl
      rw [eC] at q
      generalize lj n (inn n es) = L at *
      have hd4 := s4 _ _ hd3
      have s04 := s3.trans s4
      have Ll := lb.len
      refine ⟨r, NV L, rfl, sl_of hr4, for_it (walk_enum (xs := NV L)) (fun i σ H' => ∃ v5 v6, σ = [some (.int (n : Int)), some (.ref a), some (.ref b), some (.ref D), some (.ref d), v5, v6, none, none] ∧ (∀ b o, b ≠ d → H4 b = some o → H' b = some o) ∧ GrpAt H4 H' d L i)
        ⟨_, _, rfl, fun b o _ e => e, fun _ => 0, hd4, fun r hr => absurd (mem_rtTo.mp hr).1 (Nat.not_lt_zero _), fun r hr => absurd (mem_rtTo.mp hr).1 (Nat.not_lt_zero _)⟩ (fun i σ H' _ ⟨_, _, _, kp, _⟩ => sl_of (kp r _ (ne_of hr4 hd4 (by intro z; cases z)) hr4)) ?_ ?_⟩
      · rintro i x σ H5 H6 hi ⟨v5, v6, rfl, kp, ad, g1, g2, g3⟩ ⟨T1, i', y, rfl, nT, rfl, ei, ey⟩
        obtain rfl : V.int (i : Int) = i' := Option.some.inj ei
        rw [NV_len, Ll] at hi
        have ey : (NV L)[i]? = some y := ey
        rw [NV_get (ap_get (by omega))] at ey
        obtain rfl := Option.some.inj ey
        have sT := same_upd (o := .tup [V.int (i : Int), V.int ((ap L i : Nat) : Int)]) nT
        have rt := root_ap lb hi
        have le := lb.le i hi
        have dT : d ≠ T1 := ne_of_none g1 nT
        have g1T := sT _ _ g1
        have kpT : ∀ b o, b ≠ d → H4 b = some o → upd H5 T1 (.tup [V.int (i : Int), V.int ((ap L i : Nat) : Int)]) b = some o := fun b o nb e => sT _ _ (kp b o nb e)
        have g2T : ∀ s ∈ rtTo L i, upd H5 T1 (.tup [V.int (i : Int), V.int ((ap L i : Nat) : Int)]) (ad s) = some (.lst (NV (grp L i s))) := fun s hs => sT _ _ (g2 s hs).1
        generalize eH6 : upd H5 T1 (.tup [V.int (i : Int), V.int ((ap L i : Nat) : Int)]) = H6 at *
        refine ⟨T1, _, rfl, .inl (.inl (by rw [← eH6, upd_same])), rfl, _, _, rfl, _, _, rfl, rfl, ?_⟩
        refine ⟨_, rfl, d, rfl, .inl ⟨_, .inl g1T⟩, _, rfl, Nat.zero_le _, fun l nl => ?_⟩
        have sl := same_upd (o := .lst []) nl
        have g1L := sl _ _ g1T
        have hl0 : upd H6 l (.lst []) l = some (.lst []) := upd_same
        have dl : d ≠ l := ne_of_none g1T nl
        have kpL : ∀ b o, b ≠ d → H4 b = some o → upd H6 l (.lst []) b = some o := fun b o nb e => sl _ _ (kpT b o nb e)
        have g2L : ∀ s ∈ rtTo L i, upd H6 l (.lst []) (ad s) = some (.lst (NV (grp L i s))) := fun s hs => sl _ _ (g2T s hs)
        have l4 : H4 l = none := by
          cases e : H4 l with
          | none => rfl
          | some o =>
            have := kpT l o dl.symm e
            rw [nl] at this
            cases this
        have adl : ∀ s ∈ rtTo L i, ad s ≠ l := fun s hs => ne_of_none (g2T s hs) nl
        generalize upd H6 l (.lst []) = H7 at *
        have klen : (kvG ad (rtTo L i)).length < sizeLine := by
          unfold kvG
          rw [List.length_map]
          exact Nat.lt_of_le_of_lt (rtTo_len L i) (small1000 (by omega))
        have glen : ∀ s, (NV (grp L i s)).length < sizeLine := fun s => by
          rw [NV_len]
          unfold grp
          exact Nat.lt_of_le_of_lt (List.length_filter_le _ _) (by rw [List.length_range]; exact small1000 (by omega))
        refine ⟨_, .inl ((ap L i : Nat) : Int), g1L, rfl, klen, fun v hv => ?_, fun hv => ?_⟩
        · -- the label is there
          have hin : ap L i ∈ rtTo L i := Classical.byContradiction fun z => by
            rw [kvG_out z] at hv
            cases hv
          rw [kvG_in hin] at hv
          obtain rfl := Option.some.inj hv
          have hne : ap L i ≠ i := fun z => by
            have := (mem_rtTo.mp hin).1
            omega
          have hL := g2L _ hin
          have dad : d ≠ ad (ap L i) := ne_of g1L hL (by intro z; cases z)
          refine ⟨.inl ⟨rfl, _, sl_of hL⟩, _, rfl, _, _, _, rfl, rfl, hL, glen _, ?_⟩
          refine ⟨_, _, rfl, fun b o nb e => ?_, ad, ?_, fun s hs => ?_, ?_⟩
          · by_cases z : b = ad (ap L i)
            · subst z
              rw [(g2 _ hin).2] at e
              cases e
            · rw [upd_ne z]
              exact kpL b o nb e
          · rw [upd_ne dad, rtTo_succ, if_neg hne, List.append_nil]
            exact g1L
          · rw [rtTo_succ, if_neg hne, List.append_nil] at hs
            refine ⟨?_, (g2 s hs).2⟩
            rw [grp_succ]
            by_cases z : s = ap L i
            · subst z
              rw [upd_same, if_pos rfl, NV_snoc]
            · rw [upd_ne fun e => z (g3 s hs _ hin e), if_neg fun e => z e.symm, List.append_nil]
              exact g2L s hs
          · rw [rtTo_succ, if_neg hne, List.append_nil]
            exact g3
        · -- the label is new
          have hout : ap L i ∉ rtTo L i := fun z => by
            rw [kvG_in z] at hv
            cases hv
          have hself : ap L i = i := Classical.byContradiction fun z => hout (mem_rtTo.mpr ⟨by omega, rt.2⟩)
          have hni : i ∉ rtTo L i := fun z => by
            have := (mem_rtTo.mp z).1
            omega
          have hL : upd H7 d (.dK (putK (kvG ad (rtTo L i)) (.inl ((ap L i : Nat) : Int)) (.ref l))) l = some (.lst []) := by
            rw [upd_ne dl.symm]
            exact hl0
          refine ⟨.inl ⟨rfl, _, sl_of hL⟩, _, rfl, _, _, _, rfl, rfl, hL, Nat.lt_of_le_of_lt (Nat.zero_le 1) (by decide), ?_⟩
          refine ⟨_, _, rfl, fun b o nb e => ?_, fun x => if x = i then l else ad x, ?_, fun s hs => ?_, ?_⟩
          · rw [upd_ne (ne_of_none e l4), upd_ne nb]
            exact kpL b o nb e
          · rw [upd_ne dl, upd_same, putK_new _ hv, rtTo_succ, if_pos hself]
            congr 2
            unfold kvG
            rw [List.map_append]
            congr 1
            · refine List.map_congr_left fun s hs => ?_
              have si : s ≠ i := fun z => hni (z ▸ hs)
              show (Sum.inl (s : Int), V.ref (ad s)) = (Sum.inl (s : Int), V.ref (if s = i then l else ad s))
              rw [if_neg si]
            · show [(Sum.inl ((ap L i : Nat) : Int), V.ref l)] = [(Sum.inl (i : Int), V.ref (if i = i then l else ad i))]
              rw [hself, if_pos rfl]
          · rw [rtTo_succ, if_pos hself] at hs
            rw [grp_succ, hself]
            rcases List.mem_append.mp hs with m | m
            · have si : s ≠ i := fun z => hni (z ▸ m)
              dsimp only
              rw [if_neg si, upd_ne (adl s m), upd_ne (ne_of (g2L s m) g1L (by intro z; cases z)), if_neg fun z => si z.symm, List.append_nil]
              exact ⟨g2L s m, (g2 s m).2⟩
            · obtain rfl := List.mem_singleton.mp m
              dsimp only
              rw [if_pos rfl, upd_same, if_pos rfl]
              have ge : grp L s s = [] := by
                unfold grp
                refine List.filter_eq_nil_iff.mpr fun x hx => ?_
                have xl := List.mem_range.mp hx
                have := lb.le x (by omega)
                simp
                omega
              rw [ge]
              exact ⟨rfl, l4⟩
          · rw [rtTo_succ, if_pos hself]
            intro s hs u hu2 e
            rcases List.mem_append.mp hs with m | m <;> rcases List.mem_append.mp hu2 with m2 | m2
            · have si : s ≠ i := fun z => hni (z ▸ m)
              have ui : u ≠ i := fun z => hni (z ▸ m2)
              dsimp only at e
              rw [if_neg si, if_neg ui] at e
              exact g3 s m u m2 e
            · obtain rfl := List.mem_singleton.mp m2
              have si : s ≠ u := fun z => hni (z ▸ m)
              dsimp only at e
              rw [if_neg si, if_pos rfl] at e
              exact absurd e (adl s m)
            · obtain rfl := List.mem_singleton.mp m
              have ui : u ≠ s := fun z => hni (z ▸ m2)
              dsimp only at e
              rw [if_neg ui, if_pos rfl] at e
              exact absurd e.symm (adl u m2)
            · rw [List.mem_singleton.mp m, List.mem_singleton.mp m2]
      · rintro σ H5 ⟨v5, v6, rfl, kp, ad, g1, g2, g3⟩
        rw [NV_len, Ll] at g1 g2 g3
        have s05 : Same H H5 := fun b o e => kp b o (ne_of_none e d0) (s04 _ _ e)
        refine ⟨_, rfl, d, _, NI (rtTo L n), rfl, .inl g1, ?_, ?_, fun ys p hp pw np => ?_⟩
        · unfold kvG NI
          rw [List.map_map, List.map_map]
          rfl
        · rw [NI_len]
          have := rtTo_len L n
          omega
        · have ey : ys = NI (rtTo L n) := sorted_is hp pw (List.Perm.refl _) (List.Pairwise.imp (fun z => Nat.le_of_lt z) (filter_rise n _))
          subst ey
          rw [← NV_NI]
          have s6 := same_upd (o := .lst (NV (rtTo L n))) np
          have g1' := s6 _ _ g1
          have g2' : ∀ r ∈ rtTo L n, upd H5 p (.lst (NV (rtTo L n))) (ad r) = some (.lst (NV (grp L n r))) := fun r hr => s6 _ _ (g2 r hr).1
          have s06 := s05.trans s6
          have hp6 : upd H5 p (.lst (NV (rtTo L n))) p = some (.lst (NV (rtTo L n))) := upd_same
          generalize upd H5 p (.lst (NV (rtTo L n))) = H6 at *
          refine ⟨p, rfl, ⟨_, sl_of hp6⟩, fun D2 nD2 => lc_it (walk_list (xs := NV (rtTo L n))) (fun i H' => Same H6 H' ∧ ∃ ks : List (Addr × List Nat), H' D2 = some (.lst (ks.map fun k => V.ref k.1)) ∧ ks.map (·.2) = ((rtTo L n).take i).map (grp L n) ∧ ∀ k ∈ ks, Tp H' k.1 k.2)
            ⟨same_upd nD2, [], upd_same, rfl, fun k hk => nomatch hk⟩ (fun i H' _ ⟨sm, _⟩ => sl_of (sm _ _ hp6)) ?_ ?_⟩
          · rintro i x _ H7 hi ⟨sm, js, j1, j2, j3⟩ ⟨rfl, hx⟩
            obtain ⟨s, hs, rfl⟩ := NV_get' hx
            have hm := List.mem_of_getElem? hs
            have hL := sm _ _ (g2' s hm)
            refine ⟨rfl, _, rfl, _, rfl, d, _, rfl, by rw [← kvG_in hm]; exact DGet.k (k := Sum.inl (s : Int)) (sm _ _ g1'), ?_⟩
            refine ⟨_, _, rfl, .inl ⟨sl_of hL, fun t nt => ?_⟩⟩
            have st := same_upd (o := .tup (NV (grp L n s))) nt
            refine ⟨_, st _ _ j1, ?_, fun b o e => ?_, js ++ [(t, grp L n s)], ?_, ?_, fun k hk => ?_⟩
            · have : js.length ≤ i := by
                have := congrArg List.length j2
                rw [List.length_map, List.length_map, List.length_take] at this
                omega
              rw [nv_len]
              rw [NV_len] at hi
              have := rtTo_len L n
              exact small1000 (by omega)
            · rw [upd_ne (ne_of_none e nD2)]
              exact st _ _ (sm _ _ e)
            · rw [upd_same, List.map_append]
              rfl
            · rw [List.map_append, j2, List.take_add_one, hs, List.map_append]
              rfl
            · rcases List.mem_append.mp hk with m | m
              · exact tp_upd (st _ _ (j3 k m)) (st _ _ j1)
              · rw [List.mem_singleton.mp m]
                exact tp_upd upd_same (st _ _ j1)
          · rintro H7 ⟨sm, js, j1, j2, j3⟩
            rw [NV_len, List.take_length] at j2
            refine ⟨D2, _, rfl, .inl ⟨sl_of j1, fun t nt => ?_⟩⟩
            have st := same_upd (o := .tup (js.map fun k => V.ref k.1)) nt
            exact q _ t ((s06.trans sm).trans st) ((s06.trans sm).free nt) ⟨js, upd_same, j2, fun k hk => st _ _ (j3 k hk)⟩
end
end Hw

namespace Hw
open PySem PySem.Spec PyProof.Rows L2 ClX
abbrev sInit : Stmt := inClass sNetwork 2
abbrev sGetB : Stmt := inClass sNetwork 8
abbrev sGetC : Stmt := inClass sNetwork 9
/-- all but the object is as it was -/
def Kx (x : Addr) (H H' : Hp) : Prop := ∀ b o, b ≠ x → H b = some o → H' b = some o
theorem Kx.of {x : Addr} {H H' : Hp} (s : Same H H') : Kx x H H' := fun b o _ e => s b o e
theorem Kx.trans {x : Addr} {H H1 H2 : Hp} (a : Kx x H H1) (b : Kx x H1 H2) : Kx x H H2 := fun c o n e => b c o n (a c o n e)
theorem Kx.upd (x : Addr) (H : Hp) (o : HO) : Kx x H (upd H x o) := fun b _ n e => by rw [upd_ne n]; exact e
theorem Kx.tup {x : Addr} {H H' : Hp} {C dx : Addr} {fs : List (Str × V)} (k : Kx x H H') (hx : H x = some (.ins C dx fs)) {b : Addr} {xs : List V} (h : H b = some (.tup xs)) : H' b = some (.tup xs) := k b _ (ne_of h hx (by intro z; cases z)) h
theorem EdT.kx {x : Addr} {H H' : Hp} {C dx : Addr} {fs : List (Str × V)} {l : Addr} {es : List Ed} (h : EdT H l es) (k : Kx x H H') (hx : H x = some (.ins C dx fs)) : EdT H' l es := by
  obtain ⟨ks, a, b, c⟩ := h
  exact ⟨ks, k.tup hx a, b, fun y hy => k.tup hx (c y hy)⟩
theorem CsAt.kx {x : Addr} {H H' : Hp} {C dx : Addr} {fs : List (Str × V)} {l : Addr} {cs : List (List Nat)} (h : CsAt H l cs) (k : Kx x H H') (hx : H x = some (.ins C dx fs)) : CsAt H' l cs := by
  obtain ⟨ks, a, b, c⟩ := h
  exact ⟨ks, k.tup hx a, b, fun y hy => k.tup hx (c y hy)⟩
/-- a network stands at x -/
def NetAt (C : Addr) (H : Hp) (x : Addr) (n : Nat) (es : List Ed) : Prop := ∃ (dx : Addr) (fs : List (Str × V)) (b c : Addr), H x = some (.ins C dx fs) ∧ fs.lookup ("_bridges" : Str) = some (.ref b) ∧ fs.lookup ("_cells" : Str) = some (.ref c) ∧ Tp H b (brg n es) ∧ CsAt H c (cel n es)
theorem NetAt.same {C : Addr} {H H' : Hp} {x : Addr} {n : Nat} {es : List Ed} (h : NetAt C H x n es) (s : Same H H') : NetAt C H' x n es := by
  obtain ⟨dx, fs, b, c, h1, h2, h3, h4, h5⟩ := h
  exact ⟨dx, fs, b, c, s _ _ h1, h2, h3, s _ _ h4, h5.same s⟩
theorem len_putF (f : Str) (v : V) : ∀ fs : List (Str × V), (putF f v fs).length ≤ fs.length + 1
  | [] => Nat.le_refl _
  | (g, x) :: r => by
    show (if g = f then (g, v) :: r else (g, x) :: putF f v r).length ≤ r.length + 1 + 1
    split
    · exact Nat.le_succ _
    · have := len_putF f v r
      rw [List.length_cons]
      omega
section
variable {P : Program} {w : World} {K : PySem.W.Frag} {mg : Str → Option Value} {base : Heap}
/-! ### _find_exits -/
def spExits : Sp := fun vs H Q _ => ∃ (a : Addr) (n : Nat) (es : List Ed), vs = [.int (n : Int), .ref a] ∧ EdT H a es ∧ n ≤ 12 ∧ es.length ≤ 16 ∧ ∀ H' r, Same H H' → Q (.ref r) H'
abbrev nEx : List Str := ["places", "passages", "exits", "place", "passage", "ends"]
theorem scExits : FnScope nEx ["places", "passages"] (defScope sExits) := ⟨rfl, rfl, rfl, by decide +kernel, rfl, by decide +kernel, by decide +kernel⟩
theorem cal_exits (T : Txt mg) (D : Df K mg "_find_exits" sExits ["places", "passages"]) : Cal P w K mg base "_find_exits" 1 spExits := by
  have nd := scExits.nd
  refine cal_of D scExits (fun vs H Q E h => ?_) (fun f cdv A outer s0 H vs Q E hr h => ?_)
  · obtain ⟨a, n, es, rfl, _⟩ := h
    rfl
  · obtain ⟨a, n, es, rfl, he, hn, hl, q⟩ := h
    refine ⟨_, pss_cons (ps_set (i := 2) nd rfl (.inl rfl) (pe_lst pa_nil))
      <| pss_cons (ps_for PassesOwn.never rfl (pi_range1 (by rfl) T.range (pa_cons (pv 0) pa_nil)) (pg_name (i := 3) nd rfl (.inr rfl))
          (pss_one (ps_expr (pe_bm PySem.F.plainAttrs_list PySem.F.slot_list_append PySem.F.type_list_append mt_append (pv 2) (pa_cons (pe_callTy call_tuple_of (by rfl) T.tuple (by decide +kernel) (pa_cons
              (pe_lc (own := [("passage", 4), ("ends", 5)]) (g := gTup K 2 (gCons (gName 4) (gCons (gName 5) gNil))) (by rfl) nd (pi_enumT (by rfl) T.enumerate (pa_cons (pv 1) pa_nil))
                (blkOk_by (own := [("passage", 4), ("ends", 5)]) (N := nEx) (sc := defScope sExits) (by decide +kernel)) (fun _ _ _ _ _ => pg_tup rfl (pgs_cons (pg_name (i := 4) nd rfl (.inl rfl)) (pgs_cons (pg_name (i := 5) nd rfl (.inl rfl)) pgs_nil)))
                (fun _ _ _ _ _ => pts_one (pt_cmpR (r := rIn K false) op_in_seq (pv 3) (pv 5) (by rfl))) (fun _ _ _ _ _ => pv 4)) pa_nil)) pa_nil)))))
      <| pss_one (ps_ret (pe_callTy call_tuple_of (by rfl) T.tuple (by decide +kernel) (pa_cons (pv 2) pa_nil))), ?_⟩
    obtain ⟨ks, k1, k2, k3⟩ := id he
    have kl := ed_len k2
    refine ⟨Nat.zero_le _, fun l nl => ?_⟩
    refine ⟨_, rfl, _, rfl, by omega, by omega, ?_⟩
    rw [Int.toNat_natCast]
    refine for_it walk_rg0 (fun i σ H' => ∃ v3 v4 v5 xs, σ = [some (.int (n : Int)), some (.ref a), some (.ref l), v3, v4, v5] ∧ Same H H' ∧ H' l = some (.lst xs) ∧ xs.length ≤ i) ⟨_, _, _, _, rfl, same_upd nl, upd_same, Nat.le_refl _⟩ (fun _ _ _ _ _ => trivial) ?_ ?_
    · rintro i x σ _ H2 hi ⟨v3, v4, v5, xs, rfl, sm, hL, xl⟩ ⟨rfl, rfl⟩
      refine ⟨_, rfl, .inl ⟨rfl, _, sl_of hL⟩, _, rfl, a, _, rfl, sq_of (sm _ _ k1) |> fun z => z, fun D nD => lc_it (walk_enumT (xs := ks.map fun k => V.ref k.1)) (fun j H' => Same H2 H' ∧ ∃ acc, H' D = some (.lst acc) ∧ acc.length ≤ j) ⟨same_upd nD, [], upd_same, Nat.le_refl _⟩ (fun j H' _ ⟨s, _⟩ => sq_of (s _ _ (sm _ _ k1))) ?_ ?_⟩
      · rintro j y H3 H4 hj ⟨s3, acc, hD, al⟩ ⟨T1, i', y', rfl, nT, rfl, ei, ey⟩
        obtain rfl : V.int (j : Int) = i' := Option.some.inj ei
        obtain ⟨k, hk, rfl⟩ := refs_get ey
        obtain ⟨e, hei, ek⟩ := ed_get k2 hk
        rw [nv_len, kl] at hj
        have sT := same_upd (o := .tup [V.int (j : Int), V.ref k.1]) nT
        have tk := sT _ _ (s3 _ _ (sm _ _ (k3 k (List.mem_of_getElem? hk))))
        refine ⟨T1, _, rfl, .inl (.inl upd_same), rfl, _, _, rfl, _, _, rfl, rfl, rfl, ?_⟩
        refine ⟨_, rfl, _, rfl, k.1, _, rfl, .inr (sq_of tk), rfl, flat_NV _, _, rfl, ite2 (fun _ => ?_) (fun _ => ?_)⟩
        · refine ⟨_, rfl, _, sT _ _ hD, small1000 (by omega), fun b o eb => ?_, _, upd_same, by rw [List.length_append]; show acc.length + 1 ≤ _; omega⟩
          rw [upd_ne (ne_of_none eb nD)]
          exact sT _ _ (s3 _ _ eb)
        · exact ⟨s3.trans sT, acc, sT _ _ hD, by omega⟩
      · rintro H3 ⟨s3, acc, hD, al⟩
        refine ⟨D, acc, rfl, .inl ⟨sl_of hD, fun t nt => ?_⟩⟩
        have st := same_upd (o := .tup acc) nt
        refine ⟨l, _, _, rfl, rfl, st _ _ (s3 _ _ hL), small1000 (by omega), ?_⟩
        refine ⟨_, _, _, _, rfl, fun b o e => ?_, upd_same, by rw [List.length_append]; show xs.length + 1 ≤ _; omega⟩
        rw [upd_ne (ne_of_none e nl)]
        exact st _ _ (s3 _ _ (sm _ _ e))
    · rintro σ H2 ⟨v3, v4, v5, xs, rfl, sm, hL, xl⟩
      exact ⟨_, rfl, l, _, rfl, .inl ⟨sl_of hL, fun t nt => q _ t (sm.trans (same_upd nt))⟩⟩
end
end Hw

/-! How far places are from each other, and the least way. No Python here. -/
namespace Hw
/-- x is within k passages of g -/
def bl (es : List Ed) (g : Nat) : Nat → Nat → Bool
  | 0, x => decide (x = g)
  | k + 1, x => bl es g k x || es.any fun e => (decide (e.1 = x) && bl es g k e.2) || (decide (e.2 = x) && bl es g k e.1)
theorem bl_succ {es : List Ed} {g k x : Nat} : bl es g (k + 1) x = true ↔ bl es g k x = true ∨ ∃ y, adj es x y ∧ bl es g k y = true := by
  show (bl es g k x || es.any fun e => (decide (e.1 = x) && bl es g k e.2) || (decide (e.2 = x) && bl es g k e.1)) = true ↔ _
  rw [Bool.or_eq_true, List.any_eq_true]
  constructor
  · rintro (h | ⟨e, he, h⟩)
    · exact .inl h
    · right
      rw [Bool.or_eq_true, Bool.and_eq_true, Bool.and_eq_true, decide_eq_true_eq, decide_eq_true_eq] at h
      rcases h with ⟨a, b⟩ | ⟨a, b⟩
      · exact ⟨e.2, .inl (by rw [← a]; exact he), b⟩
      · exact ⟨e.1, .inr (by rw [← a]; exact he), b⟩
  · rintro (h | ⟨y, h, b⟩)
    · exact .inl h
    · right
      rcases h with m | m
      · exact ⟨_, m, by simp [b]⟩
      · exact ⟨_, m, by simp [b]⟩
theorem bl_mono {es : List Ed} {g x k j : Nat} (h : bl es g k x = true) (l : k ≤ j) : bl es g j x = true := by
  induction l with
  | refl => exact h
  | step _ ih => exact bl_succ.mpr (.inl ih)
theorem bl_cons {es : List Ed} {x y : Nat} (a : adj es x y) {z : Nat} : ∀ {k : Nat}, bl es y k z = true → bl es x (k + 1) z = true := by
  intro k
  induction k generalizing z with
  | zero =>
    intro h
    have e : z = y := of_decide_eq_true h
    subst e
    exact bl_succ.mpr (.inr ⟨x, adj_symm a, decide_eq_true rfl⟩)
  | succ k ih =>
    intro h
    rcases bl_succ.mp h with h | ⟨v, q, h⟩
    · exact bl_mono (ih h) (Nat.le_succ _)
    · exact bl_succ.mpr (.inr ⟨v, q, ih h⟩)
theorem bl_symm {es : List Ed} {g : Nat} : ∀ {k x : Nat}, bl es g k x = true → bl es x k g = true := by
  intro k
  induction k with
  | zero =>
    intro x h
    exact decide_eq_true (of_decide_eq_true h).symm
  | succ k ih =>
    intro x h
    rcases bl_succ.mp h with h | ⟨v, q, h⟩
    · exact bl_mono (ih h) (Nat.le_succ _)
    · exact bl_cons q (ih h)
/-- what holds from some number on, counted -/
theorem count_mono (p : Nat → Bool) (mono : ∀ k, p k = true → p (k + 1) = true) : ∀ n, ((List.range n).filter fun k => !p k).length ≤ n ∧ ∀ k, k < n → (p k = true ↔ ((List.range n).filter fun k => !p k).length ≤ k)
  | 0 => ⟨Nat.le_refl _, fun k h => absurd h (Nat.not_lt_zero _)⟩
  | n + 1 => by
    obtain ⟨i1, i2⟩ := count_mono p mono n
    have e : ((List.range (n + 1)).filter fun k => !p k).length = ((List.range n).filter fun k => !p k).length + (if p n = true then 0 else 1) := by
      rw [List.range_succ, List.filter_append, List.length_append, List.filter_cons, List.filter_nil]
      cases p n <;> rfl
    have up : ∀ d k, p k = true → p (k + d) = true := fun d => by
      induction d with
      | zero => exact fun _ z => z
      | succ d ih => exact fun k z => mono _ (ih k z)
    have down : ∀ k, k ≤ n → p k = true → p n = true := fun k h z => by
      have := up (n - k) k z
      rw [show k + (n - k) = n by omega] at this
      exact this
    rw [e]
    by_cases c : p n = true
    · rw [if_pos c, Nat.add_zero]
      refine ⟨by omega, fun k hk => ?_⟩
      by_cases z : k = n
      · subst z; simp [c, i1]
      · exact i2 k (by omega)
    · rw [if_neg c]
      have full : ((List.range n).filter fun k => !p k).length = n := by
        by_cases z : n = 0
        · subst z; rfl
        · have := i2 (n - 1) (by omega)
          have nn : ¬ p (n - 1) = true := fun q => c (down (n - 1) (by omega) q)
          have : ¬ ((List.range n).filter fun k => !p k).length ≤ n - 1 := fun q => nn (this.mpr q)
          omega
      rw [full]
      refine ⟨Nat.le_refl _, fun k hk => ⟨fun q => absurd (down k (by omega) q) c, fun q => by omega⟩⟩
theorem len_filter_le {α : Type} {p q : α → Bool} : ∀ {l : List α}, (∀ x ∈ l, p x = true → q x = true) → (l.filter p).length ≤ (l.filter q).length
  | [], _ => Nat.le_refl _
  | a :: l, h => by
    have ih := len_filter_le (l := l) fun x hx => h x (List.mem_cons_of_mem _ hx)
    have ha := h a List.mem_cons_self
    rw [List.filter_cons, List.filter_cons]
    cases e1 : p a <;> cases e2 : q a <;> simp [e1, e2] at ha ⊢ <;> omega
theorem len_filter_lt {α : Type} {p q : α → Bool} {x : α} : ∀ {l : List α}, (∀ x ∈ l, p x = true → q x = true) → x ∈ l → p x = false → q x = true → (l.filter p).length < (l.filter q).length
  | a :: l, h, m, hp, hq => by
    have ih := len_filter_le (l := l) fun x hx => h x (List.mem_cons_of_mem _ hx)
    have ha := h a List.mem_cons_self
    rcases List.mem_cons.mp m with e | m
    · subst e
      rw [List.filter_cons, List.filter_cons, hp, hq]
      simp
      omega
    · have ih2 := len_filter_lt (fun x hx => h x (List.mem_cons_of_mem _ hx)) m hp hq
      rw [List.filter_cons, List.filter_cons]
      cases e1 : p a <;> cases e2 : q a <;> simp [e1, e2] at ha ⊢ <;> omega
theorem bl_grows {n : Nat} {es : List Ed} (cn : CN n es) {g : Nat} (hg : g < n) : ∀ k, (∀ x, x < n → bl es g k x = true) ∨ k + 1 ≤ ((List.range n).filter (bl es g k)).length
  | 0 => .inr (List.length_pos_iff_exists_mem.mpr ⟨g, List.mem_filter.mpr ⟨List.mem_range.mpr hg, decide_eq_true rfl⟩⟩)
  | k + 1 => by
    rcases bl_grows cn hg k with h | h
    · exact .inl fun x hx => bl_mono (h x hx) (Nat.le_succ _)
    · by_cases c : ∃ x, x < n ∧ bl es g k x = false ∧ bl es g (k + 1) x = true
      · right
        obtain ⟨x, hx, a, b⟩ := c
        have := len_filter_lt (p := bl es g k) (q := bl es g (k + 1)) (l := List.range n) (fun x _ z => bl_mono z (Nat.le_succ _)) (List.mem_range.mpr hx) a b
        omega
      · left
        have lt : ∀ {u v}, adj es u v → u < n ∧ v < n := fun {u v} a => by
          rcases a with m | m <;> (have := cn.2.1 _ m; simp only at this; omega)
        have cl : ∀ {u v}, Rch es u v → bl es g k u = true → u < n → bl es g k v = true ∧ v < n := fun r hu hn => by
          induction r with
          | refl => exact ⟨hu, hn⟩
          | step _ a ih =>
            have l := lt a
            refine ⟨?_, l.2⟩
            cases e : bl es g k _ with
            | true => rfl
            | false => exact absurd ⟨_, l.2, e, bl_succ.mpr (.inr ⟨_, adj_symm a, ih.1⟩)⟩ c
        have g0 : bl es g k g = true := bl_mono (k := 0) (decide_eq_true rfl) (Nat.zero_le _)
        exact fun x hx => bl_mono (cl ((cn.2.2 g hg).symm.trans (cn.2.2 x hx)) g0 hg).1 (Nat.le_succ _)
theorem bl_all {n : Nat} {es : List Ed} (cn : CN n es) {g x : Nat} (hg : g < n) (hx : x < n) : bl es g (n - 1) x = true := by
  rcases bl_grows cn hg (n - 1) with h | h
  · exact h x hx
  · have e : ((List.range n).filter (bl es g (n - 1))).length = (List.range n).length := Nat.le_antisymm (List.length_filter_le _ _) (by rw [List.length_range]; omega)
    exact List.length_filter_eq_length_iff.mp e x (List.mem_range.mpr hx)
/-- how far x is from g -/
def dst (n : Nat) (es : List Ed) (g x : Nat) : Nat := ((List.range n).filter fun k => !bl es g k x).length
theorem bl_dst {n : Nat} {es : List Ed} {g x k : Nat} (h : k < n) : bl es g k x = true ↔ dst n es g x ≤ k :=
  (count_mono (fun k => bl es g k x) (fun k z => bl_mono z (Nat.le_succ _)) n).2 k h
/-- distances from g -/
structure IsD (n : Nat) (es : List Ed) (g : Nat) (d : Nat → Nat) : Prop where
  z : d g = 0
  lt : ∀ x, x < n → d x < n
  up : ∀ x y, adj es x y → d y ≤ d x + 1
  dn : ∀ x, x < n → d x ≠ 0 → ∃ y, adj es x y ∧ d y + 1 = d x
  zo : ∀ x, x < n → d x = 0 → x = g
theorem adj_lt {n : Nat} {es : List Ed} (ve : VE n es) {u v : Nat} (a : adj es u v) : u < n ∧ v < n := by
  rcases a with m | m <;> (have := ve _ m; simp only at this; omega)
theorem dst_is {n : Nat} {es : List Ed} (cn : CN n es) {g : Nat} (hg : g < n) : IsD n es g (dst n es g) := by
  have n1 := cn.1
  have lt : ∀ x, x < n → dst n es g x < n := fun x hx => by
    have := (bl_dst (n := n) (es := es) (g := g) (x := x) (k := n - 1) (by omega)).mp (bl_all cn hg hx)
    omega
  refine ⟨?_, lt, fun x y a => ?_, fun x hx h => ?_, fun x hx h => ?_⟩
  · have := (bl_dst (n := n) (es := es) (g := g) (x := g) (k := 0) (by omega)).mp (decide_eq_true rfl)
    omega
  · have l := adj_lt cn.2.1 a
    have h1 := (bl_dst (n := n) (es := es) (g := g) (lt x l.1)).mpr (Nat.le_refl _)
    have h2 : bl es g (dst n es g x + 1) y = true := bl_succ.mpr (.inr ⟨x, adj_symm a, h1⟩)
    by_cases c : dst n es g x + 1 < n
    · exact (bl_dst c).mp h2
    · have := lt y l.2
      have := lt x l.1
      omega
  · have l := lt x hx
    have h1 := (bl_dst (n := n) (es := es) (g := g) l).mpr (Nat.le_refl _)
    obtain ⟨k, ek⟩ : ∃ k, dst n es g x = k + 1 := ⟨dst n es g x - 1, by omega⟩
    rw [ek] at h1 l
    rcases bl_succ.mp h1 with h | ⟨y, a, h⟩
    · have := (bl_dst (n := n) (es := es) (g := g) (x := x) (k := k) (by omega)).mp h
      omega
    · refine ⟨y, a, ?_⟩
      have u := (bl_dst (n := n) (es := es) (g := g) (x := y) (k := k) (by omega)).mp h
      by_cases c : dst n es g y = k
      · omega
      · exfalso
        have h3 := (bl_dst (n := n) (es := es) (g := g) (lt y (adj_lt cn.2.1 a).2)).mpr (Nat.le_refl _)
        have h4 : bl es g (dst n es g y + 1) x = true := bl_succ.mpr (.inr ⟨y, a, h3⟩)
        have := (bl_dst (n := n) (es := es) (g := g) (x := x) (k := dst n es g y + 1) (by omega)).mp h4
        omega
  · have h1 := (bl_dst (n := n) (es := es) (g := g) (x := x) (k := 0) (by omega)).mpr (by omega)
    exact of_decide_eq_true h1
theorem dst_symm {n : Nat} {es : List Ed} (cn : CN n es) {g x : Nat} (hg : g < n) (hx : x < n) : dst n es g x = dst n es x g := by
  have a := (dst_is cn hg).lt x hx
  have b := (dst_is cn hx).lt g hg
  have h1 := (bl_dst (n := n) (es := es) (g := x) (x := g) a).mp (bl_symm ((bl_dst a).mpr (Nat.le_refl _)))
  have h2 := (bl_dst (n := n) (es := es) (g := g) (x := x) b).mp (bl_symm ((bl_dst b).mpr (Nat.le_refl _)))
  omega
theorem dst_self {n : Nat} {es : List Ed} (cn : CN n es) {g : Nat} (hg : g < n) : dst n es g g = 0 := (dst_is cn hg).z
/-! ### the least way -/
def drsTo (es : List Ed) (u j : Nat) : List Nat := (List.range j).filter fun i => decide (u ∈ [(es.getD i (0, 0)).1, (es.getD i (0, 0)).2])
def drs (es : List Ed) (u : Nat) : List Nat := drsTo es u es.length
theorem drsTo_succ (es : List Ed) (u j : Nat) : drsTo es u (j + 1) = drsTo es u j ++ (if decide (u ∈ [(es.getD j (0, 0)).1, (es.getD j (0, 0)).2]) = true then [j] else []) := by
  unfold drsTo
  rw [List.range_succ, List.filter_append]
  congr 1
  rw [List.filter_cons, List.filter_nil]
theorem drsTo_len (es : List Ed) (u j : Nat) : (drsTo es u j).length ≤ j := by
  unfold drsTo
  exact Nat.le_trans (List.length_filter_le _ _) (by rw [List.length_range]; exact Nat.le_refl _)
theorem getD_of {es : List Ed} {i : Nat} {e : Ed} (h : es[i]? = some e) : es.getD i (0, 0) = e := by
  rw [List.getD_eq_getElem?_getD, h]
  rfl
theorem get_at {es : List Ed} {i : Nat} (h : i < es.length) : es[i]? = some (es.getD i (0, 0)) := by
  rw [List.getD_eq_getElem?_getD, List.getElem?_eq_getElem h]
  rfl
theorem mem_drs {es : List Ed} {u j : Nat} : j ∈ drs es u ↔ j < es.length ∧ u ∈ [(es.getD j (0, 0)).1, (es.getD j (0, 0)).2] := by
  unfold drs drsTo
  rw [List.mem_filter, List.mem_range, decide_eq_true_eq]
/-- the other end -/
def oth (e : Ed) (x : Nat) : Nat := if x = e.1 then e.2 else e.1
theorem oth_sum {e : Ed} {x : Nat} (h : x ∈ [e.1, e.2]) : oth e x = e.1 + e.2 - x ∧ x ≤ e.1 + e.2 := by
  have h' : x = e.1 ∨ x = e.2 := by simpa using h
  unfold oth
  rcases h' with z | z
  · rw [if_pos z]; omega
  · split <;> omega
theorem oth_adj {es : List Ed} {i x : Nat} (h : i ∈ drs es x) : adj es x (oth (es.getD i (0, 0)) x) := by
  obtain ⟨l, m⟩ := mem_drs.mp h
  have me := List.mem_of_getElem? (get_at l)
  generalize es.getD i (0, 0) = e at *
  have h' : x = e.1 ∨ x = e.2 := by simpa using m
  unfold oth
  by_cases z : x = e.1
  · rw [if_pos z]
    exact .inl (by rw [z]; exact me)
  · rw [if_neg z]
    have := h'.resolve_left z
    exact .inr (by rw [this]; exact me)
theorem adj_oth {es : List Ed} {x y : Nat} (a : adj es x y) : ∃ i, i ∈ drs es x ∧ oth (es.getD i (0, 0)) x = y := by
  have main : ∀ e : Ed, e ∈ es → (e = (x, y) ∨ e = (y, x)) → ∃ i, i ∈ drs es x ∧ oth (es.getD i (0, 0)) x = y := fun e m h => by
    obtain ⟨i, hi, ei⟩ := List.mem_iff_getElem.mp m
    have g := getD_of (es := es) (i := i) (e := e) (by rw [List.getElem?_eq_getElem hi, ei])
    refine ⟨i, mem_drs.mpr ⟨hi, ?_⟩, ?_⟩
    · rw [g]
      rcases h with z | z <;> subst z <;> simp
    · rw [g]
      rcases h with z | z <;> subst z
      · exact if_pos rfl
      · unfold oth
        simp only
        split
        · rename_i q; exact q
        · rfl
  rcases a with m | m
  · exact main _ m (.inl rfl)
  · exact main _ m (.inr rfl)
/-- the passages at x that lead nearer -/
def stp (es : List Ed) (d : Nat → Nat) (x : Nat) : List Nat := (drs es x).filter fun i => decide (d (oth (es.getD i (0, 0)) x) < d x)
def wy (es : List Ed) (d : Nat → Nat) : Nat → Nat → List Nat
  | 0, _ => []
  | k + 1, x => (stp es d x).headD 0 :: wy es d k (oth (es.getD ((stp es d x).headD 0) (0, 0)) x)
def wayF (n : Nat) (es : List Ed) (x g : Nat) : List Nat := wy es (dst n es g) (dst n es g x) x
theorem wy_len (es : List Ed) (d : Nat → Nat) : ∀ k x, (wy es d k x).length = k
  | 0, _ => rfl
  | k + 1, x => congrArg (· + 1) (wy_len es d k _)
theorem stp_ex {n : Nat} {es : List Ed} (ve : VE n es) {g : Nat} {d : Nat → Nat} (D : IsD n es g d) {x : Nat} (hx : x < n) (h : d x ≠ 0) :
    ∃ i r, stp es d x = i :: r ∧ i ∈ drs es x ∧ i < es.length ∧ oth (es.getD i (0, 0)) x < n ∧ d (oth (es.getD i (0, 0)) x) + 1 = d x := by
  cases e : stp es d x with
  | nil =>
    exfalso
    obtain ⟨y, a, q⟩ := D.dn x hx h
    obtain ⟨i, hi, eo⟩ := adj_oth a
    have : i ∈ stp es d x := List.mem_filter.mpr ⟨hi, decide_eq_true (by rw [eo]; omega)⟩
    rw [e] at this
    cases this
  | cons i r =>
    have m : i ∈ stp es d x := by rw [e]; exact List.mem_cons_self
    obtain ⟨m1, m2⟩ := List.mem_filter.mp m
    have lt := of_decide_eq_true m2
    have a := oth_adj m1
    have u := D.up _ _ (adj_symm a)
    exact ⟨i, r, rfl, m1, (mem_drs.mp m1).1, (adj_lt ve a).2, by omega⟩
/-- nearer is nearer by one -/
theorem stp_eq {n : Nat} {es : List Ed} {g : Nat} {d : Nat → Nat} (D : IsD n es g d) {x i : Nat} (hi : i ∈ drs es x) : d (oth (es.getD i (0, 0)) x) < d x ↔ d (oth (es.getD i (0, 0)) x) + 1 = d x := by
  have u := D.up _ _ (adj_symm (oth_adj hi))
  omega
theorem wy_lt {n : Nat} {es : List Ed} (ve : VE n es) {g : Nat} {d : Nat → Nat} (D : IsD n es g d) : ∀ k x, x < n → d x = k → ∀ i ∈ wy es d k x, i < es.length
  | 0, _, _, _, i, h => nomatch h
  | k + 1, x, hx, e, i, h => by
    obtain ⟨j, r, ej, _, jl, ol, eo⟩ := stp_ex ve D hx (by omega)
    unfold wy at h
    rw [ej] at h
    rcases List.mem_cons.mp h with z | m
    · rw [z]; exact jl
    · exact wy_lt ve D k _ ol (by show d (oth (es.getD j (0, 0)) x) = k; omega) i m
end Hw

namespace Hw
open PySem PySem.Spec PyProof.Rows L2 ClX
theorem pl_mem {e : Ed} {u : Nat} : decide (u ∈ pl e) = decide (u ∈ [e.1, e.2]) := rfl
theorem drs_len (es : List Ed) (u : Nat) : (drs es u).length ≤ es.length := drsTo_len es u _
def exs (n : Nat) (es : List Ed) : List (List Nat) := (List.range (n : Nat)).map (drs es)
section
variable {P : Program} {w : World} {K : PySem.W.Frag} {mg : Str → Option Value} {base : Heap}
/-! ### _find_exits, whole -/
def spExits5 : Sp := fun vs H Q _ => ∃ (a : Addr) (n : Nat) (es : List Ed), vs = [.int (n : Int), .ref a] ∧ EdT H a es ∧ n ≤ 12 ∧ es.length ≤ 16 ∧ ∀ H' r, Same H H' → CsAt H' r (exs n es) → Q (.ref r) H'
theorem cal_exits5 (T : Txt mg) (D : Df K mg "_find_exits" sExits ["places", "passages"]) : Cal P w K mg base "_find_exits" 1 spExits5 := by
  have nd := scExits.nd
  refine cal_of D scExits (fun vs H Q E h => ?_) (fun f cdv A outer s0 H vs Q E hr h => ?_)
  · obtain ⟨a, n, es, rfl, _⟩ := h
    rfl
  · obtain ⟨a, n, es, rfl, he, hn, hl, q⟩ := h
    refine ⟨_, pss_cons (ps_set (i := 2) nd rfl (.inl rfl) (pe_lst pa_nil))
      <| pss_cons (ps_for PassesOwn.never rfl (pi_range1 (by rfl) T.range (pa_cons (pv 0) pa_nil)) (pg_name (i := 3) nd rfl (.inr rfl))
          (pss_one (ps_expr (pe_bm PySem.F.plainAttrs_list PySem.F.slot_list_append PySem.F.type_list_append mt_append (pv 2) (pa_cons (pe_callTy call_tuple_of (by rfl) T.tuple (by decide +kernel) (pa_cons
              (pe_lc (own := [("passage", 4), ("ends", 5)]) (g := gTup K 2 (gCons (gName 4) (gCons (gName 5) gNil))) (by rfl) nd (pi_enumT (by rfl) T.enumerate (pa_cons (pv 1) pa_nil))
                (blkOk_by (own := [("passage", 4), ("ends", 5)]) (N := nEx) (sc := defScope sExits) (by decide +kernel)) (fun _ _ _ _ _ => pg_tup rfl (pgs_cons (pg_name (i := 4) nd rfl (.inl rfl)) (pgs_cons (pg_name (i := 5) nd rfl (.inl rfl)) pgs_nil)))
                (fun _ _ _ _ _ => pts_one (pt_cmpR (r := rIn K false) op_in_seq (pv 3) (pv 5) (by rfl))) (fun _ _ _ _ _ => pv 4)) pa_nil)) pa_nil)))))
      <| pss_one (ps_ret (pe_callTy call_tuple_of (by rfl) T.tuple (by decide +kernel) (pa_cons (pv 2) pa_nil))), ?_⟩
    obtain ⟨ks, k1, k2, k3⟩ := id he
    have kl := ed_len k2
    refine ⟨Nat.zero_le _, fun l nl => ?_⟩
    refine ⟨_, rfl, _, rfl, by omega, by omega, ?_⟩
    rw [Int.toNat_natCast]
    refine for_it walk_rg0 (fun i σ H' => ∃ v3 v4 v5, ∃ js : List (Addr × List Nat), σ = [some (.int (n : Int)), some (.ref a), some (.ref l), v3, v4, v5] ∧ Same H H' ∧ H' l = some (.lst (js.map fun k => V.ref k.1)) ∧ js.map (·.2) = exs i es ∧ ∀ k ∈ js, Tp H' k.1 k.2)
      ⟨_, _, _, [], rfl, same_upd nl, upd_same, rfl, fun k hk => nomatch hk⟩ (fun _ _ _ _ _ => trivial) ?_ ?_
    · rintro i x σ _ H2 hi ⟨v3, v4, v5, js, rfl, sm, hL, j2, j3⟩ ⟨rfl, rfl⟩
      have jl : js.length = i := by
        have := congrArg List.length j2
        unfold exs at this
        rw [List.length_map, List.length_map, List.length_range] at this
        exact this
      refine ⟨_, rfl, .inl ⟨rfl, _, sl_of hL⟩, _, rfl, a, _, rfl, sq_of (sm _ _ k1) |> fun z => z, fun D nD => lc_it (walk_enumT (xs := ks.map fun k => V.ref k.1)) (fun j H' => Same H2 H' ∧ H' D = some (.lst (NV (drsTo es i j)))) ⟨same_upd nD, upd_same⟩ (fun j H' _ ⟨s, _⟩ => sq_of (s _ _ (sm _ _ k1))) ?_ ?_⟩
      · rintro j y H3 H4 hj ⟨s3, hD⟩ ⟨T1, i', y', rfl, nT, rfl, ei, ey⟩
        obtain rfl : V.int (j : Int) = i' := Option.some.inj ei
        obtain ⟨k, hk, rfl⟩ := refs_get ey
        obtain ⟨e, hei, ek⟩ := ed_get k2 hk
        rw [nv_len, kl] at hj
        have sT := same_upd (o := .tup [V.int (j : Int), V.ref k.1]) nT
        have tk := sT _ _ (s3 _ _ (sm _ _ (k3 k (List.mem_of_getElem? hk))))
        rw [ek] at tk
        refine ⟨T1, _, rfl, .inl (.inl upd_same), rfl, _, _, rfl, _, _, rfl, rfl, rfl, ?_⟩
        refine ⟨_, rfl, _, rfl, k.1, _, rfl, .inr (sq_of tk), rfl, flat_NV _, _, rfl, ?_⟩
        rw [inV_NV, drsTo_succ, getD_of hei]
        refine ite2 (fun z => ?_) (fun z => ?_)
        · have z' : decide (i ∈ [e.1, e.2]) = true := z
          rw [z']
          refine ⟨_, rfl, _, sT _ _ hD, ?_, fun b o eb => ?_, ?_⟩
          · rw [NV_len]
            exact Nat.lt_of_le_of_lt (drsTo_len _ _ _) (small1000 (by omega))
          · rw [upd_ne (ne_of_none eb nD)]
            exact sT _ _ (s3 _ _ eb)
          · rw [if_pos rfl, upd_same, NV_snoc]
        · have z' : ¬ decide (i ∈ [e.1, e.2]) = true := z
          rw [if_neg z', List.append_nil]
          exact ⟨s3.trans sT, sT _ _ hD⟩
      · rintro H3 ⟨s3, hD⟩
        rw [nv_len, kl] at hD
        refine ⟨D, _, rfl, .inl ⟨sl_of hD, fun t nt => ?_⟩⟩
        have st := same_upd (o := .tup (NV (drsTo es i es.length))) nt
        refine ⟨l, _, _, rfl, rfl, st _ _ (s3 _ _ hL), small1000 (by rw [nv_len]; omega), ?_⟩
        refine ⟨_, _, _, js ++ [(t, drs es i)], rfl, fun b o e => ?_, ?_, ?_, fun k hk => ?_⟩
        · rw [upd_ne (ne_of_none e nl)]
          exact st _ _ (s3 _ _ (sm _ _ e))
        · rw [upd_same, List.map_append]
          rfl
        · unfold exs
          rw [List.map_append, j2, List.range_succ, List.map_append]
          rfl
        · rcases List.mem_append.mp hk with m | m
          · exact tp_upd (st _ _ (s3 _ _ (j3 k m))) (st _ _ (s3 _ _ hL))
          · rw [List.mem_singleton.mp m]
            exact tp_upd upd_same (st _ _ (s3 _ _ hL))
    · rintro σ H2 ⟨v3, v4, v5, js, rfl, sm, hL, j2, j3⟩
      refine ⟨_, rfl, l, _, rfl, .inl ⟨sl_of hL, fun t nt => ?_⟩⟩
      have st := same_upd (o := .tup (js.map fun k => V.ref k.1)) nt
      exact q _ t (sm.trans st) ⟨js, upd_same, j2, fun k hk => st _ _ (j3 k hk)⟩
end
end Hw

/-! An own exception whose __init__ begins with super().__init__(..): the def, as a promise. -/
namespace Hw
open PySem PySem.Spec PyProof.Rows L2
theorem lk_cons {α : Type} (y x : Str) (v : α) (m : List (Str × α)) : ((y, v) :: m).lookup x = if x = y then some v else m.lookup x := by
  by_cases h : x = y
  · subst h
    simp [List.lookup]
  · have e : (x == y) = false := by simpa using h
    rw [if_neg h]
    simp [List.lookup, e]
theorem rev_lookup {l : List (Str × Value)} (nd : (l.map (·.1)).Nodup) {x : Str} {u : Value} (h : (x, u) ∈ l) : l.reverse.lookup x = some u := by
  have gen : ∀ m : List (Str × Value), (m.map (·.1)).Nodup → (x, u) ∈ m → m.lookup x = some u := by
    intro m
    induction m with
    | nil => intro _ h; cases h
    | cons p m ih =>
      obtain ⟨y, v⟩ := p
      intro nd h
      rw [List.map_cons, List.nodup_cons] at nd
      rw [lk_cons]
      rcases List.mem_cons.mp h with e | m'
      · cases e
        rw [if_pos rfl]
      · rw [if_neg fun z : x = y => nd.1 (by rw [← z]; exact List.mem_map.mpr ⟨_, m', rfl⟩)]
        exact ih nd.2 m'
  refine gen _ ?_ (List.mem_reverse.mpr h)
  rw [List.map_reverse, List.nodup_iff_pairwise_ne, List.pairwise_reverse]
  exact List.Pairwise.imp (fun h => h.symm) (List.nodup_iff_pairwise_ne.mp nd)
/-- the frame of such a def -/
def cxK (P : Program) (w : World) (K : PySem.W.Frag) (mg : Str → Option Value) (base : Heap) (N : List Str) (env : Env) (A : Around) (outer : List Env) (st : Shared) (H : Hp) : Cx where
  prog := P
  w := w
  K := K
  mg := mg
  base := base
  A := A.deeper env
  N := N
  s_0 := st
  H_0 := H
  env := env
  outer := outer
  stack := env :: outer
  ex := []
  calm := true
  fn := fun _ => false
  pn := []
  xe := fun _ _ => False
/-- what the text says of such a class and its def -/
structure XiF (P : Program) (K : PySem.W.Frag) (mg : Str → Option Value) (C f : Addr) (fd : FuncData) (qual : Str) (scope : Scope) (body : List Stmt) (cda cc : Addr) : Prop where
  low : OexC K C
  fd_ : ∃ params dV kV doc pm an ct ar, fd = PySem.W.ksFn "__init__" qual params body scope dV kV doc pm an (.ref cda) ct cc ∧ (fd.params.posonlyargs ++ fd.params.args).head? = some ar ∧ ar.arg = "self"
  lk : ∃ oc od osl, K.lookup f = some ⟨oc, od, .func fd, osl⟩
  code : PySem.W.codeIn K (.ref cda) qual = true
  file : ∃ ccl cdd vs ccs file tf, K.lookup cda = some ⟨ccl, cdd, .fields vs, ccs⟩ ∧ vs[2]? = some (.str file tf) ∧ ((P.main.file : Str) == file) = true
  cell : ∃ cl cld csl, K.lookup cc = some ⟨cl, cld, .cell (some (.ref C)), csl⟩
  sub : PySem.W.mroIn K C (.ref C) = some true
  opq : PySem.W.nsIn K PySem.cStatics "thirdparty.any" = some none
  sup : PySem.W.ks_superIn K C C "__init__" = some (some (.builtin "ValueError.__init__"))
  isV : PySem.W.subIn K (.ref C) (.type "ValueError") = some true
  noS : mg "super" = none
  top : (P.main.scope.names.lookup ("super" : Str)).isSome = false
/-- what the def's own names are -/
structure XiS (N ps : List Str) (scope : Scope) : Prop where
  kind : scope.kind = .function
  co : scope.isCoroutine = false
  gen : scope.isGenerator = false
  nd : N.Nodup
  pre : N.take ps.length = ps
  par : ∀ x ∈ ps, scope.names.lookup x = some .local
  nocell : ∀ y ∈ scope.names, y.2 ≠ .cell
  free : ∀ y ∈ scope.names, y.2 = .free → y.1 = "__class__"
  sup : scope.names.lookup ("super" : Str) = some .globalImplicit
  cls : scope.names.lookup ("__class__" : Str) = some .free
  self : N[0]? = some ("self" : Str) ∧ scope.names.lookup ("self" : Str) = some .local ∧ 0 < ps.length
section
variable {P : Program} {w : World} {K : PySem.W.Frag} {mg : Str → Option Value} {base : Heap}
theorem inv_k {N ps : List Str} {scope : Scope} {qual : Str} {f cda cc : Addr} {A : Around} {outer : List Env} {st : Shared} {H : Hp} {us : List Value} {vs : List V} {h0 : Heap} {tk : Nat} (S : XiS N ps scope) (hd : A.handled = none) (e0 : Env0 P w K mg base A outer st H)
    (hl : vs.length = ps.length) (r : Vals vs us) (hcell : ∃ cl cld csl C, K.lookup cc = some ⟨cl, cld, .cell (some (.ref C)), csl⟩) (ns : h0.Ns st.heap.objs.size (fun x => (ps.zip us).reverse.lookup x)) (keep : ∀ b o, st.heap.get? b = some o → h0.get? b = some o) :
    Inv (cxK P w K mg base N (PySem.W.ksEnv qual scope st.heap.objs.size f (.ref cda) cc) A outer st H) [] (L2.start N vs) H { st with heap := h0, toks := tk } := by
  obtain ⟨cl, cld, csl, C, hc⟩ := hcell
  have hpl : ps.length ≤ N.length := by
    have := congrArg List.length S.pre
    rw [List.length_take] at this
    omega
  have kb := e0.mod.kin _ _ hc
  have one : ∀ (x : Str) (c : Addr), ([("__class__", cc)] : List (Str × Addr)).lookup x = some c → x = "__class__" ∧ c = cc := fun x c h => by
    rw [lk_cons] at h
    split at h
    · rename_i z
      exact ⟨z, (Option.some.inj h).symm⟩
    · cases h
  have noex : ∀ b : Addr, b ∉ ([] : List Addr) := fun b z => by cases z
  refine ⟨⟨e0.mod, S.kind, rfl, rfl, Nat.le_refl _, fun y z c h1 h2 => ?_, fun y hy => ?_, fun y c hf _ => (by cases hf), fun _ => hd, Around.frames_deeper e0.frames, .inr ⟨rfl, rfl⟩, fun b z => absurd z (noex b), e0.bs, e0.bsz, fun b _ _ => noex b, fun b z => absurd z (noex b), e0.funs, e0.frf⟩,
    rfl, e0.bare, Un.kept keep, ⟨_, ns, fun i y v h1 h2 h3 => ?_⟩, fun y c h => ?_, e0.hok.fresh (Nat.le_refl _), fun y c h => ?_, fun p hp => absurd hp (by simp [cxK]), e0.hok.kept keep, ?_⟩
  · exact (one y c h1).1.trans (one z c h2).1.symm
  · have hy' : scope.names.lookup y = some .cell ∨ scope.names.lookup y = some .free := hy
    rcases hy' with q | q
    · exact absurd rfl (S.nocell _ (PySem.mem_of_lookup q))
    · have := S.free _ (PySem.mem_of_lookup q) rfl
      dsimp only at this
      subst this
      exact ⟨cc, by rfl⟩
  · have hi : i < vs.length := by
      unfold L2.start at h2
      by_cases z : i < vs.length
      · exact z
      · rw [List.getElem?_append_right (by simpa using z), List.getElem?_replicate] at h2
        split at h2 <;> cases h2
    have ha : vs[i]? = some v := by
      unfold L2.start at h2
      rw [List.getElem?_append_left (by simpa using hi), List.getElem?_map] at h2
      cases e : vs[i]? with
      | none => rw [e] at h2; cases h2
      | some a => rw [e] at h2; cases h2; rfl
    obtain ⟨u, hu, rv⟩ := r.get ha
    have hp : ps[i]? = some y := by
      rw [← S.pre, List.getElem?_take_of_lt (by omega)]
      exact h1
    have ndP : ps.Nodup := by
      rw [← S.pre]
      exact S.nd.sublist (List.take_sublist _ _)
    have lz : us.length = ps.length := by rw [← hl, r.length]
    refine ⟨u, rv, .inl ⟨S.par y (List.mem_of_getElem? hp), rev_lookup ?_ ?_⟩⟩
    · rw [List.map_fst_zip (by omega)]
      exact ndP
    · refine List.mem_of_getElem? (i := i) ?_
      rw [List.getElem?_zip_eq_some]
      exact ⟨hp, hu⟩
  · obtain ⟨_, rfl⟩ := one y c h
    exact ⟨_, _, keep _ _ (e0.bs _ _ kb).1, rfl⟩
  · obtain ⟨_, rfl⟩ := one y c h
    exact (e0.bs _ _ kb).2
  · unfold L2.start
    show _ = N.length
    rw [List.length_append, List.length_map, List.length_replicate]
    omega
end
/-- the built-in __init__, bound to the exception, called -/
theorem mw_call {X : Cx} {pins : List (Addr × Obj)} {σ : L2.St} {H : Hp} {st : Shared} {A : Around} {E : Value → Shared → Prop} {C a u : Addr} {us : List Value} {Q : Value → Shared → Prop} (T : OexC X.K C) (I : L2.Inv X pins σ H st) (e : H a = some (exo a C none)) (hu : st.heap.get? u = some (PySem.W.kxs_mw "ValueError.__init__" a))
    (hl : us.length ≤ sizeLine) (q : ∀ s', L2.Inv X pins σ H s' → Q .none s') : wpAny (model X.prog X.w) A (call (.ref u) us) Q E st := by
  obtain ⟨nm, qn, N, bs, bm, sn, sub, ab, col, dd, k0, k1, k2, k3, k5, hC, hbm⟩ := T.cls
  obtain ⟨t1, ho⟩ := exo_at I.hok e
  have hCh := I.kIn _ _ hC
  obtain ⟨hp, g, d, t, os⟩ := st
  refine wpAny_call (codeAny_of_tree ?_)
  show wpAny _ A.in1 (callAny (.ref u) ⟨us, []⟩) _ _ _
  simp only [callAny]
  refine wpAny_bind (wpAny_load hu ?_)
  simp only [PySem.W.kxs_mw, show (Value.type "method-wrapper" == Value.type "method" || Value.type "method-wrapper" == Value.type "builtin_function_or_method" || Value.type "method-wrapper" == Value.type "method-wrapper") = true by decide, if_true]
  refine PySem.W.KFB.if_so (by decide) ?_
  refine wpAny_bind (PySem.W.check_bound_init F.excBase_ValueError.toExcCallFacts hCh ho rfl ?_)
  refine wpAny_bind (wpAny_pure (wpAny_pure ?_))
  refine ⟨plainId_quiet F.excBase_ValueError.init.plain _, codeAny_builtin F.excBase_ValueError.initEntry ?_⟩
  refine PySem.W.exc_init_tree (cls := .ref C) (t0 := t1) (dv := none) (c2 := .none) (c3 := .none) (b4 := .bool false) ho hl fun h' k hx _ => ?_
  have J := I.write (t' := t) (x := a) (e := a) (o := exo a C none) (h' := h') (by rw [e]; exact True.intro) (.inl rfl) k ⟨_, hx⟩ (exo_ok hx)
  have eu : upd H a (exo a C none) = H := by
    funext b
    by_cases hb : b = a
    · rw [hb, upd_same, e]
    · rw [upd_ne hb]
  rw [eu] at J
  exact q _ J
section
variable {P : Program} {w : World} {K : PySem.W.Frag} {mg : Str → Option Value} {base : Heap}
/-- the def, by what stands behind super().__init__(text) -/
theorem fn_super {C f cda cc : Addr} {fd : FuncData} {qual : Str} {scope : Scope} {N ps : List Str} {k : Nat} {sp : Sp} {e : Expr} {p0 p1 p2 p3 p4 : Pos} {rest : List Stmt} {ta : TA} {pl : Sem Bool}
    (F : XiF P K mg C f fd qual scope (.Expr (.Call (.Attribute (.Call (.Name "super" p0) [] [] p1) "__init__" p2) [e] [] p3) p4 :: rest) cda cc) (S : XiS N ps scope) (ln : ∀ vs H Q E, sp vs H Q E → vs.length = ps.length)
    (hb : ∀ (A : Around) (outer : List Env) (st : Shared) (H : Hp) (vs : List V) (Q : VK) (E : XK), Room k (A.deeper (PySem.W.ksEnv qual scope st.heap.objs.size f (.ref cda) cc)) → sp vs H Q E →
      ∃ (a : Addr) (t : TS), vs[0]? = some (.ref a) ∧ H a = some (exo a C none) ∧ PA (cxK P w K mg base N (PySem.W.ksEnv qual scope st.heap.objs.size f (.ref cda) cc) A outer st H) [e] ta ∧ ta (L2.start N vs) H (fun ws H1 => H1 = H ∧ ws.length ≤ 1000) ∧
        PSs (cxK P w K mg base N (PySem.W.ksEnv qual scope st.heap.objs.size f (.ref cda) cc) A outer st H) rest t ∧ t { nx := fun _ H' => Q .non H', rt := Q } (L2.start N vs) H)
    (hev : ∀ (L : Addr), eval (.Call (.Attribute (.Call (.Name "super" p0) [] [] p1) "__init__" p2) [e] [] p3) (PySem.W.ksEnv qual scope L f (.ref cda) cc) = (do
      let ov ← attributeBase (.Call (.Name "super" p0) [] [] p1) "__init__" (PySem.W.ksEnv qual scope L f (.ref cda) cc) (eval (.Call (.Name "super" p0) [] [] p1) (PySem.W.ksEnv qual scope L f (.ref cda) cc))
      standAt p2.atName
      let (f1, first) ← holding [ov] (getMethod ov "__init__" pl)
      callWith p3 f1 first (backTo p3 (starEach [e] (PySem.W.ksEnv qual scope L f (.ref cda) cc))) []))
    (hi : ∀ L : Addr, interactive (PySem.W.ksEnv qual scope L f (.ref cda) cc) = false) (hsw : ∀ L : Addr, swapsWith (.Call (.Attribute (.Call (.Name "super" p0) [] [] p1) "__init__" p2) [e] [] p3) none p4.line (PySem.W.ksEnv qual scope L f (.ref cda) cc) = pure false)
    (hse : ∀ L : Addr, starEach [e] (PySem.W.ksEnv qual scope L f (.ref cda) cc) = [(false, eval e (PySem.W.ksEnv qual scope L f (.ref cda) cc))]) :
    FnOk P w K mg base CX0 (k + 1) f fd ps sp := by
  obtain ⟨params, dV, kV, doc, pm, an, ct, ar, rfl, hhead, har⟩ := F.fd_
  obtain ⟨oc, od, osl, lk⟩ := F.lk
  refine ⟨ln, fun A outer st H args us vs Q E hr e0 bn r hsp => ?_⟩
  have hl := ln _ _ _ _ hsp
  have KX : K.In st.heap := e0.mod.kin.keeps fun b o e => (e0.bs b o e).1
  have lim : st.heap.NoLimit := e0.mod.nolimit.keeps fun b o e => (e0.bs b o e).1
  refine ks_codeAny_call_defAt (fd := _) (body := _) (binds := ps.zip us) hr.depth (KX _ _ lk) rfl lim (PySem.W.codeRec_of KX F.code) rfl bn S.nocell (fun x hx => S.par x.1 (List.of_mem_zip hx).1) (fun h0 ns keep => ?_) S.co S.gen S.kind
  obtain ⟨a, t, hv0, hexo, hpa, hta, hps, ht⟩ := hb A outer st H vs Q E (hr.deeper _) hsp
  have I0 := inv_k (qual := qual) (f := f) (cda := cda) (cc := cc) (tk := st.toks + (ps.zip us).length) S hr.hd e0 hl r (let ⟨a, b, c, d⟩ := F.cell; ⟨a, b, c, C, d⟩) ns keep
  obtain ⟨ccl, cdd, fv, ccs, file, tf, ck, cv, cf⟩ := F.file
  obtain ⟨cl, cld, csl, cellk⟩ := F.cell
  obtain ⟨nm, qn, N', bs, bm, sn, sub, ab, col, dd, k0, k1, k2, k3, k5, hC, hbm⟩ := F.low.cls
  have hcd : PySem.W.clsIn K C = some { name := nm, bases := bs, mro := .ref C :: bm, ns := N', qualname := qn, hasDict := true, slotNames := sn, subclasses := sub, abstract := ab, collection := col, hasDel := false } := by
    unfold PySem.W.clsIn
    rw [hC] <;> rfl
  have hsup := F.sup
  unfold PySem.W.ks_superIn at hsup
  rw [hcd] at hsup
  obtain ⟨mb, hm1, hm2⟩ := e0.mod.blt
  have bk := I0.bk
  have KI : K.In h0 := I0.kIn
  obtain ⟨t1, ho⟩ := exo_at I0.hok hexo
  -- self
  obtain ⟨mL, hnL, hlL⟩ := I0.loc
  have v0 : (L2.start N vs)[0]? = some (some (.ref a)) := by
    unfold L2.start
    have lz : 0 < vs.length := by rw [hl]; exact S.self.2.2
    rw [List.getElem?_append_left (by simpa using lz), List.getElem?_map, hv0]
    rfl
  obtain ⟨u0, ru, look⟩ := hlL 0 "self" (.ref a) S.self.1 v0 (.inl S.self.2.1)
  obtain rfl : u0 = Value.ref a := ru
  have hself : mL "self" = some (.ref a) := by
    rcases look with ⟨_, z⟩ | ⟨z, _⟩
    · exact z
    · exfalso
      have z' : scope.names.lookup ("self" : Str) = some .cell ∨ scope.names.lookup ("self" : Str) = some .free := z
      rw [S.self.2.1] at z'
      rcases z' with z' | z' <;> cases z'
  refine ks_wpAt_mono (Q := fun fl s2 => CR CX0 outer P w H st Q E (.ok (.ret (match fl with | .ret v => v | _ => .none))) s2) (E := fun _ _ => False) ?_ (fun _ _ z => z) (fun _ _ z => z.elim)
  refine ks_wpAt_execs_cons (ks_wpAt_Expr_any (ks_wpAt_MethodCall (pl := pl) ?_ (hev _)) (hi _) (hsw _))
  refine ks_wpAt_super_base (env := PySem.W.ksEnv qual scope st.heap.objs.size f (.ref cda) cc) S.sup S.cls (by decide) rfl (keep _ _ (KX _ _ lk)) rfl hhead rfl (KI _ _ ck) rfl cv cf F.top ?_
  refine PySem.W.ks_loadName_global S.kind S.sup (Calls.loadGlobal_builtin (env := PySem.W.ksEnv qual scope st.heap.objs.size f (.ref cda) cc) (e0.mod.glob.keeps bk) F.noS (hm1.keeps bk) ((hm2 _ (by decide)).trans (by decide +kernel)) ⟨rfl, ?_⟩)
  refine wpAny_loadName_free S.kind S.cls rfl ⟨_, KI _ _ cellk, rfl⟩ ?_
  rw [har]
  refine wpAny_loadName_local S.kind S.self.2.1 hnL hself ?_
  refine ks_wpAny_isType_cls (KI _ _ hC) rfl ⟨rfl, ?_⟩
  refine ks_wpAny_call_super (KI _ _ hC) rfl ho rfl (fun c z => by cases z) (PySem.W.looks_mroIn KI F.sub) (fun h1 hso k1 => ?_)
  have I1 := I0.kept (h' := h1) (t' := st.toks + (ps.zip us).length) k1
  have hexo1 := hexo
  have K1 : K.In h1 := I1.kIn
  obtain ⟨t2, ho1⟩ := exo_at I1.hok hexo
  have at1 : PySem.W.InstAt h1 a ({ cls := .ref C, dict := none, data := .fields #[.ref t2, .none, .none, .none, .bool false, .none] } : Obj) C none := ⟨ho1, rfl, rfl, trivial⟩
  refine PySem.W.kxs_getMethod PySem.W.kxs_ValueError hso (PySem.W.looks_opaque K1 F.opq) (fun A Q E s k q => wpAny_bind ((PySem.W.looks_clsIn K1 hcd) A _ E s k (wpAny_pure q))) rfl K1 hsup (at1.type.andThen (PySem.W.looks_subIn K1 F.isV)) (PySem.W.ks_ne K1 at1 hcd) (by decide) ?_
  have I2 := ClX.pin_new (o := PySem.W.kxs_mw "ValueError.__init__" a) (t' := st.toks + (ps.zip us).length + 1) I1 (h' := h1.push (PySem.W.kxs_mw "ValueError.__init__" a)) (fun b o e => Heap.get?_push_of_some _ e) (Nat.le_refl _) (Heap.get?_push_size _ rfl) (fun v z => by cases z)
  show wpAny _ _ (callWith p3 (.ref h1.objs.size) [] (backTo p3 (starEach [e] (PySem.W.ksEnv qual scope st.heap.objs.size f (.ref cda) cc))) []) _ _ _
  rw [hse]
  refine PySem.W.kxs_callWith (i := "ValueError.__init__") (x := a) (by rfl) ?_
  have hrun := hpa.run p3 _ _ (L2.start N vs) H _ I2 hta
  rw [show starEach [e] (cxK P w K mg base N (PySem.W.ksEnv qual scope st.heap.objs.size f (.ref cda) cc) A outer st H).env = [(false, eval e (PySem.W.ksEnv qual scope st.heap.objs.size f (.ref cda) cc))] from hse _] at hrun
  refine Calls.evalArgs_plain (wpAny_mono hrun ?_ fun _ _ z => z)
  rintro us s1 ⟨ws, H2, I3, r3, eH, hlw⟩
  subst eH
  have hu3 := (I3.pin (h1.objs.size, PySem.W.kxs_mw "ValueError.__init__" a) (by simp [cxK])).1
  refine ⟨hu3, mw_call F.low I3 hexo hu3 (by show us.length ≤ sizeLine; rw [← r3.length]; exact Nat.le_of_lt (small1000 hlw)) fun s2 I4 => ?_⟩
  refine wpAt_of_wpAny (thn (hps.run _ s2 (L2.start N vs) H2 _ I4 ht) fun fl s3 q => ?_)
  cases fl with
  | ret u => exact let ⟨v, _, H', J, rv, q2⟩ := q; ⟨v, H', J.os, J.bare, J.base, J.hok, rv, q2⟩
  | next => exact let ⟨_, H', J, q2⟩ := q; ⟨V.non, H', J.os, J.bare, J.base, J.hok, rfl, q2⟩
  | brk => exact let ⟨_, _, _, z⟩ := q; z.elim
  | cont => exact let ⟨_, _, _, z⟩ := q; z.elim
end
end Hw

namespace Hw
open PySem PySem.Spec PyProof.Rows L2 ClX
/-- a value that is no whole number -/
def OddV (K : PySem.W.Frag) (H : Hp) (v : V) : Prop := ∃ (T : Value) (bi bb : Bool), TyX K H v T ∧ PySem.W.kitOne K T (.type "int") = some bi ∧ PySem.W.kitOne K T (.type "bool") = some bb ∧ (bi = false ∨ bb = true)
section
variable {P : Program} {w : World} {K : PySem.W.Frag} {mg : Str → Option Value} {base : Heap}
def spWhole5 (K : PySem.W.Frag) : Sp := fun vs H Q _ => ∃ v : V, vs = [v] ∧ ((∃ i : Int, v = .int i ∧ Q (.bl true) H) ∨ (OddV K H v ∧ Q (.bl false) H))
theorem cal_whole5 (T : Txt mg) (D : Df K mg "is_whole" sWhole ["value"]) : Cal P w K mg base "is_whole" 1 (spWhole5 K) := by
  refine cal_of D scWhole (fun vs H Q E h => ?_) (fun f cdv A outer s H vs Q E hr h => ?_)
  · obtain ⟨v, rfl, _⟩ := h
    rfl
  · obtain ⟨v, rfl, q⟩ := h
    refine ⟨_, pss_one (ps_ret (pe_and (pe_callB call_isi (by rfl) T.isinstance (by decide +kernel) (pa_cons (pv 0) (pa_cons (pe_bltn (v := .ty "int") (by rfl) T.int (by decide +kernel) rfl) pa_nil)))
      (pe_one (pe_not (pe_callB call_isi (by rfl) T.isinstance (by decide +kernel) (pa_cons (pv 0) (pa_cons (pe_bltn (v := .ty "bool") (by rfl) T.bool (by decide +kernel) rfl) pa_nil))))))), ?_⟩
    rcases q with ⟨i, rfl, q⟩ | ⟨⟨t, bi, bb, ty, h1, h2, hc⟩, q⟩
    · refine ⟨_, rfl, _, _, _, _, true, rfl, .ty _, .base (.int i), kit_ty (by decide +kernel), true, rfl, iteT ?_⟩
      refine ⟨_, rfl, _, _, _, _, false, rfl, .ty _, .base (.int i), kit_ty (by decide +kernel), false, rfl, ?_⟩
      exact q
    · refine ⟨_, rfl, _, _, _, _, bi, rfl, .ty _, ty, h1, bi, rfl, ?_⟩
      cases bi with
      | false => exact iteF q
      | true =>
        obtain rfl : bb = true := hc.resolve_left (by decide)
        refine iteT ?_
        exact ⟨_, rfl, _, _, _, _, true, rfl, .ty _, ty, h2, true, rfl, q⟩
def spIndex5 (K : PySem.W.Frag) : Sp := fun vs H Q _ => ∃ (v : V) (c : Int), vs = [v, .int c] ∧ ((∃ i : Int, v = .int i ∧ Q (.bl (decide (0 ≤ i ∧ i < c))) H) ∨ (OddV K H v ∧ Q (.bl false) H))
theorem cal_index5 (T : Txt mg) (GW : Cal P w K mg base "is_whole" 1 (spWhole5 K)) (D : Df K mg "is_index" sIndex ["value", "count"]) : Cal P w K mg base "is_index" 2 (spIndex5 K) := by
  refine cal_of D scIndex (fun vs H Q E h => ?_) (fun f cdv A outer s H vs Q E hr h => ?_)
  · obtain ⟨i, c, rfl, _⟩ := h
    rfl
  · obtain ⟨v, c, rfl, q⟩ := h
    refine ⟨_, pss_one (ps_ret (pe_and (pe_cl GW hr (by rfl) (pa_cons (pv 0) pa_nil)) (pe_one (pe_chain op_le op_lt pe_int (pv 0) (pv 1))))), ?_⟩
    rcases q with ⟨i, rfl, q⟩ | ⟨odd, q⟩
    · refine ⟨_, rfl, _, rfl, .inl ⟨i, rfl, true, rfl, iteT ?_⟩⟩
      refine ⟨_, rfl, _, _, rfl, rfl, _, rfl, ite2 (fun h => ?_) (fun h => ?_)⟩
      · refine ⟨_, rfl, _, _, rfl, rfl, ?_⟩
        have h' : (0 : Int) ≤ i := of_decide_eq_true h
        have e : decide (i < c) = decide (0 ≤ i ∧ i < c) := by
          by_cases z : i < c <;> simp [z, h']
        show Q (V.bl (decide (i < c))) H
        rw [e]
        exact q
      · have h' : ¬ (0 : Int) ≤ i := fun z => h (decide_eq_true z)
        have e : false = decide (0 ≤ i ∧ i < c) := by simp [h']
        show Q (V.bl false) H
        rw [e]
        exact q
    · exact ⟨_, rfl, _, rfl, .inr ⟨odd, false, rfl, iteF q⟩⟩
end
end Hw

namespace Hw
open PySem PySem.Spec PyProof.Rows L2 ClX
abbrev mNames : List Str := ["far_end", "way", "_check_place", "_across", "_distances_to", "_nearing_step", "passages_at", "MAX_PLACES", "MAX_PASSAGES"]
/-- no field is named as a method -/
def NoM (fs : List (Str × V)) : Prop := ∀ m ∈ mNames, fs.lookup m = none
theorem noM_nil : NoM [] := fun _ _ => rfl
theorem noM_put {f : Str} {v : V} {fs : List (Str × V)} (h : ∀ m ∈ mNames, ¬ m = f) (n : NoM fs) : NoM (putF f v fs) := fun m hm => by
  rw [lookup_putF, if_neg (h m hm)]
  exact n m hm
theorem lk_put {f g : Str} {v : V} {fs : List (Str × V)} (h : ¬ g = f) : (putF f v fs).lookup g = fs.lookup g := by rw [lookup_putF, if_neg h]
theorem lk_put0 {f : Str} {v : V} {fs : List (Str × V)} : (putF f v fs).lookup f = some v := by rw [lookup_putF, if_pos rfl]
/-- a network stands at x, with what its walks need -/
def NetAt5 (C : Addr) (H : Hp) (x : Addr) (n : Nat) (es : List Ed) : Prop := ∃ (dx : Addr) (fs : List (Str × V)) (a e : Addr), H x = some (.ins C dx fs) ∧ fs.lookup ("_places" : Str) = some (.int (n : Int)) ∧ fs.lookup ("_passages" : Str) = some (.ref a) ∧
  fs.lookup ("_exits" : Str) = some (.ref e) ∧ NoM fs ∧ EdT H a es ∧ CsAt H e (exs n es)
theorem NetAt5.same {C : Addr} {H H' : Hp} {x : Addr} {n : Nat} {es : List Ed} (h : NetAt5 C H x n es) (s : Same H H') : NetAt5 C H' x n es := by
  obtain ⟨dx, fs, a, e, h1, h2, h3, h4, h5, h6, h7⟩ := h
  exact ⟨dx, fs, a, e, s _ _ h1, h2, h3, h4, h5, h6.same s, h7.same s⟩
/-- what else stands at x: the start, the bridges, the cells -/
def NetX (C : Addr) (H : Hp) (x : Addr) (n : Nat) (es : List Ed) : Prop := ∃ (dx : Addr) (fs : List (Str × V)) (s t b c : Addr), H x = some (.ins C dx fs) ∧ fs.lookup ("_start" : Str) = some (.ref s) ∧ fs.lookup ("_bridges" : Str) = some (.ref b) ∧ fs.lookup ("_cells" : Str) = some (.ref c) ∧
  H s = some (.tup [.int 0, .ref t]) ∧ Tp H t (List.range (es.length + 1)) ∧ Tp H b (brg n es) ∧ CsAt H c (cel n es)
theorem NetX.same {C : Addr} {H H' : Hp} {x : Addr} {n : Nat} {es : List Ed} (h : NetX C H x n es) (z : Same H H') : NetX C H' x n es := by
  obtain ⟨dx, fs, s, t, b, c, h1, h2, h3, h4, h5, h6, h7, h8⟩ := h
  exact ⟨dx, fs, s, t, b, c, z _ _ h1, h2, h3, h4, z _ _ h5, z _ _ h6, z _ _ h7, h8.same z⟩
theorem n_st : ¬ (("_start" : Str) = "_bridges") ∧ ¬ (("_start" : Str) = "_cells") ∧ ¬ (("_start" : Str) = "_exits") ∧ ¬ (("_bridges" : Str) = "_cells") ∧ ¬ (("_bridges" : Str) = "_exits") ∧ ¬ (("_cells" : Str) = "_exits") := by decide +kernel
theorem n_pl : ¬ (("_places" : Str) = "_passages") ∧ ¬ (("_places" : Str) = "_start") ∧ ¬ (("_places" : Str) = "_bridges") ∧ ¬ (("_places" : Str) = "_cells") ∧ ¬ (("_places" : Str) = "_exits") := by decide +kernel
theorem n_pa : ¬ (("_passages" : Str) = "_start") ∧ ¬ (("_passages" : Str) = "_bridges") ∧ ¬ (("_passages" : Str) = "_cells") ∧ ¬ (("_passages" : Str) = "_exits") := by decide +kernel
theorem m_pl : ∀ m ∈ mNames, ¬ m = "_places" := by decide +kernel
theorem m_pa : ∀ m ∈ mNames, ¬ m = "_passages" := by decide +kernel
theorem m_st : ∀ m ∈ mNames, ¬ m = "_start" := by decide +kernel
theorem m_br : ∀ m ∈ mNames, ¬ m = "_bridges" := by decide +kernel
theorem m_ce : ∀ m ∈ mNames, ¬ m = "_cells" := by decide +kernel
theorem m_ex : ∀ m ∈ mNames, ¬ m = "_exits" := by decide +kernel
section
variable {P : Program} {w : World} {K : PySem.W.Frag} {mg : Str → Option Value} {base : Heap}
def spInit5 (C : Addr) : Sp := fun vs H Q _ => ∃ (x dx a : Addr) (n : Nat) (es : List Ed), vs = [.ref x, .int (n : Int), .ref a] ∧ H x = some (.ins C dx []) ∧ EdT H a es ∧ CN n es ∧ n ≤ 12 ∧ es.length ≤ 16 ∧
  ∀ H', Kx x H H' → NetAt5 C H' x n es → NetX C H' x n es → Q .non H'
abbrev nInit : List Str := ["self", "places", "passages", "fault", "part", "index"]
theorem scInit : FnScope nInit ["self", "places", "passages"] (defScope sInit) := ⟨rfl, rfl, rfl, by decide +kernel, rfl, by decide +kernel, by decide +kernel⟩
structure NetF (P : Program) (w : World) (K : PySem.W.Frag) (mg : Str → Option Value) (base : Heap) : Prop where
  fault : Cal P w K mg base "_fault" 5 spFault
  bridges : Cal P w K mg base "_find_bridges" 3 spBridges
  cells : Cal P w K mg base "_find_cells" 2 spCells
  exits : Cal P w K mg base "_find_exits" 1 spExits5
theorem ok_init5 {C : Addr} {mc : Value} {f : Addr} {fd : FuncData} (T : Txt mg) (N : NetC K mg C mc) (G : NetF P w K mg base) (F : Fun K "__init__" "Network.__init__" sInit f fd) : FnOk P w K mg base CX0 6 f fd ["self", "places", "passages"] (spInit5 C) := by
  have nd := scInit.nd
  refine F.ok scInit (fun vs H Q E h => ?_) (fun cdv A outer s0 H vs Q E hr h => ?_)
  · obtain ⟨x, dx, a, n, es, rfl, _⟩ := h
    rfl
  · obtain ⟨x, dx, a, n, es, rfl, hx, he, cn, hn, hl, q⟩ := h
    have hr3 := hr.mono (show 3 ≤ 5 by decide)
    have hr2 := hr.mono (show 2 ≤ 5 by decide)
    have hr1 := hr.mono (show 1 ≤ 5 by decide)
    refine ⟨_, pss_cons (ps_set (i := 3) nd rfl (.inl rfl) (pe_cl G.fault hr (by rfl) (pa_cons (pv 1) (pa_cons (pv 2) pa_nil))))
      <| pss_cons (ps_if (pt_cmpR op_notN (pv 3) pe_non (nomark _)) pss_never pss_nil)
      <| pss_cons (ps_fld (pv 0) (pv 1) rfl)
      <| pss_cons (ps_fld (pv 0) (pv 2) rfl)
      <| pss_cons (ps_fld (pv 0) (pe_tup (pa_cons pe_int (pa_cons (pe_tupRg (by rfl) (by rfl) T.tuple (prg_1 (by rfl) T.range (pe_op op_add (pe_callB cr_len (by rfl) T.len PySem.boot_len (pa_cons (pv 2) pa_nil)) pe_int))) pa_nil))) rfl)
      <| pss_cons (ps_fld (pv 0) (pe_cl G.bridges hr3 (by rfl) (pa_cons (pv 1) (pa_cons (pv 2) pa_nil))) rfl)
      <| pss_cons (ps_fld (pv 0) (pe_cl G.cells hr2 (by rfl) (pa_cons (pv 1) (pa_cons (pv 2) (pa_cons (pe_fld (pv 0) rfl) pa_nil)))) rfl)
      <| pss_one (ps_fld (pv 0) (pe_cl G.exits hr1 (by rfl) (pa_cons (pv 1) (pa_cons (pv 2) pa_nil))) rfl), ?_⟩
    refine ⟨_, rfl, _, rfl, a, n, es, rfl, he, cn, hn, hl, fun H1 s1 => ?_⟩
    have hx1 := s1 _ _ hx
    have he1 := he.same s1
    refine ⟨_, rfl, rfl, _, rfl, iteF ?_⟩
    -- _places, _passages
    refine ⟨_, rfl, _, rfl, x, C, dx, _, rfl, hx1, N.cl, N.n1, by decide, ?_⟩
    have k2 := Kx.upd x H1 (.ins C dx (putF "_places" (.int (n : Int)) []))
    have l2 := len_putF "_places" (.int (n : Int)) []
    have p2 := lk_put0 (f := "_places") (v := .int (n : Int)) (fs := [])
    have m2 := noM_put (v := .int (n : Int)) m_pl noM_nil
    have hx2 : upd H1 x (.ins C dx (putF "_places" (.int (n : Int)) [])) x = some (.ins C dx (putF "_places" (.int (n : Int)) [])) := upd_same
    generalize putF "_places" (.int (n : Int)) [] = f2 at *
    generalize upd H1 x (.ins C dx f2) = H2 at *
    refine ⟨_, rfl, _, rfl, x, C, dx, _, rfl, hx2, N.cl, N.n2, by simp at l2; omega, ?_⟩
    have k3 := Kx.upd x H2 (.ins C dx (putF "_passages" (.ref a) f2))
    have l3 := len_putF "_passages" (.ref a) f2
    have p3 := (lk_put (v := .ref a) (fs := f2) n_pl.1).trans p2
    have q3 := lk_put0 (f := "_passages") (v := .ref a) (fs := f2)
    have m3 := noM_put (v := .ref a) m_pa m2
    have hx3 : upd H2 x (.ins C dx (putF "_passages" (.ref a) f2)) x = some (.ins C dx (putF "_passages" (.ref a) f2)) := upd_same
    generalize putF "_passages" (.ref a) f2 = f3 at *
    generalize upd H2 x (.ins C dx f3) = H3 at *
    have he3 := (he1.kx k2 hx1).kx k3 hx2
    have kx3 := ((Kx.of s1).trans k2).trans k3
    obtain ⟨ks, k31, k32, k33⟩ := id he3
    -- _start
    refine ⟨_, rfl, a, _, rfl, .inr (sq_of k31), _, _, rfl, rfl, ?_⟩
    rw [nv_len, ed_len k32]
    refine ⟨_, rfl, RgOk.of_le (by omega) (by omega) (by omega) (by omega), fun t nt => ⟨by show 2 ≤ sizeLine; decide, fun t2 nt2 => ?_⟩⟩
    have s4 := (same_upd nt).trans (same_upd (o := .tup [V.int 0, .ref t]) nt2)
    have st4 : upd (upd H3 t (.tup (rgV 0 ((es.length : Int) + 1)))) t2 (.tup [V.int 0, .ref t]) t2 = some (.tup [V.int 0, .ref t]) := upd_same
    have tt4 : upd (upd H3 t (.tup (rgV 0 ((es.length : Int) + 1)))) t2 (.tup [V.int 0, .ref t]) t = some (.tup (NV (List.range (es.length + 1)))) := by
      rw [same_upd nt2 t _ upd_same, show (es.length : Int) + 1 = ((es.length + 1 : Nat) : Int) by omega, NV_range]
    generalize upd (upd H3 t _) t2 (.tup [V.int 0, .ref t]) = H4 at *
    have hx4 := s4 _ _ hx3
    refine ⟨_, rfl, x, C, dx, _, rfl, hx4, N.cl, N.n3, by simp at l2; omega, ?_⟩
    have k5 := Kx.upd x H4 (.ins C dx (putF "_start" (.ref t2) f3))
    have l5 := len_putF "_start" (.ref t2) f3
    have p5 := (lk_put (v := .ref t2) (fs := f3) n_pl.2.1).trans p3
    have q5 := (lk_put (v := .ref t2) (fs := f3) n_pa.1).trans q3
    have a5 := lk_put0 (f := "_start") (v := .ref t2) (fs := f3)
    have m5 := noM_put (v := .ref t2) m_st m3
    have hx5 : upd H4 x (.ins C dx (putF "_start" (.ref t2) f3)) x = some (.ins C dx (putF "_start" (.ref t2) f3)) := upd_same
    generalize putF "_start" (.ref t2) f3 = f5 at *
    generalize upd H4 x (.ins C dx f5) = H5 at *
    have he5 := (he3.same s4).kx k5 hx4
    have kx5 := (kx3.trans (Kx.of s4)).trans k5
    have st5 := k5.tup hx4 st4
    have tt5 := k5.tup hx4 tt4
    -- _bridges
    refine ⟨_, rfl, _, rfl, a, n, es, rfl, he5, cn.2.1, cn.1, hn, hl, fun H6 b s6 nb hb => ?_⟩
    have hx6 := s6 _ _ hx5
    refine ⟨_, rfl, x, C, dx, _, rfl, hx6, N.cl, N.n4, by simp at l2; omega, ?_⟩
    have k7 := Kx.upd x H6 (.ins C dx (putF "_bridges" (.ref b) f5))
    have l7 := len_putF "_bridges" (.ref b) f5
    have g7 := lk_put0 (f := "_bridges") (v := .ref b) (fs := f5)
    have p7 := (lk_put (v := .ref b) (fs := f5) n_pl.2.2.1).trans p5
    have q7 := (lk_put (v := .ref b) (fs := f5) n_pa.2.1).trans q5
    have a7 := (lk_put (v := .ref b) (fs := f5) n_st.1).trans a5
    have m7 := noM_put (v := .ref b) m_br m5
    have hx7 : upd H6 x (.ins C dx (putF "_bridges" (.ref b) f5)) x = some (.ins C dx (putF "_bridges" (.ref b) f5)) := upd_same
    generalize putF "_bridges" (.ref b) f5 = f7 at *
    generalize upd H6 x (.ins C dx f7) = H7 at *
    have he7 := (he5.same s6).kx k7 hx6
    have hb7 : Tp H7 b (brg n es) := k7.tup hx6 hb
    have kx7 := (kx5.trans (Kx.of s6)).trans k7
    have st7 := k7.tup hx6 (s6 _ _ st5)
    have tt7 := k7.tup hx6 (s6 _ _ tt5)
    -- _cells
    refine ⟨_, rfl, _, rfl, _, rfl, x, C, dx, f7, _, rfl, hx7, N.cl, N.n4, g7, a, b, n, es, rfl, he7, hb7, cn.2.1, cn.1, hn, hl, fun H8 c s8 nc hc => ?_⟩
    have hx8 := s8 _ _ hx7
    refine ⟨_, rfl, x, C, dx, _, rfl, hx8, N.cl, N.n5, by simp at l2; omega, ?_⟩
    have k9 := Kx.upd x H8 (.ins C dx (putF "_cells" (.ref c) f7))
    have l9 := len_putF "_cells" (.ref c) f7
    have p9 := (lk_put (v := .ref c) (fs := f7) n_pl.2.2.2.1).trans p7
    have q9 := (lk_put (v := .ref c) (fs := f7) n_pa.2.2.1).trans q7
    have a9 := (lk_put (v := .ref c) (fs := f7) n_st.2.1).trans a7
    have b9 := (lk_put (v := .ref c) (fs := f7) n_st.2.2.2.1).trans g7
    have c9 := lk_put0 (f := "_cells") (v := .ref c) (fs := f7)
    have m9 := noM_put (v := .ref c) m_ce m7
    have hx9 : upd H8 x (.ins C dx (putF "_cells" (.ref c) f7)) x = some (.ins C dx (putF "_cells" (.ref c) f7)) := upd_same
    generalize putF "_cells" (.ref c) f7 = f9 at *
    generalize upd H8 x (.ins C dx f9) = H9 at *
    have he9 := (he7.same s8).kx k9 hx8
    have kx9 := (kx7.trans (Kx.of s8)).trans k9
    have st9 := k9.tup hx8 (s8 _ _ st7)
    have tt9 := k9.tup hx8 (s8 _ _ tt7)
    have hb9 := k9.tup hx8 (s8 _ _ hb7)
    have hc9 := hc.kx k9 hx8
    -- _exits
    refine ⟨_, rfl, _, rfl, a, n, es, rfl, he9, hn, hl, fun HA e sA hcs => ?_⟩
    have hxA := sA _ _ hx9
    refine ⟨_, rfl, x, C, dx, _, rfl, hxA, N.cl, N.n6, by simp at l2; omega, ?_⟩
    have kB := Kx.upd x HA (.ins C dx (putF "_exits" (.ref e) f9))
    exact q _ ((kx9.trans (Kx.of sA)).trans kB) ⟨dx, putF "_exits" (.ref e) f9, a, e, upd_same, (lk_put n_pl.2.2.2.2).trans p9, (lk_put n_pa.2.2.2).trans q9, lk_put0, noM_put m_ex m9, (he9.same sA).kx kB hxA, hcs.kx kB hxA⟩
      ⟨dx, putF "_exits" (.ref e) f9, t2, t, b, c, upd_same, (lk_put n_st.2.2.1).trans a9, (lk_put n_st.2.2.2.2.1).trans b9, (lk_put n_st.2.2.2.2.2).trans c9, kB.tup hxA (sA _ _ st9), kB.tup hxA (sA _ _ tt9), kB.tup hxA (sA _ _ hb9), (hc9.same sA).kx kB hxA⟩
end
end Hw

namespace Hw
open PySem PySem.Spec PyProof.Rows L2 ClX
abbrev sFarEnd : Stmt := inClass sNetwork 13
abbrev sWay : Stmt := inClass sNetwork 14
abbrev sCheck : Stmt := inClass sNetwork 15
abbrev sAcross : Stmt := inClass sNetwork 16
abbrev sDists : Stmt := inClass sNetwork 17
abbrev sNearing : Stmt := inClass sNetwork 18
/-! ### an own exception with one field -/
def spXi (C : Addr) (f : Str) : Sp := fun vs H Q _ => ∃ (a : Addr) (v : V), vs = [.ref a, v] ∧ H a = some (exo a C none) ∧ ∀ dx, H dx = none → dx ≠ a → Q .non (upd (upd H dx (exd dx [(f, v)])) a (exo a C (some dx)))
structure Xc1 (P : Program) (w : World) (K : PySem.W.Frag) (mg : Str → Option Value) (base : Heap) (x : Str) (C : Addr) (f : Str) : Prop where
  gC : mg x = some (.ref C)
  oex : OexC K C
  init : ∃ (fI : Addr) (fd : FuncData) (ps : List Str), PySem.W.findIn K (.ref C) "__init__" = some (some (.ref fI)) ∧ PySem.W.typeIn K (.ref fI) = some (.type "function") ∧ FnOk P w K mg base CX0 1 fI fd ps (spXi C f) ∧ Binds K fd ps []
  xf : XfC K C
  noF : PySem.W.findIn K (.ref C) f = some none
  te : PySem.W.exmOne K (.ref C) (.ref C) = some true
def tMk1 (C : Addr) (f : Str) (te : TE) : L2.St → Hp → XK → Prop := tMkO C (spXi C f) [] (tCons te tNil)
theorem pmk_x1 {X : Cx} {x f : Str} {C : Addr} {e : Expr} {te : TE} {p pos : Pos} (c : Xc1 X.prog X.w X.K X.mg X.base x C f) (hr : Room 2 X.A) (hg : Gl X x) (ha : PE X e te) (hdb : (x == ("__debug__" : Str)) = false := by decide)
    (he : starEach [e] X.env = (false, eval e X.env) :: starEach [] X.env := by rfl) (hpl : (backTo pos (starEach [] X.env)).any (·.1) = false := by rfl) : PMk X (.Call (.Name x p) [e] [] pos) (tMk1 C f te) := by
  obtain ⟨fI, fd, ps, h1, h2, F, b⟩ := c.init
  exact pmk_oex (pos := pos) (p := p) (dvs := []) (ds := []) c.oex h1 h2 F hr b .nil pass0 hg c.gC (pa_cons ha pa_nil (hs := he)) hdb he hpl
theorem mk1_ok {C : Addr} {f : Str} {v : V} {H1 : Hp} {Q : XK} (q : ∀ d, H1 d = none → Q (.ref C) (some d) (upd H1 d (.xd [(f, v)]))) : [v].length ≤ 1000 ∧ ∀ a, H1 a = none → spXi C f (.ref a :: ([v] ++ [])) (upd H1 a (exo a C none))
      (fun v H2 => v = .non ∧ ∃ (d : Addr) (fs : List (Str × V)), H2 a = some (exo a C (some d)) ∧ H2 d = some (exd d fs) ∧ H1 d = none ∧ Q (.ref C) (some d) (upd (L2.del H2 a) d (.xd fs))) (fun _ _ _ => False) := by
  refine ⟨(by show 1 ≤ 1000; decide), fun a na => ⟨a, v, rfl, upd_same, fun dx ndx ne => ⟨rfl, dx, [(f, v)], upd_same, ?_, ?_, ?_⟩⟩⟩
  · rw [upd_ne ne, upd_same]
  · rw [upd_ne ne] at ndx
    exact ndx
  · rw [upd_ne ne] at ndx
    have e : upd (L2.del (upd (upd (upd H1 a (exo a C none)) dx (exd dx [(f, v)])) a (exo a C (some dx))) a) dx (.xd [(f, v)]) = upd H1 dx (.xd [(f, v)]) := by
      funext b
      by_cases z : b = dx
      · rw [z, upd_same, upd_same]
      · rw [upd_ne z, upd_ne z]
        by_cases y : b = a
        · rw [y, del_same, na]
        · rw [del_ne y, upd_ne y, upd_ne z, upd_ne y]
    rw [e]
    exact q dx ndx
/-! ### methods with their promises -/
structure Dm (K : PySem.W.Frag) (C : Addr) (m qual : Str) (st : Stmt) (ps : List Str) : Prop where
  ex : ∃ (f : Addr) (fd : FuncData), Fun K m qual st f fd ∧ L2.Binds K fd ps [] ∧ Meth K C m f
structure MC (P : Program) (w : World) (K : PySem.W.Frag) (mg : Str → Option Value) (base : Heap) (CX : CXT) (C : Addr) (m : Str) (k : Nat) (sp : Sp) : Prop where
  ex : ∃ f : Addr, Meth K C m f ∧ L2.FnR P w K mg base CX k f sp
section
variable {P : Program} {w : World} {K : PySem.W.Frag} {mg : Str → Option Value} {base : Heap}
theorem raw0 {CX : CXT} {k : Nat} {f : Addr} {fd : FuncData} {ps : List Str} {sp : Sp} (F : FnOk P w K mg base CX k f fd ps sp) (b : L2.Binds K fd ps []) : L2.FnR P w K mg base CX k f sp :=
  (F.raw b (dvs := []) .nil).imp fun vs H Q E h => by
    show sp (vs ++ []) H Q E
    rw [List.append_nil]
    exact h
theorem mc_of {C : Addr} {m qual : Str} {st : Stmt} {N ps : List Str} {k : Nat} {sp : Sp} (D : Dm K C m qual st ps) (S : FnScope N ps (defScope st)) (len : ∀ vs H Q E, sp vs H Q E → vs.length = ps.length)
    (hbody : ∀ (f : Addr) (cdv : Value) (A : Around) (outer : List Env) (s : Shared) (H : Hp) (vs : List V) (Q : VK) (E : XK), Room k (A.deeper (envOfC qual (defScope st) s.heap.objs.size f cdv)) → sp vs H Q E →
      ∃ t, PSs (cxOf CX0 P w K mg base N qual (defScope st) f cdv A outer s H E).nox (defBody st) t ∧ t { nx := fun _ H' => Q .non H', rt := Q } (start N vs) H) : MC P w K mg base CX0 C m (k + 1) sp := by
  obtain ⟨f, fd, F, b, me⟩ := D.ex
  exact ⟨f, me, raw0 (F.ok S len (fun cdv A outer s H vs Q E hr h => hbody f cdv A outer s H vs Q E hr h)) b⟩
theorem mc_ofX {C : Addr} {m qual : Str} {st : Stmt} {N ps : List Str} {k : Nat} {sp : Sp} (D : Dm K C m qual st ps) (S : FnScope N ps (defScope st)) (len : ∀ vs H Q E, sp vs H Q E → vs.length = ps.length)
    (hbody : ∀ (f : Addr) (cdv : Value) (A : Around) (outer : List Env) (s : Shared) (H : Hp) (vs : List V) (Q : VK) (E : XK), Room k (A.deeper (envOfC qual (defScope st) s.heap.objs.size f cdv)) → sp vs H Q E →
      ∃ t, PSs (cxOf (L2.CX P w) P w K mg base N qual (defScope st) f cdv A outer s H E) (defBody st) t ∧ t { nx := fun _ H' => Q .non H', rt := Q } (start N vs) H) : MC P w K mg base (L2.CX P w) C m (k + 1) sp := by
  obtain ⟨f, fd, F, b, me⟩ := D.ex
  exact ⟨f, me, raw0 (F.okX S len (fun cdv A outer s H vs Q E hr h => hbody f cdv A outer s H vs Q E hr h)) b⟩
structure MF (P : Program) (w : World) (K : PySem.W.Frag) (mg : Str → Option Value) (base : Heap) (CX : CXT) (C : Addr) (m qual : Str) (st : Stmt) (ps : List Str) (k : Nat) (sp : Sp) : Prop where
  ex : ∃ (f : Addr) (fd : FuncData), Fun K m qual st f fd ∧ L2.Binds K fd ps [] ∧ Meth K C m f ∧ FnOk P w K mg base CX k f fd ps sp
theorem MF.mc {CX : CXT} {C : Addr} {m qual : Str} {st : Stmt} {ps : List Str} {k : Nat} {sp : Sp} (M : MF P w K mg base CX C m qual st ps k sp) : MC P w K mg base CX C m k sp := by
  obtain ⟨f, fd, F, b, me, G⟩ := M.ex
  exact ⟨f, me, raw0 G b⟩
theorem mf_ofX {C : Addr} {m qual : Str} {st : Stmt} {N ps : List Str} {k : Nat} {sp : Sp} (D : Dm K C m qual st ps) (S : FnScope N ps (defScope st)) (len : ∀ vs H Q E, sp vs H Q E → vs.length = ps.length)
    (hbody : ∀ (f : Addr) (cdv : Value) (A : Around) (outer : List Env) (s : Shared) (H : Hp) (vs : List V) (Q : VK) (E : XK), Room k (A.deeper (envOfC qual (defScope st) s.heap.objs.size f cdv)) → sp vs H Q E →
      ∃ t, PSs (cxOf (L2.CX P w) P w K mg base N qual (defScope st) f cdv A outer s H E) (defBody st) t ∧ t { nx := fun _ H' => Q .non H', rt := Q } (start N vs) H) : MF P w K mg base (L2.CX P w) C m qual st ps (k + 1) sp := by
  obtain ⟨f, fd, F, b, me⟩ := D.ex
  exact ⟨f, fd, F, b, me, F.okX S len (fun cdv A outer s H vs Q E hr h => hbody f cdv A outer s H vs Q E hr h)⟩
/-! ### _across -/
def spAcross (C : Addr) : Sp := fun vs H Q _ => ∃ (x : Addr) (n : Nat) (es : List Ed) (i p : Nat), vs = [.ref x, .int (i : Int), .int (p : Int)] ∧ NetAt5 C H x n es ∧ i < es.length ∧ Q (.int ((oth (es.getD i (0, 0)) p : Nat) : Int)) H
abbrev nAc : List Str := ["self", "passage", "place", "u", "v"]
theorem scAcross : FnScope nAc ["self", "passage", "place"] (defScope sAcross) := ⟨rfl, rfl, rfl, by decide +kernel, rfl, by decide +kernel, by decide +kernel⟩
theorem mc_across {C : Addr} {mc : Value} (T : Txt mg) (N : NetC K mg C mc) (D : Dm K C "_across" "Network._across" sAcross ["self", "passage", "place"]) : MC P w K mg base CX0 C "_across" 1 (spAcross C) := by
  have nd := scAcross.nd
  refine mc_of D scAcross (fun vs H Q E h => ?_) (fun f cdv A outer s0 H vs Q E hr h => ?_)
  · obtain ⟨x, n, es, i, p, rfl, _⟩ := h
    rfl
  · obtain ⟨x, n, es, i, p, rfl, ⟨dx, fs, a, e, h1, h2, h3, h4, h5, ⟨ks, k1, k2, k3⟩, h7⟩, hi, q⟩ := h
    refine ⟨_, pss_cons (ps_asg (pe_ix (r := rIxT K) ix_tup (pe_fld (pv 0) rfl) (pv 1) (fun _ _ => rfl)) (pg_tup rfl (pgs_cons (pg_name (i := 3) nd rfl (.inl rfl)) (pgs_cons (pg_name (i := 4) nd rfl (.inl rfl)) pgs_nil))))
      <| pss_one (ps_ret (pe_ifExp (pt_cmpR op_eq (pv 2) (pv 3) (nomark _)) (pv 4) (pv 3))), ?_⟩
    have hk : i < ks.length := by rw [ed_len k2]; exact hi
    obtain ⟨k, hki⟩ : ∃ k, ks[i]? = some k := ⟨ks[i], List.getElem?_eq_getElem hk⟩
    obtain ⟨e', he', ek⟩ := ed_get k2 hki
    have tk := k3 k (List.mem_of_getElem? hki)
    rw [ek] at tk
    have at1 : atI (ks.map fun k => V.ref k.1) ((i : Nat) : Int) = some (.ref k.1) := atI_nat (by rw [List.getElem?_map, hki]; rfl)
    refine ⟨_, rfl, x, C, dx, fs, _, rfl, h1, N.cl, N.n2, h3, _, rfl, a, _, _, _, rfl, rfl, sq_of k1, at1, ?_⟩
    refine ⟨k.1, _, rfl, sq_of tk, rfl, _, _, rfl, _, _, rfl, rfl, ?_⟩
    rw [getD_of he'] at q
    unfold oth at q
    refine ⟨_, rfl, _, rfl, rfl, _, rfl, ite2 (fun c => ?_) (fun c => ?_)⟩
    · have c' : p = e'.1 := by
        have := of_decide_eq_true c
        simp at this
        omega
      rw [if_pos c'] at q
      exact ⟨_, rfl, q⟩
    · have c' : ¬ p = e'.1 := by
        have := of_decide_eq_false (Bool.eq_false_iff.mpr c)
        simp at this
        omega
      rw [if_neg c'] at q
      exact ⟨_, rfl, q⟩
end
end Hw

namespace Hw
open PySem PySem.Spec PyProof.Rows L2 ClX
/-- the row of a place among the exits -/
theorem cs_at {H : Hp} {e : Addr} {n p : Nat} {es : List Ed} (h : CsAt H e (exs n es)) (hp : p < n) : ∃ (ks : List V) (b : Addr), H e = some (.tup ks) ∧ atI ks ((p : Nat) : Int) = some (.ref b) ∧ Tp H b (drs es p) := by
  obtain ⟨ks, k1, k2, k3⟩ := h
  have kl : ks.length = n := by
    have := congrArg List.length k2
    unfold exs at this
    rw [List.length_map, List.length_map, List.length_range] at this
    exact this
  obtain ⟨k, hk⟩ : ∃ k, ks[p]? = some k := ⟨ks[p], List.getElem?_eq_getElem (by omega)⟩
  have e2 : k.2 = drs es p := by
    have := congrArg (fun l => l[p]?) k2
    unfold exs at this
    simp only [List.getElem?_map, hk, List.getElem?_range hp] at this
    exact Option.some.inj this
  refine ⟨_, k.1, k1, atI_nat (by rw [List.getElem?_map, hk]; rfl), ?_⟩
  rw [← e2]
  exact k3 k (List.mem_of_getElem? hk)
section
variable {P : Program} {w : World} {K : PySem.W.Frag} {mg : Str → Option Value} {base : Heap}
def tM (C : Addr) (m : Str) (sp : Sp) (ta : TE) (t : TA) : TE := tMethR C m sp E0 ta t
theorem pe_m {X : Cx} {k : Nat} {C : Addr} {m : Str} {sp : Sp} {o e : Expr} {es : List Expr} {ta : TE} {t : TA} {apos pos : Pos} {pl : Sem Bool} (M : MC X.prog X.w X.K X.mg X.base CX0 C m k sp) (c : Cls X.K C) (hr : Room k X.A) (he : PE X o ta) (ha : PA X (e :: es) t)
    (hst : starEach (e :: es) X.env = (false, eval e X.env) :: starEach es X.env := by rfl) (hpl : (backTo pos (starEach es X.env)).any (·.1) = false := by rfl) (ht : eval (.Call (.Attribute o m apos) (e :: es) [] pos) X.env = (do let ov ← eval o X.env; standAt apos.atName; let (f, first) ← holding [ov] (getMethod ov m pl); callWith pos f first (backTo pos (starEach (e :: es) X.env)) (backToKw pos (keywordEach [] X.env))) := by rfl) :
    PE X (.Call (.Attribute o m apos) (e :: es) [] pos) (tM C m sp ta t) := by
  obtain ⟨f, hm, F⟩ := M.ex
  exact pe_methR he c hm F hr pass0 ha hst hpl ht
end
end Hw

namespace Hw
open PySem PySem.Spec PyProof.Rows L2 ClX
section
variable {P : Program} {w : World} {K : PySem.W.Frag} {mg : Str → Option Value} {base : Heap}
/-! ### _check_place -/
/-- a value that is no place -/
def BadV (K : PySem.W.Frag) (H : Hp) (n : Nat) (v : V) : Prop := (∃ i : Int, v = .int i ∧ ¬ (0 ≤ i ∧ i < (n : Int))) ∨ OddV K H v
def spCheck (K : PySem.W.Frag) (C CP : Addr) : Sp := fun vs H Q E => ∃ (x : Addr) (v : V) (n : Nat) (es : List Ed), vs = [.ref x, v] ∧ NetAt5 C H x n es ∧
  ((∃ p : Nat, v = .int (p : Int) ∧ p < n ∧ Q .non H) ∨ (BadV K H n v ∧ ∀ d, H d = none → E (.ref CP) (some d) (upd H d (.xd [("value", v)]))))
theorem scCheck : FnScope ["self", "value"] ["self", "value"] (defScope sCheck) := ⟨rfl, rfl, rfl, by decide +kernel, rfl, by decide +kernel, by decide +kernel⟩
theorem mc_check {C CP : Addr} {mc : Value} (T : Txt mg) (N : NetC K mg C mc) (XP : Xc1 P w K mg base "InvalidPlace" CP "value") (GI : Cal P w K mg base "is_index" 2 (spIndex5 K)) (D : Dm K C "_check_place" "Network._check_place" sCheck ["self", "value"]) : MC P w K mg base (L2.CX P w) C "_check_place" 3 (spCheck K C CP) := by
  refine mc_ofX D scCheck (fun vs H Q E h => ?_) (fun f cdv A outer s0 H vs Q E hr h => ?_)
  · obtain ⟨x, v, n, es, rfl, _⟩ := h
    rfl
  · obtain ⟨x, v, n, es, rfl, ⟨dx, fs, a, e, h1, h2, h3, h4, h5, h6, h7⟩, q⟩ := h
    refine ⟨_, pss_one (ps_if (pt_not (pt_val (pe_cl GI hr (by rfl) (pa_cons (pv 1) (pa_cons (pe_fld (pv 0) rfl) pa_nil))))) (pss_one (ps_raise (W := fun cls d _ H => E cls d H) rfl (takes_of rfl rfl rfl rfl) (pmk_x1 XP hr (by rfl) (pv 1)))) pss_nil), ?_⟩
    refine ⟨_, rfl, _, rfl, x, C, dx, fs, _, rfl, h1, N.cl, N.n1, h2, v, _, rfl, ?_⟩
    rcases q with ⟨p, rfl, hp, q⟩ | ⟨bad, q⟩
    · refine .inl ⟨_, rfl, _, rfl, ?_⟩
      rw [show decide ((0 : Int) ≤ (p : Int) ∧ (p : Int) < (n : Int)) = true from decide_eq_true ⟨by omega, by omega⟩]
      exact iteF q
    · rcases bad with ⟨i, rfl, hi⟩ | odd
      · refine .inl ⟨_, rfl, _, rfl, ?_⟩
        rw [show decide ((0 : Int) ≤ i ∧ i < (n : Int)) = false from decide_eq_false hi]
        exact iteT ⟨_, rfl, mk1_ok q⟩
      · exact .inr ⟨odd, _, rfl, iteT ⟨_, rfl, mk1_ok q⟩⟩
end
end Hw

namespace Hw
open PySem PySem.Spec PyProof.Rows L2 ClX
theorem pe_mX {X : Cx} {k : Nat} {C : Addr} {m : Str} {sp : Sp} {E : XK} {W : WX} {o e : Expr} {es : List Expr} {ta : TE} {t : TA} {apos pos : Pos} {pl : Sem Bool} (M : MC X.prog X.w X.K X.mg X.base (L2.CX X.prog X.w) C m k sp) (c : Cls X.K C) (hr : Room k X.A) (tk : Takes X W) (hW : ∀ cls d σ H, E cls d H → W cls d σ H) (he : PE X o ta) (ha : PA X (e :: es) t)
    (hst : starEach (e :: es) X.env = (false, eval e X.env) :: starEach es X.env := by rfl) (hpl : (backTo pos (starEach es X.env)).any (·.1) = false := by rfl) (ht : eval (.Call (.Attribute o m apos) (e :: es) [] pos) X.env = (do let ov ← eval o X.env; standAt apos.atName; let (f, first) ← holding [ov] (getMethod ov m pl); callWith pos f first (backTo pos (starEach (e :: es) X.env)) (backToKw pos (keywordEach [] X.env))) := by rfl) :
    PE X (.Call (.Attribute o m apos) (e :: es) [] pos) (tMethR C m sp E ta t) := by
  obtain ⟨f, hm, F⟩ := M.ex
  exact pe_methR he c hm F hr (passes_call tk hW) ha hst hpl ht
end Hw

/-! repr of data: it asks that no repr is under way, which the level alone does not tell. -/
namespace Hw
open PySem PySem.Spec PyProof.Rows L2
/-- no repr is under way below -/
def NoG (A : Around) : Prop := A.guards = some []
theorem NoG.deeper {A : Around} (g : NoG A) (env : Env) : NoG (A.deeper env) := g
/-- a promise that is kept where no repr is under way -/
def FnG (P : Program) (w : World) (K : PySem.W.Frag) (mg : Str → Option Value) (base : Heap) (k : Nat) (f : Addr) (fd : FuncData) (ps : List Str) (sp : Sp) : Prop :=
  ∀ (A : Around), NoG A → Room k A → ∀ (outer : List Env) (st : Shared) (H : Hp) (ar : Args) (us : List Value) (vs : List V) (Q : VK) (E : XK),
    Env0 P w K mg base A outer st H → BindsTo st fd ar (ps.zip us) → Vals vs us → sp vs H Q E → codeAny (model P w) A (.call (.ref f) ar) (CR CX0 outer P w H st Q E) st
section
variable {P : Program} {w : World} {K : PySem.W.Frag} {mg : Str → Option Value} {base : Heap}
theorem okG {x qual : Str} {stm : Stmt} {f : Addr} {fd : FuncData} {N ps : List Str} {k : Nat} {sp : Sp} (F : Fun K x qual stm f fd) (S : FnScope N ps (defScope stm)) (ln : ∀ vs H Q E, sp vs H Q E → vs.length = ps.length)
    (body : ∀ (cdv : Value) (A : Around) (outer : List Env) (st : Shared) (H : Hp) (vs : List V) (Q : VK) (E : XK), NoG A → Room k (A.deeper (envOfC qual (defScope stm) st.heap.objs.size f cdv)) → sp vs H Q E →
      ∃ t, PSs (cxOf CX0 P w K mg base N qual (defScope stm) f cdv A outer st H E).nox (defBody stm) t ∧ t { nx := fun _ H' => Q .non H', rt := Q } (start N vs) H) :
    FnG P w K mg base (k + 1) f fd ps sp := by
  obtain ⟨oc, od, kV, doc, pm, an, cdv, ct, osl, rfl, lk, cr⟩ := F.ex
  intro A g rm outer st H ar us vs Q E e0 bn rl hs
  have eq := ln _ _ _ _ hs
  have keep := e0.mod.kin.keeps fun b o e => (e0.bs b o e).1
  have nolim := e0.mod.nolimit.keeps fun b o e => (e0.bs b o e).1
  refine codeAny_call_function rm.depth (keep _ _ lk) rfl S.co S.gen rfl (PySem.W.codeRec_of keep cr) (bn _ _ _ _ ?_)
  refine wpAny_newFunctionEnv_cells S.kind ?_ fun env ee s1 ic => ?_
  · rintro ⟨y, u⟩ hy
    have hp := S.par y (List.of_mem_zip hy).1
    exact hp.elim Or.inl fun q => Or.inr ⟨q, PySem.W.cellsFrom_some _ _ _ (Or.inl q)⟩
  · subst ee
    obtain ⟨t, ht, q⟩ := body cdv A outer st H vs Q E g (rm.deeper _) hs
    have I0 := inv_start (CX := CX0) (E := E) S rm.hd e0 eq rl ic
    refine ⟨nolim.keeps ic.toInCall.keep, codeAny_func (wpAny_mono (ht.nox.run [] s1 (start N vs) H _ I0 q) (fun fl s2 r => ?_) fun _ _ z => z)⟩
    cases fl with
    | ret u => exact let ⟨v, _, H', J, rv, q2⟩ := r; ⟨v, H', J.os, J.bare, J.base, J.hok, rv, q2⟩
    | next => exact let ⟨_, H', J, q2⟩ := r; ⟨V.non, H', J.os, J.bare, J.base, J.hok, rfl, q2⟩
    | brk => exact let ⟨_, _, _, z⟩ := r; z.elim
    | cont => exact let ⟨_, _, _, z⟩ := r; z.elim
/-- a def that can be called by its name where no repr is under way -/
structure CalG (P : Program) (w : World) (K : PySem.W.Frag) (mg : Str → Option Value) (base : Heap) (x : Str) (k : Nat) (ps : List Str) (sp : Sp) : Prop where
  ex : ∃ (f : Addr) (fd : FuncData), mg x = some (.ref f) ∧ PySem.W.keepIn K (.ref f) = true ∧ Binds K fd ps [] ∧ (∀ vs H Q E, sp vs H Q E → vs.length = ps.length) ∧ FnG P w K mg base k f fd ps sp
theorem calG_of {x : Str} {stm : Stmt} {N ps : List Str} {k : Nat} {sp : Sp} (D : Df K mg x stm ps) (S : FnScope N ps (defScope stm)) (ln : ∀ vs H Q E, sp vs H Q E → vs.length = ps.length)
    (body : ∀ (f : Addr) (cdv : Value) (A : Around) (outer : List Env) (st : Shared) (H : Hp) (vs : List V) (Q : VK) (E : XK), NoG A → Room k (A.deeper (envOfC x (defScope stm) st.heap.objs.size f cdv)) → sp vs H Q E →
      ∃ t, PSs (cxOf CX0 P w K mg base N x (defScope stm) f cdv A outer st H E).nox (defBody stm) t ∧ t { nx := fun _ H' => Q .non H', rt := Q } (start N vs) H) : CalG P w K mg base x (k + 1) ps sp := by
  obtain ⟨f, fd, F, b, g⟩ := D.ex
  exact ⟨f, fd, g, F.kp, b, ln, okG F S ln fun cdv A outer st H vs Q E => body f cdv A outer st H vs Q E⟩
end
section
variable {X : Cx}
theorem pe_clG {k : Nat} {sp : Sp} {ps : List Str} {x : Str} {p pos : Pos} {e : Expr} {es : List Expr} {t : TA} (c : CalG X.prog X.w X.K X.mg X.base x k ps sp) (g : NoG X.A) (hr : Room k X.A) (hg : Gl X x) (ha : PA X (e :: es) t) (hdb : (x == ("__debug__" : Str)) = false := by decide)
    (he : starEach (e :: es) X.env = (false, eval e X.env) :: starEach es X.env := by rfl) (hpl : (backTo pos (starEach es X.env)).any (·.1) = false := by rfl) :
    PE X (.Call (.Name x p) (e :: es) [] pos) (tCal sp t) := by
  obtain ⟨f, fd, hm, hk, b, ln, F⟩ := c.ex
  refine ⟨fun pins st σ H Q I h => wpAny_Call_Name_kw (ld_glob I hg hm ?_ hdb)⟩
  refine PySem.W.callWith_K (h₀ := X.base) I.ok.mod.kin hk (thn (ha.run pos pins st σ H _ I h) fun us s1 ⟨vs, H1, I1, r, q⟩ => ⟨I1.kIn, wpAny_call ?_⟩) he hpl
  have bd : BindsTo s1 fd ⟨us, []⟩ (ps.zip us) := by
    have z := b s1 us I1.kIn (by rw [← ln _ _ _ _ q, r.length, List.append_nil])
    rw [List.append_nil] at z
    exact z
  refine codeAny_mono (F X.A g hr X.stack s1 H1 ⟨us, []⟩ us vs Q E0 I1.env0 bd r q) fun rs s2 hq => ?_
  cases rs with
  | error er => exact (hq : False).elim
  | ok fl =>
    cases fl with
    | ret u => exact I1.after hq
    | next => exact (hq : False).elim
    | brk => exact (hq : False).elim
    | cont => exact (hq : False).elim
/-! ### repr of tuples of numbers, and of tuples of them -/
def dT (p : List Nat) : PyData := .tuple ((NI p).map PyData.int)
def dCT (cs : List (List Nat)) : PyData := .tuple (cs.map dT)
/-- few and small numbers -/
def Sm (p : List Nat) : Prop := p.length ≤ 100 ∧ ∀ x ∈ p, x < 1000
theorem log_small {x : Nat} (h : x < 1000) : (x : Int).natAbs.log2 < 10 := by
  rw [Int.natAbs_natCast]
  by_cases z : x = 0
  · subst z; decide
  · exact (Nat.log2_lt z).mpr (by omega)
theorem show_ints : ∀ p : List Nat, (∀ x ∈ p, x < 1000) → PyData.showableAll ((NI p).map PyData.int) = true
  | [], _ => rfl
  | x :: p, h => by
    have := log_small (h x List.mem_cons_self)
    show (decide ((x : Int).natAbs.log2 < 1920) && PyData.showableAll ((NI p).map PyData.int)) = true
    rw [decide_eq_true (by omega), show_ints p fun y hy => h y (List.mem_cons_of_mem _ hy)]
    rfl
theorem short_ints : ∀ p : List Nat, (∀ x ∈ p, x < 1000) → PyData.intsShortAll 13 ((NI p).map PyData.int) = true
  | [], _ => rfl
  | x :: p, h => by
    have hx := h x List.mem_cons_self
    have l := toString_length_le (v := (x : Int)) (by omega) (k := 3) (by decide) (by omega)
    show (decide ((PyData.shown (.int (x : Int))).length ≤ 13) && PyData.intsShortAll 13 ((NI p).map PyData.int)) = true
    have l2 : (PyData.shown (.int (x : Int))).length ≤ 13 := by
      unfold PyData.shown
      exact Nat.le_trans l (by decide)
    rw [decide_eq_true l2, short_ints p fun y hy => h y (List.mem_cons_of_mem _ hy)]
    rfl
theorem weight_ints : ∀ p : List Nat, (∀ x ∈ p, x < 1000) → PyData.weightAll ((NI p).map PyData.int) ≤ 12 * p.length
  | [], _ => Nat.zero_le _
  | x :: p, h => by
    have hx := log_small (h x List.mem_cons_self)
    have ih := weight_ints p fun y hy => h y (List.mem_cons_of_mem _ hy)
    have w : PyData.weight (.int (x : Int)) ≤ 11 := by
      unfold PyData.weight
      split <;> omega
    show PyData.weight (.int (x : Int)) + 1 + PyData.weightAll ((NI p).map PyData.int) ≤ 12 * (p.length + 1)
    omega
theorem show_dT {p : List Nat} (h : Sm p) : (dT p).showable = true := show_ints p h.2
theorem weight_dT {p : List Nat} (h : Sm p) : (dT p).weight ≤ 1200 := by
  have := weight_ints p h.2
  have := h.1
  show PyData.weightAll ((NI p).map PyData.int) ≤ 1200
  omega
theorem depth_dT (p : List Nat) : (dT p).depth = 1 := by
  show PyData.depthAll ((NI p).map PyData.int) + 1 = 1
  rw [depth_ints]
theorem lay_dT (p : List Nat) : (dT p).canLay0 = true := lay_ints _
theorem short_dT {p : List Nat} (h : Sm p) : (dT p).intsShort 13 = true := short_ints p h.2
theorem line_dT {p : List Nat} (h : Sm p) : (dT p).shown.length ≤ sizeLine := by
  have w := weight_dT h
  have d := depth_dT p
  have l : PyData.layable0 (dT p) = true := by
    show ((dT p).canLay0 && decide ((dT p).depth ≤ 64) && decide ((dT p).weight ≤ 2 ^ 20)) = true
    rw [lay_dT, d, decide_eq_true (show (dT p).weight ≤ 2 ^ 20 by omega)]
    rfl
  exact Nat.le_trans (shown_le13 l (short_dT h)) (by decide)
def SmC (cs : List (List Nat)) : Prop := cs.length ≤ 100 ∧ ∀ c ∈ cs, Sm c
theorem all_dCT : ∀ cs : List (List Nat), (∀ c ∈ cs, Sm c) → PyData.showableAll (cs.map dT) = true ∧ PyData.canLayAll0 (cs.map dT) = true ∧ PyData.intsShortAll 13 (cs.map dT) = true ∧ PyData.weightAll (cs.map dT) ≤ 1201 * cs.length ∧ PyData.depthAll (cs.map dT) ≤ 1
  | [], _ => ⟨rfl, rfl, rfl, Nat.zero_le _, Nat.zero_le _⟩
  | c :: cs, h => by
    have hc := h c List.mem_cons_self
    obtain ⟨a1, a2, a3, a4, a5⟩ := all_dCT cs fun d hd => h d (List.mem_cons_of_mem _ hd)
    refine ⟨?_, ?_, ?_, ?_, ?_⟩
    · show ((dT c).showable && PyData.showableAll (cs.map dT)) = true
      rw [show_dT hc, a1]; rfl
    · show ((dT c).canLay0 && PyData.canLayAll0 (cs.map dT)) = true
      rw [lay_dT, a2]; rfl
    · show ((dT c).intsShort 13 && PyData.intsShortAll 13 (cs.map dT)) = true
      rw [short_dT hc, a3]; rfl
    · show (dT c).weight + 1 + PyData.weightAll (cs.map dT) ≤ 1201 * (cs.length + 1)
      have := weight_dT hc
      omega
    · show max (dT c).depth (PyData.depthAll (cs.map dT)) ≤ 1
      rw [depth_dT]
      exact Nat.max_le.mpr ⟨Nat.le_refl _, a5⟩
theorem line_dCT {cs : List (List Nat)} (h : SmC cs) : (dCT cs).shown.length ≤ sizeLine := by
  obtain ⟨a1, a2, a3, a4, a5⟩ := all_dCT cs h.2
  have h1 := h.1
  have l : PyData.layable0 (dCT cs) = true := by
    show ((dCT cs).canLay0 && decide ((dCT cs).depth ≤ 64) && decide ((dCT cs).weight ≤ 2 ^ 20)) = true
    have d : (dCT cs).depth ≤ 64 := by
      show PyData.depthAll (cs.map dT) + 1 ≤ 64
      omega
    have w : (dCT cs).weight ≤ 2 ^ 20 := by
      show PyData.weightAll (cs.map dT) ≤ 2 ^ 20
      omega
    rw [decide_eq_true d, decide_eq_true w]
    show (PyData.canLayAll0 (cs.map dT) && true && true) = true
    rw [a2]; rfl
  exact Nat.le_trans (shown_le13 l a3) (by decide)
theorem hd_dT (p : List Nat) : (dT p).hasDict = false := PyData.hasDict_of_canLay _ (lay_dT p)
theorem reads_dT {H : Hp} {pins : List (Addr × Obj)} {σ : L2.St} {st : Shared} (I : L2.Inv X pins σ H st) {a : Addr} {p : List Nat} (h : Tp H a p) : Reads st.heap (.ref a) (dT p) [] := by
  obtain ⟨its, rv, ⟨o, ho, hc, n, hd⟩, _⟩ := I.tuple (sq_of (K := X.K) h)
  rw [NV_NI] at rv
  exact Reads.tuple ho hc hd (by simpa using reads_ints (h := st.heap) rv)
def rReprT : List V → Hp → VK → Prop := fun vs H Q => ∃ (a : Addr) (p : List Nat), vs = [.ref a] ∧ Tp H a p ∧ Sm p ∧ Q (.str (dT p).shown) H
theorem cr_reprT (g : NoG X.A) (hu : X.A.units + 64 < cLine) : CallR X (.builtin "repr") rReprT := by
  rintro pins st σ H vs us Q I r ⟨a, p, rfl, h, sm, q⟩
  rw [Vals.ref1 r]
  have rd := reads_dT I h
  refine repr_of_reads' rd (show_dT sm) (fun z => by rw [hd_dT] at z; cases z) g (by rw [depth_dT]; omega) (fun _ _ e => e) (fun h' u tk kp => ?_) (line_dT sm)
  exact ⟨.str _, H, I.kept kp, ⟨_, rfl⟩, q⟩
end
end Hw

/-! A static method by its class, o.m( *y), C(e, *y) of a class in a local name, repr of a truth value, text * number. -/
namespace Hw
open PySem PySem.Spec PyProof.Rows L2
open ClX (CRead)
/-- C.m is a staticmethod, its def at g -/
structure SMet (K : PySem.W.Frag) (C : Addr) (mc : Value) (m : Str) (p g : Addr) : Prop where
  at_ : PySem.W.findCls K (.ref C) mc m = some (.get (.builtin "staticmethod.__get__") (.ref p) .none (.ref C))
  rc : ∃ rest, PySem.W.recIn K p "staticmethod" = some (.ref g :: rest)
  hd : PySem.W.handedIn (.ref g) = true
  kp : PySem.W.keepIn K (.ref g) = true
section
variable {X : Cx} {CX : CXT} {k : Nat} {C p g : Addr} {mc : Value} {sp : Sp} {E : XK} {o e : Expr} {es : List Expr} {m x : Str} {pos apos p1 p2 : Pos} {ta te : TE} {t : TA} {pl : Sem Bool}
theorem getsmet_ok {pins : List (Addr × Obj)} {σ : L2.St} {H : Hp} {s : Shared} {A : Around} {E : Value → Shared → Prop} {b : Bool} {Q : Value → Shared → Prop} (I : L2.Inv X pins σ H s) (r : CRead X.K C mc) (k : SMet X.K C mc m p g)
    (h : ∀ s', L2.Inv X pins σ H s' → Q (.ref g) s') : wpAny (model X.prog X.w) A (getAttr (.ref C) m b) Q E s := by
  obtain ⟨rest, hp⟩ := k.rc
  refine PySem.W.cls_bind I.kIn r.rd k.at_ ?_
  refine wpAny_call (PySem.W.sm_get (s := { s with toks := s.toks + 1 }) I.kIn hp (PySem.W.handed_on k.hd ?_))
  exact h _ (I.tok _)
/-- e.m(..), e the class at C, m a staticmethod -/
def tSMeth (C : Addr) (sp : Sp) (E : XK) (ta : TE) (t : TA) : TE := fun σ H Q => ta σ H fun x H1 => x = .ref C ∧ t σ H1 fun vs H2 => sp vs H2 Q E
theorem pe_smeth (he : PE X o ta) (r : CRead X.K C mc) (c : SMet X.K C mc m p g) (F : FnR X.prog X.w X.K X.mg X.base CX k g sp) (hr : Room k X.A) (hx : Passes CX X E) (ha : PA X (e :: es) t)
    (hst : starEach (e :: es) X.env = (false, eval e X.env) :: starEach es X.env := by rfl) (hpl : (backTo pos (starEach es X.env)).any (·.1) = false := by rfl)
    (ht : eval (.Call (.Attribute o m apos) (e :: es) [] pos) X.env = (do
      let ov ← eval o X.env
      standAt apos.atName
      let (f, first) ← holding [ov] (getMethod ov m pl)
      callWith pos f first (backTo pos (starEach (e :: es) X.env)) (backToKw pos (keywordEach [] X.env))) := by rfl) :
    PE X (.Call (.Attribute o m apos) (e :: es) [] pos) (tSMeth C sp E ta t) := by
  refine ⟨fun pins s σ H Q I h => ?_⟩
  refine PySem.W.methodCall_KW (pl := pl) (thn (he.run pins s σ H _ I h) fun u s1 ⟨x, H1, I1, rx, ex, q⟩ => ?_) ht
  subst ex
  obtain rfl : u = Value.ref C := rx
  refine PySem.W.method_cls I1.kIn r.ga (getsmet_ok I1 r c fun s2 I2 => ?_)
  refine PySem.W.callWith_K (h₀ := X.base) (first := []) I.ok.mod.kin c.kp (thn (ha.run pos _ s2 σ H1 _ I2 q) fun us s3 ⟨vs, H2, I3, rv, q2⟩ => ⟨I3.kIn, ?_⟩) hst hpl
  exact wpAny_call (run_fnR F hr hx I3 rv q2)
/-- o.m( *y) -/
theorem starcall1_of {M : Model} {A : Around} {E : Value → Shared → Prop} {s : Shared} {env : Env} {o e2 : Expr} {m : Str} {p apos pos : Pos} {Q : Value → Shared → Prop} (hbase : attributeBase o m env (eval o env) = eval o env)
    (hst : starEach [.Starred e2 p] env = [(true, eval e2 env)])
    (h : wpAny M A (eval o env) (fun ov s₁ => wpAny M A (getAttr ov m true) (fun f s₂ => wpAny M A (callWith pos f [] (backTo pos [(true, eval e2 env)]) []) Q E s₂) E s₁) E s) :
    wpAny M A (eval (.Call (.Attribute o m apos) [.Starred e2 p] [] pos) env) Q E s := by
  have hke : backToKw pos (keywordEach [] env) = [] := rfl
  have hform : methodCallForm ([Expr.Starred e2 p].length + ([] : List Keyword).length) (backTo pos [(true, eval e2 env)]) [] = false := rfl
  have hpos : methodCallPos false o env apos pos = pure pos := rfl
  have hcal : ∀ ov, calleeOf false o env ov m = (getAttr ov m true >>= fun v => pure (v, [])) := fun _ => rfl
  rw [arm_eval_Call, hbase, hst, hke]
  refine wpAny_bind (wpAny_mono h (fun ov s₁ h₁ => ?_) fun _ _ x => x)
  refine wpAny_bind (wpAny_standAt ?_)
  unfold methodCall
  rw [hform, hpos, hcal]
  refine wpAny_bind (wpAny_holding (wpAny_bind (wpAny_mono h₁ (fun f s₂ h₂ => wpAny_pure ?_) fun _ _ x => x)))
  exact wpAny_bind (wpAny_pure h₂)
def tMethS1 (K : PySem.W.Frag) (C : Addr) (m : Str) (g : Addr) (sp : Sp) (E : XK) (ta t2 : TE) : TE := fun σ H Q => ta σ H fun x H1 => ∃ a dx fs, x = .ref a ∧ H1 a = some (.ins C dx fs) ∧ fs.lookup m = none ∧
  ∀ q, H1 q = none → t2 σ (upd H1 q (.met g a)) fun y2 H3 => ∃ b vs, y2 = .ref b ∧ (SqT K H3 b vs ∨ SqL K H3 b vs) ∧ H3 q = some (.met g a) ∧ sp (.ref a :: vs) H3 Q E
theorem pe_methS1 {e2 : Expr} {t2 : TE} (he : PE X o ta) (c : Cls X.K C) (b : BMeth X.K C m g) (F : FnR X.prog X.w X.K X.mg X.base CX k g sp) (hr : Room k X.A)
    (hx : Passes CX X E) (h2 : PE X e2 t2) (hbase : attributeBase o m X.env (eval o X.env) = eval o X.env := by rfl)
    (hst : starEach [.Starred e2 p1] X.env = [(true, eval e2 X.env)] := by rfl) : PE X (.Call (.Attribute o m apos) [.Starred e2 p1] [] pos) (tMethS1 X.K C m g sp E ta t2) := by
  refine ⟨fun pins s σ H Q I h => ?_⟩
  refine starcall1_of hbase hst (thn (he.run pins s σ H _ I h) fun u s1 ⟨x, H1, I1, rx, a, dx, fs, ex, ea, l, q⟩ => ?_)
  subst ex
  obtain rfl : u = Value.ref a := rx
  refine getbound_ok I1 ea c b l fun q1 s2 hq1 I2 => ?_
  refine PySem.W.ks_call (P := PySem.W.MethP X.K q1 g (.ref a)) rfl (PySem.W.keeps_M b.fi) (PySem.W.ks_lone (thn (h2.run pins s2 σ _ _ I2 (q q1 hq1)) fun v2 s4 ⟨y2, H3, I4, ry2, t, vs, ey, ht, hm, hsp⟩ => ?_))
  subst ey
  obtain rfl : v2 = Value.ref t := ry2
  refine StX.star_any I4 ht fun us s5 I5 rv => ?_
  show PySem.W.MethP X.K q1 g (.ref a) s5.heap ∧ wpAny (model X.prog X.w) X.A (call (.ref q1) us []) (EP X pins σ Q) X.xe s5
  exact ⟨met_P I5 hm, wpAny_call (PySem.W.method_call (met_P I5 hm).1 (run_fnR (us := Value.ref a :: us) (vs := V.ref a :: vs) F hr hx I5 (.cons rfl rv) hsp))⟩
/-- x(e, *y), x a local name of the class at C -/
def tMakeV (i : Nat) (C : Addr) (sp : Sp) (E : XK) (t : TA) : TE := fun σ H Q => σ[i]? = some (some (.ref C)) ∧ StX.tMakeR C sp E t σ H Q
theorem pe_makeVS {f : Addr} {i : Nat} (M : Mk X.K C f) (F : FnR X.prog X.w X.K X.mg X.base CX k f sp) (hr : Room (k + 1) X.A) (hN : X.N[i]? = some x) (hv : Vis X.env.scope x) (hx : Passes CX X E) (ha : PA X (e :: es) t)
    (hdb : (x == ("__debug__" : Str)) = false := by decide) (hcd : (x == ("__classdict__" : Str)) = false := by decide)
    (he : starEach (e :: es) X.env = (false, eval e X.env) :: starEach es X.env := by rfl) (hst : (backTo pos (starEach es X.env)).any (·.1) = true := by rfl) : PE X (.Call (.Name x p1) (e :: es) [] pos) (tMakeV i C sp E t) := by
  refine ⟨fun pins s σ H Q I h => ?_⟩
  obtain ⟨hs, ht⟩ := h
  refine wpAny_Call_Name_kw (thn ((pe_var (pos := p1) hN hv hdb hcd).run pins s σ H (fun v H1 => v = .ref C ∧ H1 = H) I ⟨.ref C, hs, rfl, rfl⟩) fun u s1 ⟨v, H1, I1, r1, q1⟩ => ?_)
  obtain ⟨rfl, rfl⟩ := q1
  cases r1
  refine PySem.W.callWith_S2 (h₀ := X.base) I.ok.mod.kin M.kp (thn (ha.run pos pins s1 σ _ _ I1 ht) fun us s2 ⟨vs, H2, I2, r, q⟩ => ⟨I2.kIn, ?_⟩) he hst
  exact StX.run_makeR M F hr hx I2 r q
/-- repr of a truth value -/
def rReprB : List V → Hp → VK → Prop := fun vs H Q => ∃ b : Bool, vs = [.bl b] ∧ Q (.str (if b then "True" else "False")) H
theorem cr_reprB : CallR X (.builtin "repr") rReprB := by
  rintro pins st σ H vs us Q I r ⟨b, rfl, q⟩
  cases r with
  | cons r1 r2 =>
    cases r2
    obtain rfl : _ = Value.bool b := r1
    refine PySem.P.repr_of_bool ?_
    exact ⟨.str _, H, I.tok _, ⟨_, rfl⟩, q⟩
/-- a text so many times -/
def rMulS : R2 := fun x y H Q => ∃ (z : Str) (n : Nat), x = .str z ∧ y = .int (n : Int) ∧ z.cps.size * n ≤ 1000000 ∧ n ≤ 1000000 ∧ ∀ r : Str, r.cps.toList = (List.replicate n z.cps.toList).flatten → Q (.str r) H
theorem fold_app : ∀ (ls : List (Array Nat)) (a : Array Nat), (ls.foldl (· ++ ·) a).toList = a.toList ++ (ls.map (·.toList)).flatten
  | [], a => by simp
  | l :: ls, a => by
    rw [List.foldl_cons, fold_app ls (a ++ l)]
    simp
theorem op_mulS : OpR X (binaryOp .Mult) rMulS := by
  intro pins s σ H x y v u Q I rx ry ⟨z, n, ex, ey, h1, h2, q⟩
  subst ex ey
  obtain ⟨t, rfl⟩ := rx
  obtain ⟨t', rfl⟩ := ry
  refine PySem.P.mul_str ?_ (fun a b => ?_) (fun a b => ?_) ?_
  · rw [decide_eq_false (by omega), decide_eq_false (by omega)]; rfl
  · have hn : (0 : Int) < n := by omega
    have hn2 : (n : Int) ≤ 1000000 := by omega
    have hz : z.length ≤ 1000000 := by
      have : z.cps.size * 1 ≤ z.cps.size * n := Nat.mul_le_mul_left _ (by omega)
      show z.cps.size ≤ 1000000
      omega
    have hd : (1000000 : Int) ≤ (2 ^ 63 - 1) / (n : Int) := by
      refine Int.le_ediv_of_mul_le hn ?_
      calc (1000000 : Int) * n ≤ 1000000 * 1000000 := Int.mul_le_mul_of_nonneg_left hn2 (by decide)
        _ ≤ 2 ^ 63 - 1 := by decide
    have : (z.length : Int) ≤ 1000000 := by omega
    omega
  · unfold Builtin.Str.tooLong
    rw [Int.toNat_natCast]
    refine decide_eq_false ?_
    have : sizeLine = 16777216 := by decide
    have hz : z.length * n ≤ 1000000 := h1
    omega
  · by_cases c : (n : Int) < 1
    · rw [if_pos c]
      obtain rfl : n = 0 := by omega
      exact ⟨by decide, .str _, H, I.tok _, ⟨_, rfl⟩, q _ rfl⟩
    · rw [if_neg c]
      by_cases d : ((n : Int) == 1 || z.length == 0) = true
      · rw [if_pos d]
        refine ⟨.str _, H, I, ⟨_, rfl⟩, q _ ?_⟩
        rcases Bool.or_eq_true_iff.mp d with e | e
        · have := beq_iff_eq.mp e
          obtain rfl : n = 1 := by omega
          simp
        · have e' : z.cps.size = 0 := beq_iff_eq.mp e
          have e2 : z.cps.toList = [] := by
            rw [← List.length_eq_zero_iff, Array.length_toList]; exact e'
          rw [e2]
          simp
      · rw [if_neg d]
        refine ⟨?_, .str _, H, I.tok _, ⟨_, rfl⟩, q _ ?_⟩
        · rw [Int.toNat_natCast]
          show Array.size _ ≤ sizeLine
          rw [← Array.length_toList, fold_app]
          simp only [List.map_replicate, List.length_append, List.length_flatten, List.map_replicate, List.sum_replicate_nat]
          have : sizeLine = 16777216 := by decide
          have hz : z.cps.size * n ≤ 1000000 := h1
          have hc : n * z.cps.size = z.cps.size * n := Nat.mul_comm _ _
          simp
          omega
        · rw [Int.toNat_natCast]
          show (Array.toList _) = _
          rw [fold_app]
          simp
end
end Hw

/-! xs != ys of two lists whose items are equal by an own ==. -/
namespace Hw
open PySem PySem.SeqAt PySem.Spec PyProof.Rows L2
open AutoSeq1 (wpAny_loadPart')
open MeetsSeq MeetsSeq2 MeetsSeq3 SeqRoads2
section
variable {prog : Program} {w : World} {A : Around} {R : Result → Shared → Prop} {E : Value → Shared → Prop}
theorem ne_loopG (l b : Addr) (N : Nat) (I : Nat → Shared → Prop) (hl : GQ.ListI prog w A (fun e s' => R (.error e) s') l b N I)
    (fin : ∀ s, I N s → R (.ok (.ret (.bool false))) s) (k : Nat) :
    ∀ i : Nat, N - i = k → i ≤ N → ∀ s, I i s →
      wpAny (model prog w) A.in1 (Builtin.«list.__eq__.loop» ⟨[.ref l, .ref b, rawInt i, rawInt 3], []⟩) (GQ.FinOf prog w A R) (fun e s' => R (.error e) s') s := by
  induction k with
  | zero =>
    intro i hk hi s h
    obtain ⟨items, items2, n, n2, hl1, hb1, hs1, hs2, _⟩ := hl _ _ h
    have hi' : i = N := by omega
    have hR : R (.ok (.ret (.bool false))) s := fin s (hi' ▸ h)
    obtain ⟨hp, g, d, tk, os⟩ := s
    wp_walk using wpAny_loadPart' hl1, wpAny_loadPart' hb1
    have hi1 : items[((i : Nat) : Int).toNat]? = none := by simp; omega
    have hi2 : items2[((i : Nat) : Int).toNat]? = none := by simp; omega
    rw [hi1, hi2]
    wp_walk using wpAny_loadPart' hl1, wpAny_loadPart' hb1
    show R (.ok (.ret (.bool (items.size != items2.size)))) _
    rw [hs1, hs2]
    simpa using hR
  | succ k ih =>
    intro i hk hi s h
    obtain ⟨items, items2, n, n2, hl1, hb1, hs1, hs2, turn⟩ := hl _ _ h
    have hlt : i < items.size := by omega
    have hlt2 : i < items2.size := by omega
    have ht := turn hlt hlt2
    obtain ⟨hp, g, d, tk, os⟩ := s
    wp_walk using wpAny_loadPart' hl1, wpAny_loadPart' hb1
    have hi1 : items[((i : Nat) : Int).toNat]? = some items[i] := by simp [hlt]
    have hi2 : items2[((i : Nat) : Int).toNat]? = some items2[i] := by simp [hlt2]
    have hc : ((i : Int) + 1) = ((i + 1 : Nat) : Int) := by omega
    rw [hi1, hi2]
    refine wpAny_bind (wpAny_mono ht (fun r s2 h2 => ?_) fun _ _ x => x)
    obtain ⟨hr, h2⟩ := h2
    subst hr
    have hrec := ih (i + 1) (by omega) (by omega) s2 h2
    obtain ⟨hp2, g2, d2, tk2, os2⟩ := s2
    wp_walk
    rw [hc]
    exact ⟨plainId_quiet plain_eq_loop _, codeAny_builtin entry_eq_loop (by
      rw [Around.under_plainId plain_eq_loop _]
      exact hrec)⟩
theorem list_neG (l b : Addr) (N : Nat) (I : Nat → Shared → Prop) (hl : GQ.ListI prog w A (fun e s' => R (.error e) s') l b N I)
    (fin : ∀ s, I N s → R (.ok (.ret (.bool false))) s) {s : Shared} (h : I 0 s) :
    wpAny (model prog w) A.in1 (Builtin.«list.__ne__» ⟨[.ref l, .ref b], []⟩) (GQ.FinOf prog w A R) (fun e s' => R (.error e) s') s := by
  obtain ⟨items, items2, n, n2, hl1, hb1, hs1, hs2, _⟩ := hl _ _ h
  have hrec := ne_loopG (A := A) (R := R) l b N I hl fin _ 0 rfl (Nat.zero_le _) s h
  obtain ⟨hp, g, d, tk, os⟩ := s
  have f3 := AutoSeq1.sub_list_list
  have hne : ¬ (items.size != items2.size) = true := by simp [hs1, hs2]
  wp_walk using wpAny_loadPart' hl1, wpAny_loadPart' hb1
  exact ⟨plainId_quiet plain_eq_loop _, codeAny_builtin entry_eq_loop (by
    rw [Around.under_plainId plain_eq_loop _]
    exact hrec)⟩
theorem rc_nelistG {l b : Addr} {N : Nat} {s : Shared} {Q : Value → Shared → Prop} (hu : A.units < cLine) (I : Nat → Shared → Prop) (hl : GQ.ListI prog w A E l b N I)
    (fin : ∀ s, I N s → Q (.bool false) s) (h : I 0 s) : wpAny (model prog w) A (richCompare .NotEq (.ref l) (.ref b)) Q E s := by
  obtain ⟨items, items2, n, n2, hl1, hb1, _, _, _⟩ := hl _ _ h
  refine wpAny_richCompare_same_room (op := .NotEq) ⟨_, hl1, rfl⟩ ⟨_, hb1, rfl⟩ F.slot_list_ne (GQ.call_here F.slot_list_ne ⟨_, hl1, rfl⟩ F.entry_list_ne (F.args_list_ne_2 _ _) ?_) hu
  exact list_neG (R := wants (fun v s' => v ≠ .notImplemented ∧ Q v s') E) l b N I hl (fun s' q => ⟨(fun x => nomatch x), fin s' q⟩) h
end
/-- the two lists are equal, item by item -/
def rNeGL (D : Eqv) : R2 := fun x y H Q => DList D x y H ∧ ∀ H', Ext H H' → Q (.bl false) H'
theorem op_neGL {X : Cx} {n : Nat} {D : Eqv} (hD : Mon D) (h : EqG X n D) (hr : Room (n + 1) X.A) : OpR X (compareOp .NotEq) (rNeGL D) := by
  intro pins s σ H x y v u Q I rx ry hq
  obtain ⟨⟨a, b, xs, ys, rfl, rfl, ha, hb, p⟩, q0⟩ := hq
  cases rx
  cases ry
  have sb : Sub X (n + 1) X.A := ⟨hr, rfl⟩
  show wpAny (model X.prog X.w) X.A (richCompare .NotEq (.ref a) (.ref b)) (EP X pins σ Q) X.xe s
  refine rc_nelistG (N := xs.length) sb.room.units0 (fun _ s' => LoopI X pins σ H s') (fun i s' q => ?_) (fun s' q => ?_) ⟨H, I, Ext.rfl'⟩
  · obtain ⟨H1, I1, e1⟩ := id q
    obtain ⟨z, its, k, r, e⟩ := I1.hok a _ (e1 _ _ ha)
    obtain ⟨z2, its2, k2, r2, e2⟩ := I1.hok b _ (e1 _ _ hb)
    refine ⟨its.toArray, its2.toArray, k, k2, e, e2, by rw [List.size_toArray, ← r.length], by rw [List.size_toArray, ← r2.length, ← p.1], fun h1 h2 => ?_⟩
    exact turnG hD h sb p r r2 i h1 h2 s' q
  · obtain ⟨H1, I1, e1⟩ := q
    exact ⟨.bl false, H1, I1, rfl, q0 H1 e1⟩
end Hw

namespace Hw
open PySem PySem.Spec PyProof.Rows L2 ClX
abbrev sIsValid : Stmt := inClass sNetwork 3
abbrev sNetEq : Stmt := inClass sNetwork 11
section
variable {P : Program} {w : World} {K : PySem.W.Frag} {mg : Str → Option Value} {base : Heap}
/-! ### _fault, of any valid passages -/
def spFaultV : Sp := fun vs H Q _ => ∃ (a : Addr) (n : Nat) (es : List Ed), vs = [.int (n : Int), .ref a] ∧ EdT H a es ∧ VE n es ∧ 1 ≤ n ∧ n ≤ 12 ∧ es.length ≤ 16 ∧
  (cB n es = true → ∀ H', Same H H' → Q .non H') ∧ (cB n es = false → ∀ H' r, Same H H' → H' r = some (.tup [.str "connection", .non]) → Q (.ref r) H')
theorem cal_faultV {C : Addr} {mc : Value} (T : Txt mg) (N : NetC K mg C mc) (GW : Cal P w K mg base "is_whole" 1 spWhole) (GF : Cal P w K mg base "_first_wrong" 4 spFirstWrong) (GC : Cal P w K mg base "_is_connected" 2 spConn)
    (D : Df K mg "_fault" sFault ["places", "passages"]) : Cal P w K mg base "_fault" 5 spFaultV := by
  have nd := scFault.nd
  refine cal_of D scFault (fun vs H Q E h => ?_) (fun f cdv A outer s0 H vs Q E hr h => ?_)
  · obtain ⟨a, n, es, rfl, _⟩ := h
    rfl
  · obtain ⟨a, n, es, rfl, he, ve, n1, hn, hl, q1, q2⟩ := h
    have hr1 := hr.mono (show 1 ≤ 4 by decide)
    have hr2 := hr.mono (show 2 ≤ 4 by decide)
    obtain ⟨u1, v1⟩ := N.mp
    obtain ⟨u2, v2⟩ := N.ms
    refine ⟨_, pss_cons (ps_if (PW.pt (pw_or (pt_not (pt_val (pe_cl GW hr1 (by rfl) (pa_cons (pv 0) pa_nil)))) (pw_or1 (pt_not (pt_chain op_le op_le pe_int (pv 0) (pe_cval (pe_glob (by rfl) N.gC (v := .ref C) rfl))))))) (pss_one ps_never) pss_nil)
      <| pss_cons (ps_if (PW.pt (pw_or (pt_not (pt_val (pe_callB call_isi (by rfl) T.isinstance (by decide +kernel) (pa_cons (pv 1) (pa_cons (pe_bltn (v := .ty "tuple") (by rfl) T.tuple (by decide +kernel) rfl) pa_nil)))))
          (pw_or1 (pt_cmpR op_gt (pe_callB cr_len (by rfl) T.len PySem.boot_len (pa_cons (pv 1) pa_nil)) (pe_cval (pe_glob (by rfl) N.gC (v := .ref C) rfl)) (nomark _))))) (pss_one ps_never) pss_nil)
      <| pss_cons (ps_set (i := 2) nd rfl (.inl rfl) (pe_cl GF hr (by rfl) (pa_cons (pv 1) (pa_cons (pv 0) pa_nil))))
      <| pss_cons (ps_if (pt_cmpR op_notN (pv 2) pe_non (nomark _)) (pss_one ps_never) pss_nil)
      <| pss_cons (ps_if (pt_not (pt_val (pe_cl GC hr2 (by rfl) (pa_cons (pv 0) (pa_cons (pv 1) pa_nil))))) (pss_one (ps_ret (pe_tup (pa_cons pe_str (pa_cons pe_non pa_nil))))) pss_nil)
      <| pss_one (ps_ret pe_non), ?_⟩
    obtain ⟨ks, k1, k2, k3⟩ := id he
    refine ⟨_, rfl, _, rfl, ⟨_, rfl, iteF ?_⟩⟩
    refine ⟨_, rfl, _, _, rfl, rfl, _, rfl, ?_⟩
    rw [show decide ((1 : Int) ≤ (n : Int)) = true from decide_eq_true (by omega)]
    refine iteT ⟨C, mc, _, _, rfl, N.rd, v1, _, _, rfl, rfl, ?_⟩
    refine ⟨_, rfl, ?_⟩
    rw [show decide ((n : Int) ≤ 12) = true from decide_eq_true (by omega)]
    refine iteF ?_
    refine ⟨_, rfl, _, _, _, _, true, rfl, .ty _, .base (.tup k1), kit_ty (by decide +kernel), true, rfl, iteF ?_⟩
    refine ⟨_, rfl, a, _, rfl, .inr (sq_of k1), C, mc, _, _, rfl, N.rd, v2, _, _, rfl, rfl, _, rfl, ?_⟩
    rw [nv_len, ed_len k2]
    rw [show decide ((16 : Int) < (es.length : Int)) = false from decide_eq_false (by omega)]
    refine iteF ?_
    refine ⟨_, rfl, _, rfl, a, n, es, rfl, he, ve, fun H1 s1 => ?_⟩
    refine ⟨_, rfl, rfl, _, rfl, iteF ?_⟩
    refine ⟨_, rfl, _, rfl, a, n, es, rfl, .inr (he.same s1), ve, n1, by omega, by omega, fun H2 s2 => ⟨_, rfl, ?_⟩⟩
    cases e : cB n es with
    | true => exact iteF (q1 e _ (s1.trans s2))
    | false =>
      refine iteT ⟨(show 2 ≤ sizeLine by decide), fun t nt => q2 e _ t ((s1.trans s2).trans (same_upd nt)) upd_same⟩
/-! ### is_valid -/
def spIsVal : Sp := fun vs H Q _ => ∃ (a : Addr) (n : Nat) (es : List Ed), vs = [.int (n : Int), .ref a] ∧ EdT H a es ∧ VE n es ∧ 1 ≤ n ∧ n ≤ 12 ∧ es.length ≤ 16 ∧ ∀ H', Same H H' → Q (.bl (cB n es)) H'
theorem scIsValid : FnScope ["places", "passages"] ["places", "passages"] (defScope sIsValid) := ⟨rfl, rfl, rfl, by decide +kernel, rfl, by decide +kernel, by decide +kernel⟩
/-- a static method, where it stands, how it binds -/
structure Ds (K : PySem.W.Frag) (C : Addr) (mc : Value) (m qual : Str) (st : Stmt) (ps : List Str) : Prop where
  ex : ∃ (p f : Addr) (fd : FuncData), Fun K m qual st f fd ∧ L2.Binds K fd ps [] ∧ SMet K C mc m p f
structure SC (P : Program) (w : World) (K : PySem.W.Frag) (mg : Str → Option Value) (base : Heap) (CX : CXT) (C : Addr) (mc : Value) (m : Str) (k : Nat) (sp : Sp) : Prop where
  ex : ∃ p f : Addr, SMet K C mc m p f ∧ L2.FnR P w K mg base CX k f sp
theorem sc_isValid {C : Addr} {mc : Value} (GF : Cal P w K mg base "_fault" 5 spFaultV) (D : Ds K C mc "is_valid" "Network.is_valid" sIsValid ["places", "passages"]) : SC P w K mg base CX0 C mc "is_valid" 6 spIsVal := by
  obtain ⟨p, f, fd, F, b, sm⟩ := D.ex
  refine ⟨p, f, sm, raw0 (F.ok scIsValid (fun vs H Q E h => ?_) (fun cdv A outer s0 H vs Q E hr h => ?_)) b⟩
  · obtain ⟨a, n, es, rfl, _⟩ := h
    rfl
  · obtain ⟨a, n, es, rfl, he, ve, n1, hn, hl, q⟩ := h
    refine ⟨_, pss_one (ps_ret (pe_cmpR op_isN (pe_cl GF hr (by rfl) (pa_cons (pv 0) (pa_cons (pv 1) pa_nil))) pe_non (nomark _))), ?_⟩
    refine ⟨_, rfl, _, rfl, a, n, es, rfl, he, ve, n1, hn, hl, fun e H' s => ⟨rfl, ?_⟩, fun e H' r s hr' => ⟨rfl, ?_⟩⟩
    · have := q H' s
      rw [e] at this
      exact this
    · have := q H' s
      rw [e] at this
      exact this
theorem pe_scl {X : Cx} {k : Nat} {C : Addr} {mc : Value} {m : Str} {sp : Sp} {o e : Expr} {es : List Expr} {ta : TE} {t : TA} {apos pos : Pos} {pl : Sem Bool} (M : SC X.prog X.w X.K X.mg X.base CX0 C mc m k sp) (r : CRead X.K C mc) (hr : Room k X.A) (he : PE X o ta) (ha : PA X (e :: es) t)
    (hst : starEach (e :: es) X.env = (false, eval e X.env) :: starEach es X.env := by rfl) (hpl : (backTo pos (starEach es X.env)).any (·.1) = false := by rfl) (ht : eval (.Call (.Attribute o m apos) (e :: es) [] pos) X.env = (do let ov ← eval o X.env; standAt apos.atName; let (f, first) ← holding [ov] (getMethod ov m pl); callWith pos f first (backTo pos (starEach (e :: es) X.env)) (backToKw pos (keywordEach [] X.env))) := by rfl) :
    PE X (.Call (.Attribute o m apos) (e :: es) [] pos) (tSMeth C sp E0 ta t) := by
  obtain ⟨p, f, sm, F⟩ := M.ex
  exact pe_smeth he r sm F hr pass0 ha hst hpl ht
/-! ### == of networks -/
/-- two networks with the same places and passages -/
def RNet (C : Addr) : Addr → Addr → Hp → Prop := fun a b H => ∃ n es, NetAt5 C H a n es ∧ NetAt5 C H b n es
theorem scNetEq : FnScope ["self", "other"] ["self", "other"] (defScope sNetEq) := ⟨rfl, rfl, rfl, by decide +kernel, rfl, by decide +kernel, by decide +kernel⟩
/-- what isinstance asks of the class -/
structure IsC (K : PySem.W.Frag) (C : Addr) : Prop where
  cl : Cls K C
  ha : PySem.W.findIn K (.ref C) "__class__" = some (some (.builtin "object.__class__"))
  hn : PySem.W.specialIn K (.builtin "object.__class__") "__get__" = some (some (.builtin "getset_descriptor.__get__"))
  ht : PySem.W.takesIn K (.builtin "object.__class__") = some true
  hm : PySem.W.mroIn K C (.type "object") = some true
  ki : PySem.W.kitOne K (.ref C) (.ref C) = some true
theorem dp_edT' {H : Hp} {a : Addr} {es : List Ed} (h : EdT H a es) : Dp K H (.ref a) (dCT (es.map pl)) := by
  obtain ⟨ks, k1, k2, k3⟩ := h
  rw [← k2]
  exact .tup (sq_of k1) (by have z := dpa_cs (K := K) ks k3; exact z)
theorem shaped_ct' (cs : List (List Nat)) : SeqAt.shaped (dCT cs) = true := by
  unfold SeqAt.shaped
  have e : (dCT cs).depth ≤ 64 := by
    show PyData.depthAll (cs.map fun c => PyData.tuple ((NI c).map PyData.int)) + 1 ≤ 64
    have := depth_cs cs
    omega
  show (PyData.canLayAll0 (cs.map fun c => PyData.tuple ((NI c).map PyData.int)) && _) = true
  rw [lay_cs, decide_eq_true e]
  rfl
theorem eqv_ct' (cs : List (List Nat)) : PyData.eqv (dCT cs) (dCT cs) = true := SeqAt.eqv_refl _ (by show PyData.canLayAll0 (cs.map fun c => PyData.tuple ((NI c).map PyData.int)) = true; exact lay_cs cs)
theorem mf_netEq {C : Addr} {mc : Value} (T : Txt mg) (N : NetC K mg C mc) (IC : IsC K C) (D : Dm K C "__eq__" "Network.__eq__" sNetEq ["self", "other"]) : MF P w K mg base CX0 C "__eq__" "Network.__eq__" sNetEq ["self", "other"] 1 (spEq (RNet C)) := by
  obtain ⟨f, fd, F, b, me⟩ := D.ex
  refine ⟨f, fd, F, b, me, F.ok scNetEq (fun vs H Q E h => ?_) (fun cdv A outer s0 H vs Q E hr h => ?_)⟩
  · obtain ⟨a, b, rfl, _⟩ := h
    rfl
  · obtain ⟨x, y, rfl, ⟨n, es, n1, n2⟩, q⟩ := h
    have hu := hr.units
    refine ⟨_, pss_one (ps_ret (pe_and (pe_callB call_isi (by rfl) T.isinstance (by decide +kernel) (pa_cons (pv 1) (pa_cons (pe_glob (v := .ref C) (by rfl) N.gC rfl) pa_nil))) (pe_and (pe_cmpR op_eq (pe_fld (pv 0) rfl) (pe_fld (pv 1) rfl) (nomark _)) (pe_one (pe_cmpR (op_eqD hu) (pe_fld (pv 0) rfl) (pe_fld (pv 1) rfl) (nomark _)))))), ?_⟩
    obtain ⟨dx, fs, a, e, h1, h2, h3, h4, h5, h6, h7⟩ := id n1
    obtain ⟨dx', fs', a', e', g1, g2, g3, g4, g5, g6, g7⟩ := id n2
    refine ⟨_, rfl, _, _, _, _, true, rfl, .own C, .base (.ins g1 IC.cl IC.ha IC.hn IC.ht IC.hm), IC.ki, true, rfl, iteT ?_⟩
    refine ⟨_, rfl, x, C, dx, fs, _, rfl, h1, N.cl, N.n1, h2, _, rfl, y, C, dx', fs', _, rfl, g1, N.cl, N.n1, g2, rfl, ?_⟩
    refine ⟨_, rfl, ?_⟩
    rw [show decide (V.int (n : Int) = V.int (n : Int)) = true from decide_eq_true rfl]
    refine iteT ⟨_, rfl, x, C, dx, fs, _, rfl, h1, N.cl, N.n2, h3, _, rfl, y, C, dx', fs', _, rfl, g1, N.cl, N.n2, g3, ?_⟩
    refine ⟨_, _, dp_edT' h6, dp_edT' g6, shaped_ct' _, shaped_ct' _, ?_⟩
    rw [eqv_ct']
    exact q _ Ext.rfl'
end
end Hw

namespace Hw
open PySem PySem.Spec PyProof.Rows L2 ClX
/-! ### an own exception with two fields -/
def spXi2 (C : Addr) (f g : Str) : Sp := fun vs H Q _ => ∃ (a : Addr) (v w : V), vs = [.ref a, v, w] ∧ H a = some (exo a C none) ∧
  ∀ dx H', H dx = none → dx ≠ a → H' a = some (exo a C (some dx)) → H' dx = some (exd dx [(g, w), (f, v)]) → (∀ b, b ≠ a → b ≠ dx → H' b = H b) → Q .non H'
structure Xc2 (P : Program) (w : World) (K : PySem.W.Frag) (mg : Str → Option Value) (base : Heap) (x : Str) (C : Addr) (f g : Str) : Prop where
  gC : mg x = some (.ref C)
  oex : OexC K C
  init : ∃ (fI : Addr) (fd : FuncData) (ps : List Str), PySem.W.findIn K (.ref C) "__init__" = some (some (.ref fI)) ∧ PySem.W.typeIn K (.ref fI) = some (.type "function") ∧ FnOk P w K mg base CX0 1 fI fd ps (spXi2 C f g) ∧ Binds K fd ps []
  xf : XfC K C
  noF : PySem.W.findIn K (.ref C) f = some none
  noG : PySem.W.findIn K (.ref C) g = some none
  te : PySem.W.exmOne K (.ref C) (.ref C) = some true
def tMk2 (C : Addr) (f g : Str) (t1 t2 : TE) : L2.St → Hp → XK → Prop := tMkO C (spXi2 C f g) [] (tCons t1 (tCons t2 tNil))
theorem pmk_x2 {X : Cx} {x f g : Str} {C : Addr} {e1 e2 : Expr} {t1 t2 : TE} {p pos : Pos} (c : Xc2 X.prog X.w X.K X.mg X.base x C f g) (hr : Room 2 X.A) (hg : Gl X x) (h1 : PE X e1 t1) (h2 : PE X e2 t2) (hdb : (x == ("__debug__" : Str)) = false := by decide)
    (he : starEach [e1, e2] X.env = (false, eval e1 X.env) :: starEach [e2] X.env := by rfl) (he2 : starEach [e2] X.env = (false, eval e2 X.env) :: starEach [] X.env := by rfl) (hpl : (backTo pos (starEach [e2] X.env)).any (·.1) = false := by rfl) : PMk X (.Call (.Name x p) [e1, e2] [] pos) (tMk2 C f g t1 t2) := by
  obtain ⟨fI, fd, ps, i1, i2, F, b⟩ := c.init
  exact pmk_oex (pos := pos) (p := p) (dvs := []) (ds := []) c.oex i1 i2 F hr b .nil pass0 hg c.gC (pa_cons h1 (pa_cons h2 pa_nil (hs := he2)) (hs := he)) hdb he hpl
theorem mk2_ok {C : Addr} {f g : Str} {v w : V} {H1 : Hp} {Q : XK} (q : ∀ d, H1 d = none → Q (.ref C) (some d) (upd H1 d (.xd [(g, w), (f, v)]))) : [v, w].length ≤ 1000 ∧ ∀ a, H1 a = none → spXi2 C f g (.ref a :: ([v, w] ++ [])) (upd H1 a (exo a C none))
      (fun v H2 => v = .non ∧ ∃ (d : Addr) (fs : List (Str × V)), H2 a = some (exo a C (some d)) ∧ H2 d = some (exd d fs) ∧ H1 d = none ∧ Q (.ref C) (some d) (upd (L2.del H2 a) d (.xd fs))) (fun _ _ _ => False) := by
  refine ⟨(by show 2 ≤ 1000; decide), fun a na => ⟨a, v, w, rfl, upd_same, fun dx H' ndx ne ha hd ho => ⟨rfl, dx, _, ha, hd, ?_, ?_⟩⟩⟩
  · rw [upd_ne ne] at ndx
    exact ndx
  · rw [upd_ne ne] at ndx
    have e : upd (L2.del H' a) dx (.xd [(g, w), (f, v)]) = upd H1 dx (.xd [(g, w), (f, v)]) := by
      funext b
      by_cases z : b = dx
      · rw [z, upd_same, upd_same]
      · rw [upd_ne z, upd_ne z]
        by_cases y : b = a
        · rw [y, del_same, na]
        · rw [del_ne y, ho b y z, upd_ne y]
    rw [e]
    exact q dx ndx
/-- a parse error is told, at whatever heap has grown from H but for x -/
def PErr (CE : Addr) (E : XK) (x : Addr) (H : Hp) (l w : Nat) : Prop := ∀ H' d, Kx x H H' → H' d = some (.xd [("word", .int (w : Int)), ("line", .int (l : Int))]) → E (.ref CE) (some d) H'
theorem kx_new {x : Addr} {H H' : Hp} (k : Kx x H H') {d : Addr} (nd : H' d = none) {o : HO} : Kx x H (upd H' d o) := fun b u n e => by
  have := k b u n e
  rw [upd_ne (ne_of_none this nd)]
  exact this
/-! ### lines -/
abbrev sLnInit : Stmt := inClass sLine 0
abbrev sHasMore : Stmt := inClass sLine 1
abbrev sNextWord : Stmt := inClass sLine 2
abbrev sNextInt : Stmt := inClass sLine 3
abbrev sCheckEnd : Stmt := inClass sLine 4
abbrev lNames : List Str := ["has_more", "next_word", "next_integer", "check_end"]
def NoL (fs : List (Str × V)) : Prop := ∀ m ∈ lNames, fs.lookup m = none
theorem noL_nil : NoL [] := fun _ _ => rfl
theorem noL_put {f : Str} {v : V} {fs : List (Str × V)} (h : ∀ m ∈ lNames, ¬ m = f) (n : NoL fs) : NoL (putF f v fs) := fun m hm => by
  rw [lookup_putF, if_neg (h m hm)]
  exact n m hm
theorem l_nu : ∀ m ∈ lNames, ¬ m = "_number" := by decide +kernel
theorem l_wo : ∀ m ∈ lNames, ¬ m = "_words" := by decide +kernel
theorem l_co : ∀ m ∈ lNames, ¬ m = "_count" := by decide +kernel
theorem f_nw : ¬ (("_number" : Str) = "_words") ∧ ¬ (("_number" : Str) = "_count") ∧ ¬ (("_words" : Str) = "_count") := by decide +kernel
def SV (ws : List Str) : List V := ws.map V.str
theorem SV_len (ws : List Str) : (SV ws).length = ws.length := by unfold SV; rw [List.length_map]
theorem SV_get {ws : List Str} {i : Nat} {w : Str} (h : ws[i]? = some w) : (SV ws)[i]? = some (.str w) := by unfold SV; rw [List.getElem?_map, h]; rfl
theorem inV_SV (w : Str) : ∀ ws : List Str, inV (.str w) (SV ws) = decide (w ∈ ws)
  | [] => rfl
  | v :: ws => by
    have e1 : inV (.str w) (SV (v :: ws)) = ((v == w) || inV (.str w) (SV ws)) := rfl
    rw [e1, inV_SV w ws]
    by_cases h : v = w
    · subst h; simp
    · have h' : ¬ w = v := fun z => h z.symm
      have b : (v == w) = false := beq_eq_false_iff_ne.mpr h
      rw [b, Bool.false_or]
      simp [h']
theorem flat_SV (ws : List Str) : (SV ws).all flatV = true := by
  rw [List.all_eq_true]
  intro v hv
  obtain ⟨w, _, rfl⟩ := List.mem_map.mp hv
  rfl
/-- a line at x: its number, its words, how many have been read -/
def LnAt (CL : Addr) (H : Hp) (x : Addr) (k : Nat) (ws : List Str) (c : Nat) : Prop := ∃ (dx : Addr) (fs : List (Str × V)) (b : Addr), H x = some (.ins CL dx fs) ∧ fs.lookup ("_number" : Str) = some (.int (k : Int)) ∧ fs.lookup ("_words" : Str) = some (.ref b) ∧ fs.lookup ("_count" : Str) = some (.int (c : Int)) ∧
  NoL fs ∧ fs.length ≤ 10 ∧ H b = some (.lst (SV ws))
theorem LnAt.same {CL : Addr} {H H' : Hp} {x : Addr} {k c : Nat} {ws : List Str} (h : LnAt CL H x k ws c) (s : Same H H') : LnAt CL H' x k ws c := by
  obtain ⟨dx, fs, b, h1, h2, h3, h4, h5, h6, h7⟩ := h
  exact ⟨dx, fs, b, s _ _ h1, h2, h3, h4, h5, h6, s _ _ h7⟩
/-- the words of line k (from 1 on) -/
def wdsAt (ls : List Str) (k : Nat) : List Str := if h : k - 1 < ls.length then (if k ≤ ls.length then Txt.split (ls[k - 1]'h) " " else []) else []
end Hw

namespace Hw
open PySem PySem.Spec PyProof.Rows L2 ClX
theorem lk_put' {f g : Str} {v : V} {fs : List (Str × V)} (h : ¬ g = f) : (putF f v fs).lookup g = fs.lookup g := by rw [lookup_putF, if_neg h]
theorem lk_put0' {f : Str} {v : V} {fs : List (Str × V)} : (putF f v fs).lookup f = some v := by rw [lookup_putF, if_pos rfl]
structure LnC (K : PySem.W.Frag) (mg : Str → Option Value) (CL : Addr) : Prop where
  gC : mg "Line" = some (.ref CL)
  cl : Cls K CL
  n1 : NoAttr K CL "_number"
  n2 : NoAttr K CL "_words"
  n3 : NoAttr K CL "_count"
theorem _root_.L2.PE.imp {X : Cx} {e : Expr} {t t' : TE} (p : PE X e t) (h : ∀ σ H Q, t' σ H Q → t σ H Q) : PE X e t' := ⟨fun pins s σ H Q I z => p.run pins s σ H Q I (h σ H Q z)⟩
theorem _root_.L2.PS.imp {X : Cx} {st : Stmt} {t t' : TS} (p : PS X st t) (h : ∀ D σ H, t' D σ H → t D σ H) : PS X st t' := ⟨fun pins s σ H D I z => p.run pins s σ H D I (h D σ H z)⟩
section
variable {P : Program} {w : World} {K : PySem.W.Frag} {mg : Str → Option Value} {base : Heap}
/-! ### __init__ -/
def spLnInit (CL CE : Addr) : Sp := fun vs H Q E => ∃ (x dx a : Addr) (k : Nat) (ls : List Str), vs = [.ref x, .ref a, .int (k : Int)] ∧ H x = some (.ins CL dx []) ∧ H a = some (.lst (SV ls)) ∧ 1 ≤ k ∧ ls.length ≤ 100000 ∧ (∀ l ∈ ls, l.length ≤ 100000) ∧
  ((Str.ofString "") ∉ wdsAt ls k → ∀ H', Kx x H H' → LnAt CL H' x k (wdsAt ls k) 0 → Q .non H') ∧ ((Str.ofString "") ∈ wdsAt ls k → PErr CE E x H k 0)
theorem scLnInit : FnScope ["self", "lines", "number"] ["self", "lines", "number"] (defScope sLnInit) := ⟨rfl, rfl, rfl, by decide +kernel, rfl, by decide +kernel, by decide +kernel⟩
theorem lst_kx {x b : Addr} {H H' : Hp} {C dx : Addr} {fs : List (Str × V)} {xs : List V} (k : Kx x H H') (hx : H x = some (.ins C dx fs)) (h : H b = some (.lst xs)) : H' b = some (.lst xs) := k b _ (ne_of h hx (by intro z; cases z)) h
/-- the words of the line whose number stands in slot 2 -/
def tWds : TE := fun σ H Q => ∃ (a : Addr) (k : Nat) (ls : List Str), σ[1]? = some (some (.ref a)) ∧ σ[2]? = some (some (.int (k : Int))) ∧ H a = some (.lst (SV ls)) ∧ 1 ≤ k ∧ ls.length ≤ 100000 ∧ (∀ l ∈ ls, l.length ≤ 100000) ∧ ∀ H' b, Same H H' → H b = none → H' b = some (.lst (SV (wdsAt ls k))) → Q (.ref b) H'
theorem ok_lnInit {CL CE : Addr} {f : Addr} {fd : FuncData} (T : Txt mg) (N : LnC K mg CL) (XE : Xc2 P w K mg base "ParseError" CE "line" "word") (F : Fun K "__init__" "Line.__init__" sLnInit f fd) : FnOk P w K mg base (L2.CX P w) 3 f fd ["self", "lines", "number"] (spLnInit CL CE) := by
  have nd := scLnInit.nd
  refine F.okX scLnInit (fun vs H Q E h => ?_) (fun cdv A outer s0 H vs Q E hr h => ?_)
  · obtain ⟨x, dx, a, k, ls, rfl, _⟩ := h
    rfl
  · obtain ⟨x, dx, a, k, ls, rfl, hx, ha, hk, hl, hw, q1, q2⟩ := h
    have tk : Takes (cxOf (L2.CX P w) P w K mg base ["self", "lines", "number"] "Line.__init__" (defScope sLnInit) f cdv A outer s0 H E) (fun cls d _ H => E cls d H) := takes_of rfl rfl rfl rfl
    refine ⟨_, pss_cons (ps_fld (pv 0) (pv 2) rfl)
      <| pss_cons (ps_fld (pv 0) (PE.imp (t' := tWds) (pe_ifExp (pt_cmpR op_le (pv 2) (pe_callB cr_len (by rfl) T.len PySem.boot_len (pa_cons (pv 1) pa_nil)) (nomark _)) (pe_split (pe_ix (r := rIxL K) ix_list (pv 1) (pe_op op_sub (pv 2) pe_int) (fun _ _ => rfl)) pe_str) (pe_lst pa_nil)) (fun σ H Q h => ?wds)) rfl)
      <| pss_cons (ps_fld (pv 0) pe_int rfl)
      <| pss_one (ps_if (pt_cmpR (r := rIn K false) op_in_seq pe_str (pe_fld (pv 0) rfl) (by rfl)) (pss_one (ps_raise (W := fun cls d _ H => E cls d H) rfl tk (pmk_x2 XE (hr.mono (by decide)) (by rfl) (pv 2) pe_int))) pss_nil), ?_⟩
    case wds =>
      obtain ⟨a, k, ls, e1, e2, ha, hk, hl, hw, q⟩ := h
      refine ⟨_, e2, _, e1, a, _, rfl, .inl (sl_of ha), _, _, rfl, rfl, _, rfl, ?_⟩
      rw [SV_len]
      by_cases c : k ≤ ls.length
      · rw [show decide ((k : Int) ≤ (ls.length : Int)) = true from decide_eq_true (by omega)]
        refine iteT ?_
        have hk1 : k - 1 < ls.length := by omega
        have e3 : (k : Int) - 1 = ((k - 1 : Nat) : Int) := by omega
        have wd : wdsAt ls k = Txt.split (ls[k - 1]'hk1) " " := by unfold wdsAt; rw [dif_pos hk1, if_pos c]
        have at1 : atI (SV ls) ((k : Int) - 1) = some (.str (ls[k - 1]'hk1)) := by rw [e3]; exact atI_nat (SV_get (List.getElem?_eq_getElem hk1))
        refine ⟨_, e1, _, e2, _, _, rfl, rfl, a, _, _, _, rfl, rfl, sl_of ha, at1, ⟨_, rfl⟩, _, _, rfl, rfl, by decide +kernel, ?_, fun p np => q _ p (same_upd np) np ?_⟩
        · have := hw _ (List.getElem_mem hk1)
          have s : sizeLine = 16777216 := by decide
          omega
        · rw [upd_same, wd]; rfl
      · rw [show decide ((k : Int) ≤ (ls.length : Int)) = false from decide_eq_false (by omega)]
        have wd : wdsAt ls k = [] := by unfold wdsAt; simp [c]
        refine iteF ⟨Nat.zero_le _, fun p np => q _ p (same_upd np) np ?_⟩
        rw [upd_same, wd]; rfl
    refine ⟨_, rfl, _, rfl, x, CL, dx, _, rfl, hx, N.cl, N.n1, by decide, ?_⟩
    have k1 := Kx.upd x H (.ins CL dx (putF "_number" (.int (k : Int)) []))
    have l1 := len_putF "_number" (.int (k : Int)) []
    have p1 := lk_put0' (f := "_number") (v := .int (k : Int)) (fs := [])
    have m1 := noL_put (v := .int (k : Int)) l_nu noL_nil
    have hx1 : upd H x (.ins CL dx (putF "_number" (.int (k : Int)) [])) x = some (.ins CL dx (putF "_number" (.int (k : Int)) [])) := upd_same
    have ha1 := lst_kx k1 hx ha
    generalize putF "_number" (.int (k : Int)) [] = f1 at *
    generalize upd H x (.ins CL dx f1) = H1 at *
    refine ⟨a, k, ls, rfl, rfl, ha1, hk, hl, hw, fun H2 b s2 nb hb => ?_⟩
    have hx2 := s2 _ _ hx1
    refine ⟨_, rfl, x, CL, dx, _, rfl, hx2, N.cl, N.n2, by simp at l1; omega, ?_⟩
    have k2 := (k1.trans (Kx.of s2)).trans (Kx.upd x H2 (.ins CL dx (putF "_words" (.ref b) f1)))
    have l2 := len_putF "_words" (.ref b) f1
    have p2 := lk_put0' (f := "_words") (v := .ref b) (fs := f1)
    have p21 := lk_put' (f := "_words") (g := "_number") (v := .ref b) (fs := f1) f_nw.1
    have m2 := noL_put (v := .ref b) l_wo m1
    have hx3 : upd H2 x (.ins CL dx (putF "_words" (.ref b) f1)) x = some (.ins CL dx (putF "_words" (.ref b) f1)) := upd_same
    have hb3 := lst_kx (Kx.upd x H2 (.ins CL dx (putF "_words" (.ref b) f1))) hx2 hb
    generalize putF "_words" (.ref b) f1 = f2 at *
    generalize upd H2 x (.ins CL dx f2) = H3 at *
    refine ⟨_, rfl, x, CL, dx, _, rfl, hx3, N.cl, N.n3, by simp at l1; omega, ?_⟩
    have k3 := k2.trans (Kx.upd x H3 (.ins CL dx (putF "_count" (.int 0) f2)))
    have l3 := len_putF "_count" (.int 0) f2
    have p3 := lk_put0' (f := "_count") (v := .int 0) (fs := f2)
    have p31 := lk_put' (f := "_count") (g := "_number") (v := .int 0) (fs := f2) f_nw.2.1
    have p32 := lk_put' (f := "_count") (g := "_words") (v := .int 0) (fs := f2) f_nw.2.2
    have m3 := noL_put (v := .int 0) l_co m2
    have hx4 : upd H3 x (.ins CL dx (putF "_count" (.int 0) f2)) x = some (.ins CL dx (putF "_count" (.int 0) f2)) := upd_same
    have hb4 := lst_kx (Kx.upd x H3 (.ins CL dx (putF "_count" (.int 0) f2))) hx3 hb3
    rw [p2] at p32
    rw [p21, p1] at p31
    generalize putF "_count" (.int 0) f2 = f3 at *
    generalize upd H3 x (.ins CL dx f3) = H4 at *
    refine ⟨_, rfl, x, CL, dx, _, _, rfl, hx4, N.cl, N.n2, p32, b, _, rfl, .inl (sl_of hb4), rfl, flat_SV _, _, rfl, ?_⟩
    rw [inV_SV]
    by_cases e : (Str.ofString "") ∈ wdsAt ls k
    · rw [show (if false = true then !decide (Str.ofString "" ∈ wdsAt ls k) else decide (Str.ofString "" ∈ wdsAt ls k)) = true from by rw [if_neg (by decide)]; exact decide_eq_true e]
      refine iteT ⟨_, rfl, mk2_ok fun d nd => q2 e _ d (kx_new k3 nd) upd_same⟩
    · rw [show (if false = true then !decide (Str.ofString "" ∈ wdsAt ls k) else decide (Str.ofString "" ∈ wdsAt ls k)) = false from by rw [if_neg (by decide)]; exact decide_eq_false e]
      refine iteF (q1 e _ k3 ⟨dx, f3, b, hx4, p31, p32, p3, m3, by simp at l1; omega, hb4⟩)
end
end Hw

namespace Hw
open PySem PySem.Spec PyProof.Rows L2 ClX
/-- the text of a small number -/
def nS (m : Nat) : Str := (toString (m : Int) : String)
def nSs (al : List Nat) : List Str := al.map nS
theorem int_nS (m : Nat) (h : m ≤ 16) : PySem.intText? (nS m) = some (m : Int) ∧ (nS m).length ≤ 640 := by
  have : ∀ m ≤ 16, PySem.intText? (nS m) = some (m : Int) ∧ (nS m).length ≤ 640 := by decide +kernel
  exact this m h
theorem nS_inj {a b : Nat} (ha : a ≤ 16) (hb : b ≤ 16) (e : nS a = nS b) : a = b := by
  have h1 := (int_nS a ha).1
  rw [e, (int_nS b hb).1] at h1
  have := Option.some.inj h1
  omega
theorem len_putF_old {f : Str} {v u : V} : ∀ {fs : List (Str × V)}, fs.lookup f = some u → (putF f v fs).length = fs.length
  | [], h => by cases h
  | (g, x) :: r, h => by
    show (if g = f then (g, v) :: r else (g, x) :: putF f v r).length = r.length + 1
    by_cases e : g = f
    · rw [if_pos e]; rfl
    · rw [if_neg e]
      rw [lk_cons, if_neg (fun z : f = g => e z.symm)] at h
      rw [List.length_cons, len_putF_old h]
theorem pe_m00 {X : Cx} {CX : CXT} {k : Nat} {C : Addr} {m qual : Str} {st : Stmt} {ps : List Str} {sp : Sp} {E : XK} {o : Expr} {ta : TE} {apos pos : Pos} {pl : Sem Bool} (M : MF X.prog X.w X.K X.mg X.base CX C m qual st ps k sp) (c : Cls X.K C) (hr : Room k X.A) (hx : Passes CX X E) (he : PE X o ta)
    (ht : eval (.Call (.Attribute o m apos) [] [] pos) X.env = (do let ov ← eval o X.env; standAt apos.atName; let (f, first) ← holding [ov] (getMethod ov m pl); callWith pos f first (backTo pos (starEach [] X.env)) (backToKw pos (keywordEach [] X.env))) := by rfl) :
    PE X (.Call (.Attribute o m apos) [] [] pos) (tMeth C m sp [] E ta tNil) := by
  obtain ⟨f, fd, F, b, me, ok⟩ := M.ex
  exact pe_meth0 he c me ok hr b .nil hx ht
section
variable {P : Program} {w : World} {K : PySem.W.Frag} {mg : Str → Option Value} {base : Heap}
/-! ### has_more -/
def spHasMore (CL : Addr) : Sp := fun vs H Q _ => ∃ (x : Addr) (k c : Nat) (ws : List Str), vs = [.ref x] ∧ LnAt CL H x k ws c ∧ Q (.bl (decide (c < ws.length))) H
theorem scHasMore : FnScope ["self"] ["self"] (defScope sHasMore) := ⟨rfl, rfl, rfl, by decide +kernel, rfl, by decide +kernel, by decide +kernel⟩
theorem mf_hasMore {CL : Addr} (T : Txt mg) (N : LnC K mg CL) (D : Dm K CL "has_more" "Line.has_more" sHasMore ["self"]) : MF P w K mg base CX0 CL "has_more" "Line.has_more" sHasMore ["self"] 1 (spHasMore CL) := by
  obtain ⟨f, fd, F, b, me⟩ := D.ex
  refine ⟨f, fd, F, b, me, F.ok scHasMore (fun vs H Q E h => ?_) (fun cdv A outer s0 H vs Q E hr h => ?_)⟩
  · obtain ⟨x, k, c, ws, rfl, _⟩ := h
    rfl
  · obtain ⟨x, k, c, ws, rfl, ⟨dx, fs, b, h1, h2, h3, h4, h5, h6, h7⟩, q⟩ := h
    refine ⟨_, pss_one (ps_ret (pe_cmp (pc_lt (pe_fld (pv 0) rfl) (pe_callB cr_len (by rfl) T.len PySem.boot_len (pa_cons (pe_fld (pv 0) rfl) pa_nil))) rfl)), ?_⟩
    refine ⟨_, rfl, x, CL, dx, fs, _, rfl, h1, N.cl, N.n3, h4, _, rfl, x, CL, dx, fs, _, rfl, h1, N.cl, N.n2, h3, b, _, rfl, .inl (sl_of h7), _, _, rfl, rfl, ?_⟩
    rw [SV_len]
    show Q (.bl (decide ((c : Int) < (ws.length : Int)))) H
    rw [show decide ((c : Int) < (ws.length : Int)) = decide (c < ws.length) from by rw [decide_eq_decide]; omega]
    exact q
/-! ### check_end -/
def spCheckEnd (CL CE : Addr) : Sp := fun vs H Q E => ∃ (x : Addr) (k c : Nat) (ws : List Str), vs = [.ref x] ∧ LnAt CL H x k ws c ∧ (ws.length ≤ c → Q .non H) ∧ (c < ws.length → PErr CE E x H k (c + 1))
theorem scCheckEnd : FnScope ["self"] ["self"] (defScope sCheckEnd) := ⟨rfl, rfl, rfl, by decide +kernel, rfl, by decide +kernel, by decide +kernel⟩
theorem mf_checkEnd {CL CE : Addr} (N : LnC K mg CL) (XE : Xc2 P w K mg base "ParseError" CE "line" "word") (M : MF P w K mg base CX0 CL "has_more" "Line.has_more" sHasMore ["self"] 1 (spHasMore CL)) (D : Dm K CL "check_end" "Line.check_end" sCheckEnd ["self"]) : MF P w K mg base (L2.CX P w) CL "check_end" "Line.check_end" sCheckEnd ["self"] 3 (spCheckEnd CL CE) := by
  refine mf_ofX D scCheckEnd (fun vs H Q E h => ?_) (fun f cdv A outer s0 H vs Q E hr h => ?_)
  · obtain ⟨x, k, c, ws, rfl, _⟩ := h
    rfl
  · obtain ⟨x, k, c, ws, rfl, ln, q1, q2⟩ := h
    have tk : Takes (cxOf (L2.CX P w) P w K mg base ["self"] "Line.check_end" (defScope sCheckEnd) f cdv A outer s0 H E) (fun cls d _ H => E cls d H) := takes_of rfl rfl rfl rfl
    refine ⟨_, pss_one (ps_if (pt_val (pe_m00 (E := E0) M N.cl (hr.mono (by decide)) pass0 (pv 0))) (pss_one (ps_raise (W := fun cls d _ H => E cls d H) rfl tk (pmk_x2 XE hr (by rfl) (pe_fld (pv 0) rfl) (pe_op op_add (pe_fld (pv 0) rfl) pe_int)))) pss_nil), ?_⟩
    obtain ⟨dx, fs, b, h1, h2, h3, h4, h5, h6, h7⟩ := id ln
    refine ⟨_, rfl, x, dx, fs, rfl, h1, h5 _ (by decide +kernel), x, k, c, ws, rfl, ln, _, rfl, ?_⟩
    by_cases e : c < ws.length
    · rw [decide_eq_true e]
      refine iteT ⟨_, rfl, x, CL, dx, fs, _, rfl, h1, N.cl, N.n1, h2, _, rfl, x, CL, dx, fs, _, rfl, h1, N.cl, N.n3, h4, ?_⟩
      refine ⟨_, _, rfl, rfl, mk2_ok fun d nd => q2 e _ d (kx_new (fun _ _ _ z => z) nd) ?_⟩
      rw [upd_same]
      rfl
    · rw [decide_eq_false e]
      exact iteF (q1 (by omega))
/-! ### next_word -/
def spNextWord (K : PySem.W.Frag) (CL CE : Addr) : Sp := fun vs H Q E => ∃ (x b : Addr) (k c : Nat) (ws al : List Str), vs = [.ref x, .ref b] ∧ LnAt CL H x k ws c ∧ (SqL K H b (SV al) ∨ SqT K H b (SV al)) ∧ c ≤ 100000 ∧
  (∀ wd, ws[c]? = some wd → wd ∈ al → ∀ H', Kx x H H' → LnAt CL H' x k ws (c + 1) → Q (.str wd) H') ∧ ((∀ wd, ws[c]? = some wd → wd ∉ al) → PErr CE E x H k (c + 1))
theorem scNextWord : FnScope ["self", "allowed"] ["self", "allowed"] (defScope sNextWord) := ⟨rfl, rfl, rfl, by decide +kernel, rfl, by decide +kernel, by decide +kernel⟩
theorem mf_nextWord {CL CE : Addr} (N : LnC K mg CL) (XE : Xc2 P w K mg base "ParseError" CE "line" "word") (M : MF P w K mg base CX0 CL "has_more" "Line.has_more" sHasMore ["self"] 1 (spHasMore CL)) (D : Dm K CL "next_word" "Line.next_word" sNextWord ["self", "allowed"]) : MF P w K mg base (L2.CX P w) CL "next_word" "Line.next_word" sNextWord ["self", "allowed"] 3 (spNextWord K CL CE) := by
  refine mf_ofX D scNextWord (fun vs H Q E h => ?_) (fun f cdv A outer s0 H vs Q E hr h => ?_)
  · obtain ⟨x, b, k, c, ws, al, rfl, _⟩ := h
    rfl
  · obtain ⟨x, b, k, c, ws, al, rfl, ln, hb, hc, q1, q2⟩ := h
    have tk : Takes (cxOf (L2.CX P w) P w K mg base ["self", "allowed"] "Line.next_word" (defScope sNextWord) f cdv A outer s0 H E) (fun cls d _ H => E cls d H) := takes_of rfl rfl rfl rfl
    refine ⟨_, pss_cons (ps_if (PW.pt (pw_or (pt_not (pt_val (pe_m00 (E := E0) M N.cl (hr.mono (by decide)) pass0 (pv 0)))) (pw_or1 (pt_cmpR (r := rIn K true) op_notIn_seq (pe_ix (r := rIxL K) ix_list (pe_fld (pv 0) rfl) (pe_fld (pv 0) rfl) (fun _ _ => rfl)) (pv 1) (by rfl)))))
          (pss_one (ps_raise (W := fun cls d _ H => E cls d H) rfl tk (pmk_x2 XE hr (by rfl) (pe_fld (pv 0) rfl) (pe_op op_add (pe_fld (pv 0) rfl) pe_int)))) pss_nil)
      <| pss_cons (ps_fldaug (pv 0) pe_int in_add)
      <| pss_one (ps_ret (pe_ix (r := rIxL K) ix_list (pe_fld (pv 0) rfl) (pe_op op_sub (pe_fld (pv 0) rfl) pe_int) (fun _ _ => rfl))), ?_⟩
    obtain ⟨dx, fs, bw, h1, h2, h3, h4, h5, h6, h7⟩ := id ln
    have err : (∀ wd, ws[c]? = some wd → wd ∉ al) → ∀ (G : Prop), G = True → True := fun _ _ _ => trivial
    clear err
    refine ⟨_, rfl, x, dx, fs, rfl, h1, h5 _ (by decide +kernel), x, k, c, ws, rfl, ln, _, rfl, ?_⟩
    by_cases e : c < ws.length
    · rw [decide_eq_true e]
      have hw : ws[c]? = some (ws[c]'e) := List.getElem?_eq_getElem e
      refine iteF ⟨_, rfl, x, CL, dx, fs, _, rfl, h1, N.cl, N.n2, h3, _, rfl, x, CL, dx, fs, _, rfl, h1, N.cl, N.n3, h4, bw, _, _, _, rfl, rfl, sl_of h7, atI_nat (SV_get hw), ?_⟩
      refine ⟨_, rfl, b, _, rfl, hb, rfl, flat_SV _, _, rfl, ?_⟩
      rw [inV_SV]
      by_cases m : ws[c]'e ∈ al
      · rw [show (if true = true then !decide (ws[c]'e ∈ al) else decide (ws[c]'e ∈ al)) = false from by rw [if_pos rfl, decide_eq_true m]; rfl]
        refine iteF ⟨_, rfl, x, CL, dx, fs, _, rfl, h1, N.cl, N.n3, h4, _, _, rfl, rfl, dx, fs, h1, by omega, ?_⟩
        have k1 := Kx.upd x H (.ins CL dx (putF "_count" (.int ((c : Int) + 1)) fs))
        have l1 := len_putF "_count" (.int ((c : Int) + 1)) fs
        have p1 := lk_put0' (f := "_count") (v := .int ((c : Int) + 1)) (fs := fs)
        have p2 := lk_put' (f := "_count") (g := "_number") (v := .int ((c : Int) + 1)) (fs := fs) f_nw.2.1
        have p3 := lk_put' (f := "_count") (g := "_words") (v := .int ((c : Int) + 1)) (fs := fs) f_nw.2.2
        have m1 := noL_put (v := .int ((c : Int) + 1)) l_co h5
        have hx1 : upd H x (.ins CL dx (putF "_count" (.int ((c : Int) + 1)) fs)) x = some (.ins CL dx (putF "_count" (.int ((c : Int) + 1)) fs)) := upd_same
        have hb1 := lst_kx k1 h1 h7
        rw [h3] at p3
        rw [h2] at p2
        have cc : ((c : Int) + 1) - 1 = (c : Int) := by omega
        have c1 : (c : Int) + 1 = ((c + 1 : Nat) : Int) := by omega
        have at2 : atI (SV ws) (((c : Int) + 1) - 1) = some (.str (ws[c]'e)) := by rw [cc]; exact atI_nat (SV_get hw)
        refine ⟨_, rfl, x, CL, dx, _, _, rfl, hx1, N.cl, N.n2, p3, _, rfl, x, CL, dx, _, _, rfl, hx1, N.cl, N.n3, p1, _, _, rfl, rfl, bw, _, _, _, rfl, rfl, sl_of hb1, at2, ?_⟩
        refine q1 _ hw m _ k1 ⟨dx, _, bw, hx1, p2, p3, ?_, m1, ?_, hb1⟩
        · rw [p1, c1]
        · rw [len_putF_old h4]; exact h6
      · rw [show (if true = true then !decide (ws[c]'e ∈ al) else decide (ws[c]'e ∈ al)) = true from by rw [if_pos rfl, decide_eq_false m]; rfl]
        refine iteT ⟨_, rfl, x, CL, dx, fs, _, rfl, h1, N.cl, N.n1, h2, _, rfl, x, CL, dx, fs, _, rfl, h1, N.cl, N.n3, h4, ?_⟩
        refine ⟨_, _, rfl, rfl, mk2_ok fun d nd => q2 (fun wd h => ?_) _ d (kx_new (fun _ _ _ z => z) nd) ?_⟩
        · rw [hw] at h; cases h; exact m
        · rw [upd_same]; rfl
    · rw [decide_eq_false e]
      refine iteT ⟨_, rfl, x, CL, dx, fs, _, rfl, h1, N.cl, N.n1, h2, _, rfl, x, CL, dx, fs, _, rfl, h1, N.cl, N.n3, h4, ?_⟩
      refine ⟨_, _, rfl, rfl, mk2_ok fun d nd => q2 (fun wd h => ?_) _ d (kx_new (fun _ _ _ z => z) nd) ?_⟩
      · rw [List.getElem?_eq_none (by omega)] at h; cases h
      · rw [upd_same]; rfl
end
end Hw

namespace Hw
open PySem PySem.Spec PyProof.Rows L2 ClX
theorem PErr.back {CE : Addr} {E : XK} {x : Addr} {H H1 : Hp} {l w : Nat} (p : PErr CE E x H l w) (s : Same H H1) : PErr CE E x H1 l w := fun H' d k h => p H' d ((Kx.of s).trans k) h
theorem mem_nSs {al : List Nat} {w : Str} : w ∈ nSs al ↔ ∃ m ∈ al, w = nS m := by
  unfold nSs
  rw [List.mem_map]
  exact ⟨fun ⟨m, h, e⟩ => ⟨m, h, e.symm⟩, fun ⟨m, h, e⟩ => ⟨m, h, e.symm⟩⟩
abbrev nNi : List Str := ["self", "allowed", "number"]
theorem scNextInt : FnScope nNi ["self", "allowed"] (defScope sNextInt) := ⟨rfl, rfl, rfl, by decide +kernel, rfl, by decide +kernel, by decide +kernel⟩
def spNextInt (CL CE : Addr) (Sq : Hp → Addr → List V → Prop) : Sp := fun vs H Q E => ∃ (x b : Addr) (k c : Nat) (ws : List Str) (al : List Nat), vs = [.ref x, .ref b] ∧ LnAt CL H x k ws c ∧ Sq H b (NV al) ∧ c ≤ 100000 ∧ al.length ≤ 100 ∧ (∀ m ∈ al, m ≤ 16) ∧
  (∀ m ∈ al, ws[c]? = some (nS m) → ∀ H', Kx x H H' → LnAt CL H' x k ws (c + 1) → Q (.int (m : Int)) H') ∧ ((∀ m ∈ al, ws[c]? ≠ some (nS m)) → PErr CE E x H k (c + 1))
theorem small_log2 {m : Nat} (h : m ≤ 16) : (m : Int).natAbs.log2 < 1920 := by
  rw [Int.natAbs_natCast]
  by_cases z : m = 0
  · subst z; decide
  · have := (Nat.log2_lt z).mpr (show m < 2 ^ 10 by omega)
    omega
section
variable {P : Program} {w : World} {K : PySem.W.Frag} {mg : Str → Option Value} {base : Heap}
/-! ### next_integer, of a list or of a tuple -/
theorem mf_nextIntL {CL CE : Addr} (T : Txt mg) (N : LnC K mg CL) (M : MF P w K mg base (L2.CX P w) CL "next_word" "Line.next_word" sNextWord ["self", "allowed"] 3 (spNextWord K CL CE)) (D : Dm K CL "next_integer" "Line.next_integer" sNextInt ["self", "allowed"]) :
    MF P w K mg base (L2.CX P w) CL "next_integer" "Line.next_integer" sNextInt ["self", "allowed"] 4 (spNextInt CL CE (fun H a xs => H a = some (.lst xs))) := by
  have nd := scNextInt.nd
  refine mf_ofX D scNextInt (fun vs H Q E h => ?_) (fun f cdv A outer s0 H vs Q E hr h => ?_)
  · obtain ⟨x, b, k, c, ws, al, rfl, _⟩ := h
    rfl
  · obtain ⟨x, b, k, c, ws, al, rfl, ln, hb, hc, hal, hm, q1, q2⟩ := h
    have tk : Takes (cxOf (L2.CX P w) P w K mg base nNi "Line.next_integer" (defScope sNextInt) f cdv A outer s0 H E) (fun cls d _ H => E cls d H) := takes_of rfl rfl rfl rfl
    refine ⟨_, pss_one (ps_ret (pe_callTy call_int_str (by rfl) T.int (by decide +kernel) (pa_cons (pe_mX (E := E) M.mc N.cl hr tk (fun _ _ _ _ z => z) (pv 0) (pa_cons (pe_lc (own := [("number", 2)]) (g := gName 2) (tt := tYes) (by rfl) nd (pi_list (pv 1))
        (blkOk_by (own := [("number", 2)]) (N := nNi) (sc := defScope sNextInt) (by decide +kernel)) (fun _ _ _ _ _ => pg_name (i := 2) nd rfl (.inl rfl)) (fun _ _ _ _ _ => pts_nil) (fun _ _ _ _ _ => pe_callTy call_str_int (by rfl) T.str (by decide +kernel) (pa_cons (pv 2) pa_nil))) pa_nil)) pa_nil))), ?_⟩
    obtain ⟨dx, fs, bw, h1, h2, h3, h4, h5, h6, h7⟩ := id ln
    refine ⟨_, rfl, x, dx, fs, rfl, h1, h5 _ (by decide +kernel), _, rfl, b, rfl, ⟨_, sl_of hb⟩, fun Dl nD => ?_⟩
    refine lc_it (walk_list (xs := NV al)) (fun i H' => Same H H' ∧ H' Dl = some (.lst (SV (nSs (al.take i))))) ⟨same_upd nD, by rw [upd_same]; rfl⟩ (fun i H' _ ⟨sm, _⟩ => sl_of (sm _ _ hb)) ?_ ?_
    · rintro i y H2 H3 hi ⟨sm, hD⟩ ⟨rfl, hy⟩
      obtain ⟨m, hm1, rfl⟩ := NV_get' hy
      have hm2 := hm m (List.mem_of_getElem? hm1)
      have il : i < al.length := (List.getElem?_eq_some_iff.mp hm1).1
      refine ⟨rfl, _, rfl, _, rfl, small_log2 hm2, _, hD, ?_, fun b o e => ?_, ?_⟩
      · rw [SV_len]
        unfold nSs
        rw [List.length_map, List.length_take]
        have : sizeLine = 16777216 := by decide
        omega
      · rw [upd_ne (ne_of_none e nD)]
        exact sm _ _ e
      · rw [upd_same, List.take_succ, hm1]
        unfold SV nSs nS
        simp
    · rintro H2 ⟨sm, hD⟩
      rw [NV_len, List.take_length] at hD
      refine ⟨x, Dl, k, c, ws, nSs al, rfl, ln.same sm, .inl (sl_of hD), hc, fun wd hw hmem H3 k3 ln3 => ?_, fun hno => (q2 fun m hm' e => hno _ e (mem_nSs.mpr ⟨m, hm', rfl⟩)).back sm⟩
      obtain ⟨m, hm', rfl⟩ := mem_nSs.mp hmem
      obtain ⟨i1, i2⟩ := int_nS m (hm m hm')
      exact ⟨_, _, rfl, i1, i2, q1 m hm' hw _ ((Kx.of sm).trans k3) ln3⟩
theorem mf_nextIntT {CL CE : Addr} (T : Txt mg) (N : LnC K mg CL) (M : MF P w K mg base (L2.CX P w) CL "next_word" "Line.next_word" sNextWord ["self", "allowed"] 3 (spNextWord K CL CE)) (D : Dm K CL "next_integer" "Line.next_integer" sNextInt ["self", "allowed"]) :
    MF P w K mg base (L2.CX P w) CL "next_integer" "Line.next_integer" sNextInt ["self", "allowed"] 4 (spNextInt CL CE (fun H a xs => H a = some (.tup xs))) := by
  have nd := scNextInt.nd
  refine mf_ofX D scNextInt (fun vs H Q E h => ?_) (fun f cdv A outer s0 H vs Q E hr h => ?_)
  · obtain ⟨x, b, k, c, ws, al, rfl, _⟩ := h
    rfl
  · obtain ⟨x, b, k, c, ws, al, rfl, ln, hb, hc, hal, hm, q1, q2⟩ := h
    have tk : Takes (cxOf (L2.CX P w) P w K mg base nNi "Line.next_integer" (defScope sNextInt) f cdv A outer s0 H E) (fun cls d _ H => E cls d H) := takes_of rfl rfl rfl rfl
    refine ⟨_, pss_one (ps_ret (pe_callTy call_int_str (by rfl) T.int (by decide +kernel) (pa_cons (pe_mX (E := E) M.mc N.cl hr tk (fun _ _ _ _ z => z) (pv 0) (pa_cons (pe_lc (own := [("number", 2)]) (g := gName 2) (tt := tYes) (by rfl) nd (pi_tup (pv 1))
        (blkOk_by (own := [("number", 2)]) (N := nNi) (sc := defScope sNextInt) (by decide +kernel)) (fun _ _ _ _ _ => pg_name (i := 2) nd rfl (.inl rfl)) (fun _ _ _ _ _ => pts_nil) (fun _ _ _ _ _ => pe_callTy call_str_int (by rfl) T.str (by decide +kernel) (pa_cons (pv 2) pa_nil))) pa_nil)) pa_nil))), ?_⟩
    obtain ⟨dx, fs, bw, h1, h2, h3, h4, h5, h6, h7⟩ := id ln
    refine ⟨_, rfl, x, dx, fs, rfl, h1, h5 _ (by decide +kernel), _, rfl, b, rfl, ⟨_, sq_of hb⟩, fun Dl nD => ?_⟩
    refine lc_it (walk_tup (xs := NV al)) (fun i H' => Same H H' ∧ H' Dl = some (.lst (SV (nSs (al.take i))))) ⟨same_upd nD, by rw [upd_same]; rfl⟩ (fun i H' _ ⟨sm, _⟩ => sq_of (sm _ _ hb)) ?_ ?_
    · rintro i y H2 H3 hi ⟨sm, hD⟩ ⟨rfl, hy⟩
      obtain ⟨m, hm1, rfl⟩ := NV_get' hy
      have hm2 := hm m (List.mem_of_getElem? hm1)
      have il : i < al.length := (List.getElem?_eq_some_iff.mp hm1).1
      refine ⟨rfl, _, rfl, _, rfl, small_log2 hm2, _, hD, ?_, fun b o e => ?_, ?_⟩
      · rw [SV_len]
        unfold nSs
        rw [List.length_map, List.length_take]
        have : sizeLine = 16777216 := by decide
        omega
      · rw [upd_ne (ne_of_none e nD)]
        exact sm _ _ e
      · rw [upd_same, List.take_succ, hm1]
        unfold SV nSs nS
        simp
    · rintro H2 ⟨sm, hD⟩
      rw [NV_len, List.take_length] at hD
      refine ⟨x, Dl, k, c, ws, nSs al, rfl, ln.same sm, .inl (sl_of hD), hc, fun wd hw hmem H3 k3 ln3 => ?_, fun hno => (q2 fun m hm' e => hno _ e (mem_nSs.mpr ⟨m, hm', rfl⟩)).back sm⟩
      obtain ⟨m, hm', rfl⟩ := mem_nSs.mp hmem
      obtain ⟨i1, i2⟩ := int_nS m (hm m hm')
      exact ⟨_, _, rfl, i1, i2, q1 m hm' hw _ ((Kx.of sm).trans k3) ln3⟩
end
end Hw

namespace Hw
open PySem PySem.Spec PyProof.Rows L2 ClX
/-- the first of al that the word writes -/
def fnd (al : List Nat) (o : Option Str) : Option Nat := al.find? fun m => decide (o = some (nS m))
theorem fnd_some {al : List Nat} {o : Option Str} {m : Nat} (h : fnd al o = some m) : m ∈ al ∧ o = some (nS m) := ⟨List.mem_of_find?_eq_some h, of_decide_eq_true (List.find?_some (p := fun m => decide (o = some (nS m))) h)⟩
theorem fnd_none {al : List Nat} {o : Option Str} (h : fnd al o = none) : ∀ m ∈ al, o ≠ some (nS m) := fun m hm e => by
  have := List.find?_eq_none.mp h m hm
  exact this (decide_eq_true e)
theorem fnd_one {al : List Nat} {o : Option Str} {m n : Nat} (h : fnd al o = some m) (hb : ∀ m ∈ al, m ≤ 16) (hn : n ∈ al) (e : o = some (nS n)) : n = m := by
  obtain ⟨h1, h2⟩ := fnd_some h
  rw [h2] at e
  exact (nS_inj (hb m h1) (hb n hn) (Option.some.inj e)).symm
/-- a parse error is told, at whatever heap has grown from H -/
def PErS (CE : Addr) (E : XK) (H : Hp) (l w : Nat) : Prop := ∀ H' d, Same H H' → H' d = some (.xd [("word", .int (w : Int)), ("line", .int (l : Int))]) → E (.ref CE) (some d) H'
theorem kx_same {x : Addr} {H0 H1 H2 : Hp} (s : Same H0 H1) (n : H0 x = none) (k : Kx x H1 H2) : Same H0 H2 := fun b o e => k b o (ne_of_none e n) (s b o e)
theorem PErS.at {CE : Addr} {E : XK} {H0 H : Hp} {x : Addr} {l w : Nat} (p : PErS CE E H0 l w) (s : Same H0 H) (n : H0 x = none) : PErr CE E x H l w := fun H' d k h => p H' d (kx_same s n k) h
theorem PErS.back {CE : Addr} {E : XK} {H H1 : Hp} {l w : Nat} (p : PErS CE E H l w) (s : Same H H1) : PErS CE E H1 l w := fun H' d k h => p H' d (s.trans k) h
/-- what is asked of the class Line -/
structure LnF (P : Program) (w : World) (K : PySem.W.Frag) (mg : Str → Option Value) (base : Heap) (CL CE : Addr) : Prop where
  n : LnC K mg CL
  made : ∃ (f : Addr) (fd : FuncData), Mk K CL f ∧ FnOk P w K mg base (L2.CX P w) 3 f fd ["self", "lines", "number"] (spLnInit CL CE) ∧ L2.Binds K fd ["self", "lines", "number"] []
  more : MF P w K mg base CX0 CL "has_more" "Line.has_more" sHasMore ["self"] 1 (spHasMore CL)
  word : MF P w K mg base (L2.CX P w) CL "next_word" "Line.next_word" sNextWord ["self", "allowed"] 3 (spNextWord K CL CE)
  intL : MF P w K mg base (L2.CX P w) CL "next_integer" "Line.next_integer" sNextInt ["self", "allowed"] 4 (spNextInt CL CE (fun H a xs => H a = some (.lst xs)))
  intT : MF P w K mg base (L2.CX P w) CL "next_integer" "Line.next_integer" sNextInt ["self", "allowed"] 4 (spNextInt CL CE (fun H a xs => H a = some (.tup xs)))
  fin : MF P w K mg base (L2.CX P w) CL "check_end" "Line.check_end" sCheckEnd ["self"] 3 (spCheckEnd CL CE)
/-- a text's lines stand at a -/
def LsAt (H : Hp) (a : Addr) (ls : List Str) : Prop := H a = some (.lst (SV ls)) ∧ ls.length ≤ 100000 ∧ ∀ l ∈ ls, l.length ≤ 100000
theorem LsAt.same {H H' : Hp} {a : Addr} {ls : List Str} (h : LsAt H a ls) (s : Same H H') : LsAt H' a ls := ⟨s _ _ h.1, h.2.1, h.2.2⟩
theorem line_it {CL CE : Addr} {E : XK} {H : Hp} {a : Addr} {k : Nat} {ls : List Str} {Q : Addr → Hp → Prop} (h : LsAt H a ls) (hk : 1 ≤ k)
    (q1 : (Str.ofString "") ∉ wdsAt ls k → ∀ H' x, Same H H' → H x = none → LnAt CL H' x k (wdsAt ls k) 0 → Q x H') (q2 : (Str.ofString "") ∈ wdsAt ls k → PErS CE E H k 0) :
    ∀ x dx, H x = none → H dx = none → dx ≠ x → spLnInit CL CE (.ref x :: ([V.ref a, .int (k : Int)] ++ [])) (upd (upd H dx (.own x)) x (.ins CL dx [])) (fun v H2 => v = .non ∧ Q x H2) E := fun x dx nx nd ne => by
  have s1 : Same H (upd (upd H dx (.own x)) x (.ins CL dx [])) := fun b o e => by
    rw [upd_ne (ne_of_none e nx), upd_ne (ne_of_none e nd)]
    exact e
  obtain ⟨h1, h2, h3⟩ := h
  exact ⟨x, dx, a, k, ls, rfl, upd_same, s1 _ _ h1, hk, h2, h3, fun n H' k' ln => ⟨rfl, q1 n H' x (kx_same s1 nx k') nx ln⟩, fun m => (q2 m).at s1 nx⟩
theorem pe_line {X : Cx} {CL CE : Addr} {E : XK} {W : WX} {e1 e2 : Expr} {t1 t2 : TE} {p pos : Pos} (G : LnF X.prog X.w X.K X.mg X.base CL CE) (hr : Room 4 X.A) (tk : Takes X W) (hW : ∀ cls d σ H, E cls d H → W cls d σ H) (hg : Gl X "Line") (h1 : PE X e1 t1) (h2 : PE X e2 t2)
    (he : starEach [e1, e2] X.env = (false, eval e1 X.env) :: starEach [e2] X.env := by rfl) (he2 : starEach [e2] X.env = (false, eval e2 X.env) :: starEach [] X.env := by rfl) (hpl : (backTo pos (starEach [e2] X.env)).any (·.1) = false := by rfl) :
    PE X (.Call (.Name "Line" p) [e1, e2] [] pos) (tMake CL (spLnInit CL CE) [] E (tCons t1 (tCons t2 tNil))) := by
  obtain ⟨f, fd, M, F, b⟩ := G.made
  exact pe_make (pos := pos) (p := p) (dvs := []) (ds := []) M F hr hg G.n.gC b .nil (passes_call tk hW) (pa_cons h1 (pa_cons h2 pa_nil (hs := he2)) (hs := he)) (by decide) he hpl
section
variable {P : Program} {w : World} {K : PySem.W.Frag} {mg : Str → Option Value} {base : Heap}
/-! ### _read_places -/
def rdPl (W : List Str) : Nat ⊕ Nat :=
  if Str.ofString "" ∈ W then .inl 0 else if W[0]? ≠ some (Str.ofString "network") then .inl 1 else
  match fnd ((List.range 12).map fun i => 1 + i) W[1]? with
  | none => .inl 2
  | some n => if W.length ≤ 2 then .inr n else .inl 3
def spRP (CE : Addr) : Sp := fun vs H Q E => ∃ (a : Addr) (ls : List Str), vs = [.ref a] ∧ LsAt H a ls ∧ (∀ n, rdPl (wdsAt ls 1) = .inr n → ∀ H', Same H H' → Q (.int (n : Int)) H') ∧ (∀ w, rdPl (wdsAt ls 1) = .inl w → PErS CE E H 1 w)
abbrev nRp : List Str := ["lines", "line", "places"]
theorem scRp : FnScope nRp ["lines"] (defScope sReadPlaces) := ⟨rfl, rfl, rfl, by decide +kernel, rfl, by decide +kernel, by decide +kernel⟩
theorem al12 : ∀ m ∈ (List.range 12).map fun i => 1 + i, m ≤ 16 := by decide
theorem ok_rp {CL CE C : Addr} {mc : Value} {f : Addr} {fd : FuncData} (T : Txt mg) (N : NetC K mg C mc) (G : LnF P w K mg base CL CE) (F : Fun K "_read_places" "_read_places" sReadPlaces f fd) : FnOk P w K mg base (L2.CX P w) 5 f fd ["lines"] (spRP CE) := by
  have nd := scRp.nd
  refine F.okX scRp (fun vs H Q E h => ?_) (fun cdv A outer s0 H vs Q E hr h => ?_)
  · obtain ⟨a, ls, rfl, _⟩ := h
    rfl
  · obtain ⟨a, ls, rfl, ha, q1, q2⟩ := h
    have hr3 := hr.mono (show 3 ≤ 4 by decide)
    have tk : Takes (cxOf (L2.CX P w) P w K mg base nRp "_read_places" (defScope sReadPlaces) f cdv A outer s0 H E) (fun cls d _ H => E cls d H) := takes_of rfl rfl rfl rfl
    have hW : ∀ (cls : Value) (d : Option Addr) (σ : L2.St) (H : Hp), E cls d H → (fun (cls : Value) (d : Option Addr) (_ : L2.St) (H : Hp) => E cls d H) cls d σ H := fun _ _ _ _ z => z
    obtain ⟨u1, v1⟩ := N.mp
    refine ⟨_, pss_cons (ps_set (i := 1) nd rfl (.inl rfl) (pe_line (E := E) G hr tk hW (by rfl) (pv 0) pe_int))
      <| pss_cons (ps_expr (pe_mX (E := E) G.word.mc G.n.cl hr3 tk hW (pv 1) (pa_cons (pe_lst (pa_cons pe_str pa_nil)) pa_nil)))
      <| pss_cons (ps_set (i := 2) nd rfl (.inl rfl) (pe_mX (E := E) G.intL.mc G.n.cl hr tk hW (pv 1) (pa_cons (pe_listRg (by rfl) (by rfl) T.list (prg_2 (by rfl) T.range pe_int (pe_op op_add (pe_cval (pe_glob (by rfl) N.gC (v := .ref C) rfl)) pe_int))) pa_nil)))
      <| pss_cons (ps_expr (pe_m00 (E := E) G.fin G.n.cl hr3 (passes_call tk hW) (pv 1)))
      <| pss_one (ps_ret (pv 2)), ?_⟩
    refine ⟨_, rfl, line_it (k := 1) ha (Nat.le_refl 1) (fun ne H1 x s1 nx ln => ?_) (fun m => q2 0 (by unfold rdPl; rw [if_pos m]))⟩
    have W0 : rdPl (wdsAt ls 1) = if (wdsAt ls 1)[0]? ≠ some (Str.ofString "network") then .inl 1 else match fnd ((List.range 12).map fun i => 1 + i) (wdsAt ls 1)[1]? with
        | none => .inl 2
        | some n => if (wdsAt ls 1).length ≤ 2 then .inr n else .inl 3 := by unfold rdPl; rw [if_neg ne]
    generalize wdsAt ls 1 = ws at *
    obtain ⟨dx, fs, bw, h1, h2, h3, h4, h5, h6, h7⟩ := id ln
    refine ⟨_, rfl, x, dx, fs, rfl, h1, h5 _ (by decide +kernel), ⟨by show 1 ≤ sizeLine; decide, fun l nl => ?_⟩⟩
    have s2 := s1.trans (same_upd (o := .lst [V.str "network"]) nl)
    have ln2 := ln.same (same_upd (o := .lst [V.str "network"]) nl)
    have hl2 : upd H1 l (.lst [V.str "network"]) l = some (.lst [V.str "network"]) := upd_same
    generalize upd H1 l (.lst [V.str "network"]) = H2 at *
    clear h1 h2 h3 h4 h5 h6 h7
    refine ⟨x, l, 1, 0, ws, [Str.ofString "network"], rfl, ln2, .inl (sl_of hl2), by decide, fun wd hw hm H3 k3 ln3 => ?_, fun hno => (q2 1 ?_).at s2 nx⟩
    · obtain rfl := List.mem_singleton.mp hm
      rw [hw, if_neg (by simp)] at W0
      have s3 := kx_same s2 nx k3
      obtain ⟨dx, fs, bw, h1, h2, h3, h4, h5, h6, h7⟩ := id ln3
      refine ⟨_, rfl, x, dx, fs, rfl, h1, h5 _ (by decide +kernel), ?_⟩
      refine ⟨C, mc, _, _, rfl, N.rd, v1, _, _, rfl, rfl, _, _, rfl, rfl, RgOk.of_le (by omega) (by omega) (by omega) (by omega), fun b nb => ?_⟩
      have er : rgV 1 ((12 : Int) + 1) = NV ((List.range 12).map fun i => 1 + i) := by decide +kernel
      have s4 := s3.trans (same_upd (o := .lst (rgV 1 ((12 : Int) + 1))) nb)
      have ln4 := ln3.same (same_upd (o := .lst (rgV 1 ((12 : Int) + 1))) nb)
      have hb4 : upd H3 b (.lst (rgV 1 ((12 : Int) + 1))) b = some (.lst (rgV 1 ((12 : Int) + 1))) := upd_same
      generalize upd H3 b (.lst (rgV 1 ((12 : Int) + 1))) = H4 at *
      rw [er] at hb4
      clear h1 h2 h3 h4 h5 h6 h7
      refine ⟨x, b, 1, 1, ws, _, rfl, ln4, hb4, by decide, by decide, al12, fun m hm hw H5 k5 ln5 => ?_, fun hno => (q2 2 ?_).at s4 nx⟩
      · have s5 := kx_same s4 nx k5
        cases ef : fnd ((List.range 12).map fun i => 1 + i) ws[1]? with
        | none => exact absurd hw (fnd_none ef m hm)
        | some n =>
          obtain rfl := fnd_one ef al12 hm hw
          rw [ef] at W0
          obtain ⟨dx, fs, bw, h1, h2, h3, h4, h5, h6, h7⟩ := id ln5
          refine ⟨_, rfl, x, dx, fs, rfl, h1, h5 _ (by decide +kernel), x, 1, 2, ws, rfl, ln5, fun le => ?_, fun lt => (q2 3 ?_).at s5 nx⟩
          · refine ⟨_, rfl, q1 m ?_ _ s5⟩
            rw [W0]
            exact if_pos le
          · rw [W0]
            exact if_neg (by omega)
      · rw [W0]
        cases ef : fnd ((List.range 12).map fun i => 1 + i) ws[1]? with
        | none => rfl
        | some n => exact absurd (fnd_some ef).2 (hno n (fnd_some ef).1)
    · rw [W0, if_pos]
      intro e
      exact hno _ e (List.mem_singleton.mpr rfl)
end
end Hw

namespace Hw
open PySem PySem.Spec PyProof.Rows L2 ClX
/-- the words with which a line may begin -/
def fw (n : Nat) (es : List Ed) : List Str := (if es.length < 16 then [Str.ofString "passage"] else []) ++ (if cB n es = true then [Str.ofString "walk"] else [])
theorem edl_tup {H : Hp} {v : Addr} {es : List Ed} {ks : List (Addr × List Nat)} (k2 : ks.map (·.2) = es.map pl) (k3 : ∀ k ∈ ks, Tp H k.1 k.2) (nv : H v = none) : EdT (upd H v (.tup (ks.map fun k => .ref k.1))) v es :=
  ⟨ks, upd_same, k2, fun k hk => same_upd nv _ _ (k3 k hk)⟩
section
variable {P : Program} {w : World} {K : PySem.W.Frag} {mg : Str → Option Value} {base : Heap}
/-! ### _first_words -/
def spFW : Sp := fun vs H Q _ => ∃ (a : Addr) (n : Nat) (es : List Ed), vs = [.int (n : Int), .ref a] ∧ EdL H a es ∧ VE n es ∧ 1 ≤ n ∧ n ≤ 12 ∧ es.length ≤ 16 ∧ ∀ H' r, Same H H' → H r = none → H' r = some (.lst (SV (fw n es))) → Q (.ref r) H'
abbrev nFws : List Str := ["places", "passages", "words"]
theorem scFws : FnScope nFws ["places", "passages"] (defScope sFirstWords) := ⟨rfl, rfl, rfl, by decide +kernel, rfl, by decide +kernel, by decide +kernel⟩
/-- the last if -/
def tFw2 : TS := fun D σ H => ∃ (a l : Addr) (n : Nat) (es : List Ed) (ws : List Str), σ = [some (.int (n : Int)), some (.ref a), some (.ref l)] ∧ EdL H a es ∧ VE n es ∧ 1 ≤ n ∧ n ≤ 12 ∧ es.length ≤ 16 ∧ H l = some (.lst (SV ws)) ∧ ws.length ≤ 1 ∧
  ∀ H', Kx l H H' → H' l = some (.lst (SV (ws ++ if cB n es = true then [Str.ofString "walk"] else []))) → D.nx σ H'
theorem cal_fw {C : Addr} {mc : Value} (T : Txt mg) (N : NetC K mg C mc) (IV : SC P w K mg base CX0 C mc "is_valid" 6 spIsVal) (D : Df K mg "_first_words" sFirstWords ["places", "passages"]) : Cal P w K mg base "_first_words" 7 spFW := by
  have nd := scFws.nd
  refine cal_of D scFws (fun vs H Q E h => ?_) (fun f cdv A outer s0 H vs Q E hr h => ?_)
  · obtain ⟨a, n, es, rfl, _⟩ := h
    rfl
  · obtain ⟨a, n, es, rfl, he, ve, n1, hn, hl, q⟩ := h
    obtain ⟨u2, v2⟩ := N.ms
    refine ⟨_, pss_cons (ps_set (i := 2) nd rfl (.inl rfl) (pe_lst pa_nil))
      <| pss_cons (ps_if (pt_cmpR op_lt (pe_callB cr_len (by rfl) T.len PySem.boot_len (pa_cons (pv 1) pa_nil)) (pe_cval (pe_glob (by rfl) N.gC (v := .ref C) rfl)) (nomark _)) (pss_one (ps_expr (pe_bm PySem.F.plainAttrs_list PySem.F.slot_list_append PySem.F.type_list_append mt_append (pv 2) (pa_cons pe_str pa_nil)))) pss_nil)
      <| pss_cons (PS.imp (t' := tFw2) (ps_if (pt_val (pe_scl IV N.rd hr (pe_glob (by rfl) N.gC (v := .ref C) rfl) (pa_cons (pv 0) (pa_cons (pe_callTy call_tuple_of (by rfl) T.tuple (by decide +kernel) (pa_cons (pv 1) pa_nil)) pa_nil)))) (pss_one (ps_expr (pe_bm PySem.F.plainAttrs_list PySem.F.slot_list_append PySem.F.type_list_append mt_append (pv 2) (pa_cons pe_str pa_nil)))) pss_nil) (fun Dn σ H h => ?two))
      <| pss_one (ps_ret (pv 2)), ?_⟩
    case two =>
      obtain ⟨a, l, n, es, ws, rfl, he, ve, n1, hn, hl, hL, hw, q⟩ := h
      obtain ⟨ks, k1, k2, k3⟩ := id he
      refine ⟨rfl, _, rfl, _, rfl, a, _, rfl, .inl ⟨sl_of k1, fun v nv => ?_⟩⟩
      have s2 := same_upd (o := .tup (ks.map fun k => .ref k.1)) nv
      have ev := edl_tup k2 k3 nv
      generalize upd H v (.tup (ks.map fun k => .ref k.1)) = H2 at *
      refine ⟨v, n, es, rfl, ev, ve, n1, hn, hl, fun H3 s3 => ⟨_, rfl, ?_⟩⟩
      have hL3 := s3 _ _ (s2 _ _ hL)
      have k3' : Kx l H H3 := Kx.of (s2.trans s3)
      cases e : cB n es with
      | false =>
        refine iteF (q _ k3' ?_)
        rw [e, if_neg (by decide), List.append_nil]
        exact hL3
      | true =>
        refine iteT ⟨_, rfl, .inl ⟨rfl, _, sl_of hL3⟩, l, _, _, rfl, rfl, hL3, by rw [SV_len]; exact small1000 (by omega), ?_⟩
        refine q _ (k3'.trans (Kx.upd l H3 _)) ?_
        rw [e, if_pos rfl, upd_same]
        unfold SV
        rw [List.map_append]
        rfl
    obtain ⟨ks, k1, k2, k3⟩ := id he
    refine ⟨Nat.zero_le _, fun l nl => ?_⟩
    have s1 := same_upd (o := .lst []) nl
    have hl1 : upd H l (.lst []) l = some (.lst []) := upd_same
    generalize upd H l (.lst []) = H1 at *
    refine ⟨_, rfl, a, _, rfl, .inl (sl_of (s1 _ _ k1)), C, mc, _, _, rfl, N.rd, v2, _, _, rfl, rfl, _, rfl, ?_⟩
    rw [nv_len, ed_len k2]
    by_cases c : es.length < 16
    · rw [show decide ((es.length : Int) < (16 : Int)) = true from decide_eq_true (by omega)]
      refine iteT ⟨_, rfl, .inl ⟨rfl, _, sl_of hl1⟩, l, _, _, rfl, rfl, hl1, by show 0 < sizeLine; decide, ?_⟩
      have s2 : Same H (upd H1 l (.lst ([] ++ [V.str "passage"]))) := kx_same s1 nl (Kx.upd l H1 _)
      refine ⟨a, l, n, es, [Str.ofString "passage"], rfl, he.same s2, ve, n1, hn, hl, upd_same, by decide, fun H' k' h' => ?_⟩
      refine ⟨_, rfl, q _ l (kx_same s2 nl k') nl ?_⟩
      rw [h']
      unfold fw
      rw [if_pos c]
    · rw [show decide ((es.length : Int) < (16 : Int)) = false from decide_eq_false (by omega)]
      refine iteF ⟨a, l, n, es, [], rfl, he.same s1, ve, n1, hn, hl, hl1, by decide, fun H' k' h' => ?_⟩
      refine ⟨_, rfl, q _ l (kx_same s1 nl k') nl ?_⟩
      rw [h']
      unfold fw
      rw [if_neg c]
end
end Hw

namespace Hw
open PySem PySem.Spec PyProof.Rows L2 ClX
/-! ### what the lines behind the first tell -/
def rdPair (n : Nat) (W : List Str) : Nat ⊕ Ed :=
  match fnd (List.range n) W[1]? with
  | none => .inl 2
  | some u => match fnd ((List.range (n - u)).map fun i => u + i) W[2]? with
    | none => .inl 3
    | some v => if W.length ≤ 3 then .inr (u, v) else .inl 4
def rdHead (n : Nat) (es : List Ed) (W : List Str) : Nat ⊕ Bool :=
  if Str.ofString "" ∈ W then .inl 0 else
  match W[0]? with
  | none => .inl 1
  | some wd => if wd ∈ fw n es then .inr (decide (wd = Str.ofString "passage")) else .inl 1
def rdPs (n : Nat) (ls : List Str) : Nat → List Ed → (Nat × Nat) ⊕ List Ed
  | 0, es => .inr es
  | f + 1, es => match rdHead n es (wdsAt ls (es.length + 2)) with
    | .inl w => .inl (es.length + 2, w)
    | .inr false => .inr es
    | .inr true => match rdPair n (wdsAt ls (es.length + 2)) with
      | .inl w => .inl (es.length + 2, w)
      | .inr e => rdPs n ls f (es ++ [e])
theorem EdL.kx {x l : Addr} {H H' : Hp} {es : List Ed} {C dx : Addr} {fs : List (Str × V)} (h : EdL H l es) (k : Kx x H H') (hx : H x = some (.ins C dx fs)) : EdL H' l es := by
  obtain ⟨ks, a, b, c⟩ := h
  exact ⟨ks, k _ _ (ne_of a hx (by intro z; cases z)) a, b, fun y hy => k _ _ (ne_of (c y hy) hx (by intro z; cases z)) (c y hy)⟩
theorem fw_cases {n : Nat} {es : List Ed} {wd : Str} (h : wd ∈ fw n es) : (wd = Str.ofString "passage" ∧ es.length < 16) ∨ (wd = Str.ofString "walk" ∧ cB n es = true) := by
  unfold fw at h
  rcases List.mem_append.mp h with z | z
  · split at z
    · rename_i c
      exact .inl ⟨List.mem_singleton.mp z, c⟩
    · cases z
  · split at z
    · rename_i c
      exact .inr ⟨List.mem_singleton.mp z, c⟩
    · cases z
theorem walk_ne : ¬ (Str.ofString "walk" = Str.ofString "passage") := by decide +kernel
theorem fw_len (n : Nat) (es : List Ed) : (fw n es).length ≤ 2 := by
  unfold fw
  rw [List.length_append]
  split <;> split <;> simp
theorem line_itZ {CL CE : Addr} {E : XK} {H : Hp} {a : Addr} {k : Nat} {ls : List Str} {Q : Addr → Hp → Prop} {z : Int} (ez : z = (k : Int)) (h : LsAt H a ls) (hk : 1 ≤ k)
    (q1 : (Str.ofString "") ∉ wdsAt ls k → ∀ H' x, Same H H' → H x = none → LnAt CL H' x k (wdsAt ls k) 0 → Q x H') (q2 : (Str.ofString "") ∈ wdsAt ls k → PErS CE E H k 0) :
    ∀ x dx, H x = none → H dx = none → dx ≠ x → spLnInit CL CE (.ref x :: ([V.ref a, .int z] ++ [])) (upd (upd H dx (.own x)) x (.ins CL dx [])) (fun v H2 => v = .non ∧ Q x H2) E := by
  subst ez
  exact line_it h hk q1 q2
section
variable {P : Program} {w : World} {K : PySem.W.Frag} {mg : Str → Option Value} {base : Heap}
def spRPs (CL CE : Addr) : Sp := fun vs H Q E => ∃ (a : Addr) (n : Nat) (ls : List Str), vs = [.ref a, .int (n : Int)] ∧ LsAt H a ls ∧ 1 ≤ n ∧ n ≤ 12 ∧
  (∀ es, rdPs n ls 17 [] = .inr es → ∀ H' r t x, Same H H' → H' r = some (.tup [.ref t, .ref x]) → EdT H' t es → VE n es → es.length ≤ 16 → cB n es = true → H x = none → LnAt CL H' x (es.length + 2) (wdsAt ls (es.length + 2)) 1 → Q (.ref r) H') ∧
  (∀ l w, rdPs n ls 17 [] = .inl (l, w) → PErS CE E H l w)
abbrev nRps : List Str := ["lines", "places", "passages", "line", "u", "v"]
theorem scRps : FnScope nRps ["lines", "places"] (defScope sReadPassages) := ⟨rfl, rfl, rfl, by decide +kernel, rfl, by decide +kernel, by decide +kernel⟩
theorem ok_rps {CL CE : Addr} {f : Addr} {fd : FuncData} (T : Txt mg) (G : LnF P w K mg base CL CE) (GW : Cal P w K mg base "_first_words" 7 spFW) (F : Fun K "_read_passages" "_read_passages" sReadPassages f fd) :
    FnOk P w K mg base (L2.CX P w) 8 f fd ["lines", "places"] (spRPs CL CE) := by
  have nd := scRps.nd
  refine F.okX scRps (fun vs H Q E h => ?_) (fun cdv A outer s0 H vs Q E hr h => ?_)
  · obtain ⟨a, n, ls, rfl, _⟩ := h
    rfl
  · obtain ⟨a, n, ls, rfl, ha, n1, hn, q1, q2⟩ := h
    have hr3 := hr.mono (show 3 ≤ 7 by decide)
    have hr4 := hr.mono (show 4 ≤ 7 by decide)
    have tk : Takes (cxOf (L2.CX P w) P w K mg base nRps "_read_passages" (defScope sReadPassages) f cdv A outer s0 H E) (fun cls d _ H => E cls d H) := takes_of rfl rfl rfl rfl
    have hW : ∀ (cls : Value) (d : Option Addr) (σ : L2.St) (H : Hp), E cls d H → (fun (cls : Value) (d : Option Addr) (_ : L2.St) (H : Hp) => E cls d H) cls d σ H := fun _ _ _ _ z => z
    refine ⟨_, pss_cons (ps_set (i := 2) nd rfl (.inl rfl) (pe_lst pa_nil))
      <| pss_cons (ps_set (i := 3) nd rfl (.inl rfl) (pe_line (E := E) G hr4 tk hW (by rfl) (pv 0) pe_int))
      <| pss_cons (ps_while (passes_of rfl) (pt_cmpR op_eq (pe_mX (E := E) G.word.mc G.n.cl hr3 tk hW (pv 3) (pa_cons (pe_cl GW hr (by rfl) (pa_cons (pv 1) (pa_cons (pv 2) pa_nil))) pa_nil)) pe_str (nomark _))
          (pss_cons (ps_set (i := 4) nd rfl (.inl rfl) (pe_mX (E := E) G.intL.mc G.n.cl hr4 tk hW (pv 3) (pa_cons (pe_listRg (by rfl) (by rfl) T.list (prg_1 (by rfl) T.range (pv 1))) pa_nil)))
          <| pss_cons (ps_set (i := 5) nd rfl (.inl rfl) (pe_mX (E := E) G.intL.mc G.n.cl hr4 tk hW (pv 3) (pa_cons (pe_listRg (by rfl) (by rfl) T.list (prg_2 (by rfl) T.range (pv 4) (pv 1))) pa_nil)))
          <| pss_cons (ps_expr (pe_m00 (E := E) G.fin G.n.cl hr3 (passes_call tk hW) (pv 3)))
          <| pss_cons (ps_expr (pe_bm PySem.F.plainAttrs_list PySem.F.slot_list_append PySem.F.type_list_append mt_append (pv 2) (pa_cons (pe_tup (pa_cons (pv 4) (pa_cons (pv 5) pa_nil))) pa_nil)))
          <| pss_one (ps_set (i := 3) nd rfl (.inl rfl) (pe_line (E := E) G hr4 tk hW (by rfl) (pv 0) (pe_op op_add (pe_callB cr_len (by rfl) T.len PySem.boot_len (pa_cons (pv 2) pa_nil)) pe_int)))))
      <| pss_one (ps_ret (pe_tup (pa_cons (pe_callTy call_tuple_of (by rfl) T.tuple (by decide +kernel) (pa_cons (pv 2) pa_nil)) (pa_cons (pv 3) pa_nil)))), ?_⟩
    refine ⟨Nat.zero_le _, fun l nl => ?_⟩
    have s1 := same_upd (o := .lst []) nl
    have hl1 : EdL (upd H l (.lst [])) l [] := ⟨[], upd_same, rfl, fun _ h => nomatch h⟩
    generalize upd H l (.lst []) = H1 at *
    have R0 : (Str.ofString "") ∈ wdsAt ls 2 → rdPs n ls 17 [] = .inl (2, 0) := fun m => by
      unfold rdPs rdHead
      rw [show ([] : List Ed).length + 2 = 2 from rfl, if_pos m]
    refine ⟨_, rfl, line_it (k := 2) (ha.same s1) (by decide) (fun ne H2 x s2 nx ln => ?_) (fun m => (q2 2 0 (R0 m)).back s1)⟩
    refine ⟨fun m σ H' => ∃ es x v4 v5, m = 17 - es.length ∧ σ = [some (.ref a), some (.int (n : Int)), some (.ref l), some (.ref x), v4, v5] ∧ Same H H' ∧ EdL H' l es ∧ H x = none ∧ LnAt CL H' x (es.length + 2) (wdsAt ls (es.length + 2)) 0 ∧ (Str.ofString "") ∉ wdsAt ls (es.length + 2) ∧ VE n es ∧ es.length ≤ 16 ∧ rdPs n ls (17 - es.length) es = rdPs n ls 17 [],
      ⟨_, [], x, _, _, rfl, rfl, s1.trans s2, hl1.same s2, s1.free nx, ln, ne, (fun _ h => nomatch h), Nat.zero_le _, rfl⟩, ?_⟩
    clear R0 s1 hl1 ne s2 nx ln
    rintro m σ H3 ⟨es, x, v4, v5, rfl, rfl, sm, hL, nx, ln, ne, ve, hl, hR⟩
    rw [← hR] at q1 q2
    obtain ⟨g, eg⟩ : ∃ g, 17 - es.length = g + 1 := ⟨16 - es.length, by omega⟩
    have eR : rdPs n ls (g + 1) es = match rdHead n es (wdsAt ls (es.length + 2)) with
      | .inl w => .inl (es.length + 2, w)
      | .inr false => .inr es
      | .inr true => match rdPair n (wdsAt ls (es.length + 2)) with
        | .inl w => .inl (es.length + 2, w)
        | .inr e => rdPs n ls g (es ++ [e]) := rfl
    rw [eg] at q1 q2 hR
    rw [eR] at q1 q2 hR
    clear eR
    have eH : rdHead n es (wdsAt ls (es.length + 2)) = match (wdsAt ls (es.length + 2))[0]? with
      | none => .inl 1
      | some wd => if wd ∈ fw n es then .inr (decide (wd = Str.ofString "passage")) else .inl 1 := by unfold rdHead; rw [if_neg ne]
    rw [eH] at q1 q2 hR
    clear eH
    have hk : 1 ≤ es.length + 2 := by omega
    generalize hws : wdsAt ls (es.length + 2) = ws at *
    obtain ⟨dx, fs, bw, h1, h2, h3, h4, h5, h6, h7⟩ := id ln
    refine ⟨_, rfl, x, dx, fs, rfl, h1, h5 _ (by decide +kernel), _, rfl, _, rfl, l, n, es, rfl, hL, ve, n1, hn, hl, fun H4 b s4 nb hb => ?_⟩
    have sm4 := sm.trans s4
    have hL4 := hL.same s4
    refine ⟨x, b, _, 0, ws, fw n es, rfl, ln.same s4, .inl (sl_of hb), by decide, fun wd hw hm H5 k5 ln5 => ?_, fun hno => ?_⟩
    · have sm5 := kx_same sm4 nx k5
      have hL5 := hL4.kx k5 (s4 _ _ h1)
      simp only [hw, if_pos hm] at q1 q2 hR
      refine ⟨rfl, _, rfl, ?_⟩
      rcases fw_cases hm with ⟨rfl, lt⟩ | ⟨rfl, cb⟩
      · rw [show decide (V.str (Str.ofString "passage") = V.str "passage") = true from decide_eq_true rfl]
        have dt : decide (Str.ofString "passage" = Str.ofString "passage") = true := decide_eq_true rfl
        simp only [dt] at q1 q2 hR
        clear h1 h2 h3 h4 h5 h6 h7 ln hm dt hw hb nb
        refine iteT ⟨fun σ' H' => ∃ es' x v4 v5, es'.length = es.length + 1 ∧ σ' = [some (.ref a), some (.int (n : Int)), some (.ref l), some (.ref x), v4, v5] ∧ Same H H' ∧ EdL H' l es' ∧ H x = none ∧ LnAt CL H' x (es'.length + 2) (wdsAt ls (es'.length + 2)) 0 ∧ (Str.ofString "") ∉ wdsAt ls (es'.length + 2) ∧ VE n es' ∧ es'.length ≤ 16 ∧ rdPs n ls (17 - es'.length) es' = rdPs n ls 17 [],
          fun σ' H' ⟨es', x, v4, v5, e1, z⟩ => ⟨17 - es'.length, by omega, es', x, v4, v5, rfl, z⟩, ?_⟩
        obtain ⟨dx, fs, bw, h1, h2, h3, h4, h5, h6, h7⟩ := id ln5
        refine ⟨_, rfl, x, dx, fs, rfl, h1, h5 _ (by decide +kernel), _, rfl, _, rfl, RgOk.of_le (by omega) (by omega) (by omega) (by omega), fun b nb => ?_⟩
        rw [NV_range]
        have sm6 := sm5.trans (same_upd (o := .lst (NV (List.range n))) nb)
        have ln6 := ln5.same (same_upd (o := .lst (NV (List.range n))) nb)
        have hL6 := hL5.same (same_upd (o := .lst (NV (List.range n))) nb)
        have hb6 : upd H5 b (.lst (NV (List.range n))) b = some (.lst (NV (List.range n))) := upd_same
        generalize upd H5 b (.lst (NV (List.range n))) = H6 at *
        clear h1 h2 h3 h4 h5 h6 h7
        have aln : ∀ m ∈ List.range n, m ≤ 16 := fun m hm => by have := List.mem_range.mp hm; omega
        have eP : rdPair n ws = match fnd (List.range n) ws[1]? with
          | none => .inl 2
          | some u => match fnd ((List.range (n - u)).map fun i => u + i) ws[2]? with
            | none => .inl 3
            | some v => if ws.length ≤ 3 then .inr (u, v) else .inl 4 := rfl
        rw [eP] at q1 q2 hR
        refine ⟨x, b, _, 1, ws, List.range n, rfl, ln6, hb6, by decide, by rw [List.length_range]; omega, aln, fun u hu hw H7 k7 ln7 => ?_, fun hno => ?_⟩
        · have ef : fnd (List.range n) ws[1]? = some u := by
            cases ef : fnd (List.range n) ws[1]? with
            | none => exact absurd hw (fnd_none ef u hu)
            | some m => rw [fnd_one ef aln hu hw]
          simp only [ef] at q1 q2 hR
          have hun := List.mem_range.mp hu
          have sm7 := kx_same sm6 nx k7
          obtain ⟨dx6, fs6, bw6, g1, _⟩ := id ln6
          have hL7 := hL6.kx k7 g1
          clear g1 ln6 hL6 hb6 hL5 hL4 hL sm5 sm4 sm ef hw k7
          obtain ⟨dx, fs, bw, h1, h2, h3, h4, h5, h6, h7⟩ := id ln7
          have er : rgV (u : Int) (n : Int) = NV ((List.range (n - u)).map fun i => u + i) := by
            rw [show (n : Int) = (u : Int) + ((n - u : Nat) : Int) by omega]
            exact rgV_at u (n - u)
          refine ⟨_, rfl, x, dx, fs, rfl, h1, h5 _ (by decide +kernel), _, rfl, _, rfl, _, _, rfl, rfl, RgOk.of_le (by omega) (by omega) (by omega) (by omega), fun b nb => ?_⟩
          rw [er]
          have sm8 := sm7.trans (same_upd (o := .lst (NV ((List.range (n - u)).map fun i => u + i))) nb)
          have ln8 := ln7.same (same_upd (o := .lst (NV ((List.range (n - u)).map fun i => u + i))) nb)
          have hL8 := hL7.same (same_upd (o := .lst (NV ((List.range (n - u)).map fun i => u + i))) nb)
          have hb8 : upd H7 b (.lst (NV ((List.range (n - u)).map fun i => u + i))) b = some (.lst (NV ((List.range (n - u)).map fun i => u + i))) := upd_same
          generalize upd H7 b (.lst (NV ((List.range (n - u)).map fun i => u + i))) = H8 at *
          clear h1 h2 h3 h4 h5 h6 h7
          have alv : ∀ m ∈ (List.range (n - u)).map fun i => u + i, m ≤ 16 := fun m hm => by
            obtain ⟨i, hi, rfl⟩ := List.mem_map.mp hm
            have := List.mem_range.mp hi
            omega
          refine ⟨x, b, _, 2, ws, _, rfl, ln8, hb8, by decide, by rw [List.length_map, List.length_range]; omega, alv, fun v hv hw H9 k9 ln9 => ?_, fun hno => ?_⟩
          · have ef : fnd ((List.range (n - u)).map fun i => u + i) ws[2]? = some v := by
              cases ef : fnd ((List.range (n - u)).map fun i => u + i) ws[2]? with
              | none => exact absurd hw (fnd_none ef v hv)
              | some m => rw [fnd_one ef alv hv hw]
            simp only [ef] at q1 q2 hR
            have hvn : u ≤ v ∧ v < n := by
              obtain ⟨i, hi, rfl⟩ := List.mem_map.mp hv
              have := List.mem_range.mp hi
              omega
            have sm9 := kx_same sm8 nx k9
            obtain ⟨dx6, fs6, bw6, g1, _⟩ := id ln8
            have hL9 := hL8.kx k9 g1
            clear g1 ln8 hL8 hb8 sm8 sm7 hL7 ef hw k9
            obtain ⟨dx, fs, bw, h1, h2, h3, h4, h5, h6, h7⟩ := id ln9
            refine ⟨_, rfl, x, dx, fs, rfl, h1, h5 _ (by decide +kernel), x, _, 3, ws, rfl, ln9, fun le => ?_, fun gt => ?_⟩
            · simp only [if_pos le] at q1 q2 hR
              obtain ⟨ks, k1, k2, k3⟩ := hL9
              refine ⟨_, rfl, .inl ⟨rfl, _, sl_of k1⟩, _, rfl, _, rfl, by show 2 ≤ sizeLine; decide, fun r nr => ?_⟩
              have sA := same_upd (o := .tup [V.int (u : Int), V.int (v : Int)]) nr
              have hrA : Tp (upd H9 r (.tup [V.int (u : Int), V.int (v : Int)])) r (pl (u, v)) := upd_same
              generalize upd H9 r (.tup [V.int (u : Int), V.int (v : Int)]) = HA at *
              have kl := ed_len k2
              refine ⟨l, _, _, rfl, rfl, sA _ _ k1, by rw [nv_len, kl]; exact small1000 (by omega), ?_⟩
              have smB : Same H (upd HA l (.lst ((ks.map fun k => V.ref k.1) ++ [V.ref r]))) := same_in (sm9.trans sA) nl
              have hLB : EdL (upd HA l (.lst ((ks.map fun k => V.ref k.1) ++ [V.ref r]))) l (es ++ [(u, v)]) := edl_snoc k2 (fun k hk => sA _ _ (k3 k hk)) hrA (sA _ _ k1)
              generalize upd HA l (.lst ((ks.map fun k => V.ref k.1) ++ [V.ref r])) = HB at *
              clear h1 h2 h3 h4 h5 h6 h7 ln9 k1 k2 k3 sA hrA kl nr ln7 ln5 hws sm9
              obtain ⟨js, j1, j2, j3⟩ := id hLB
              refine ⟨_, rfl, _, rfl, l, _, rfl, .inl (sl_of j1), _, _, rfl, rfl, ?_⟩
              rw [nv_len, ed_len j2]
              have el : (es ++ [(u, v)]).length = es.length + 1 := by rw [List.length_append, List.length_singleton]
              have ve' : VE n (es ++ [(u, v)]) := VE.app ve fun e he => by
                obtain rfl := List.mem_singleton.mp he
                exact hvn
              have cs : (((es ++ [(u, v)]).length : Nat) : Int) + 2 = (((es ++ [(u, v)]).length + 2 : Nat) : Int) := rfl
              have gg : g = 17 - (es ++ [(u, v)]).length := by rw [el]; omega
              have gp : ∃ g', g = g' + 1 := ⟨15 - es.length, by omega⟩
              have R0 : (Str.ofString "") ∈ wdsAt ls ((es ++ [(u, v)]).length + 2) → rdPs n ls g (es ++ [(u, v)]) = .inl ((es ++ [(u, v)]).length + 2, 0) := fun m => by
                obtain ⟨g', rfl⟩ := gp
                unfold rdPs rdHead
                rw [if_pos m]
              refine line_itZ cs (ha.same smB) (by omega) (fun ne H2 y s2 ny ln => ?_) (fun m => (q2 _ 0 (R0 m)).back smB)
              refine ⟨es ++ [(u, v)], y, _, _, el, rfl, smB.trans s2, hLB.same s2, smB.free ny, ln, ne, ve', by rw [el]; omega, ?_⟩
              rw [← gg]
              exact hR
            · simp only [if_neg (by omega : ¬ ws.length ≤ 3)] at q2
              exact (q2 _ _ rfl).at sm9 nx
          · have ef : fnd ((List.range (n - u)).map fun i => u + i) ws[2]? = none := by
              cases ef : fnd ((List.range (n - u)).map fun i => u + i) ws[2]? with
              | none => rfl
              | some m => exact absurd (fnd_some ef).2 (hno m (fnd_some ef).1)
            simp only [ef] at q2
            exact (q2 _ _ rfl).at sm8 nx
        · have ef : fnd (List.range n) ws[1]? = none := by
            cases ef : fnd (List.range n) ws[1]? with
            | none => rfl
            | some m => exact absurd (fnd_some ef).2 (hno m (fnd_some ef).1)
          simp only [ef] at q2
          exact (q2 _ _ rfl).at sm6 nx
      · rw [show decide (V.str (Str.ofString "walk") = V.str "passage") = false from by decide +kernel]
        have dt : decide (Str.ofString "walk" = Str.ofString "passage") = false := decide_eq_false walk_ne
        simp only [dt] at q1
        obtain ⟨ks, k1, k2, k3⟩ := id hL5
        refine iteF ⟨_, rfl, l, _, rfl, .inl ⟨sl_of k1, fun v nv => ?_⟩⟩
        have s6 := same_upd (o := .tup (ks.map fun k => V.ref k.1)) nv
        have ev := edl_tup k2 k3 nv
        generalize upd H5 v (.tup (ks.map fun k => V.ref k.1)) = H6 at *
        refine ⟨_, rfl, by show 2 ≤ sizeLine; decide, fun r nr => ?_⟩
        have s7 := s6.trans (same_upd (o := .tup [V.ref v, .ref x]) nr)
        exact q1 es rfl _ r v x (sm5.trans s7) upd_same (ev.same (same_upd nr)) ve hl cb nx (hws ▸ (ln5.same s7))
    · have e2 : (match ws[0]? with
      | none => (.inl 1 : Nat ⊕ Bool)
      | some wd => if wd ∈ fw n es then .inr (decide (wd = Str.ofString "passage")) else .inl 1) = .inl 1 := by
        cases e : ws[0]? with
        | none => rfl
        | some wd => exact if_neg (hno wd e)
      simp only [e2] at q2
      exact (q2 _ _ rfl).at sm4 nx
end
end Hw

namespace Hw
open PySem PySem.Spec PyProof.Rows L2 ClX
section
variable {P : Program} {w : World} {K : PySem.W.Frag} {mg : Str → Option Value} {base : Heap}
/-! ### far_end, of a passage and one of its ends -/
def spFar (C : Addr) : Sp := fun vs H Q _ => ∃ (x : Addr) (n : Nat) (es : List Ed) (i p : Nat), vs = [.ref x, .int (i : Int), .int (p : Int)] ∧ NetAt5 C H x n es ∧ i ∈ drs es p ∧ Q (.int ((oth (es.getD i (0, 0)) p : Nat) : Int)) H
abbrev nFa : List Str := ["self", "passage", "place"]
theorem scFar : FnScope nFa ["self", "passage", "place"] (defScope sFarEnd) := ⟨rfl, rfl, rfl, by decide +kernel, rfl, by decide +kernel, by decide +kernel⟩
theorem mc_far {C : Addr} {mc : Value} (T : Txt mg) (N : NetC K mg C mc) (GI : Cal P w K mg base "is_index" 2 spIndex) (GW : Cal P w K mg base "is_whole" 1 spWhole) (GA : MC P w K mg base CX0 C "_across" 1 (spAcross C))
    (D : Dm K C "far_end" "Network.far_end" sFarEnd ["self", "passage", "place"]) : MC P w K mg base CX0 C "far_end" 3 (spFar C) := by
  have nd := scFar.nd
  refine mc_of D scFar (fun vs H Q E h => ?_) (fun f cdv A outer s0 H vs Q E hr h => ?_)
  · obtain ⟨x, n, es, i, p, rfl, _⟩ := h
    rfl
  · obtain ⟨x, n, es, i, p, rfl, net, hi, q⟩ := h
    have hr1 := hr.mono (show 1 ≤ 2 by decide)
    refine ⟨_, pss_cons (ps_if (pt_not (pt_val (pe_cl GI hr (by rfl) (pa_cons (pv 1) (pa_cons (pe_callB cr_len (by rfl) T.len PySem.boot_len (pa_cons (pe_fld (pv 0) rfl) pa_nil)) pa_nil))))) (pss_one ps_never) pss_nil)
      <| pss_cons (ps_if (PW.pt (pw_or (pt_not (pt_val (pe_cl GW hr1 (by rfl) (pa_cons (pv 2) pa_nil)))) (pw_or1 (pt_cmpR (r := rIn K true) op_notIn_seq (pv 2) (pe_ix (r := rIxT K) ix_tup (pe_fld (pv 0) rfl) (pv 1) (fun _ _ => rfl)) (by rfl))))) (pss_one ps_never) pss_nil)
      <| pss_one (ps_ret (pe_m GA N.cl hr1 (pv 0) (pa_cons (pv 1) (pa_cons (pv 2) pa_nil)))), ?_⟩
    obtain ⟨dx, fs, a, e, h1, h2, h3, h4, h5, ⟨ks, k1, k2, k3⟩, h7⟩ := id net
    obtain ⟨il, im⟩ := mem_drs.mp hi
    have kl := ed_len k2
    have hk : i < ks.length := by rw [kl]; exact il
    obtain ⟨k, hki⟩ : ∃ k, ks[i]? = some k := ⟨ks[i], List.getElem?_eq_getElem hk⟩
    obtain ⟨e', he', ek⟩ := ed_get k2 hki
    have tk := k3 k (List.mem_of_getElem? hki)
    rw [ek] at tk
    have at1 : atI (ks.map fun k => V.ref k.1) ((i : Nat) : Int) = some (.ref k.1) := atI_nat (by rw [List.getElem?_map, hki]; rfl)
    refine ⟨_, rfl, _, rfl, x, C, dx, fs, _, rfl, h1, N.cl, N.n2, h3, a, _, rfl, .inr (sq_of k1), _, _, rfl, ?_⟩
    rw [nv_len, kl]
    refine ⟨_, rfl, ?_⟩
    rw [show decide ((0 : Int) ≤ (i : Int) ∧ (i : Int) < (es.length : Int)) = true from decide_eq_true ⟨by omega, by omega⟩]
    refine iteF ?_
    refine ⟨_, rfl, _, rfl, ⟨_, rfl, iteF ?_⟩⟩
    refine ⟨_, rfl, _, rfl, x, C, dx, fs, _, rfl, h1, N.cl, N.n2, h3, _, rfl, a, _, _, _, rfl, rfl, sq_of k1, at1, k.1, _, rfl, .inr (sq_of tk), rfl, flat_NV _, _, rfl, ?_⟩
    rw [inV_NV, show decide (p ∈ pl e') = true from decide_eq_true (by rw [getD_of he'] at im; exact im)]
    refine iteF ?_
    exact ⟨_, rfl, x, dx, fs, rfl, h1, h5 _ (by decide +kernel), _, rfl, _, rfl, x, n, es, i, p, rfl, net, il, q⟩
end
/-! ### o.m(k = v, ..) -/
def tMethK (C : Addr) (m : Str) (sp : Sp) (gV : List V → List V → List V) (j : Nat) (E : XK) (ta : TE) (tk : TA) : TE := fun σ H Q => ta σ H fun x H1 => ∃ a dx fs, x = .ref a ∧ H1 a = some (.ins C dx fs) ∧ fs.lookup m = none ∧ tk σ H1 fun zs H2 => zs.length = j ∧ sp (gV [x] zs) H2 Q E
theorem pe_methK {X : Cx} {CX : CXT} {k : Nat} {C f : Addr} {fd : FuncData} {ps ks : List Str} {m : Str} {sp : Sp} {E : XK} {o : Expr} {kws : List Keyword} {ta : TE} {tk : TA} {apos pos : Pos} {pl : Sem Bool} {g : List Value → List Value → List Value} {gV : List V → List V → List V}
    (he : PE X o ta) (c : Cls X.K C) (hm : Meth X.K C m f) (F : FnOk X.prog X.w X.K X.mg X.base CX k f fd ps sp) (hr : Room k X.A) (hb : KBn X.K fd ps 1 ks g gV) (hx : Passes CX X E) (hkw : PK X kws tk)
    (hall : (backToKw pos (keywordEach kws X.env)).all (·.1.isSome) = true := by rfl) (hks : (backToKw pos (keywordEach kws X.env)).filterMap (·.1) = ks := by rfl)
    (hpl : ((backTo pos (starEach [] X.env)).any (·.1) || (backToKw pos (keywordEach kws X.env)).any (·.1.isNone)) = false := by rfl)
    (ht : eval (.Call (.Attribute o m apos) [] kws pos) X.env = (do let ov ← eval o X.env; standAt apos.atName; let (f, first) ← holding [ov] (getMethod ov m pl); callWith pos f first (backTo pos (starEach [] X.env)) (backToKw pos (keywordEach kws X.env))) := by rfl) :
    PE X (.Call (.Attribute o m apos) [] kws pos) (tMethK C m sp gV ks.length E ta tk) := by
  refine ⟨fun pins s σ H Q I h => ?_⟩
  refine PySem.W.methodCall_KW (pl := pl) (thn (he.run pins s σ H _ I h) fun u s1 ⟨x, H1, I1, rx, a, dx, fs, ex, ea, l, q⟩ => ?_) ht
  subst ex
  obtain rfl : u = Value.ref a := rx
  refine getmeth_ok I1 ea c hm l ?_
  refine PySem.W.callWith_KW0 (first := [.ref a]) (h₀ := X.base) I.ok.mod.kin hm.kp hall ?_ hpl
  refine thn (hkw.run pos pins s1 σ H1 _ I1 q) fun ws s2 ⟨zs, H2, I2, rz, l2, q2⟩ => ⟨I2.kIn, ?_⟩
  rw [hks]
  have r1 : Vals [V.ref a] [Value.ref a] := .cons rfl .nil
  have r2 := hb.rel r1 rz
  refine wpAny_call (codeAny_mono (F.run X.A X.stack s2 H2 ⟨[.ref a], ks.zip ws⟩ (g [.ref a] ws) (gV [V.ref a] zs) Q E hr I2.env0 (hb.to s2 [.ref a] ws I2.kIn rfl (rz.length.symm.trans l2)) r2 q2) fun r s' hq => ?_)
  cases r with
  | error e => exact hx pins σ H2 s2 e s' I2 hq
  | ok fl =>
    cases fl with
    | ret u => exact I2.after hq
    | next => exact False.elim hq
    | brk => exact False.elim hq
    | cont => exact False.elim hq
end Hw

namespace Hw
open PySem PySem.Spec PyProof.Rows L2 ClX
theorem inV_int (j : Int) (ks : List Nat) : inV (.int j) (NV ks) = decide (j ∈ ks.map fun k : Nat => (k : Int)) := by
  induction ks with
  | nil => rfl
  | cons k ks ih =>
    have e1 : inV (.int j) (NV (k :: ks)) = (((k : Int) == j) || inV (.int j) (NV ks)) := rfl
    rw [e1, ih]
    by_cases h : (k : Int) = j
    · subst h; simp
    · have h' : ¬ j = (k : Int) := fun z => h z.symm
      have b : ((k : Int) == j) = false := beq_eq_false_iff_ne.mpr h
      rw [b, Bool.false_or]
      simp [h']
section
variable {P : Program} {w : World} {K : PySem.W.Frag} {mg : Str → Option Value} {base : Heap}
/-! ### far_end, of any values -/
def spFarE (K : PySem.W.Frag) (C CP CG : Addr) : Sp := fun vs H Q E => ∃ (x : Addr) (v1 v2 : V) (n : Nat) (es : List Ed), vs = [.ref x, v1, v2] ∧ NetAt5 C H x n es ∧
  ((∃ i p : Nat, v1 = .int (i : Int) ∧ v2 = .int (p : Int) ∧ i ∈ drs es p ∧ Q (.int ((oth (es.getD i (0, 0)) p : Nat) : Int)) H) ∨
   (BadV K H es.length v1 ∧ ∀ d, H d = none → E (.ref CG) (some d) (upd H d (.xd [("value", v1)]))) ∨
   (∃ i : Nat, v1 = .int (i : Int) ∧ i < es.length ∧ ((∃ j : Int, v2 = .int j ∧ j ∉ (pl (es.getD i (0, 0))).map fun k : Nat => (k : Int)) ∨ OddV K H v2) ∧ ∀ d, H d = none → E (.ref CP) (some d) (upd H d (.xd [("value", v2)]))))
theorem mf_farE {C CP CG : Addr} {mc : Value} (T : Txt mg) (N : NetC K mg C mc) (XP : Xc1 P w K mg base "InvalidPlace" CP "value") (XG : Xc1 P w K mg base "InvalidPassage" CG "value") (GI : Cal P w K mg base "is_index" 2 (spIndex5 K)) (GW : Cal P w K mg base "is_whole" 1 (spWhole5 K)) (GA : MC P w K mg base CX0 C "_across" 1 (spAcross C))
    (D : Dm K C "far_end" "Network.far_end" sFarEnd ["self", "passage", "place"]) : MF P w K mg base (L2.CX P w) C "far_end" "Network.far_end" sFarEnd ["self", "passage", "place"] 3 (spFarE K C CP CG) := by
  have nd := scFar.nd
  refine mf_ofX D scFar (fun vs H Q E h => ?_) (fun f cdv A outer s0 H vs Q E hr h => ?_)
  · obtain ⟨x, v1, v2, n, es, rfl, _⟩ := h
    rfl
  · obtain ⟨x, v1, v2, n, es, rfl, net, q⟩ := h
    have hr1 := hr.mono (show 1 ≤ 2 by decide)
    have tk : Takes (cxOf (L2.CX P w) P w K mg base nFa "Network.far_end" (defScope sFarEnd) f cdv A outer s0 H E) (fun cls d _ H => E cls d H) := takes_of rfl rfl rfl rfl
    refine ⟨_, pss_cons (ps_if (pt_not (pt_val (pe_cl GI hr (by rfl) (pa_cons (pv 1) (pa_cons (pe_callB cr_len (by rfl) T.len PySem.boot_len (pa_cons (pe_fld (pv 0) rfl) pa_nil)) pa_nil))))) (pss_one (ps_raise (W := fun cls d _ H => E cls d H) rfl tk (pmk_x1 XG hr (by rfl) (pv 1)))) pss_nil)
      <| pss_cons (ps_if (PW.pt (pw_or (pt_not (pt_val (pe_cl GW hr1 (by rfl) (pa_cons (pv 2) pa_nil)))) (pw_or1 (pt_cmpR (r := rIn K true) op_notIn_seq (pv 2) (pe_ix (r := rIxT K) ix_tup (pe_fld (pv 0) rfl) (pv 1) (fun _ _ => rfl)) (by rfl))))) (pss_one (ps_raise (W := fun cls d _ H => E cls d H) rfl tk (pmk_x1 XP hr (by rfl) (pv 2)))) pss_nil)
      <| pss_one (ps_ret (pe_m GA N.cl hr1 (pv 0) (pa_cons (pv 1) (pa_cons (pv 2) pa_nil)))), ?_⟩
    obtain ⟨dx, fs, a, e, h1, h2, h3, h4, h5, ⟨ks, k1, k2, k3⟩, h7⟩ := id net
    have kl := ed_len k2
    refine ⟨_, rfl, _, rfl, x, C, dx, fs, _, rfl, h1, N.cl, N.n2, h3, a, _, rfl, .inr (sq_of k1), v1, _, rfl, ?_⟩
    rw [nv_len, kl]
    have valid : ∀ i : Nat, i < es.length → ∃ k e', es[i]? = some e' ∧ atI (ks.map fun k => V.ref k.1) ((i : Nat) : Int) = some (.ref k) ∧ Tp H k (pl e') := fun i hi => by
      obtain ⟨k, hki⟩ : ∃ k, ks[i]? = some k := ⟨ks[i]'(by omega), List.getElem?_eq_getElem (by omega)⟩
      obtain ⟨e', he', ek⟩ := ed_get k2 hki
      have t := k3 k (List.mem_of_getElem? hki)
      rw [ek] at t
      exact ⟨k.1, e', he', atI_nat (by rw [List.getElem?_map, hki]; rfl), t⟩
    rcases q with ⟨i, p, rfl, rfl, hi, q⟩ | ⟨bad, q⟩ | ⟨i, rfl, hi, v2c, q⟩
    · obtain ⟨il, im⟩ := mem_drs.mp hi
      obtain ⟨k, e', he', at1, t⟩ := valid i il
      refine .inl ⟨_, rfl, _, rfl, ?_⟩
      rw [show decide ((0 : Int) ≤ (i : Int) ∧ (i : Int) < (es.length : Int)) = true from decide_eq_true ⟨by omega, by omega⟩]
      refine iteF ?_
      refine ⟨_, rfl, _, rfl, .inl ⟨_, rfl, _, rfl, iteF ?_⟩⟩
      refine ⟨_, rfl, _, rfl, x, C, dx, fs, _, rfl, h1, N.cl, N.n2, h3, _, rfl, a, _, _, _, rfl, rfl, sq_of k1, at1, k, _, rfl, .inr (sq_of t), rfl, flat_NV _, _, rfl, ?_⟩
      rw [inV_NV, show decide (p ∈ pl e') = true from decide_eq_true (by rw [getD_of he'] at im; exact im)]
      refine iteF ?_
      exact ⟨_, rfl, x, dx, fs, rfl, h1, h5 _ (by decide +kernel), _, rfl, _, rfl, x, n, es, i, p, rfl, net, il, q⟩
    · rcases bad with ⟨i, rfl, hi⟩ | odd
      · refine .inl ⟨_, rfl, _, rfl, ?_⟩
        rw [show decide ((0 : Int) ≤ i ∧ i < (es.length : Int)) = false from decide_eq_false hi]
        exact iteT ⟨_, rfl, mk1_ok q⟩
      · exact .inr ⟨odd, _, rfl, iteT ⟨_, rfl, mk1_ok q⟩⟩
    · obtain ⟨k, e', he', at1, t⟩ := valid i hi
      refine .inl ⟨_, rfl, _, rfl, ?_⟩
      rw [show decide ((0 : Int) ≤ (i : Int) ∧ (i : Int) < (es.length : Int)) = true from decide_eq_true ⟨by omega, by omega⟩]
      refine iteF ?_
      rcases v2c with ⟨j, rfl, hj⟩ | odd
      · refine ⟨_, rfl, _, rfl, .inl ⟨_, rfl, _, rfl, iteF ?_⟩⟩
        refine ⟨_, rfl, _, rfl, x, C, dx, fs, _, rfl, h1, N.cl, N.n2, h3, _, rfl, a, _, _, _, rfl, rfl, sq_of k1, at1, k, _, rfl, .inr (sq_of t), rfl, flat_NV _, _, rfl, ?_⟩
        rw [inV_int, decide_eq_false (by rw [getD_of he'] at hj; exact hj)]
        exact iteT ⟨_, rfl, mk1_ok q⟩
      · exact ⟨_, rfl, _, rfl, .inr ⟨odd, _, rfl, iteT (iteT ⟨_, rfl, mk1_ok q⟩)⟩⟩
/-! ### passages_at, of any value -/
abbrev sPaAt : Stmt := inClass sNetwork 12
def spPaAt (K : PySem.W.Frag) (C CP : Addr) : Sp := fun vs H Q E => ∃ (x : Addr) (v : V) (n : Nat) (es : List Ed), vs = [.ref x, v] ∧ NetAt5 C H x n es ∧
  ((∃ p : Nat, v = .int (p : Int) ∧ p < n ∧ ∀ r, Tp H r (drs es p) → Q (.ref r) H) ∨ (BadV K H n v ∧ ∀ d, H d = none → E (.ref CP) (some d) (upd H d (.xd [("value", v)]))))
theorem scPaAt : FnScope ["self", "place"] ["self", "place"] (defScope sPaAt) := ⟨rfl, rfl, rfl, by decide +kernel, rfl, by decide +kernel, by decide +kernel⟩
theorem mf_paAt {C CP : Addr} {mc : Value} (T : Txt mg) (N : NetC K mg C mc) (GC : MC P w K mg base (L2.CX P w) C "_check_place" 3 (spCheck K C CP)) (D : Dm K C "passages_at" "Network.passages_at" sPaAt ["self", "place"]) :
    MF P w K mg base (L2.CX P w) C "passages_at" "Network.passages_at" sPaAt ["self", "place"] 4 (spPaAt K C CP) := by
  have nd := scPaAt.nd
  refine mf_ofX D scPaAt (fun vs H Q E h => ?_) (fun f cdv A outer s0 H vs Q E hr h => ?_)
  · obtain ⟨x, v, n, es, rfl, _⟩ := h
    rfl
  · obtain ⟨x, v, n, es, rfl, net, q⟩ := h
    have tk : Takes (cxOf (L2.CX P w) P w K mg base ["self", "place"] "Network.passages_at" (defScope sPaAt) f cdv A outer s0 H E) (fun cls d _ H => E cls d H) := takes_of rfl rfl rfl rfl
    refine ⟨_, pss_cons (ps_expr (pe_mX (E := E) GC N.cl hr tk (fun _ _ _ _ z => z) (pv 0) (pa_cons (pv 1) pa_nil)))
      <| pss_one (ps_ret (pe_ix (r := rIxT K) ix_tup (pe_fld (pv 0) rfl) (pv 1) (fun _ _ => rfl))), ?_⟩
    obtain ⟨dx, fs, a, e, h1, h2, h3, h4, h5, h6, h7⟩ := id net
    refine ⟨_, rfl, x, dx, fs, rfl, h1, h5 _ (by decide +kernel), _, rfl, x, v, n, es, rfl, net, ?_⟩
    rcases q with ⟨p, rfl, hp, q⟩ | ⟨bad, q⟩
    · refine .inl ⟨p, rfl, hp, ?_⟩
      obtain ⟨ks, b, g1, g2, g3⟩ := cs_at h7 hp
      exact ⟨_, rfl, x, C, dx, fs, _, rfl, h1, N.cl, N.n6, h4, _, rfl, e, _, _, _, rfl, rfl, sq_of g1, g2, q b g3⟩
    · exact .inr ⟨bad, q⟩
end
end Hw

/-! Steps: what they do to the things. No Python here. -/
namespace Hw
/-- what a step through passage e makes of the things -/
def swp (xs : List Nat) (e : Nat) : List Nat := (xs.set e (ap xs (xs.length - 1))).set (xs.length - 1) (ap xs e)
theorem swp_len (xs : List Nat) (e : Nat) : (swp xs e).length = xs.length := by unfold swp; rw [List.length_set, List.length_set]
/-- where what stands at i behind the step came from -/
def swi (l e i : Nat) : Nat := if i = l then e else if i = e then l else i
theorem swi_swi {l e i : Nat} : swi l e (swi l e i) = i := by
  unfold swi
  split <;> split <;> (try split) <;> omega
theorem swi_lt {l e i n : Nat} (hl : l < n) (he : e < n) (hi : i < n) : swi l e i < n := by
  unfold swi
  split
  · exact he
  · split
    · exact hl
    · exact hi
theorem swp_ap {xs : List Nat} {e i : Nat} (he : e < xs.length) (hi : i < xs.length) : ap (swp xs e) i = ap xs (swi (xs.length - 1) e i) := by
  unfold swi
  by_cases h1 : i = xs.length - 1
  · rw [if_pos h1]
    unfold ap swp
    rw [List.getD_eq_getElem?_getD, List.getElem?_set]
    simp [h1, List.length_set]
    rw [if_pos (by omega)]
    unfold ap
    rw [List.getD_eq_getElem?_getD]
    rfl
  · rw [if_neg h1]
    have h1' : ¬ xs.length - 1 = i := fun z => h1 z.symm
    by_cases h2 : i = e
    · subst h2
      rw [if_pos rfl]
      unfold ap swp
      rw [List.getD_eq_getElem?_getD, List.getElem?_set, if_neg h1', List.getElem?_set, if_pos rfl, if_pos he]
      rfl
    · rw [if_neg h2]
      have h2' : ¬ e = i := fun z => h2 z.symm
      unfold ap swp
      rw [List.getD_eq_getElem?_getD, List.getElem?_set, if_neg h1', List.getElem?_set, if_neg h2', List.getD_eq_getElem?_getD]
theorem swp_swp {xs : List Nat} {e : Nat} (he : e < xs.length) : swp (swp xs e) e = xs := by
  refine ext_ap (by rw [swp_len, swp_len]) fun i hi => ?_
  rw [swp_len, swp_len] at hi
  rw [swp_ap (by rw [swp_len]; exact he) (by rw [swp_len]; exact hi), swp_len, swp_ap he (swi_lt (by omega) he hi), swi_swi]
theorem isP_swp {xs : List Nat} {e : Nat} (h : IsP xs) (he : e < xs.length) : IsP (swp xs e) := by
  have get : ∀ {i} (hi : i < (swp xs e).length), (swp xs e)[i] = ap (swp xs e) i := fun {i} hi => by
    have := ap_get hi
    rw [List.getElem?_eq_getElem hi] at this
    exact Option.some.inj this
  have get0 : ∀ {i} (hi : i < xs.length), xs[i] = ap xs i := fun {i} hi => by
    have := ap_get hi
    rw [List.getElem?_eq_getElem hi] at this
    exact Option.some.inj this
  have inj : ∀ {i j}, i < xs.length → j < xs.length → ap xs i = ap xs j → i = j := fun {i j} hi hj q => by
    rw [← get0 hi, ← get0 hj] at q
    exact (List.getElem_inj h.1).mp q
  refine ⟨?_, fun x hx => ?_⟩
  · rw [List.nodup_iff_pairwise_ne, List.pairwise_iff_getElem]
    intro i j hi hj hij q
    rw [get hi, get hj] at q
    rw [swp_len] at hi hj
    rw [swp_ap he hi, swp_ap he hj] at q
    have z := inj (swi_lt (by omega) he hi) (swi_lt (by omega) he hj) q
    have z2 := congrArg (swi (xs.length - 1) e) z
    rw [swi_swi, swi_swi] at z2
    omega
  · obtain ⟨i, hi, rfl⟩ := List.mem_iff_getElem.mp hx
    rw [get hi]
    rw [swp_len] at hi ⊢
    rw [swp_ap he hi]
    exact ap_lt h (swi_lt (by omega) he hi)
/-- a state: the walker's place, the things -/
abbrev Sta := Nat × List Nat
def stpS (es : List Ed) (s : Sta) (e : Nat) : Sta := (oth (es.getD e (0, 0)) s.1, swp s.2 e)
def runS (es : List Ed) (s : Sta) (ks : List Nat) : Sta := ks.foldl (stpS es) s
/-- the steps can be taken one after the other -/
def Wlk (es : List Ed) : Nat → List Nat → Prop
  | _, [] => True
  | p, e :: ks => e ∈ drs es p ∧ Wlk es (oth (es.getD e (0, 0)) p) ks
def IsS (n m : Nat) (s : Sta) : Prop := s.1 < n ∧ IsP s.2 ∧ s.2.length = m + 1
theorem oth_lt {n : Nat} {es : List Ed} {p e : Nat} (h : VE n es) (he : e ∈ drs es p) : oth (es.getD e (0, 0)) p < n := by
  obtain ⟨hi, hm⟩ := mem_drs.mp he
  have := h _ (List.getElem_mem hi)
  rw [List.getD_eq_getElem?_getD, List.getElem?_eq_getElem hi] at hm ⊢
  simp only [Option.getD_some] at hm ⊢
  unfold oth
  split
  · exact this.2
  · omega
theorem stpS_is {n : Nat} {es : List Ed} {s : Sta} {e : Nat} (h : VE n es) (i : IsS n es.length s) (he : e ∈ drs es s.1) : IsS n es.length (stpS es s e) := by
  have hl := (mem_drs.mp he).1
  exact ⟨oth_lt h he, isP_swp i.2.1 (by rw [i.2.2]; omega), by show (swp s.2 e).length = _; rw [swp_len]; exact i.2.2⟩
theorem runS_snoc (es : List Ed) (s : Sta) (ks : List Nat) (e : Nat) : runS es s (ks ++ [e]) = stpS es (runS es s ks) e := by unfold runS; rw [List.foldl_append]; rfl
theorem runS_app (es : List Ed) (s : Sta) (ks ls : List Nat) : runS es s (ks ++ ls) = runS es (runS es s ks) ls := by unfold runS; rw [List.foldl_append]
/-- the place alone -/
def plcS (es : List Ed) (p : Nat) (ks : List Nat) : Nat := ks.foldl (fun q e => oth (es.getD e (0, 0)) q) p
theorem runS_fst (es : List Ed) : ∀ (ks : List Nat) (s : Sta), (runS es s ks).1 = plcS es s.1 ks
  | [], _ => rfl
  | e :: ks, s => runS_fst es ks (stpS es s e)
theorem wlk_app {es : List Ed} : ∀ {ks : List Nat} {p : Nat} {ls : List Nat}, Wlk es p (ks ++ ls) ↔ Wlk es p ks ∧ Wlk es (plcS es p ks) ls
  | [], p, ls => by simp [Wlk, plcS]
  | e :: ks, p, ls => by
    show (e ∈ drs es p ∧ Wlk es _ (ks ++ ls)) ↔ (e ∈ drs es p ∧ Wlk es _ ks) ∧ Wlk es (plcS es _ ks) ls
    rw [wlk_app, and_assoc]
theorem wlk_get {es : List Ed} {ks : List Nat} {p i e : Nat} (h : Wlk es p ks) (hi : ks[i]? = some e) : e ∈ drs es (plcS es p (ks.take i)) := by
  have hlt := (List.getElem?_eq_some_iff.mp hi).1
  have e1 : ks = ks.take i ++ e :: ks.drop (i + 1) := by
    conv => lhs; rw [← List.take_append_drop i ks]
    rw [List.drop_eq_getElem_cons hlt, (List.getElem?_eq_some_iff.mp hi).2]
  rw [e1, wlk_app] at h
  exact h.2.1
theorem runS_is {n : Nat} {es : List Ed} (h : VE n es) : ∀ {ks : List Nat} {s : Sta}, IsS n es.length s → Wlk es s.1 ks → IsS n es.length (runS es s ks)
  | [], _, i, _ => i
  | _ :: ks, _, i, w => runS_is h (ks := ks) (stpS_is h i w.1) w.2
end Hw

namespace Hw
open PySem PySem.Spec PyProof.Rows L2 ClX
/-- the steps that the words write -/
def rdSt (es : List Ed) : List Str → Nat → Nat → List Nat → Nat ⊕ List Nat
  | [], _, _, acc => .inr acc
  | w :: r, p, c, acc => match fnd (drs es p) (some w) with
    | none => .inl (c + 1)
    | some e => rdSt es r (oth (es.getD e (0, 0)) p) (c + 1) (acc ++ [e])
theorem NetAt5.kx {C CL x y dx : Addr} {fs : List (Str × V)} {H H' : Hp} {n : Nat} {es : List Ed} (h : NetAt5 C H y n es) (k : Kx x H H') (hx : H x = some (.ins CL dx fs)) (ne : y ≠ x) : NetAt5 C H' y n es := by
  obtain ⟨dx, fs, a, e, h1, h2, h3, h4, h5, h6, h7⟩ := h
  exact ⟨dx, fs, a, e, k _ _ ne h1, h2, h3, h4, h5, h6.kx k hx, h7.kx k hx⟩
section
variable {P : Program} {w : World} {K : PySem.W.Frag} {mg : Str → Option Value} {base : Heap}
def spRSt (C CL CE : Addr) : Sp := fun vs H Q E => ∃ (x y : Addr) (n k : Nat) (es : List Ed) (ws : List Str), vs = [.ref x, .ref y, .int 1000] ∧ LnAt CL H x k ws 1 ∧ NetAt5 C H y n es ∧ y ≠ x ∧ VE n es ∧ 1 ≤ n ∧ n ≤ 12 ∧ es.length ≤ 16 ∧ ws.length ≤ 1000 ∧
  (∀ ks, rdSt es (ws.drop 1) 0 1 [] = .inr ks → ∀ H' r, Kx x H H' → Tp H' r ks → Q (.ref r) H') ∧ (∀ w, rdSt es (ws.drop 1) 0 1 [] = .inl w → PErr CE E x H k w)
abbrev nRst : List Str := ["line", "network", "most_steps", "steps", "place", "step"]
theorem scRst : FnScope nRst ["line", "network", "most_steps"] (defScope sReadSteps) := ⟨rfl, rfl, rfl, by decide +kernel, rfl, by decide +kernel, by decide +kernel⟩
theorem PErr.kx {CE x : Addr} {E : XK} {H H1 : Hp} {l w : Nat} (p : PErr CE E x H l w) (k : Kx x H H1) : PErr CE E x H1 l w := fun H' d k' h => p H' d (k.trans k') h
theorem drs_le {es : List Ed} {p : Nat} (hl : es.length ≤ 16) : (∀ m ∈ drs es p, m ≤ 16) ∧ (drs es p).length ≤ 100 := by
  refine ⟨fun m hm => ?_, ?_⟩
  · have := (mem_drs.mp hm).1
    omega
  · have : (drs es p).length ≤ (List.range es.length).length := by unfold drs; exact List.length_filter_le _ _
    rw [List.length_range] at this
    omega
theorem ok_rst {C CL CE CP : Addr} {mc : Value} {f : Addr} {fd : FuncData} (T : Txt mg) (NC : NetC K mg C mc) (G : LnF P w K mg base CL CE) (GP : MF P w K mg base (L2.CX P w) C "passages_at" "Network.passages_at" sPaAt ["self", "place"] 4 (spPaAt K C CP)) (GF : MC P w K mg base CX0 C "far_end" 3 (spFar C))
    (F : Fun K "_read_steps" "_read_steps" sReadSteps f fd) : FnOk P w K mg base (L2.CX P w) 5 f fd ["line", "network", "most_steps"] (spRSt C CL CE) := by
  have nd := scRst.nd
  refine F.okX scRst (fun vs H Q E h => ?_) (fun cdv A outer s0 H vs Q E hr h => ?_)
  · obtain ⟨x, y, n, k, es, ws, rfl, _⟩ := h
    rfl
  · obtain ⟨x, y, n, k, es, ws, rfl, ln, net, yx, ve, n1, hn, hl, hw, q1, q2⟩ := h
    have hr1 := hr.mono (show 1 ≤ 4 by decide)
    have hr3 := hr.mono (show 3 ≤ 4 by decide)
    have tk : Takes (cxOf (L2.CX P w) P w K mg base nRst "_read_steps" (defScope sReadSteps) f cdv A outer s0 H E) (fun cls d _ H => E cls d H) := takes_of rfl rfl rfl rfl
    have hW : ∀ (cls : Value) (d : Option Addr) (σ : L2.St) (H : Hp), E cls d H → (fun (cls : Value) (d : Option Addr) (_ : L2.St) (H : Hp) => E cls d H) cls d σ H := fun _ _ _ _ z => z
    refine ⟨_, pss_cons (ps_set (i := 3) nd rfl (.inl rfl) (pe_lst pa_nil))
      <| pss_cons (ps_set (i := 4) nd rfl (.inl rfl) pe_int)
      <| pss_cons (ps_while (passes_of rfl) (pt_val (pe_m00 (E := E0) G.more G.n.cl hr1 pass0 (pv 0)))
          (pss_cons (ps_set (i := 5) nd rfl (.inl rfl) (pe_mX (E := E) G.intT.mc G.n.cl hr tk hW (pv 0) (pa_cons (pe_ifExp (pt_cmpR op_lt (pe_callB cr_len (by rfl) T.len PySem.boot_len (pa_cons (pv 3) pa_nil)) (pv 2) (nomark _)) (pe_mX (E := E) GP.mc NC.cl hr tk hW (pv 1) (pa_cons (pv 4) pa_nil)) (pe_tup pa_nil)) pa_nil)))
          <| pss_cons (ps_set (i := 4) nd rfl (.inl rfl) (pe_m GF NC.cl hr3 (pv 1) (pa_cons (pv 5) (pa_cons (pv 4) pa_nil))))
          <| pss_one (ps_expr (pe_bm PySem.F.plainAttrs_list PySem.F.slot_list_append PySem.F.type_list_append mt_append (pv 3) (pa_cons (pv 5) pa_nil)))))
      <| pss_one (ps_ret (pe_callTy call_tuple_of (by rfl) T.tuple (by decide +kernel) (pa_cons (pv 3) pa_nil))), ?_⟩
    refine ⟨Nat.zero_le _, fun l nl => ?_⟩
    have s1 := same_upd (o := .lst []) nl
    have hl1 : upd H l (.lst []) l = some (.lst (NV [])) := upd_same
    generalize upd H l (.lst []) = H1 at *
    obtain ⟨dx0, fs0, _, hx0, _⟩ := id ln
    have lx : l ≠ x := fun z => by rw [← z, nl] at hx0; cases hx0
    clear hx0
    refine ⟨fun m σ H' => ∃ c p acc v5, m = ws.length - c ∧ σ = [some (.ref x), some (.ref y), some (.int 1000), some (.ref l), some (.int ((p : Nat) : Int)), v5] ∧ Kx x H H' ∧ H' l = some (.lst (NV acc)) ∧ LnAt CL H' x k ws c ∧ NetAt5 C H' y n es ∧ c ≤ 1000 ∧ p < n ∧ acc.length + 1 = c ∧ rdSt es (ws.drop c) p c acc = rdSt es (ws.drop 1) 0 1 [],
      ⟨_, 1, 0, [], _, rfl, rfl, Kx.of s1, hl1, ln.same s1, net.same s1, by decide, n1, rfl, rfl⟩, ?_⟩
    rintro m σ H2 ⟨c, p, acc, v5, rfl, rfl, kx, hL, lnc, netc, hc, hp, ha, hR⟩
    obtain ⟨dx, fs, bw, h1, h2, h3, h4, h5, h6, h7⟩ := id lnc
    refine ⟨_, rfl, x, dx, fs, rfl, h1, h5 _ (by decide +kernel), x, k, c, ws, rfl, lnc, _, rfl, ?_⟩
    by_cases e : c < ws.length
    · rw [decide_eq_true e]
      refine iteT ⟨fun σ' H' => ∃ c' p acc v5, c' = c + 1 ∧ σ' = [some (.ref x), some (.ref y), some (.int 1000), some (.ref l), some (.int ((p : Nat) : Int)), v5] ∧ Kx x H H' ∧ H' l = some (.lst (NV acc)) ∧ LnAt CL H' x k ws c' ∧ NetAt5 C H' y n es ∧ c' ≤ 1000 ∧ p < n ∧ acc.length + 1 = c' ∧ rdSt es (ws.drop c') p c' acc = rdSt es (ws.drop 1) 0 1 [],
        fun σ' H' ⟨c', p, acc, v5, e1, z⟩ => ⟨ws.length - c', by omega, c', p, acc, v5, rfl, z⟩, ?_⟩
      have hwc : ws[c]? = some (ws[c]'e) := List.getElem?_eq_getElem e
      have hd : ws.drop c = ws[c]'e :: ws.drop (c + 1) := List.drop_eq_getElem_cons e
      rw [hd] at hR
      have eR : rdSt es (ws[c]'e :: ws.drop (c + 1)) p c acc = match fnd (drs es p) (some (ws[c]'e)) with
        | none => .inl (c + 1)
        | some e => rdSt es (ws.drop (c + 1)) (oth (es.getD e (0, 0)) p) (c + 1) (acc ++ [e]) := rfl
      rw [eR] at hR
      clear eR hd
      refine ⟨_, rfl, x, dx, fs, rfl, h1, h5 _ (by decide +kernel), _, rfl, l, _, rfl, .inl (sl_of hL), _, rfl, _, _, rfl, rfl, _, rfl, ?_⟩
      rw [NV_len, show decide ((acc.length : Int) < (1000 : Int)) = true from decide_eq_true (by omega)]
      obtain ⟨dy, fy, _, _, g1, _, _, _, g5, _, _⟩ := id netc
      refine iteT ⟨_, rfl, y, dy, fy, rfl, g1, g5 _ (by decide +kernel), _, rfl, y, _, n, es, rfl, netc, .inl ⟨p, rfl, hp, fun r hr' => ?_⟩⟩
      obtain ⟨d1, d2⟩ := drs_le (p := p) hl
      refine ⟨x, r, k, c, ws, drs es p, rfl, lnc, hr', by omega, d2, d1, fun m hm hw' H3 k3 ln3 => ?_, fun hno => ?_⟩
      · have ef : fnd (drs es p) (some (ws[c]'e)) = some m := by
          rw [hwc] at hw'
          cases ef : fnd (drs es p) (some (ws[c]'e)) with
          | none => exact absurd hw' (fnd_none ef m hm)
          | some m' => rw [fnd_one ef d1 hm hw']
        simp only [ef] at hR
        have kx3 := kx.trans k3
        have hL3 := lst_kx k3 h1 hL
        have net3 := netc.kx k3 h1 yx
        obtain ⟨dy3, fy3, _, _, g31, _, _, _, g35, _, _⟩ := id net3
        refine ⟨_, rfl, y, dy3, fy3, rfl, g31, g35 _ (by decide +kernel), _, rfl, _, rfl, y, n, es, m, p, rfl, net3, hm, ?_⟩
        refine ⟨_, rfl, .inl ⟨rfl, _, sl_of hL3⟩, _, rfl, l, _, _, rfl, rfl, hL3, by rw [NV_len]; exact small1000 (by omega), ?_⟩
        obtain ⟨dx3, fs3, bw3, e31, e32, e33, e34, e35, e36, e37⟩ := id ln3
        have nb : bw3 ≠ l := fun z => by
          rw [z, hL3] at e37
          have e0 : NV acc = SV ws := by
            injection e37 with e37
            injection e37
          have w0 : ws[0]? = some (ws[0]'(by omega)) := List.getElem?_eq_getElem (by omega)
          have := SV_get w0
          rw [← e0] at this
          unfold NV at this
          rw [List.getElem?_map] at this
          cases ea : acc[0]? with
          | none => rw [ea] at this; cases this
          | some a => rw [ea] at this; cases this
        have nxl : x ≠ l := Ne.symm lx
        have nyl : y ≠ l := fun z => by rw [z, hL3] at g31; cases g31
        have k4 : Kx x H (upd H3 l (.lst (NV acc ++ [V.int (m : Int)]))) := fun b o nx eb => by
          rw [upd_ne (ne_of_none eb nl)]
          exact kx3 b o nx eb
        have kl : Kx l H3 (upd H3 l (.lst (NV acc ++ [V.int (m : Int)]))) := Kx.upd l H3 _
        have ln4 : LnAt CL (upd H3 l (.lst (NV acc ++ [V.int (m : Int)]))) x k ws (c + 1) := ⟨dx3, fs3, bw3, kl _ _ nxl e31, e32, e33, e34, e35, e36, kl _ _ nb e37⟩
        have net4 : NetAt5 C (upd H3 l (.lst (NV acc ++ [V.int (m : Int)]))) y n es := by
          obtain ⟨dy, fy, a, ee, i1, i2, i3, i4, i5, ⟨ks, i61, i62, i63⟩, ⟨js, i71, i72, i73⟩⟩ := net3
          have tl : ∀ {b : Addr} {xs : List V}, H3 b = some (.tup xs) → upd H3 l (.lst (NV acc ++ [V.int (m : Int)])) b = some (.tup xs) := fun hb => kl _ _ (ne_of hb hL3 (by intro z; cases z)) hb
          exact ⟨dy, fy, a, ee, kl _ _ (ne_of i1 hL3 (by intro z; cases z)) i1, i2, i3, i4, i5, ⟨ks, tl i61, i62, fun q hq => tl (i63 q hq)⟩, ⟨js, tl i71, i72, fun q hq => tl (i73 q hq)⟩⟩
        have hL4 : upd H3 l (.lst (NV acc ++ [V.int (m : Int)])) l = some (.lst (NV (acc ++ [m]))) := by rw [upd_same, NV_snoc]
        refine ⟨c + 1, _, acc ++ [m], _, rfl, rfl, k4, hL4, ln4, net4, by omega, oth_lt ve hm, by rw [List.length_append, List.length_singleton, ha], hR⟩
      · have ef : fnd (drs es p) (some (ws[c]'e)) = none := by
          cases ef : fnd (drs es p) (some (ws[c]'e)) with
          | none => rfl
          | some m => exact absurd (hwc.trans (fnd_some ef).2) (hno m (fnd_some ef).1)
        simp only [ef] at hR
        exact (q2 _ hR.symm).kx kx
    · rw [decide_eq_false e]
      refine iteF ⟨_, rfl, l, _, rfl, .inl ⟨sl_of hL, fun v nv => ?_⟩⟩
      rw [List.drop_eq_nil_of_le (by omega)] at hR
      exact q1 acc hR.symm _ v (kx.trans (Kx.of (same_upd nv))) upd_same
end
end Hw

namespace Hw
open PySem PySem.Spec PyProof.Rows L2 ClX
/-- a def that may raise, called by its name -/
structure CalE (P : Program) (w : World) (K : PySem.W.Frag) (mg : Str → Option Value) (base : Heap) (x : Str) (k : Nat) (ps : List Str) (sp : Sp) : Prop where
  ex : ∃ (f : Addr) (fd : FuncData), mg x = some (.ref f) ∧ PySem.W.keepIn K (.ref f) = true ∧ L2.Binds K fd ps [] ∧ FnOk P w K mg base (L2.CX P w) k f fd ps sp
theorem calE_of {P : Program} {w : World} {K : PySem.W.Frag} {mg : Str → Option Value} {base : Heap} {x : Str} {st : Stmt} {ps : List Str} {k : Nat} {sp : Sp} (D : Df K mg x st ps) (ok : ∀ (f : Addr) (fd : FuncData), Fun K x x st f fd → FnOk P w K mg base (L2.CX P w) k f fd ps sp) : CalE P w K mg base x k ps sp := by
  obtain ⟨f, fd, F, b, g⟩ := D.ex
  exact ⟨f, fd, g, F.kp, b, ok f fd F⟩
theorem pe_clE {X : Cx} {k : Nat} {x : Str} {ps : List Str} {sp : Sp} {E : XK} {W : WX} {e : Expr} {es : List Expr} {t : TA} {p pos : Pos} (c : CalE X.prog X.w X.K X.mg X.base x k ps sp) (hr : Room k X.A) (tk : Takes X W) (hW : ∀ cls d σ H, E cls d H → W cls d σ H) (hg : Gl X x) (ha : PA X (e :: es) t) (hdb : (x == ("__debug__" : Str)) = false := by decide)
    (he : starEach (e :: es) X.env = (false, eval e X.env) :: starEach es X.env := by rfl) (hpl : (backTo pos (starEach es X.env)).any (·.1) = false := by rfl) : PE X (.Call (.Name x p) (e :: es) [] pos) (tCall sp [] E t) := by
  obtain ⟨f, fd, hm, hk, b, F⟩ := c.ex
  exact pe_call F hr hg hm hk b .nil (passes_call tk hW) ha hdb he hpl
/-- the class Network, made of a good network -/
structure NetM (P : Program) (w : World) (K : PySem.W.Frag) (mg : Str → Option Value) (base : Heap) (C : Addr) : Prop where
  cl : Cls K C
  gC : mg "Network" = some (.ref C)
  made : ∃ (f : Addr) (fd : FuncData), Mk K C f ∧ FnOk P w K mg base CX0 6 f fd ["self", "places", "passages"] (spInit5 C) ∧ L2.Binds K fd ["self", "places", "passages"] []
def tNetM (C : Addr) (t : TA) : TE := fun σ H Q => t σ H fun vs H1 => ∃ (a : Addr) (n : Nat) (es : List Ed), vs = [.int (n : Int), .ref a] ∧ EdT H1 a es ∧ CN n es ∧ n ≤ 12 ∧ es.length ≤ 16 ∧ ∀ H' x, Same H1 H' → H1 x = none → NetAt5 C H' x n es → NetX C H' x n es → Q (.ref x) H'
theorem pe_netM {X : Cx} {C : Addr} {e : Expr} {es : List Expr} {p pos : Pos} {t : TA} (N : NetM X.prog X.w X.K X.mg X.base C) (hr : Room 7 X.A) (hg : Gl X "Network") (ha : PA X (e :: es) t) (he : starEach (e :: es) X.env = (false, eval e X.env) :: starEach es X.env := by rfl)
    (hpl : (backTo pos (starEach es X.env)).any (·.1) = false := by rfl) : PE X (.Call (.Name "Network" p) (e :: es) [] pos) (tNetM C t) := by
  obtain ⟨f, fd, M, F, b⟩ := N.made
  refine ⟨fun pins s σ H Q I h => ?_⟩
  refine wpAny_Call_Name_kw (ld_glob I hg N.gC ?_ (by decide))
  refine PySem.W.callWith_K (h₀ := X.base) I.ok.mod.kin M.kp (thn (ha.run pos pins s σ H _ I h) fun us s1 ⟨vs, H1, I1, r, q⟩ => ⟨I1.kIn, ?_⟩) he hpl
  obtain ⟨a, n, es, rfl, ed, cn, hn, hl, q⟩ := q
  refine run_make M F hr b .nil pass0 I1 r fun x dx nx ndx nex => ?_
  have s0 : Same H1 (upd (upd H1 dx (.own x)) x (.ins C dx [])) := fun b o e => by
    rw [upd_ne (ne_of_none e nx), upd_ne (ne_of_none e ndx)]
    exact e
  exact ⟨x, dx, a, n, es, rfl, upd_same, ed.same s0, cn, hn, hl, fun H' kx net nt => ⟨rfl, q H' x (fun b o e => kx b o (ne_of_none e nx) (s0 b o e)) nx net nt⟩⟩
/-! ### what a text tells -/
def rdAll (ls : List Str) : (Nat × Nat) ⊕ (Nat × List Ed × List Nat) :=
  match rdPl (wdsAt ls 1) with
  | .inl w => .inl (1, w)
  | .inr n => match rdPs n ls 17 [] with
    | .inl e => .inl e
    | .inr es => match rdSt es ((wdsAt ls (es.length + 2)).drop 1) 0 1 [] with
      | .inl w => .inl (es.length + 2, w)
      | .inr ks => if Str.ofString "" ∈ wdsAt ls (es.length + 3) then .inl (es.length + 3, 0) else if 0 < (wdsAt ls (es.length + 3)).length then .inl (es.length + 3, 1) else .inr (n, es, ks)
theorem rdSt_wlk {es : List Ed} : ∀ (ws : List Str) (p c : Nat) (acc ks : List Nat), rdSt es ws p c acc = .inr ks → Wlk es 0 acc → plcS es 0 acc = p → Wlk es 0 ks ∧ ks.length = acc.length + ws.length
  | [], p, c, acc, ks, h, hw, hp => by cases h; exact ⟨hw, rfl⟩
  | w :: ws, p, c, acc, ks, h, hw, hp => by
    unfold rdSt at h
    cases ef : fnd (drs es p) (some w) with
    | none => rw [ef] at h; cases h
    | some e =>
      rw [ef] at h
      have hm := (fnd_some ef).1
      obtain ⟨h1, h2⟩ := rdSt_wlk ws _ _ _ ks h (wlk_app.mpr ⟨hw, by rw [hp]; exact ⟨hm, trivial⟩⟩) (by
        unfold plcS
        rw [List.foldl_append]
        show oth (es.getD e (0, 0)) (plcS es 0 acc) = _
        rw [hp])
      refine ⟨h1, ?_⟩
      rw [h2, List.length_append, List.length_singleton, List.length_cons]
      omega
theorem rdPl_ok {W : List Str} {n : Nat} (h : rdPl W = .inr n) : 1 ≤ n ∧ n ≤ 12 := by
  unfold rdPl at h
  split at h
  · cases h
  · split at h
    · cases h
    · split at h
      · cases h
      · rename_i m em
        split at h
        · cases h
          obtain ⟨i, hi, e⟩ := List.mem_map.mp (fnd_some em).1
          have := List.mem_range.mp hi
          omega
        · cases h
theorem NetX.kx {C CL x y dx : Addr} {fs : List (Str × V)} {H H' : Hp} {n : Nat} {es : List Ed} (h : NetX C H y n es) (k : Kx x H H') (hx : H x = some (.ins CL dx fs)) (ne : y ≠ x) : NetX C H' y n es := by
  obtain ⟨dx, fs, s, t, b, c, h1, h2, h3, h4, h5, h6, h7, h8⟩ := h
  exact ⟨dx, fs, s, t, b, c, k _ _ ne h1, h2, h3, h4, k.tup hx h5, k.tup hx h6, k.tup hx h7, h8.kx k hx⟩
def NotStr (K : PySem.W.Frag) (H : Hp) (v : V) : Prop := ∃ T : Value, TyX K H v T ∧ PySem.W.kitOne K T (.type "str") = some false
/-- the lines of a text are not too many, nor too long, nor of too many words -/
def Fits (z : Str) : Prop := z.length ≤ 100000 ∧ (Txt.split z "\n").length ≤ 100000 ∧ (∀ l ∈ Txt.split z "\n", l.length ≤ 100000) ∧ ∀ k, (wdsAt (Txt.split z "\n") k).length ≤ 1000
section
variable {P : Program} {w : World} {K : PySem.W.Frag} {mg : Str → Option Value} {base : Heap}
/-! ### parsed -/
def spParsed (K : PySem.W.Frag) (C CE : Addr) : Sp := fun vs H Q E => ∃ v : V, vs = [v, .int 1000] ∧
  ((NotStr K H v ∧ PErS CE E H 0 0) ∨
   (∃ z : Str, v = .str z ∧ Fits z ∧ (∀ n es ks, rdAll (Txt.split z "\n") = .inr (n, es, ks) → ∀ H' r y t, Same H H' → H' r = some (.tup [.ref y, .ref t]) → H r = none → NetAt5 C H' y n es → NetX C H' y n es → Tp H' t ks → CN n es → n ≤ 12 → es.length ≤ 16 → Wlk es 0 ks → ks.length ≤ 1000 → Q (.ref r) H') ∧
     ∀ l w, rdAll (Txt.split z "\n") = .inl (l, w) → PErS CE E H l w))
abbrev nPar : List Str := ["text", "most_steps", "lines", "places", "passages", "last", "network", "steps"]
theorem scPar : FnScope nPar ["text", "most_steps"] (defScope sParsedP) := ⟨rfl, rfl, rfl, by decide +kernel, rfl, by decide +kernel, by decide +kernel⟩
theorem ok_parsed {C CL CE : Addr} {f : Addr} {fd : FuncData} (T : Txt mg) (G : LnF P w K mg base CL CE) (XE : Xc2 P w K mg base "ParseError" CE "line" "word") (NM : NetM P w K mg base C) (GP : CalE P w K mg base "_read_places" 5 ["lines"] (spRP CE)) (GS : CalE P w K mg base "_read_passages" 8 ["lines", "places"] (spRPs CL CE))
    (GT : CalE P w K mg base "_read_steps" 5 ["line", "network", "most_steps"] (spRSt C CL CE)) (F : Fun K "parsed" "parsed" sParsedP f fd) : FnOk P w K mg base (L2.CX P w) 9 f fd ["text", "most_steps"] (spParsed K C CE) := by
  have nd := scPar.nd
  refine F.okX scPar (fun vs H Q E h => ?_) (fun cdv A outer s0 H vs Q E hr h => ?_)
  · obtain ⟨v, rfl, _⟩ := h
    rfl
  · obtain ⟨v, rfl, h⟩ := h
    have hr2 := hr.mono (show 2 ≤ 8 by decide)
    have hr3 := hr.mono (show 3 ≤ 8 by decide)
    have hr4 := hr.mono (show 4 ≤ 8 by decide)
    have hr5 := hr.mono (show 5 ≤ 8 by decide)
    have hr7 := hr.mono (show 7 ≤ 8 by decide)
    have tk : Takes (cxOf (L2.CX P w) P w K mg base nPar "parsed" (defScope sParsedP) f cdv A outer s0 H E) (fun cls d _ H => E cls d H) := takes_of rfl rfl rfl rfl
    have hW : ∀ (cls : Value) (d : Option Addr) (σ : L2.St) (H : Hp), E cls d H → (fun (cls : Value) (d : Option Addr) (_ : L2.St) (H : Hp) => E cls d H) cls d σ H := fun _ _ _ _ z => z
    refine ⟨_, pss_cons (ps_if (pt_not (pt_val (pe_callB call_isi (by rfl) T.isinstance (by decide +kernel) (pa_cons (pv 0) (pa_cons (pe_bltn (v := .ty "str") (by rfl) T.str (by decide +kernel) rfl) pa_nil))))) (pss_one (ps_raise (W := fun cls d _ H => E cls d H) rfl tk (pmk_x2 XE hr2 (by rfl) pe_int pe_int))) pss_nil)
      <| pss_cons (ps_set (i := 2) nd rfl (.inl rfl) (pe_split (pv 0) pe_str))
      <| pss_cons (ps_set (i := 3) nd rfl (.inl rfl) (pe_clE (E := E) GP hr5 tk hW (by rfl) (pa_cons (pv 2) pa_nil)))
      <| pss_cons (ps_asg (pe_clE (E := E) GS hr tk hW (by rfl) (pa_cons (pv 2) (pa_cons (pv 3) pa_nil))) (pg_tup rfl (pgs_cons (pg_name (i := 4) nd rfl (.inl rfl)) (pgs_cons (pg_name (i := 5) nd rfl (.inl rfl)) pgs_nil))))
      <| pss_cons (ps_set (i := 6) nd rfl (.inl rfl) (pe_netM NM hr7 (by rfl) (pa_cons (pv 3) (pa_cons (pv 4) pa_nil))))
      <| pss_cons (ps_set (i := 7) nd rfl (.inl rfl) (pe_clE (E := E) GT hr5 tk hW (by rfl) (pa_cons (pv 5) (pa_cons (pv 6) (pa_cons (pv 1) pa_nil)))))
      <| pss_cons (ps_expr (pe_m00 (E := E) G.fin G.n.cl hr3 (passes_call tk hW) (pe_line (E := E) G hr4 tk hW (by rfl) (pv 2) (pe_op op_add (pe_callB cr_len (by rfl) T.len PySem.boot_len (pa_cons (pv 4) pa_nil)) pe_int))))
      <| pss_one (ps_ret (pe_tup (pa_cons (pv 6) (pa_cons (pv 7) pa_nil)))), ?_⟩
    rcases h with ⟨⟨Ty, t1, t2⟩, e⟩ | ⟨z, rfl, ⟨f1, f2, f3, f4⟩, q1, q2⟩
    · refine ⟨_, rfl, _, _, _, _, false, rfl, .ty _, t1, t2, false, rfl, iteT ?_⟩
      exact mk2_ok fun d nd => e _ d (same_upd nd) upd_same
    · refine ⟨_, rfl, _, _, _, _, true, rfl, .ty _, .base (.str z), kit_ty (by decide +kernel), true, rfl, iteF ?_⟩
      refine ⟨_, rfl, ⟨_, rfl⟩, _, _, rfl, rfl, by decide +kernel, ?_, fun a na => ?_⟩
      · have s : sizeLine = 16777216 := by decide
        omega
      have s1 := same_upd (o := .lst (SV (Txt.split z "\n"))) na
      have ha : LsAt (upd H a (.lst (SV (Txt.split z "\n")))) a (Txt.split z "\n") := ⟨upd_same, f2, f3⟩
      show tSeq _ _ _ _ (upd H a (.lst (SV (Txt.split z "\n"))))
      generalize upd H a (.lst (SV (Txt.split z "\n"))) = H1 at *
      generalize Txt.split z "\n" = ls at *
      refine ⟨_, rfl, a, ls, rfl, ha, fun n en H2 s2 => ?_, fun w ew => (q2 1 w (by unfold rdAll; rw [ew])).back s1⟩
      obtain ⟨n1, hn⟩ := rdPl_ok en
      have eA : rdAll ls = match rdPs n ls 17 [] with
        | .inl e => .inl e
        | .inr es => match rdSt es ((wdsAt ls (es.length + 2)).drop 1) 0 1 [] with
          | .inl w => .inl (es.length + 2, w)
          | .inr ks => if Str.ofString "" ∈ wdsAt ls (es.length + 3) then .inl (es.length + 3, 0) else if 0 < (wdsAt ls (es.length + 3)).length then .inl (es.length + 3, 1) else .inr (n, es, ks) := by unfold rdAll; rw [en]
      rw [eA] at q1 q2
      clear eA
      have t2 := s1.trans s2
      refine ⟨_, rfl, _, rfl, a, n, ls, rfl, ha.same s2, n1, hn, fun es ees H3 r t x s3 hr' et ve hl cb nx ln => ?_, fun l w ew => (q2 l w (by rw [ew])).back t2⟩
      simp only [ees] at q1 q2
      have t3 := t2.trans s3
      have cn : CN n es := ⟨n1, ve, (cB_iff ve n1).mp cb⟩
      refine ⟨r, _, rfl, sq_of hr', rfl, _, _, rfl, _, _, rfl, rfl, ?_⟩
      refine ⟨_, rfl, _, rfl, t, n, es, rfl, et, cn, hn, hl, fun H4 y s4 ny net nt => ?_⟩
      obtain ⟨dx, fs, bw, h1, _⟩ := id ln
      have yx : y ≠ x := fun z => by rw [z, h1] at ny; cases ny
      have t4 := t3.trans s4
      have nxH : H x = none := t2.free nx
      refine ⟨_, rfl, _, rfl, _, rfl, x, y, n, _, es, _, rfl, ln.same s4, net, yx, ve, n1, hn, hl, f4 _, fun ks ek H5 u k5 hu => ?_, fun w ew => (q2 _ w (by rw [ew])).at t4 nxH⟩
      simp only [ek] at q1 q2
      have t5 := kx_same t4 nxH k5
      have hx4 := s4 _ _ h1
      have net5 := net.kx k5 hx4 yx
      have nt5 := nt.kx k5 hx4 yx
      have et5 := (et.same s4).kx k5 hx4
      have ha5 : LsAt H5 a ls := ⟨lst_kx k5 hx4 (s4 _ _ (s3 _ _ (s2 _ _ ha.1))), f2, f3⟩
      obtain ⟨js, j1, j2, j3⟩ := id et5
      have cs : ((es.length : Nat) : Int) + 3 = ((es.length + 3 : Nat) : Int) := rfl
      obtain ⟨wk, kl⟩ := rdSt_wlk _ _ _ _ ks ek trivial rfl
      have kl2 : ks.length ≤ 1000 := by
        have := f4 (es.length + 2)
        rw [List.length_drop] at kl
        simp at kl
        omega
      refine ⟨_, rfl, _, rfl, t, _, rfl, .inr (sq_of j1), _, _, rfl, rfl, ?_⟩
      rw [nv_len, ed_len j2]
      refine line_itZ cs ha5 (by omega) (fun ne H6 v s6 nv ln6 => ?_) (fun m => (q2 _ 0 (by rw [if_pos m])).back t5)
      rw [if_neg ne] at q1 q2
      obtain ⟨dx, fs, bw, g1, g2, g3, g4, g5, g6, g7⟩ := id ln6
      refine ⟨v, dx, fs, rfl, g1, g5 _ (by decide +kernel), v, _, 0, _, rfl, ln6, fun le => ?_, fun lt => ((q2 _ 1 (by rw [if_pos lt])).back t5).at s6 nv⟩
      · rw [if_neg (by omega)] at q1
        refine ⟨_, rfl, _, rfl, by show 2 ≤ sizeLine; decide, fun r nr => ?_⟩
        have t6 := s6.trans (same_upd (o := .tup [V.ref y, .ref u]) nr)
        exact q1 n es ks rfl _ r y u (t5.trans t6) upd_same ((t5.trans s6).free nr) (net5.same t6) (nt5.same t6) (t6 _ _ hu) cn hn hl wk kl2
end
end Hw

/-! len(o) by an own __len__. -/
namespace Hw
open PySem PySem.Spec PyProof.Rows L2
section
variable {prog : Program} {w : World} {K : PySem.W.Frag} {A : Around} {E : Value → Shared → Prop} {st : Shared} {x C f : Addr} {ox : Obj} {od : Option Obj}
/-- an own method that the machine calls by its special name -/
theorem special_own {name : Str} {args : List Value} {Q : Option Value → Shared → Prop} (KX : K.In st.heap) (at_ : PySem.W.InstAt st.heap x ox C od) (fi : PySem.W.findIn K (.ref C) name = some (some (.ref f))) (fn : PySem.W.isFn K (.ref f) = true)
    (go : wpAny (model prog w) A (call (.ref f) (.ref x :: args)) (fun v s' => Q (some v) s') E st) : wpAny (model prog w) A (callSpecial? (.ref x) name args) Q E st := by
  have ty : PySem.W.typeIn K (.ref f) = some (.type "function") := beq_iff_eq.mp fn
  unfold callSpecial? specialOf
  refine wpAny_bind (wpAny_bind (at_.type.here ((PySem.W.looks_findIn KX fi).here (wpAny_holding (wpAny_bind ?_)))))
  unfold bindSpecial
  refine wpAny_bind ((PySem.W.looks_typeIn KX ty).here ?_)
  rw [if_pos (by decide)]
  first
    | exact wpAny_pure (wpAny_bind (wpAny_mono go (fun v s' h => wpAny_pure h) fun _ _ z => z))
    | exact wpAny_pure (wpAny_pure (wpAny_bind (wpAny_mono go (fun v s' h => wpAny_pure h) fun _ _ z => z)))
theorem len_inst {Q : Value → Shared → Prop} (KX : K.In st.heap) (at_ : PySem.W.InstAt st.heap x ox C od) (fi : PySem.W.findIn K (.ref C) "__len__" = some (some (.ref f))) (fn : PySem.W.isFn K (.ref f) = true)
    (go : wpAny (model prog w) A.in1 (call (.ref f) [.ref x]) (fun v s' => ∃ n u, v = .int n u ∧ 0 ≤ n ∧ n < 2 ^ 63 ∧ Q (.int n s'.toks) { s' with toks := s'.toks + 1 }) E st) : wpAny (model prog w) A (call (.builtin "len") [.ref x]) Q E st := by
  refine Calls.call_function_entry kind_len plain_len entry_len (args_len1 _) ?_
  unfold Builtin.«len»
  refine wpAny_bind (m := oneArg "len" _) (wpAny_pure (wpAny_bind (special_own (name := Str.ofString "__len__") KX at_ fi fn (wpAny_mono go (fun v s' hv => ?_) fun _ _ z => z))))
  obtain ⟨n, u, rfl, h0, h1, q⟩ := hv
  refine wpAny_bind (wpAny_holding (wpAny_pure (wpAny_bind (wpAny_letGo ?_))))
  show wpAny _ _ (if n < 0 then _ else _) _ _ _
  rw [if_neg (by omega)]
  show wpAny _ _ (if n ≥ 2 ^ 63 then _ else _) _ _ _
  rw [if_neg (by omega)]
  exact wpAny_bind (wpAny_mkInt (wpAny_pure ⟨_, rfl, q⟩))
end
/-- len(o), o an instance of C whose __len__ keeps sp -/
def rLenO (C : Addr) (sp : Sp) : List V → Hp → VK → Prop := fun vs H Q => ∃ (x dx : Addr) (fs : List (Str × V)), vs = [.ref x] ∧ H x = some (.ins C dx fs) ∧ sp [.ref x] H (fun v H' => ∃ n : Nat, v = .int (n : Int) ∧ n < 2 ^ 62 ∧ Q v H') E0
theorem cr_lenO {X : Cx} {k : Nat} {C f : Addr} {sp : Sp} (fi : PySem.W.findIn X.K (.ref C) "__len__" = some (some (.ref f))) (fn : PySem.W.isFn X.K (.ref f) = true) (F : L2.FnR X.prog X.w X.K X.mg X.base CX0 k f sp) (hr : Room (k + 1) X.A) : CallR X (.builtin "len") (rLenO C sp) := by
  rintro pins st σ H vs us Q I r ⟨x, dx, fs, rfl, ea, q⟩
  rw [Vals.ref1 r]
  obtain ⟨mA, O, _⟩ := ins_get I.hok ea
  obtain ⟨od, J, _⟩ := O.look
  have e0 := I.env0
  refine len_inst I.kIn J fi fn (wpAny_call (codeAny_mono (F X.A.in1 X.stack st H [.ref x] [.ref x] _ E0 hr.in1 ⟨e0.frames, e0.mod, e0.bs, e0.bsz, e0.funs, e0.frf, e0.hok, e0.bare⟩ (.cons rfl .nil) q) fun rs s2 hq => ?_))
  cases rs with
  | error er => exact (hq : False).elim
  | ok fl =>
    cases fl with
    | ret u =>
      obtain ⟨v, H', os, bare, un, hok, rv, n, rfl, hn, q2⟩ := hq
      obtain ⟨t, rfl⟩ := rv
      have J2 : L2.Inv X pins σ H' s2 := I.call' (ch := []) os un hok bare fun b z => by simp at z
      exact ⟨(n : Int), t, rfl, by omega, by omega, .int (n : Int), H', J2.tok _, ⟨_, rfl⟩, q2⟩
    | next => exact (hq : False).elim
    | brk => exact (hq : False).elim
    | cont => exact (hq : False).elim
end Hw

/-! A generator whose consumer is a loop of a def: between two turns the consumer's own frame may change. -/
namespace Hw
open PySem PySem.Spec PyProof.Rows L2 GenW
/-- the context with another state at its entry; no exception leaves it -/
abbrev reb (C : Cx) (s0 : Shared) : Cx := { C with s_0 := s0, xe := fun _ _ => False }
/-- the same state, but for the frame at F -/
structure Alike (F : Addr) (s0 s1 : Shared) : Prop where
  sz : s1.heap.objs.size = s0.heap.objs.size
  os : s1.os = s0.os
  off : ∀ b, b ≠ F → s1.heap.get? b = s0.heap.get? b
  at_ : ∃ o o', s0.heap.get? F = some o ∧ s1.heap.get? F = some o' ∧ (∀ vs, o'.data ≠ .fields vs) ∧ ∀ v, o'.data ≠ .cell v
theorem funFrames_alike {F : Addr} {s0 s1 : Shared} {base : Heap} (a : Alike F s0 s1) : ∀ {l : List Env}, s0.heap.FunFrames base l → s1.heap.FunFrames base l
  | [], _ => trivial
  | env :: rest, ⟨k, ⟨L, o, f, n, e, d⟩, r⟩ => by
    refine ⟨k, ?_, funFrames_alike a r⟩
    by_cases z : L = F
    · subst z
      obtain ⟨_, o', _, e', d', _⟩ := a.at_
      exact ⟨L, o', f, n, e', d'⟩
    · exact ⟨L, o, f, n, (a.off L z).trans e, d⟩
section
variable {C : Cx} {F : Addr} {s0 s1 : Shared}
theorem ok_alike (k : (reb C s0).Ok) (a : Alike F s0 s1) (hF : F ∈ C.fs) : (reb C s1).Ok := by
  have nb : ∀ b o, C.base.get? b = some o → b ≠ F := fun b o e z => by
    subst z
    obtain ⟨n, _⟩ := k.funs.mem (show b ∈ C.outer.filterMap (·.frame) from hF)
    rw [n] at e
    cases e
  exact ⟨k.mod, k.kind, k.glob, k.blt, by have := k.above; show s1.heap.objs.size ≤ _; rw [a.sz]; exact this, k.inj, k.has, fun x c h1 h2 => by have := k.cab x c h1 h2; show s1.heap.objs.size ≤ _; rw [a.sz]; exact this, k.hd, k.frames, k.stk, k.exf,
    fun b o e => ⟨(a.off b (nb b o e)).trans (k.bs b o e).1, (k.bs b o e).2⟩, by have := k.bsz; show _ ≤ s1.heap.objs.size; rw [a.sz]; exact this, k.noex, k.exfs, funFrames_alike a k.funs, k.frf⟩
/-- what the consumer's turn leaves of the state -/
structure Woke (F : Addr) (s s' : Shared) : Prop where
  os : s'.os = s.os
  bare : AllBare s'.gens
  keep : ∀ b o, b ≠ F → s.heap.get? b = some o → s'.heap.get? b = some o
/-- what is true of the generator's frame stays true -/
theorem inv_woke {pins : List (Addr × Obj)} {σ : L2.St} {H : Hp} {s s' : Shared} (hfn : ∀ x, C.fn x = true) (I : L2.Inv (reb C s0) pins σ H s) (hF : F ∈ C.fs) (w : Woke F s s') (a : Alike F s0 s1) (same : s'.heap.get? F = s1.heap.get? F) :
    L2.Inv (reb C s1) pins σ H s' := by
  have k := I.ok
  obtain ⟨oB, oA, eA0, eA, dA, cA⟩ := a.at_
  have ltF : F < s0.heap.objs.size := Heap.lt_size eA0
  have young : ∀ b, s0.heap.objs.size ≤ b → b ≠ F := fun b h z => by
    rw [z] at h
    exact absurd (Nat.lt_of_lt_of_le ltF h) (Nat.lt_irrefl _)
  have neL : C.env.locals ≠ F := young _ k.above
  have nF0 : C.H_0 F = none := k.frf F hF
  have nxF : F ∉ C.ex := fun q => k.exfs F q hF
  have nF : H F = none := I.base.free F oB eA0 nF0 nxF
  have neC : ∀ x c, C.env.cells.lookup x = some c → c ≠ F := fun x c e => young _ (k.cab x c (hfn x) e)
  refine ⟨ok_alike k a hF, w.os.trans (I.os.trans a.os.symm), w.bare, ⟨fun b o e n hb hx => ?_, fun b o e n hb hx => ?_, fun b o e n hx => ?_, fun b o e hx => ?_, I.base.tups, I.base.frzs, I.base.tbls⟩, ?_, fun x c e => ?_, I.free, I.freeC, fun p hp => ?_, fun b u e => ?_, I.len⟩
  · have z : b ≠ F := fun z => hb (by rw [z]; exact hF)
    exact w.keep b o z (I.base.keep b o ((a.off b z).symm.trans e) n hb hx)
  · by_cases z : b = F
    · subst z
      exact ⟨o.slots, by rw [same]; exact e⟩
    · obtain ⟨sl, q⟩ := I.base.slot b o ((a.off b z).symm.trans e) n hb hx
      exact ⟨sl, w.keep b _ z q⟩
  · by_cases z : b = F
    · rw [z]
      exact nF
    · exact I.base.free b o ((a.off b z).symm.trans e) n hx
  · by_cases z : b = F
    · rw [z, same]
      exact ⟨_, eA⟩
    · obtain ⟨o', q⟩ := I.base.there b o ((a.off b z).symm.trans e) hx
      exact ⟨o', w.keep b _ z q⟩
  · obtain ⟨m, ⟨o, es, ep, e1, r⟩, hl⟩ := I.loc
    refine ⟨m, ⟨o, es, ep, w.keep _ _ neL e1, r⟩, fun i x v e1 e2 e3 => ?_⟩
    obtain ⟨u, ru, l⟩ := hl i x v e1 e2 e3
    refine ⟨u, ru, ?_⟩
    rcases l with l | ⟨q, c, e, o, ho, hd⟩
    · exact .inl l
    · exact .inr ⟨q, c, e, o, w.keep c o (neC x c e) ho, hd⟩
  · obtain ⟨v, o, ho, hd⟩ := I.cell x c e
    exact ⟨v, o, w.keep c o (neC x c e) ho, hd⟩
  · obtain ⟨h1, h2, h3, h4, h5⟩ := I.pin p hp
    exact ⟨w.keep _ _ (fun z => h4 (by rw [z]; exact hF)) h1, h2, h3, h4, h5⟩
  · refine (I.hok b u e).stay (fun c v hc q => w.keep c v ?_ q) (fun _ q => q) fun _ _ q => q
    rintro rfl
    rcases hc with z | z
    · rw [← z, nF] at e
      cases e
    · rw [nF] at z
      cases z
/-- the same state with this at F -/
def setF (s : Shared) (F : Addr) (o : Obj) : Shared := { s with heap := s.heap.update F fun _ => o }
theorem not_freed {h : Heap} {a : Addr} {o : Obj} (e : h.get? a = some o) : o.isFreed = false := (Heap.get?_some_iff.mp e).2
theorem setF_at {s : Shared} {F : Addr} {o o' : Obj} (e : s.heap.get? F = some o) (f : o'.isFreed = false) : (setF s F o').heap.get? F = some o' := Heap.get?_update_self _ e f
theorem setF_off {s : Shared} {F b : Addr} {o : Obj} (n : b ≠ F) : (setF s F o).heap.get? b = s.heap.get? b := Heap.get?_update_other _ _ (Ne.symm n)
theorem setF_size {s : Shared} {F : Addr} {o : Obj} : (setF s F o).heap.objs.size = s.heap.objs.size := Heap.size_update _ _ _
theorem setF_alike {s : Shared} {F : Addr} {o0 o1 o2 : Obj} (e : s.heap.get? F = some o0) (f1 : o1.isFreed = false) (f2 : o2.isFreed = false) (d : ∀ vs, o2.data ≠ .fields vs) (c : ∀ v, o2.data ≠ .cell v) : Alike F (setF s F o1) (setF s F o2) where
  sz := by rw [setF_size, setF_size]
  os := rfl
  off := fun b n => (setF_off n).trans (setF_off n).symm
  at_ := ⟨o1, o2, setF_at e f1, setF_at e f2, d, c⟩
end
end Hw

namespace Hw
open PySem PySem.Spec PyProof.Rows L2 GenW
/-- under the name nm the frame's object holds v -/
def LastIn (nm : Str) (o : Obj) (v : Value) : Prop := ∃ es ep, o.data = .dict es ep ∧ nsFind es nm = some v
/-- no field list, no cell: what a frame's object is -/
def FrO (o : Obj) : Prop := (∀ vs, o.data ≠ .fields vs) ∧ ∀ v, o.data ≠ .cell v
/-- the last one that was handed out stands under nm -/
def Tie (nm : Str) (ys : List V) (o : Obj) : Prop := ∀ x, ys.getLast? = some x → ∃ v, RelV x v ∧ LastIn nm o v
/-- the generator runs; sa: the state in which it was woken -/
def GI1 (C : Cx) (F : Addr) (nm : Str) (sa : Shared) (ip : List (Addr × Obj)) (ys : List V) (σ : L2.St) (H : Hp) (s : Shared) : Prop :=
  ∃ o, sa.heap.get? F = some o ∧ FrO o ∧ Tie nm ys o ∧ L2.Inv (reb C (setF C.s_0 F o)) ip σ H s
/-- an item is handed out; the consumer puts it under nm in its frame -/
def YG (C : Cx) (F : Addr) (nm : Str) : Protocol := fun n sa v s kap =>
  ∃ ys x ip σ H, n + 1 + ys.length = sizeLine ∧ RelV x v ∧ GI1 C F nm sa ip ys σ H s ∧ ∀ s', Woke F s s' → (∃ o', s'.heap.get? F = some o' ∧ FrO o' ∧ LastIn nm o' v) → kap (.send .none) s'
def GSP1 (C : Cx) (F : Addr) (nm : Str) (sa : Shared) (ip : List (Addr × Obj)) (D : GEnds) (ys : List V) (f : Flow) (s : Shared) : Prop :=
  match f with
  | .next => ∃ σ H, GI1 C F nm sa ip ys σ H s ∧ D.nx ys σ H
  | .brk => ∃ σ H, GI1 C F nm sa ip ys σ H s ∧ D.bk ys σ H
  | .cont => ∃ σ H, GI1 C F nm sa ip ys σ H s ∧ D.ct ys σ H
  | .ret u => ∃ v σ H, GI1 C F nm sa ip ys σ H s ∧ RelV v u ∧ D.rt ys v H
/-- the generator's own: its frame among the consumer's, the code's frames -/
structure GCx (C : Cx) (F : Addr) (A : Around) (c : Code) (fs : List Frame) (gd : Bool → Bool) : Prop where
  fn : ∀ x, C.fn x = true
  mem : F ∈ C.fs
  at0 : ∃ o, C.s_0.heap.get? F = some o
  over : A.over c fs = C.A
  split : splitAtGen fs = none
  guard : fs.any Frame.guarded = false
  gd : gd false = false
def GKx (C : Cx) (F : Addr) (nm : Str) (ip : List (Addr × Obj)) (A : Around) (R : GenEnd) (c : Code) (fs : List Frame) (K : Flow → Sem PySem.Fin) (D : GEnds) : Prop :=
  ∀ (n : Nat) (ys : List V) (sa s : Shared) (f : Flow), n + ys.length = sizeLine → GSP1 C F nm sa ip D ys f s → Seg (model C.prog C.w) A R (YG C F nm) n sa c (K f) fs s
structure GF (C : Cx) (st : Stmt) (t : TGn) : Prop where
  run : ∀ (F : Addr) (nm : Str) (A : Around) (ip : List (Addr × Obj)) (R : GenEnd) (n : Nat) (ys : List V) (sa : Shared) (c : Code) (fs : List Frame) (K : Flow → Sem PySem.Fin) (J : Value → Sem PySem.Fin) (gd : Bool → Bool) (lv : List Value → List Value) (s : Shared) (σ : L2.St) (H : Hp) (D : GEnds),
    GCx C F A c fs gd → n + ys.length = sizeLine → GKx C F nm ip A R c fs K D → GI1 C F nm sa ip ys σ H s → t D ys σ H → Seg (model C.prog C.w) A R (YG C F nm) n sa c ((exec st C.env).wrap K J gd lv) fs s
structure GFs (C : Cx) (st : List Stmt) (t : TGn) : Prop where
  run : ∀ (F : Addr) (nm : Str) (A : Around) (ip : List (Addr × Obj)) (R : GenEnd) (n : Nat) (ys : List V) (sa : Shared) (c : Code) (fs : List Frame) (K : Flow → Sem PySem.Fin) (J : Value → Sem PySem.Fin) (gd : Bool → Bool) (lv : List Value → List Value) (s : Shared) (σ : L2.St) (H : Hp) (D : GEnds),
    GCx C F A c fs gd → n + ys.length = sizeLine → GKx C F nm ip A R c fs K D → GI1 C F nm sa ip ys σ H s → t D ys σ H → Seg (model C.prog C.w) A R (YG C F nm) n sa c ((execs st C.env).wrap K J gd lv) fs s
section
variable {C : Cx} {st : Stmt} {rest : List Stmt}
theorem gsp1_of {F : Addr} {nm : Str} {sa : Shared} {o : Obj} {ip : List (Addr × Obj)} {D : GEnds} {ys : List V} {f : Flow} {s : Shared} (e : sa.heap.get? F = some o) (fo : FrO o) (ti : Tie nm ys o) (h : SP (reb C (setF C.s_0 F o)) ip (D.at ys) f s) : GSP1 C F nm sa ip D ys f s := by
  cases f with
  | next => exact let ⟨σ, H, I, q⟩ := h; ⟨σ, H, ⟨o, e, fo, ti, I⟩, q⟩
  | brk => exact let ⟨σ, H, I, q⟩ := h; ⟨σ, H, ⟨o, e, fo, ti, I⟩, q⟩
  | cont => exact let ⟨σ, H, I, q⟩ := h; ⟨σ, H, ⟨o, e, fo, ti, I⟩, q⟩
  | ret u => exact let ⟨v, σ, H, I, r, q⟩ := h; ⟨v, σ, H, ⟨o, e, fo, ti, I⟩, r, q⟩
/-- a statement that hands out nothing -/
theorem gf_ps {t : TS} (h : ∀ s0, PS (reb C s0) st t) : GF C st (tPlain t) := by
  refine ⟨fun F nm A ip R n ys sa c fs K J gd lv s σ H D g hn k hI ht => seg_wrap ?_⟩
  obtain ⟨o, e, fo, ti, I⟩ := hI
  rw [g.over]
  exact wpAny_mono ((h _).run ip s σ H (D.at ys) I ht) (fun f s' hs => k n ys sa s' f hn (gsp1_of e fo ti hs)) fun _ _ z => z.elim
theorem gfs_pss {t : TS} (h : ∀ s0, PSs (reb C s0) rest t) : GFs C rest (tPlain t) := by
  refine ⟨fun F nm A ip R n ys sa c fs K J gd lv s σ H D g hn k hI ht => seg_wrap ?_⟩
  obtain ⟨o, e, fo, ti, I⟩ := hI
  rw [g.over]
  exact wpAny_mono ((h _).run ip s σ H (D.at ys) I ht) (fun f s' hs => k n ys sa s' f hn (gsp1_of e fo ti hs)) fun _ _ z => z.elim
theorem gfs_nil : GFs C [] tG0 := ⟨fun F nm A ip R n ys sa c fs K J gd lv s σ H D g hn k hI ht => seg_execs_nil (k n ys sa s .next hn ⟨σ, H, hI, ht⟩)⟩
theorem gfs_cons {t u : TGn} (a : GF C st t) (b : GFs C rest u) : GFs C (st :: rest) (tGThen t u) := by
  refine ⟨fun F nm A ip R n ys sa c fs K J gd lv s σ H D g hn k hI ht => seg_execs_cons ?_⟩
  refine a.run F nm A ip R n ys sa c fs _ J gd lv s σ H { D with nx := fun ys' σ' H' => u D ys' σ' H' } g hn (fun n' ys' sa' s' f hn' hs => ?_) hI ht
  match f, hs with
  | .next, ⟨σ', H', I', q⟩ => exact b.run F nm A ip R n' ys' sa' c fs K J gd lv s' σ' H' D g hn' k I' q
  | .brk, hs => exact k n' ys' sa' s' .brk hn' hs
  | .cont, hs => exact k n' ys' sa' s' .cont hn' hs
  | .ret u, hs => exact k n' ys' sa' s' (.ret u) hn' hs
theorem gfs_one {t : TGn} (a : GF C st t) : GFs C [st] (tGThen t tG0) := gfs_cons a gfs_nil
/-- woken again -/
theorem gi1_woken {F : Addr} {nm : Str} {sa s s' : Shared} {ip : List (Addr × Obj)} {ys : List V} {x : V} {v : Value} {σ : L2.St} {H : Hp} (hfn : ∀ x, C.fn x = true) (hF : F ∈ C.fs) (h0 : ∃ o, C.s_0.heap.get? F = some o) (h : GI1 C F nm sa ip ys σ H s) (rv : RelV x v) (w : Woke F s s')
    (fr : ∃ o', s'.heap.get? F = some o' ∧ FrO o' ∧ LastIn nm o' v) : GI1 C F nm s' ip (ys ++ [x]) σ H s' := by
  obtain ⟨o, e, fo, ti, I⟩ := h
  obtain ⟨o', e', fo', la⟩ := fr
  obtain ⟨o0, e0⟩ := h0
  have f1 := not_freed e
  have f2 := not_freed e'
  refine ⟨o', e', fo', fun y hy => ?_, inv_woke hfn I hF w (setF_alike e0 f1 f2 fo'.1 fo'.2) (by rw [e', setF_at e0 f2])⟩
  rw [List.getLast?_append] at hy
  simp at hy
  subst hy
  exact ⟨v, rv, la⟩
theorem gf_yield {e : Expr} {te : TE} {yp pos : Pos} (he : ∀ s0, PE (reb C s0) e te) (hco : C.env.scope.isCoroutine = false := by rfl) (hi : interactive C.env = false := by rfl) : GF C (.Expr (.Yield (some e) yp) pos) (tGYield te) := by
  refine ⟨fun F nm A ip R n ys sa c fs K J gd lv s σ H D g hn k hI ht => ?_⟩
  obtain ⟨hlt, ht⟩ := ht
  obtain ⟨m, rfl⟩ : ∃ m, n = m + 1 := ⟨n - 1, by omega⟩
  obtain ⟨o, eo, fo, ti, I⟩ := hI
  refine seg_Expr_Yield g.split g.gd g.guard ?_ hco hi
  rw [g.over]
  refine wpAny_mono ((he _).run ip s σ H _ I ht) (fun v s1 hv => ?_) (fun _ _ z => z.elim)
  obtain ⟨x, H1, I1, rv, q⟩ := hv
  have G1 : GI1 C F nm sa ip ys σ H1 s1 := ⟨o, eo, fo, ti, I1⟩
  intro kap hk
  refine ⟨ys, x, ip, σ, H1, hn, rv, G1, fun s2 w fr => hk .none s2 (k m (ys ++ [x]) s2 s2 .next ?_ ⟨σ, H1, gi1_woken g.fn g.mem g.at0 G1 rv w fr, q⟩)⟩
  rw [List.length_append, List.length_singleton]
  omega
end
end Hw

namespace Hw
open PySem PySem.Spec PyProof.Rows L2 GenW
section
variable {C : Cx} {F : Addr}
theorem gcx_loop {A : Around} {c c' : Code} {fs : List Frame} {gd : Bool → Bool} {k : Result → Sem PySem.Fin} {l kp : List Value} {p : Pos} (g : GCx C F A c fs gd) (hw : c'.weight = 0) (hu : c'.cUnits = 0) : GCx C F A c' (.ret k none (gd false) l c p kp :: fs) id where
  fn := g.fn
  mem := g.mem
  at0 := g.at0
  over := (over_loop hw hu).trans g.over
  split := by
    have e := g.split
    show (splitAtGen fs).map _ = none
    rw [e] <;> rfl
  guard := by
    show (gd false || fs.any Frame.guarded) = false
    rw [g.gd, g.guard] <;> rfl
  gd := rfl
/-- nothing stands behind a loop -/
theorem seg_block_nil {prog : Program} {w : World} {A : Around} {R : GenEnd} {Y : Protocol} {n : Nat} {sa s : Shared} {fs : List Frame} {env : Env} (h : Seg (model prog w) A R Y n sa (.block [] env) (leafOf (.ok .next)) fs s) :
    Seg (model prog w) A R Y n sa (.block [] env) ((model prog w).den (.block [] env)) fs s := h
/-- a for over items, in a generator -/
def tGFor (wi : TI) (g : TG) (tb : TGn) : TGn := fun D ys σ H => wi σ H fun J H1 => ∃ W : Nat → Nat → List V → L2.St → Hp → Prop, (∃ m, W 0 m ys σ H1) ∧ ∀ i m ys σ H, W i m ys σ H →
  (J.stop i H ∧ D.nx ys σ H) ∨ (J.go i H ∧ ∃ N : List V → L2.St → Hp → Prop, (∀ ys' σ' H', N ys' σ' H' → ∃ m', m' < m ∧ W (i + 1) m' ys' σ' H') ∧ ∀ x H', J.yld i H x H' → g x σ H' fun σ2 H2 => tb { D with nx := N, ct := N, bk := D.nx } ys σ2 H2)
theorem fpOk_reb {s0 s1 : Shared} {pins : List (Addr × Obj)} {H : Hp} {b : Addr} (e : s1.heap.objs.size = s0.heap.objs.size) (h : FpOk (reb C s0) pins H b) : FpOk (reb C s1) pins H b := by
  obtain ⟨h1, h2, h3, h4, h5, h6⟩ := h
  exact ⟨h1, h2, h3, h4.imp (fun z => z) (fun z => by show s1.heap.objs.size ≤ b; rw [e]; exact z), h5, h6⟩
theorem gf_for {tg iter : Expr} {body : List Stmt} {wi : TI} {g : TG} {tb : TGn} {pos : Pos} (hc : C.calm = true) (hi : ∀ s0, PI (reb C s0) tg iter wi) (hg : ∀ s0, PG (reb C s0) tg g) (hb : GFs C body tb) (hs : ∀ x, foldedSetIterable iter C.env x = pure x := by intro _; rfl) :
    GF C (.For tg iter body [] pos) (tGFor wi g tb) := by
  refine ⟨fun F nm A ip R n ys sa c fs K J gd lv s σ H D gc hn k hI ht => ?_⟩
  obtain ⟨o, eo, fo, ti, I⟩ := hI
  rw [exec_For]
  refine seg_bind_wrap (wpAny_standAt (seg_bind_wrap ?_))
  rw [gc.over]
  refine wpAny_mono ((hi _).run ip s σ H _ I ht) (fun v s1 h1 => ?_) (fun _ _ z => z.elim)
  refine seg_bind_wrap (wpAny_of_eq (hs v) (seg_bind_wrap (wpAny_standAt (seg_bind_wrap (wpAny_holding ?_)))))
  rw [gc.over]
  refine wpAny_mono h1 (fun itv s2 h2 => ?_) (fun _ _ z => z.elim)
  obtain ⟨it, fp, tn, Jt, H2, e, I2, T, st2, f2, W, ⟨m0, w0⟩, turn⟩ := h2
  subst e
  refine seg_call fun p => ?_
  have gl := fun (kk : Result → Sem PySem.Fin) => gcx_loop (k := kk) (c' := .forLoop tg (.ref it) body [] C.env) (l := lv []) (kp := []) (p := p) gc rfl rfl
  have gl2 := fun (kk : Result → Sem PySem.Fin) => gcx_loop (k := kk) (c' := .block [] C.env) (l := lv []) (kp := []) (p := p) gc rfl rfl
  have stat : ∀ {o' : Obj} {H' : Hp}, (∀ b ∈ fp, H' b = none) → ∀ b ∈ fp, FpOk (reb C (setF C.s_0 F o')) ip H' b := fun {o' H'} hn b hb => fpOk_reb (s0 := setF C.s_0 F o) (by rw [setF_size, setF_size]) ⟨hn b hb, (f2 b hb).2⟩
  have loop : ∀ (m i n : Nat) (ys : List V) (sa s : Shared) (σ : L2.St) (H : Hp), n + ys.length = sizeLine → W i m ys σ H → GI1 C F nm sa ip ys σ H s → tn i s.heap → (∀ b ∈ fp, H b = none) →
      Seg (model C.prog C.w) A R (YG C F nm) n sa (.forLoop tg (.ref it) body [] C.env) ((model C.prog C.w).den (.forLoop tg (.ref it) body [] C.env))
        (.ret (fun r => ((match r with | .ok f => (.pure f : Sem Flow) | .error e => .raise e).onRaise (cameBack C.env)).wrap K J gd lv) none (gd false) (lv []) c p [] :: fs) s := by
    intro m
    induction m using Nat.strongRecOn with
    | ind m ih =>
      intro i n ys sa s σ H hn w hI st fr
      obtain ⟨o, eo, fo, ti, I⟩ := hI
      show Seg _ _ _ _ _ _ _ ((forTurn tg (.ref it) body [] C.env).onRaise (fun x => do noteFrame x C.env; theTreesLotGoes x)) _ _
      rw [Sem.onRaise_eq_wrap]
      unfold forTurn
      refine seg_bind_wrap (wpAny_standAt (seg_bind_wrap (wpAny_onRaise ?_)))
      rw [(gl _).over]
      rcases turn i m ys σ H w with ⟨stop, qn⟩ | ⟨go, N, hN, step⟩
      · refine wpAny_mono (T.done (reb C (setF C.s_0 F o)) rfl rfl rfl hc i ip s σ H (fun _ _ => False) I (stat fr) st stop) (fun r s4 h4 => ?_) (fun _ _ z => z.elim)
        obtain ⟨hr, I4⟩ := h4
        subst hr
        refine seg_again rfl (seg_block_nil (seg_leaf (.ok .next) ?_))
        exact k n ys sa s4 .next hn ⟨σ, H, ⟨o, eo, fo, ti, I4⟩, qn⟩
      · refine wpAny_mono (T.item (reb C (setF C.s_0 F o)) rfl rfl rfl hc i ip s σ H (fun _ _ => False) I (stat fr) st go) (fun r s4 h4 => ?_) (fun _ _ z => z.elim)
        obtain ⟨u, hr, h4⟩ := h4
        subst hr
        refine seg_bind_wrap ?_
        rw [(gl _).over]
        refine wpAny_mono h4 (fun _ s5 h5 => ?_) (fun _ _ z => z.elim)
        obtain ⟨x, H5, I5, r5, y5, st5, fr5⟩ := h5
        have I5' := I5.pinned (stat fr5) (T.obj _ _ st5)
        refine seg_bind_wrap ?_
        rw [(gl _).over]
        refine wpAny_mono ((hg _).run _ s5 σ H5 x u _ I5' r5 (step x H5 y5)) (fun _ s6 h6 => ?_) (fun _ _ z => z.elim)
        obtain ⟨σ6, H6, I6, q6⟩ := h6
        rw [Sem.bind_eq_wrap', Sem.wrap_wrap]
        have pinOf : ∀ {b : Addr} {ob : Obj}, b ∈ fp → s5.heap.get? b = some ob → (b, ob) ∈ ip ++ pinsAt fp s5.heap := fun hb e => List.mem_append_right _ (mem_pinsAt hb e)
        have again : ∀ {n' : Nat} {ys7 : List V} {sa7 s7 : Shared} {σ7 : L2.St} {H7 : Hp}, n' + ys7.length = sizeLine → GI1 C F nm sa7 (ip ++ pinsAt fp s5.heap) ys7 σ7 H7 s7 → N ys7 σ7 H7 →
            Seg (model C.prog C.w) A R (YG C F nm) n' sa7 (.forLoop tg (.ref it) body [] C.env) (.pure (.again (.forLoop tg (.ref it) body [] C.env)))
              (.ret (fun r => ((match r with | .ok f => (.pure f : Sem Flow) | .error e => .raise e).onRaise (cameBack C.env)).wrap K J gd lv) none (gd false) (lv []) c p [] :: fs) s7 := fun {n' ys7 sa7 s7 σ7 H7} hn7 G7 n7 => by
          obtain ⟨o7, eo7, fo7, ti7, I7⟩ := G7
          obtain ⟨m', hm, w7⟩ := hN ys7 σ7 H7 n7
          refine seg_again rfl (ih m' hm (i + 1) n' ys7 sa7 s7 σ7 H7 hn7 w7 ⟨o7, eo7, fo7, ti7, I7.unpinned⟩ (T.keep _ _ _ st5 fun b hb ob e => ?_) fun b hb => ?_)
          · exact (I7.pin (b, ob) (List.mem_append_right _ (pinOf hb e))).1
          · obtain ⟨ob, e, _⟩ := T.obj _ _ st5 b hb
            exact (I7.pin (b, ob) (List.mem_append_right _ (pinOf hb e))).2.1
        refine hb.run F nm A (ip ++ pinsAt fp s5.heap) R n ys sa _ _ _ _ _ _ s6 σ6 H6 { D with nx := N, ct := N, bk := D.nx } (gl _) hn (fun n' ys' sa' s3 f hn' hs => ?_) ⟨o, eo, fo, ti, I6⟩ q6
        have un : ∀ {ys7 : List V} {sa7 s7 : Shared} {σ7 : L2.St} {H7 : Hp}, GI1 C F nm sa7 (ip ++ pinsAt fp s5.heap) ys7 σ7 H7 s7 → GI1 C F nm sa7 ip ys7 σ7 H7 s7 := fun ⟨o7, a, b, c, I7⟩ => ⟨o7, a, b, c, I7.unpinned⟩
        match f, hs with
        | .next, ⟨σ3, H3, I3, n3⟩ => exact again hn' I3 n3
        | .cont, ⟨σ3, H3, I3, n3⟩ => exact again hn' I3 n3
        | .brk, ⟨σ3, H3, I3, q3⟩ => exact seg_leaf (.ok .next) (k n' ys' sa' s3 .next hn' ⟨σ3, H3, un I3, q3⟩)
        | .ret u', ⟨v3, σ3, H3, I3, r3, q3⟩ => exact seg_leaf (.ok (.ret u')) (k n' ys' sa' s3 (.ret u') hn' ⟨v3, σ3, H3, un I3, r3, q3⟩)
  exact loop m0 0 n ys sa s2 σ H2 hn w0 ⟨o, eo, fo, ti, I2⟩ st2 fun b hb => (f2 b hb).1
end
end Hw

namespace Hw
open PySem PySem.Spec PyProof.Rows L2 GenW
/-- the end of the generator's run -/
def RG (C : Cx) (F : Addr) (nm : Str) (Q : List V → Hp → Prop) : GenEnd := fun n sa r s =>
  ((r = .ok (.ret .none) ∨ r = .ok .next) ∧ ∃ ys ip σ H, GI1 C F nm sa ip ys σ H s ∧ Q ys H) ∨ ∃ e, r = .error e ∧ False
/-- a generator that has not begun; sB, HB: the state and the heap in which its frame was made -/
structure GMx (P : Program) (w : World) (k : Nat) (outer : List Env) (H : Hp) (s : Shared) (Q : List V → Hp → Prop) (a : Addr) (g : Nat) (c : Code) (sB : Shared) (HB : Hp) (s' : Shared) : Prop where
  lt : a < s'.heap.objs.size
  ge : sB.heap.objs.size ≤ a
  gen : s'.heap.IsGen a g
  at_ : s'.gens[g]? = some (.fresh c)
  os : s'.os = s.os
  bare : AllBare s'.gens
  lim : s'.heap.NoLimit
  bareB : AllBare sB.gens
  osB : sB.os = s.os
  un : Un (frs outer) [] H HB s.heap sB.heap
  hokB : HOk P w HB sB.heap
  keep : ∀ b o, sB.heap.get? b = some o → s'.heap.get? b = some o
  wake : ∀ (Aw : Around) (F : Addr) (nm : Str) (s2 : Shared) (o : Obj), Room k Aw → Aw.frames = some outer → F ∈ frs outer → s2.heap = s'.heap → s2.os = s'.os → AllBare s2.gens → s2.heap.get? F = some o → FrO o →
    ∃ C : Cx, C.prog = P ∧ C.w = w ∧ C.s_0 = sB ∧ C.H_0 = HB ∧ C.outer = outer ∧ C.ex = [] ∧ (∀ x, C.fn x = true) ∧ (∀ h : Heap, (∀ p ∈ C.pn, h.get? p.1 = some p.2) → h.IsGen a g) ∧
      Seg (model P w) Aw (RG C F nm Q) (YG C F nm) sizeLine s2 c ((model P w).den c) [] s2
abbrev SpGx := List V → Hp → (List V → Hp → Prop) → Prop
def GFX (P : Program) (w : World) (K : PySem.W.Frag) (mg : Str → Option Value) (base : Heap) (k : Nat) (f : Addr) (sp : SpGx) : Prop :=
  ∀ (A : Around) (outer : List Env) (s : Shared) (H : Hp) (us : List Value) (vs : List V) (Q : List V → Hp → Prop), Room k A → Env0 P w K mg base A outer s H → Vals vs us → sp vs H Q →
    codeAny (model P w) A (.call (.ref f) ⟨us, []⟩) (fun r s' => ∃ a g c sB HB, r = .ok (.ret (.ref a)) ∧ GMx P w k outer H s Q a g c sB HB s') s
theorem frs_kept {outer : List Env} {base h : Heap} (hl : h.FunFrames base outer) {F : Addr} (hF : F ∈ frs outer) : ∃ o, h.get? F = some o ∧ ∀ vs, o.data ≠ .fields vs := (hl.mem (show F ∈ outer.filterMap (·.frame) from hF)).2
/-- the same of a context that tells of more pins -/
theorem inv_pn {C : Cx} {σ : L2.St} {H : Hp} {s : Shared} {pn : List (Addr × Obj)} (hpn : C.pn = []) (I : L2.Inv C [] σ H s) (h : ∀ p ∈ pn, s.heap.get? p.1 = some p.2 ∧ H p.1 = none ∧ p.1 ≠ C.env.locals ∧ p.1 ∉ C.fs ∧ ∀ v, p.2.data ≠ .cell v) : L2.Inv { C with pn := pn } [] σ H s :=
  ⟨⟨I.ok.mod, I.ok.kind, I.ok.glob, I.ok.blt, I.ok.above, I.ok.inj, I.ok.has, I.ok.cab, I.ok.hd, I.ok.frames, I.ok.stk, I.ok.exf, I.ok.bs, I.ok.bsz, I.ok.noex, I.ok.exfs, I.ok.funs, I.ok.frf⟩, I.os, I.bare, I.base, I.loc, I.cell, I.free, I.freeC, fun p hp => h p (by simpa using hp), I.hok, I.len⟩
/-- .. that says otherwise what leaves it -/
theorem inv_xe {C : Cx} {σ : L2.St} {H : Hp} {s : Shared} {pins : List (Addr × Obj)} {xe : Value → Shared → Prop} (I : L2.Inv C pins σ H s) : L2.Inv { C with xe := xe } pins σ H s :=
  ⟨⟨I.ok.mod, I.ok.kind, I.ok.glob, I.ok.blt, I.ok.above, I.ok.inj, I.ok.has, I.ok.cab, I.ok.hd, I.ok.frames, I.ok.stk, I.ok.exf, I.ok.bs, I.ok.bsz, I.ok.noex, I.ok.exfs, I.ok.funs, I.ok.frf⟩, I.os, I.bare, I.base, I.loc, I.cell, I.free, I.freeC, I.pin, I.hok, I.len⟩
section
variable {P : Program} {w : World} {K : PySem.W.Frag} {mg : Str → Option Value} {base : Heap} {k : Nat} {f : Addr} {name qual : Str} {params : Arguments} {body : List Stmt} {scope : Scope} {dV kV doc pm cdv ct oc : Value} {an od : Option Addr}
  {osl : Array (Option Value)} {N ps : List Str} {sp : SpGx}
/-- the body's context -/
abbrev cxG (P : Program) (w : World) (K : PySem.W.Frag) (mg : Str → Option Value) (base : Heap) (N : List Str) (qual : Str) (scope : Scope) (f : Addr) (cdv : Value) (A : Around) (outer : List Env) (s : Shared) (H : Hp) (pn : List (Addr × Obj)) : Cx :=
  { cxOf CX0 P w K mg base N qual scope f cdv A outer s H E0 with pn := pn }
/-- a generator def with a star parameter, by its body -/
theorem gfx_star {pv : Str} (lk : K.lookup f = some ⟨oc, od, .func (PySem.W.fnOf name qual params body scope dV kV doc pm an cdv ct), osl⟩) (hcd : PySem.W.codeIn K cdv qual = true) (S : GScope N (ps ++ [pv]) scope)
    (hb : ∀ us rest : List Value, us.length = ps.length → bindArgs (PySem.W.fnOf name qual params body scope dV kV doc pm an cdv ct) ⟨us ++ rest, []⟩ = (newTuple rest >>= fun t => pure (ps.zip us ++ [(pv, t)])))
    (hbody : ∀ (A : Around) (outer : List Env) (s : Shared) (H : Hp) (vs : List V) (Q : List V → Hp → Prop) (pn : List (Addr × Obj)), Room k (A.deeper (envOfC qual scope s.heap.objs.size f cdv)) → sp vs H Q →
      ∃ t, GFs (cxG P w K mg base N qual scope f cdv A outer s H pn) body t ∧ t { nx := fun ys _ H' => Q ys H', rt := fun ys v H' => v = .non ∧ Q ys H' } [] (start N vs) H) :
    GFX P w K mg base (k + 1) f (fun vs H Q => ∃ ws rest, vs = ws ++ rest ∧ ws.length = ps.length ∧ rest.length ≤ sizeLine ∧ ∀ p, H p = none → sp (ws ++ [.ref p]) (upd H p (.tup rest)) Q) := by
  intro A outer s H us vs Q hr e0 r hsp
  obtain ⟨ws, rest, rfl, hl, hz, hq⟩ := hsp
  obtain ⟨u1, u2, rfl, r1, r2⟩ := StX.vals_split r
  have hl1 : u1.length = ps.length := by rw [← r1.length]; exact hl
  have hl2 : u2.length ≤ sizeLine := by rw [← r2.length]; exact hz
  have hn : H s.heap.objs.size = none := e0.hok.fresh (Nat.le_refl _)
  have KX : K.In s.heap := e0.mod.kin.keeps fun b o e => (e0.bs b o e).1
  refine codeAny_call_generator hr.depth (KX _ _ lk) rfl S.co S.gen rfl (PySem.W.codeRec_of KX hcd) ?_
  rw [hb u1 u2 hl1]
  refine wpAny_bind (wpAny_newTuple (wpAny_pure ?_) hl2)
  let oT : Obj := { cls := .type "tuple", data := .seq u2.toArray }
  have new : ObjOk P w (upd H s.heap.objs.size (.tup rest)) (s.heap.push oT) s.heap.objs.size (.tup rest) := ⟨hz, u2, r2, ⟨_, Heap.get?_push_size _ rfl, rfl, _, rfl⟩⟩
  have e1 : Env0 P w K mg base A outer { s with heap := s.heap.push oT } (upd H s.heap.objs.size (.tup rest)) := StX.env0_laid e0 new
  have un1 : Un (frs outer) [] H (upd H s.heap.objs.size (.tup rest)) s.heap (s.heap.push oT) := StX.un_laid hn
  have hqq := hq s.heap.objs.size hn
  have rel : Vals (ws ++ [V.ref s.heap.objs.size]) (u1 ++ [Value.ref s.heap.objs.size]) := r1.append (.cons rfl .nil)
  have lv : (ws ++ [V.ref s.heap.objs.size]).length = (ps ++ [pv]).length := by rw [List.length_append, List.length_append, hl] <;> rfl
  have zp : ps.zip u1 ++ [(pv, Value.ref s.heap.objs.size)] = (ps ++ [pv]).zip (u1 ++ [Value.ref s.heap.objs.size]) := by rw [List.zip_append hl1.symm] <;> rfl
  show wpAny _ _ (newFunctionEnv _ _ _ (ps.zip u1 ++ [(pv, Value.ref s.heap.objs.size)]) _ _ _ _ _) _ _ _
  rw [zp]
  generalize hHB : upd H s.heap.objs.size (.tup rest) = HB at *
  generalize hvs : ws ++ [V.ref s.heap.objs.size] = vs2 at *
  generalize hus : u1 ++ [Value.ref s.heap.objs.size] = us2 at *
  generalize hsB : ({ s with heap := s.heap.push oT } : Shared) = sB at *
  have sBh : sB.heap = s.heap.push oT := by rw [← hsB]
  have sBo : sB.os = s.os := by rw [← hsB]
  have lim : sB.heap.NoLimit := e0.mod.nolimit.keeps fun b o e => (e1.bs b o e).1
  have hkind : ∀ y ∈ (ps ++ [pv]).zip us2, scope.names.lookup y.1 = some .local ∨ (scope.names.lookup y.1 = some .cell ∧ ((cellsFrom (sB.heap.objs.size + 1) scope.names []).lookup y.1).isSome = true) := fun ⟨n, v⟩ hy => by
    rcases S.par n (List.of_mem_zip hy).1 with q | q
    · exact .inl q
    · exact .inr ⟨q, PySem.W.cellsFrom_some _ _ _ (.inl q)⟩
  refine wpAny_newFunctionEnv_cells S.kind hkind fun env he s1 x => ?_
  subst he
  have lim1 : s1.heap.NoLimit := lim.keeps x.toInCall.keep
  refine ⟨lim1, ?_⟩
  obtain ⟨h1, tk, es1, hk1⟩ := x.done
  have os1 : s1.os = sB.os := by rw [es1]
  have gen1 : s1.gens = sB.gens := by rw [es1]
  have kp1 : ∀ b o, sB.heap.get? b = some o → s1.heap.get? b = some o := x.toInCall.keep
  have sz1 : sB.heap.objs.size ≤ s1.heap.objs.size := Nat.le_of_lt x.toInCall.ns.lt
  have lt1 : sB.heap.objs.size < s1.heap.objs.size := x.toInCall.ns.lt
  have main : ∀ (go : Obj) (n1 n2 : Value) (tk2 : Nat), go.cls = .type "generator" → go.data = .fields #[.int s1.gens.size 0, n1, n2] → go.slots = #[] → (∀ h : Heap, (h.push go).get? h.objs.size = some go) →
      GMx P w (k + 1) outer H s Q s1.heap.objs.size s1.gens.size (.func body (envOfC qual scope sB.heap.objs.size f cdv)) sB HB { s1 with gens := s1.gens.push (.fresh (.func body (envOfC qual scope sB.heap.objs.size f cdv))), toks := tk2, heap := s1.heap.push go } := by
    intro go n1 n2 tk2 hgc hgd hgs hgp
    have hgen : ∀ h : Heap, h.get? s1.heap.objs.size = some go → h.IsGen s1.heap.objs.size s1.gens.size := fun h e => ⟨go, n1, n2, e, hgc, hgd, hgs⟩
    have hpushed : (s1.heap.push go).get? s1.heap.objs.size = some go := hgp _
    refine ⟨?_, sz1, hgen _ hpushed, Array.getElem?_push_size .., os1.trans sBo, ?_, lim1.keeps fun b o e => Heap.get?_push_of_some _ e, e1.bare, sBo, by rw [sBh]; exact un1, e1.hok, fun b o e => Heap.get?_push_of_some _ (kp1 b o e), ?_⟩
    · show _ < (s1.heap.push _).objs.size
      rw [Heap.size_push]
      exact Nat.lt_succ_self _
    · exact AllBare.push (by rw [gen1]; exact e1.bare) rfl
    intro Aw F nm s2 o hrw hfr hF hh2 ho2 hb2 hoF hfo
    have hfr0 : ∃ o, sB.heap.get? F = some o ∧ ∀ vs, o.data ≠ .fields vs := frs_kept e1.funs hF
    obtain ⟨oF, eF, dF⟩ := hfr0
    have e0w : Env0 P w K mg base Aw outer sB HB := ⟨hfr, e1.mod, e1.bs, e1.bsz, e1.funs, e1.frf, e1.hok, e1.bare⟩
    refine ⟨cxG P w K mg base N qual scope f cdv Aw outer sB HB [(s1.heap.objs.size, go)], rfl, rfl, rfl, rfl, rfl, rfl, fun _ => rfl, fun h hp => hgen h (hp (s1.heap.objs.size, go) (List.mem_singleton.mpr rfl)), ?_⟩
    obtain ⟨t, ht, hq2⟩ := hbody Aw outer sB HB vs2 Q [(s1.heap.objs.size, go)] (hrw.deeper _) hqq
    have I1 : L2.Inv (gcxOf P w K mg base N qual scope f cdv Aw outer sB HB E0 []) [] (start N vs2) HB s1 := inv_startG S hrw.hd e0w lv rel x
    have I2 : L2.Inv (gcxOf P w K mg base N qual scope f cdv Aw outer sB HB E0 []) [] (start N vs2) HB s2 :=
      I1.call' (ch := []) (by rw [ho2]) (by rw [hh2]; exact Un.kept fun b o e => Heap.get?_push_of_some _ e) (by rw [hh2]; exact I1.hok.kept fun b o e => Heap.get?_push_of_some _ e) hb2 fun b z => by simp at z
    have I3 : L2.Inv { gcxOf P w K mg base N qual scope f cdv Aw outer sB HB E0 [] with pn := [(s1.heap.objs.size, go)] } [] (start N vs2) HB s2 := inv_pn rfl I2 fun p hp => by
      rw [List.mem_singleton.mp hp]
      exact ⟨by rw [hh2]; exact hpushed, I1.hok.fresh (Nat.le_refl _), Nat.ne_of_gt lt1, I1.nofs (Nat.le_refl _), fun v z => by rw [hgd] at z; cases z⟩
    have I4 : L2.Inv (reb (cxG P w K mg base N qual scope f cdv Aw outer sB HB [(s1.heap.objs.size, go)]) sB) [] (start N vs2) HB s2 := by
      have z := inv_xe (xe := fun _ _ => False) I3
      exact z
    have atF : (setF sB F o).heap.get? F = some o := setF_at eF (not_freed hoF)
    have I5 : L2.Inv (reb (cxG P w K mg base N qual scope f cdv Aw outer sB HB [(s1.heap.objs.size, go)]) (setF sB F o)) [] (start N vs2) HB s2 :=
      inv_woke (fun _ => rfl) I4 hF ⟨rfl, hb2, fun b o _ e => e⟩ ⟨setF_size, rfl, fun b n => setF_off n, ⟨oF, o, eF, atF, hfo.1, hfo.2⟩⟩ (by rw [hoF, atF])
    refine seg_func ?_
    refine ht.run F nm Aw [] _ sizeLine [] s2 _ [] _ _ id id s2 (start N vs2) HB _ ⟨fun _ => rfl, hF, ⟨oF, eF⟩, over_func, rfl, rfl, rfl⟩ (Nat.add_zero _) (fun n ys sa s' fl hn hs => ?_) ⟨o, hoF, hfo, fun y hy => by simp at hy, I5⟩ hq2
    match fl, hs with
    | .next, ⟨σ', H', hI, hQ⟩ => exact seg_end (.ok (.ret .none)) (.inl ⟨.inl rfl, ys, [], σ', H', hI, hQ⟩)
    | .brk, ⟨_, _, _, q⟩ => exact q.elim
    | .cont, ⟨_, _, _, q⟩ => exact q.elim
    | .ret u, ⟨v, σ', H', hI, rv, ev, hQ⟩ =>
      subst ev
      obtain rfl : u = Value.none := rv
      exact seg_end (.ok (.ret .none)) (.inl ⟨.inl rfl, ys, [], σ', H', hI, hQ⟩)
  exact ⟨_, _, _, _, _, rfl, main _ _ _ _ rfl rfl rfl fun h => Heap.get?_push_size _ rfl⟩
end
end Hw

namespace Hw
open PySem PySem.Spec PyProof.Rows L2 GenW
/-- an expression whose value is a generator that has not begun -/
structure PGX (X : Cx) (k : Nat) (e : Expr) (tg : TGen) : Prop where
  run : ∀ (pins : List (Addr × Obj)) (s : Shared) (σ : L2.St) (H : Hp) (cont : List V → Hp → Prop), L2.Inv X pins σ H s → tg σ H cont → wpAny (model X.prog X.w) X.A (eval e X.env)
    (fun u s' => ∃ H1 sc a g c sB HB, u = .ref a ∧ L2.Inv X pins σ H1 sc ∧ GMx X.prog X.w k X.stack H1 sc cont a g c sB HB s') X.xe s
section
variable {X : Cx} {pins : List (Addr × Obj)} {σ : L2.St} {H : Hp} {s : Shared}
/-- the frame's own object replaced -/
theorem inv_setF {σ' : L2.St} {o : Obj} {es : Array DictEntry} {ep : Nat} {m : Str → Option Value} (I : L2.Inv X pins σ H s) (fo : o.isFreed = false) (hd : o.data = .dict es ep) (sk : StrKeys es) (hm : ∀ name, nsFind es name = m name)
    (loc : ∀ (i : Nat) (x : Str) (v : V), X.N[i]? = some x → σ'[i]? = some (some v) → Vis X.env.scope x → (∃ u, RelV v u ∧ X.env.kindOf x = some .local ∧ m x = some u) ∨ (σ[i]? = some (some v) ∧ X.env.kindOf x ≠ some .local)) (len : σ'.length = X.N.length) :
    L2.Inv X pins σ' H (setF s X.env.locals o) := by
  obtain ⟨m0, ⟨o0, _, _, e0, _⟩, hl⟩ := I.loc
  have nF := I.free
  have at_ : (setF s X.env.locals o).heap.get? X.env.locals = some o := setF_at e0 fo
  have off : ∀ b, b ≠ X.env.locals → (setF s X.env.locals o).heap.get? b = s.heap.get? b := fun b n => setF_off n
  have old : ∀ b o, X.s_0.heap.get? b = some o → b ≠ X.env.locals := fun b o e => Nat.ne_of_lt (Nat.lt_of_lt_of_le (Heap.lt_size e) I.ok.above)
  refine ⟨I.ok, I.os, I.bare, ⟨fun b o' e n hb hx => ?_, fun b o' e n hb hx => ?_, I.base.free, fun b o' e hx => ?_, I.base.tups, I.base.frzs, I.base.tbls⟩, ⟨m, ⟨o, es, ep, at_, hd, sk, hm⟩, fun i x v e1 e2 e3 => ?_⟩, fun x c e => ?_, I.free, I.freeC, fun p hp => ?_, fun b u e => ?_, len⟩
  · rw [off b (old b o' e)]
    exact I.base.keep b o' e n hb hx
  · rw [off b (old b o' e)]
    exact I.base.slot b o' e n hb hx
  · rw [off b (old b o' e)]
    exact I.base.there b o' e hx
  · rcases loc i x v e1 e2 e3 with ⟨u, ru, k, z⟩ | ⟨z, nk⟩
    · exact ⟨u, ru, .inl ⟨k, z⟩⟩
    · obtain ⟨u, ru, l⟩ := hl i x v e1 z e3
      refine ⟨u, ru, ?_⟩
      rcases l with ⟨k, _⟩ | ⟨k, c, e, oc, ho, hc⟩
      · exact absurd k nk
      · exact .inr ⟨k, c, e, oc, (off c (I.cne x c e)).trans ho, hc⟩
  · obtain ⟨v, oc, ho, hc⟩ := I.cell x c e
    exact ⟨v, oc, (off c (I.cne x c e)).trans ho, hc⟩
  · obtain ⟨h1, h2, h3, h4, h5⟩ := I.pin p hp
    exact ⟨(off p.1 h3).trans h1, h2, h3, h4, h5⟩
  · refine (I.hok b u e).stay (fun c v hc q => ?_) (fun _ q => q) fun _ _ q => q
    refine (off c ?_).trans q
    rintro rfl
    rcases hc with z | z
    · rw [← z, nF] at e
      cases e
    · rw [nF] at z
      cases z
end
/-- the last one that is handed out -/
def tLast (ir il : Nat) (tg : TGen) : TS := fun D σ H => tg σ H fun ys H1 => ys ≠ [] ∧ ∀ x v, ys.getLast? = some x → D.nx ((σ.set ir v).set il (some x)) H1
section
variable {X : Cx}
theorem dict_fro {o : Obj} {es : Array DictEntry} {ep : Nat} (hd : o.data = .dict es ep) : FrO o := ⟨fun vs z => (by rw [hd] at z; cases z), fun v z => (by rw [hd] at z; cases z)⟩
/-- for r in generator: l = r -/
theorem ps_last {k ir il : Nat} {r l : Str} {iter : Expr} {tg : TGen} {p1 p2 p3 p4 pos : Pos} (hc : X.calm = true) (hN : X.N.Nodup) (hs : X.stack = X.env :: X.outer) (hf : X.env.frame = some X.env.locals) (hir : X.N[ir]? = some r) (hil : X.N[il]? = some l)
    (kr : X.env.kindOf r = some .local) (kl : X.env.kindOf l = some .local) (hne : ir ≠ il) (hg : PGX X k iter tg) (hroom : Room (k + 1) X.A) (hdr : (r == ("__debug__" : Str)) = false := by decide) (hfs : ∀ x, foldedSetIterable iter X.env x = pure x := by intro _; rfl)
    (hsw : swapsWith (.Name r p3) (some (.Name l p2)) p4.line X.env = pure false := by rfl) :
    PS X (.For (.Name r p1) iter [.Assign [.Name l p2] (.Name r p3) p4] [] pos) (tLast ir il tg) := by
  refine ⟨fun pins s σ H D I h => ?_⟩
  refine wpAny_For (thn (hg.run pins s σ H _ I h) fun u s1 h1 => ?_) hfs
  obtain ⟨H1, sc, a, g, c, sB, HB, rfl, Ic, gm⟩ := h1
  refine wpAny_pyIter_gen gm.gen ?_
  have kind := Ic.ok.kind
  have hcls : (X.env.scope.kind == .class || (X.env.scope.kind == .module && X.env.locals != X.env.globals)) = false := by rw [kind] <;> rfl
  have IB : L2.Inv X pins σ HB sB := Ic.call' (ch := []) gm.osB gm.un gm.hokB gm.bareB fun b z => by simp at z
  obtain ⟨mB, ⟨oB, esB, epB, eB, dB, skB, fB⟩, lB⟩ := id IB.loc
  have hF : X.env.locals ∈ frs X.stack := by
    rw [hs]
    unfold frs
    rw [List.filterMap_cons_some hf]
    exact List.mem_cons_self
  have lenσ : σ.length = X.N.length := IB.len
  have irlt : ir < σ.length := by rw [lenσ]; exact (List.getElem?_eq_some_iff.mp hir).1
  have illt : il < σ.length := by rw [lenσ]; exact (List.getElem?_eq_some_iff.mp hil).1
  have nrl : r ≠ l := fun z => hne (nodup_ix hN hir (z ▸ hil))
  have hfr := IB.ok.frames
  have hh : X.A.handled = none := IB.ok.hd hc
  have at1 : s1.heap.get? X.env.locals = some oB := gm.keep _ _ eB
  have gl1 : g < s1.gens.size := (Array.getElem?_eq_some_iff.mp gm.at_).1
  obtain ⟨C, c1, c2, c3, c4, c5, c6, c7, c8, seg⟩ := gm.wake X.A.in1 X.env.locals l (s1.setGen g .running) oB hroom.in1 hfr hF rfl rfl (allBare_setGen gm.bare rfl) at1 (dict_fro dB)
  -- from the generator's own to ours
  have cross : ∀ {o : Obj} {σ1 σi : L2.St} {ip : List (Addr × Obj)} {Hn : Hp} {sn : Shared}, L2.Inv X pins σ1 HB (setF sB X.env.locals o) → L2.Inv (reb C (setF C.s_0 X.env.locals o)) ip σi Hn sn → L2.Inv X pins σ1 Hn sn := fun {o σ1 σi ip Hn sn} Io Ii => by
    have b := Ii.base
    have hk := Ii.hok
    have os := Ii.os
    have e : Un (frs C.outer) C.ex C.H_0 Hn (setF C.s_0 X.env.locals o).heap sn.heap := b
    rw [c3, c4, c5, c6] at e
    have hk' : HOk C.prog C.w Hn sn.heap := hk
    rw [c1, c2] at hk'
    have os' : sn.os = (setF C.s_0 X.env.locals o).os := os
    rw [c3] at os'
    exact Io.call' (ch := []) os' e hk' Ii.bare fun b z => by simp at z
  have swap : ∀ {o : Obj} {es : Array DictEntry} {ep : Nat} {m : Str → Option Value} {v w : Option V}, o.isFreed = false → o.data = .dict es ep → StrKeys es → (∀ name, nsFind es name = m name) →
      (∀ y, y ≠ r → y ≠ l → m y = mB y) → (∀ x, v = some x → ∃ u, RelV x u ∧ m r = some u) → (∀ x, w = some x → ∃ u, RelV x u ∧ m l = some u) → L2.Inv X pins ((σ.set ir v).set il w) HB (setF sB X.env.locals o) := fun {o es ep m v w} fo hd sk hm hoth hv hw => by
    refine inv_setF IB fo hd sk hm (fun i x y e1 e2 e3 => ?_) (by rw [List.length_set, List.length_set]; exact lenσ)
    by_cases zi : i = il
    · subst zi
      rw [List.getElem?_set_self (by rw [List.length_set]; exact illt)] at e2
      rw [hil] at e1
      cases e1
      obtain ⟨u, ru, e⟩ := hw y (Option.some.inj e2)
      exact .inl ⟨u, ru, kl, e⟩
    · rw [List.getElem?_set_ne (Ne.symm zi)] at e2
      by_cases zr : i = ir
      · subst zr
        rw [List.getElem?_set_self irlt] at e2
        rw [hir] at e1
        cases e1
        obtain ⟨u, ru, e⟩ := hv y (Option.some.inj e2)
        exact .inl ⟨u, ru, kr, e⟩
      · rw [List.getElem?_set_ne (Ne.symm zr)] at e2
        obtain ⟨u, ru, lk⟩ := lB i x y e1 e2 e3
        rcases lk with ⟨kk, e⟩ | ⟨kk, _⟩
        · refine .inl ⟨u, ru, kk, ?_⟩
          rw [hoth x (fun z => zr (nodup_ix hN e1 (z ▸ hir))) (fun z => zi (nodup_ix hN e1 (z ▸ hil)))]
          exact e
        · refine .inr ⟨e2, fun z => ?_⟩
          rw [z] at kk
          rcases kk with kk | kk <;> cases kk
  have keepRL : ∀ {v : V} {x : Str} {i : Nat}, X.N[i]? = some x → σ[i]? = some (some v) → X.env.kindOf x = some .local → ∃ u, RelV v u ∧ mB x = some u := fun {v x i} e1 e2 kx => by
    obtain ⟨u, ru, lk⟩ := lB i x v e1 e2 (.inl kx)
    rcases lk with ⟨_, e⟩ | ⟨kk, _⟩
    · exact ⟨u, ru, e⟩
    · rw [kx] at kk
      rcases kk with kk | kk <;> cases kk
  refine codeAny_forLoop_any (fun n s2 => ∃ (gs : GenState) (o : Obj) (es : Array DictEntry) (ep : Nat) (m : Str → Option Value) (v w : Option V), s2.gens[g]? = some gs ∧ gs.Goes (model X.prog X.w) X.A.in1 (RG C X.env.locals l (fun ys H1 => ys ≠ [] ∧ ∀ x v, ys.getLast? = some x → D.nx ((σ.set ir v).set il (some x)) H1)) (YG C X.env.locals l) n (.send .none) (s2.setGen g .running) ∧
      s2.heap.get? X.env.locals = some o ∧ o.data = .dict es ep ∧ StrKeys es ∧ (∀ name, nsFind es name = m name) ∧ (∀ y, y ≠ r → y ≠ l → m y = mB y) ∧ L2.Inv X pins ((σ.set ir v).set il w) HB (setF sB X.env.locals o) ∧ s2.heap.NoLimit ∧ s2.heap.IsGen a g) ?_ sizeLine ?_
  · rintro n s2 ⟨gs, o, es, ep, m, v0, w0, hgs, hgo, eo, hd, sk, hm, hoth, Io, lim, isg⟩
    have hgl : g < s2.gens.size := (Array.getElem?_eq_some_iff.mp hgs).1
    refine wpAny_mono (wpAny_gsz (E := fun _ _ => False) (n := g + 1) hgl (next_genG (A := X.A) (Er := fun _ _ => False) (F := fun _ sa s1 => ∃ ys ip σi Hn, GI1 C X.env.locals l sa ip ys σi Hn s1 ∧ (ys ≠ [] ∧ ∀ x v, ys.getLast? = some x → D.nx ((σ.set ir v).set il (some x)) Hn))
      hh lim hroom.depth isg hgs hgo (fun v s3 gs' hbare hv hsz => ?_) (fun s3 hp h' hk hsz => ?_) fun e s3 z => False.elim (show False from z))) (fun _ _ z => z) (fun _ _ z => False.elim z)
    · -- an item
      obtain ⟨ys, x, ip, σi, Hn, hn, rv, ⟨o', eo', fo', ti', Ii⟩, hkap⟩ := hv
      have eoo : o' = o := by
        have z : s2.heap.get? X.env.locals = some o' := eo'
        rw [eo] at z
        exact (Option.some.inj z).symm
      subst eoo
      have J := cross Io Ii
      have isg3 : s3.heap.IsGen a g := c8 s3.heap fun p hp => (Ii.pin p (List.mem_append_left _ hp)).1
      have hsz3 : g < s3.gens.size := by
        have q : (s3.setGen g gs').gens.size = s3.gens.size := setGen_size _ _ _
        rw [q] at hsz
        exact hsz
      have J0 : L2.Inv X pins ((σ.set ir v0).set il w0) Hn (s3.setGen g gs') := J.call' (ch := []) rfl (Un.kept fun b o e => e) J.hok (allBare_setGen J.bare hbare) fun b z => by simp at z
      obtain ⟨m1, ns1, _⟩ := J0.loc
      unfold letOwnedTupleGo
      refine wpAny_pure (wpAny_assign_Name (wpAny_storeName_local kr ns1 (fun h4 ns4 sb4 => ?_) hcls))
      refine wpAny_execs_cons (wpAny_Assign_Name (wpAny_Name (wpAny_loadName_local kind kr ns4 (show (if r = r then some v else m1 r) = some v from if_pos rfl) (wpAny_storeName_local kl ns4 (fun h5 ns5 sb5 => wpAny_execs_nil ?_) hcls)) hdr) hsw)
      -- the state behind the turn
      have off5 : ∀ b, b ≠ X.env.locals → h5.get? b = s3.heap.get? b := fun b nb => (sb5.2 b nb).trans (sb4.2 b nb)
      obtain ⟨o5, es5, ep5, e5, d5, sk5, f5⟩ := ns5
      have m5r : nsFind es5 r = some v := by
        rw [f5]
        show (if r = l then some v else if r = r then some v else m1 r) = some v
        rw [if_neg nrl, if_pos rfl]
      have m5l : nsFind es5 l = some v := by
        rw [f5]
        show (if l = l then some v else _) = some v
        exact if_pos rfl
      have m1o : ∀ y, y ≠ r → y ≠ l → m1 y = mB y := fun y n1 n2 => by
        -- the frame's object of the generator's turn is ours up to its slots
        obtain ⟨o1, es1, ep1, e1, d1, _, f1⟩ := id ns1
        have Iio := Ii.base
        have e : Un (frs C.outer) C.ex C.H_0 Hn (setF C.s_0 X.env.locals o').heap s3.heap := Iio
        rw [c3, c4, c5, c6] at e
        obtain ⟨sl, q⟩ := e.slot X.env.locals o' (setF_at eB (not_freed eo)) IB.free hF (by simp)
        have q' : s3.heap.get? X.env.locals = some o1 := e1
        rw [q'] at q
        have q2 : o1 = { o' with slots := sl } := Option.some.inj q
        have dd : o1.data = o'.data := by rw [q2]
        rw [d1, hd] at dd
        cases dd
        rw [← f1 y, hm y, hoth y n1 n2]
      refine ⟨n - 1, ?_, gs', o5, es5, ep5, fun y => nsFind es5 y, some x, some x, setGen_at hsz3, ?_, e5, d5, sk5, fun _ => rfl, fun y n1 n2 => ?_, ?_, ?_, ?_⟩
      · -- there is a turn left
        cases n with
        | zero =>
          exfalso
          have hF' : False := by
            have w5 := hkap ⟨h5, s3.gens, s3.drawn, s3.toks, s3.os⟩ ⟨rfl, J.bare, fun b o nb e => (off5 b nb).trans e⟩ ⟨o5, e5, dict_fro d5, es5, ep5, d5, m5l⟩
            exact w5
          exact hF'
        | succ n => omega
      · cases n with
        | zero =>
          exfalso
          have w5 := hkap ⟨h5, s3.gens, s3.drawn, s3.toks, s3.os⟩ ⟨rfl, J.bare, fun b o nb e => (off5 b nb).trans e⟩ ⟨o5, e5, dict_fro d5, es5, ep5, d5, m5l⟩
          exact w5
        | succ n =>
          exact hkap _ ⟨rfl, allBare_setGen (s := { s3.setGen g gs' with heap := h5 }) J0.bare rfl, fun b o nb e => (off5 b nb).trans e⟩ ⟨o5, e5, dict_fro d5, es5, ep5, d5, m5l⟩
      · show nsFind es5 y = mB y
        rw [f5]
        show (if y = l then some v else if y = r then some v else m1 y) = mB y
        rw [if_neg n2, if_neg n1, m1o y n1 n2]
      · refine swap (not_freed e5) d5 sk5 (fun _ => rfl) (fun y n1 n2 => ?_) (fun x' ex => ⟨v, by cases ex; exact rv, m5r⟩) (fun x' ex => ⟨v, by cases ex; exact rv, m5l⟩)
        show nsFind es5 y = mB y
        rw [f5]
        show (if y = l then some v else if y = r then some v else m1 y) = mB y
        rw [if_neg n2, if_neg n1, m1o y n1 n2]
      · obtain ⟨mc, hns, hnn⟩ := J.nolimit
        have ncs : cStatics ≠ X.env.locals := fun z => by
          have l1 : cStatics < X.base.objs.size := by
            obtain ⟨mc', hns', _⟩ := J.ok.mod.nolimit
            exact hns'.lt
          have l2 := Nat.lt_of_lt_of_le l1 (Nat.le_trans J.ok.bsz J.ok.above)
          rw [z] at l2
          exact Nat.lt_irrefl _ l2
        obtain ⟨oc, e1, e2, e3, r4⟩ := hns
        exact ⟨mc, ⟨oc, e1, e2, (off5 _ ncs).trans e3, r4⟩, hnn⟩
      · obtain ⟨og, n1, n2, hog, rest⟩ := isg3
        have nag : a ≠ X.env.locals := fun z => by
          have h1 := Heap.lt_size eB
          have h2 := gm.ge
          rw [z] at h2
          exact absurd (Nat.lt_of_lt_of_le h1 h2) (Nat.lt_irrefl _)
        exact ⟨og, n1, n2, (off5 a nag).trans hog, rest⟩
    · -- the end
      obtain ⟨ys, ip, σi, Hn, ⟨o', eo', fo', ti', Ii⟩, hne0, hfin⟩ := hp
      have eoo : o' = o := by
        have z : s2.heap.get? X.env.locals = some o' := eo'
        rw [eo] at z
        exact (Option.some.inj z).symm
      subst eoo
      obtain ⟨x, hx⟩ : ∃ x, ys.getLast? = some x := by
        cases q : ys.getLast? with
        | some x => exact ⟨x, rfl⟩
        | none => exact absurd (List.getLast?_eq_none_iff.mp q) hne0
      obtain ⟨v, rv, es', ep', d', fl⟩ := ti' x hx
      rw [hd] at d'
      cases d'
      have Io2 : L2.Inv X pins ((σ.set ir none).set il (some x)) HB (setF sB X.env.locals o') := swap (not_freed eo) hd sk hm hoth (fun _ z => by cases z) (fun x' ex => ⟨v, by cases ex; exact rv, by rw [← hm l]; exact fl⟩)
      have J := cross Io2 Ii
      refine wpAny_execs_nil ⟨_, Hn, J.call' (s' := { s3.setGen g .finished with heap := h' }) (ch := []) rfl (Un.kept hk) (J.hok.kept hk) (allBare_setGen J.bare rfl) (fun b z => by simp at z), hfin x none hx⟩
  · refine ⟨.fresh c, oB, esB, epB, mB, σ.getD ir none, σ.getD il none, gm.at_, ⟨rfl, by rw [c1, c2] at *; exact seg⟩, at1, dB, skB, fB, fun _ _ _ => rfl, ?_, gm.lim, gm.gen⟩
    have zz : ((σ.set ir (σ.getD ir none)).set il (σ.getD il none)) = σ := by
      apply List.ext_getElem?
      intro i
      by_cases zi : i = il
      · subst zi
        rw [List.getElem?_set_self (by rw [List.length_set]; exact illt), List.getD_eq_getElem?_getD, List.getElem?_eq_getElem illt]
        rfl
      · rw [List.getElem?_set_ne (Ne.symm zi)]
        by_cases zr : i = ir
        · subst zr
          rw [List.getElem?_set_self irlt, List.getD_eq_getElem?_getD, List.getElem?_eq_getElem irlt]
          rfl
        · rw [List.getElem?_set_ne (Ne.symm zr)]
    rw [zz]
    refine inv_setF IB (not_freed eB) dB skB fB (fun i x y e1 e2 e3 => ?_) lenσ
    obtain ⟨u, ru, lk⟩ := lB i x y e1 e2 e3
    rcases lk with ⟨kk, e⟩ | ⟨kk, _⟩
    · exact .inl ⟨u, ru, kk, e⟩
    · refine .inr ⟨e2, fun z => ?_⟩
      rw [z] at kk
      rcases kk with kk | kk <;> cases kk
end
end Hw

namespace Hw
open PySem PySem.Spec PyProof.Rows L2 ClX
/-- a state stands at t -/
def StT (H : Hp) (t : Addr) (s : Sta) : Prop := ∃ q, H t = some (.tup [.int (s.1 : Int), .ref q]) ∧ Tp H q s.2
theorem StT.same {H H' : Hp} {t : Addr} {s : Sta} (h : StT H t s) (z : Same H H') : StT H' t s := by
  obtain ⟨q, h1, h2⟩ := h
  exact ⟨q, z _ _ h1, z _ _ h2⟩
/-- a property that reads a field -/
structure PrG (P : Program) (w : World) (K : PySem.W.Frag) (mg : Str → Option Value) (base : Heap) (C : Addr) (f fld : Str) : Prop where
  ex : ∃ (p g : Addr) (fd : FuncData), PropOf K C f p g ∧ FnOk P w K mg base CX0 1 g fd ["self"] (getSp C fld) ∧ L2.Binds K fd ["self"] []
def tPrp (C : Addr) (fld : Str) (ta : TE) : TE := fun σ H Q => ta σ H fun v H1 => ∃ (x dx : Addr) (fs : List (Str × V)) (u : V), v = .ref x ∧ H1 x = some (.ins C dx fs) ∧ fs.lookup fld = some u ∧ Q u H1
theorem pe_prp {X : Cx} {C : Addr} {f fld : Str} {e : Expr} {ta : TE} {pos : Pos} (G : PrG X.prog X.w X.K X.mg X.base C f fld) (c : Cls X.K C) (hr : Room 2 X.A) (he : PE X e ta) (hab : attributeBase e f X.env (eval e X.env) = eval e X.env := by rfl) : PE X (.Attribute e f pos) (tPrp C fld ta) := by
  obtain ⟨p, g, fd, hp, F, b⟩ := G.ex
  refine ⟨fun pins s σ H Q I h => attr_of hab (thn (he.run pins s σ H _ I h) fun u s1 ⟨v, H1, I1, rx, x, dx, fs, w, ex, h1, h2, q⟩ => ?_)⟩
  subst ex
  obtain rfl : u = Value.ref x := rx
  exact getprop_ok (CX := CX0) (E := E0) (dvs := []) I1 h1 c hp F hr b .nil pass0 ⟨x, dx, fs, _, rfl, h1, h2, q⟩
abbrev sLenP : Stmt := inClass sNetwork 10
section
variable {P : Program} {w : World} {K : PySem.W.Frag} {mg : Str → Option Value} {base : Heap}
/-! ### __len__ -/
def spLenM (C : Addr) : Sp := fun vs H Q _ => ∃ (x : Addr) (n : Nat) (es : List Ed), vs = [.ref x] ∧ NetAt5 C H x n es ∧ Q (.int ((es.length : Nat) : Int)) H
theorem scLenP : FnScope ["self"] ["self"] (defScope sLenP) := ⟨rfl, rfl, rfl, by decide +kernel, rfl, by decide +kernel, by decide +kernel⟩
theorem mc_len {C : Addr} {mc : Value} (T : Txt mg) (N : NetC K mg C mc) (D : Dm K C "__len__" "Network.__len__" sLenP ["self"]) : MC P w K mg base CX0 C "__len__" 1 (spLenM C) := by
  refine mc_of D scLenP (fun vs H Q E h => ?_) (fun f cdv A outer s0 H vs Q E hr h => ?_)
  · obtain ⟨x, n, es, rfl, _⟩ := h
    rfl
  · obtain ⟨x, n, es, rfl, ⟨dx, fs, a, e, h1, h2, h3, h4, h5, ⟨ks, k1, k2, k3⟩, h7⟩, q⟩ := h
    refine ⟨_, pss_one (ps_ret (pe_callB cr_len (by rfl) T.len PySem.boot_len (pa_cons (pe_fld (pv 0) rfl) pa_nil))), ?_⟩
    refine ⟨_, rfl, x, C, dx, fs, _, rfl, h1, N.cl, N.n2, h3, a, _, rfl, .inr (sq_of k1), ?_⟩
    rw [nv_len, ed_len k2]
    exact q
/-- what the moves ask of the network's class -/
structure MvC (P : Program) (w : World) (K : PySem.W.Frag) (mg : Str → Option Value) (base : Heap) (C : Addr) : Prop where
  cl : Cls K C
  pa : PrG P w K mg base C "passages" "_passages"
  len : MC P w K mg base CX0 C "__len__" 1 (spLenM C)
  far : MC P w K mg base CX0 C "far_end" 3 (spFar C)
  index : Cal P w K mg base "is_index" 2 spIndex
theorem cr_lenN {X : Cx} {C : Addr} (M : MC X.prog X.w X.K X.mg X.base CX0 C "__len__" 1 (spLenM C)) (hr : Room 2 X.A) : CallR X (.builtin "len") (rLenO C (spLenM C)) := by
  obtain ⟨f, me, F⟩ := M.ex
  exact cr_lenO me.at_ me.fn F hr
/-! ### is_step, of a step -/
def spIsStep (C : Addr) : Sp := fun vs H Q _ => ∃ (x : Addr) (n : Nat) (es : List Ed) (p e : Nat), vs = [.ref x, .int (p : Int), .int (e : Int)] ∧ NetAt5 C H x n es ∧ e ∈ drs es p ∧ es.length ≤ 16 ∧ Q (.bl true) H
theorem scIsStep : FnScope ["network", "place", "value"] ["network", "place", "value"] (defScope sIsStepP) := ⟨rfl, rfl, rfl, by decide +kernel, rfl, by decide +kernel, by decide +kernel⟩
theorem cal_isStep {C : Addr} (T : Txt mg) (G : MvC P w K mg base C) (D : Df K mg "is_step" sIsStepP ["network", "place", "value"]) : Cal P w K mg base "is_step" 3 (spIsStep C) := by
  refine cal_of D scIsStep (fun vs H Q E h => ?_) (fun f cdv A outer s0 H vs Q E hr h => ?_)
  · obtain ⟨x, n, es, p, e, rfl, _⟩ := h
    rfl
  · obtain ⟨x, n, es, p, i, rfl, net, hi, hl, q⟩ := h
    refine ⟨_, pss_one (ps_ret (pe_and (pe_cl G.index hr (by rfl) (pa_cons (pv 2) (pa_cons (pe_callB (cr_lenN G.len hr) (by rfl) T.len PySem.boot_len (pa_cons (pv 0) pa_nil)) pa_nil)))
        (pe_one (pe_cmpR (r := rIn K false) op_in_seq (pv 1) (pe_ix (r := rIxT K) ix_tup (pe_prp G.pa G.cl hr (pv 0)) (pv 2) (fun _ _ => rfl)) (by rfl))))), ?_⟩
    obtain ⟨dx, fs, a, e, h1, h2, h3, h4, h5, ⟨ks, k1, k2, k3⟩, h7⟩ := id net
    obtain ⟨il, im⟩ := mem_drs.mp hi
    have kl := ed_len k2
    have hk : i < ks.length := by rw [kl]; exact il
    obtain ⟨k, hki⟩ : ∃ k, ks[i]? = some k := ⟨ks[i], List.getElem?_eq_getElem hk⟩
    obtain ⟨e', he', ek⟩ := ed_get k2 hki
    have tk := k3 k (List.mem_of_getElem? hki)
    rw [ek] at tk
    have at1 : atI (ks.map fun k => V.ref k.1) ((i : Nat) : Int) = some (.ref k.1) := atI_nat (by rw [List.getElem?_map, hki]; rfl)
    refine ⟨_, rfl, _, rfl, x, dx, fs, rfl, h1, x, n, es, rfl, net, es.length, rfl, by omega, _, _, rfl, ?_⟩
    refine ⟨_, rfl, ?_⟩
    rw [show decide ((0 : Int) ≤ (i : Int) ∧ (i : Int) < (es.length : Int)) = true from decide_eq_true ⟨by omega, by omega⟩]
    refine iteT ?_
    refine ⟨_, rfl, _, rfl, x, dx, fs, _, rfl, h1, h3, _, rfl, a, _, _, _, rfl, rfl, sq_of k1, at1, k.1, _, rfl, .inr (sq_of tk), rfl, flat_NV _, ?_⟩
    rw [inV_NV, show decide (p ∈ pl e') = true from decide_eq_true (by rw [getD_of he'] at im; exact im)]
    exact q
end
theorem ix_last {n : Nat} (h : 0 < n) : ixN n (-1) = some (n - 1) := by
  unfold ixN
  rw [if_neg (by decide), if_pos (by omega)]
  congr 1
  omega
theorem at_last {xs : List V} {v : V} (h : xs[xs.length - 1]? = some v) : atI xs (-1) = some v := by
  unfold atI
  have hl : 0 < xs.length := by
    have := (List.getElem?_eq_some_iff.mp h).1
    omega
  rw [ix_last hl]
  exact h
theorem NV_ap {p : List Nat} {i : Nat} (h : i < p.length) : (NV p)[i]? = some (.int ((ap p i : Nat) : Int)) := NV_get (ap_get h)
section
variable {P : Program} {w : World} {K : PySem.W.Frag} {mg : Str → Option Value} {base : Heap}
/-! ### after_step -/
def spAfS (C : Addr) : Sp := fun vs H Q _ => ∃ (x t : Addr) (n : Nat) (es : List Ed) (s : Sta) (e : Nat), vs = [.ref x, .ref t, .int (e : Int)] ∧ NetAt5 C H x n es ∧ StT H t s ∧ IsS n es.length s ∧ e ∈ drs es s.1 ∧ es.length ≤ 16 ∧
  ∀ H' r, Same H H' → H r = none → StT H' r (stpS es s e) → Q (.ref r) H'
abbrev nAs : List Str := ["network", "state", "step", "place", "things", "moved"]
theorem scAs : FnScope nAs ["network", "state", "step"] (defScope sAfterStepP) := ⟨rfl, rfl, rfl, by decide +kernel, rfl, by decide +kernel, by decide +kernel⟩
theorem cal_afS {C : Addr} (T : Txt mg) (G : MvC P w K mg base C) (D : Df K mg "after_step" sAfterStepP ["network", "state", "step"]) : Cal P w K mg base "after_step" 4 (spAfS C) := by
  have nd := scAs.nd
  refine cal_of D scAs (fun vs H Q E h => ?_) (fun f cdv A outer s0 H vs Q E hr h => ?_)
  · obtain ⟨x, t, n, es, s, e, rfl, _⟩ := h
    rfl
  · obtain ⟨x, t, n, es, s, e, rfl, net, ⟨q1, ht, hq⟩, ⟨i1, i2, i3⟩, he, hl, q⟩ := h
    refine ⟨_, pss_cons (ps_asg (pv 1) (pg_tup rfl (pgs_cons (pg_name (i := 3) nd rfl (.inl rfl)) (pgs_cons (pg_name (i := 4) nd rfl (.inl rfl)) pgs_nil))))
      <| pss_cons (ps_set (i := 5) nd rfl (.inl rfl) (pe_callTy call_list_of (by rfl) T.list (by decide +kernel) (pa_cons (pv 4) pa_nil)))
      <| pss_cons (ps_asg (pe_tup (pa_cons (pe_ix (r := rIxT K) ix_tup (pv 4) (pe_un un_neg pe_int) (fun _ _ => rfl)) (pa_cons (pe_ix (r := rIxT K) ix_tup (pv 4) (pv 2) (fun _ _ => rfl)) pa_nil)))
          (pg_tup rfl (pgs_cons (pg_sub (pv 5) (pv 2) set_list) (pgs_cons (pg_sub (pv 5) (pe_un un_neg pe_int) set_list) pgs_nil))))
      <| pss_one (ps_ret (pe_tup (pa_cons (pe_m G.far G.cl hr (pv 0) (pa_cons (pv 2) (pa_cons (pv 3) pa_nil))) (pa_cons (pe_callTy call_tuple_of (by rfl) T.tuple (by decide +kernel) (pa_cons (pv 5) pa_nil)) pa_nil)))), ?_⟩
    have el := (mem_drs.mp he).1
    have e2 : e < s.2.length := by omega
    have l2 : s.2.length - 1 < s.2.length := by omega
    refine ⟨_, rfl, t, _, rfl, sq_of ht, rfl, _, _, rfl, _, _, rfl, rfl, ?_⟩
    refine ⟨_, rfl, q1, _, rfl, .inr (sq_of hq), fun l nl => ?_⟩
    have s1 := same_upd (o := .lst (NV s.2)) nl
    have hl1 : upd H l (.lst (NV s.2)) l = some (.lst (NV s.2)) := upd_same
    generalize upd H l (.lst (NV s.2)) = H1 at *
    refine ⟨_, rfl, _, rfl, q1, _, _, _, rfl, rfl, sq_of (s1 _ _ hq), at_last (by rw [NV_len]; exact NV_ap l2), ?_⟩
    refine ⟨_, rfl, _, rfl, q1, _, _, _, rfl, rfl, sq_of (s1 _ _ hq), atI_nat (NV_ap e2), by show 2 ≤ sizeLine; decide, fun u nu => ?_⟩
    have s2 := same_upd (o := .tup [V.int ((ap s.2 (s.2.length - 1) : Nat) : Int), V.int ((ap s.2 e : Nat) : Int)]) nu
    have hu2 : upd H1 u (.tup [V.int ((ap s.2 (s.2.length - 1) : Nat) : Int), V.int ((ap s.2 e : Nat) : Int)]) u = some (.tup [V.int ((ap s.2 (s.2.length - 1) : Nat) : Int), V.int ((ap s.2 e : Nat) : Int)]) := upd_same
    have hl2 := s2 _ _ hl1
    generalize upd H1 u (.tup [V.int ((ap s.2 (s.2.length - 1) : Nat) : Int), V.int ((ap s.2 e : Nat) : Int)]) = H2 at *
    refine ⟨u, _, rfl, sq_of hu2, rfl, _, _, rfl, ?_⟩
    refine ⟨_, rfl, _, rfl, l, _, _, e, rfl, rfl, hl2, by rw [NV_len]; exact ix_at e2 rfl, _, _, rfl, ?_⟩
    rw [NV_set]
    refine ⟨_, rfl, 1, rfl, l, _, _, s.2.length - 1, rfl, rfl, upd_same, ?_, rfl, ?_⟩
    · rw [NV_len, List.length_set]
      exact ix_last (by omega)
    rw [NV_set]
    have sw : (s.2.set e (ap s.2 (s.2.length - 1))).set (s.2.length - 1) (ap s.2 e) = swp s.2 e := rfl
    rw [sw]
    have s3 : Same H (upd (upd H2 l (.lst (NV (s.2.set e (ap s.2 (s.2.length - 1)))))) l (.lst (NV (swp s.2 e)))) := fun b o eb => by
      have nb : b ≠ l := ne_of_none eb nl
      rw [upd_ne nb, upd_ne nb]
      exact s2 _ _ (s1 _ _ eb)
    have hl3 : upd (upd H2 l (.lst (NV (s.2.set e (ap s.2 (s.2.length - 1)))))) l (.lst (NV (swp s.2 e))) l = some (.lst (NV (swp s.2 e))) := upd_same
    generalize upd (upd H2 l (.lst (NV (s.2.set e (ap s.2 (s.2.length - 1)))))) l (.lst (NV (swp s.2 e))) = H3 at *
    obtain ⟨dx, fs, _, _, h1, _, _, _, h5, _, _⟩ := id (net.same s3)
    refine ⟨_, rfl, x, dx, fs, rfl, h1, h5 _ (by decide +kernel), _, rfl, _, rfl, x, n, es, e, s.1, rfl, net.same s3, he, ?_⟩
    refine ⟨_, rfl, l, _, rfl, .inl ⟨sl_of hl3, fun v nv => ?_⟩⟩
    have s4 := same_upd (o := .tup (NV (swp s.2 e))) nv
    have hv4 : upd H3 v (.tup (NV (swp s.2 e))) v = some (.tup (NV (swp s.2 e))) := upd_same
    generalize upd H3 v (.tup (NV (swp s.2 e))) = H4 at *
    refine ⟨by show 2 ≤ sizeLine; decide, fun r nr => ?_⟩
    have s5 := same_upd (o := .tup [V.int ((oth (es.getD e (0, 0)) s.1 : Nat) : Int), .ref v]) nr
    exact q _ r ((s3.trans s4).trans s5) ((s3.trans s4).free nr) ⟨v, upd_same, s5 _ _ hv4⟩
end
end Hw

namespace Hw
open PySem PySem.Spec PyProof.Rows L2 ClX
abbrev sWkInit : Stmt := inClass sWalker 1
abbrev sWkEq : Stmt := inClass sWalker 10
abbrev sWkStep : Stmt := inClass sWalker 11
abbrev sWkWalk : Stmt := inClass sWalker 12
abbrev sWkRead : Stmt := inClass sWalker 20
abbrev sWkIsText : Stmt := inClass sWalker 21
abbrev sWkAhead : Stmt := inClass sWalker 23
abbrev sWkKept : Stmt := inClass sWalker 24
abbrev sWkGo : Stmt := inClass sWalker 25
abbrev wNames : List Str := ["walk", "_ahead", "_kept_after", "_go", "step"]
def NoW (fs : List (Str × V)) : Prop := ∀ m ∈ wNames, fs.lookup m = none
theorem noW_nil : NoW [] := fun _ _ => rfl
theorem noW_put {f : Str} {v : V} {fs : List (Str × V)} (h : ∀ m ∈ wNames, ¬ m = f) (n : NoW fs) : NoW (putF f v fs) := fun m hm => by
  rw [lookup_putF, if_neg (h m hm)]
  exact n m hm
theorem w_ne : ∀ m ∈ wNames, ¬ m = "_network" := by decide +kernel
theorem w_st : ∀ m ∈ wNames, ¬ m = "_state" := by decide +kernel
theorem w_sp : ∀ m ∈ wNames, ¬ m = "_steps" := by decide +kernel
theorem f_w : ¬ (("_network" : Str) = "_state") ∧ ¬ (("_network" : Str) = "_steps") ∧ ¬ (("_state" : Str) = "_steps") ∧ ¬ (("_steps" : Str) = "_state") := by decide +kernel
structure WkC (K : PySem.W.Frag) (mg : Str → Option Value) (CW : Addr) (mcW : Value) : Prop where
  gC : mg "Walker" = some (.ref CW)
  rd : CRead K CW mcW
  mx : ∃ u, CVal K CW mcW "MAX_STEPS" (.int 1000) u
  cl : Cls K CW
  n1 : NoAttr K CW "_network"
  n2 : NoAttr K CW "_state"
  n3 : NoAttr K CW "_steps"
def st0 (es : List Ed) : Sta := (0, List.range (es.length + 1))
/-- a walker at x -/
def WkAt (CW C : Addr) (H : Hp) (x : Addr) (n : Nat) (es : List Ed) (ks : List Nat) : Prop := ∃ (dx : Addr) (fs : List (Str × V)) (y s t : Addr), H x = some (.ins CW dx fs) ∧ fs.lookup ("_network" : Str) = some (.ref y) ∧ fs.lookup ("_state" : Str) = some (.ref s) ∧ fs.lookup ("_steps" : Str) = some (.ref t) ∧
  NoW fs ∧ fs.length ≤ 10 ∧ NetAt5 C H y n es ∧ StT H s (runS es (st0 es) ks) ∧ Tp H t ks ∧ y ≠ x
theorem WkAt.same {CW C : Addr} {H H' : Hp} {x : Addr} {n : Nat} {es : List Ed} {ks : List Nat} (h : WkAt CW C H x n es ks) (z : Same H H') : WkAt CW C H' x n es ks := by
  obtain ⟨dx, fs, y, s, t, h1, h2, h3, h4, h5, h6, h7, h8, h9, h0⟩ := h
  exact ⟨dx, fs, y, s, t, z _ _ h1, h2, h3, h4, h5, h6, h7.same z, h8.same z, z _ _ h9, h0⟩
theorem st0_is (n : Nat) (es : List Ed) (h : 1 ≤ n) : IsS n es.length (st0 es) := ⟨h, ⟨List.nodup_range, fun x hx => by show x < (List.range _).length; rw [List.length_range]; exact List.mem_range.mp hx⟩, by show (List.range _).length = _; rw [List.length_range]⟩
section
variable {P : Program} {w : World} {K : PySem.W.Frag} {mg : Str → Option Value} {base : Heap}
/-! ### _kept_after -/
def spKept (CW : Addr) : Sp := fun vs H Q _ => ∃ (x q : Addr) (ks : List Nat) (e : Nat), vs = [.ref x, .ref q, .int (e : Int)] ∧ Tp H q ks ∧ ks.length ≤ 1000 ∧ ∀ H' r, Same H H' → Tp H' r (ks ++ [e]) → Q (.ref r) H'
theorem scKept : FnScope ["self", "kept", "step"] ["self", "kept", "step"] (defScope sWkKept) := ⟨rfl, rfl, rfl, by decide +kernel, rfl, by decide +kernel, by decide +kernel⟩
theorem mc_kept {CW : Addr} (D : Dm K CW "_kept_after" "Walker._kept_after" sWkKept ["self", "kept", "step"]) : MC P w K mg base CX0 CW "_kept_after" 1 (spKept CW) := by
  refine mc_of D scKept (fun vs H Q E h => ?_) (fun f cdv A outer s0 H vs Q E hr h => ?_)
  · obtain ⟨x, q, ks, e, rfl, _⟩ := h
    rfl
  · obtain ⟨x, q, ks, e, rfl, hq, hl, q0⟩ := h
    refine ⟨_, pss_one (ps_ret (pe_op op_catA (pv 1) (pe_tup (pa_cons (pv 2) pa_nil)))), ?_⟩
    refine ⟨_, rfl, _, rfl, by show 1 ≤ sizeLine; decide, fun p np => ?_⟩
    have s1 := same_upd (o := .tup [V.int (e : Int)]) np
    have hp1 : upd H p (.tup [V.int (e : Int)]) p = some (.tup [V.int (e : Int)]) := upd_same
    generalize upd H p (.tup [V.int (e : Int)]) = H1 at *
    refine ⟨q, p, _, _, rfl, rfl, sq_of (s1 _ _ hq), sq_of hp1, ?_, fun z => ?_, fun _ z => (nomatch z), fun _ _ r nr => ?_⟩
    · rw [NV_len]
      show ks.length + 1 ≤ sizeLine
      have : sizeLine = 16777216 := by decide
      omega
    · refine q0 _ p s1 ?_
      have : ks = [] := by
        cases ks with
        | nil => rfl
        | cons a l => cases z
      rw [this]
      exact hp1
    · refine q0 _ r (s1.trans (same_upd nr)) ?_
      show upd H1 r _ r = _
      rw [upd_same, NV_snoc]
/-! ### _ahead -/
def spAhead (CW C : Addr) : Sp := fun vs H Q _ => ∃ (x p : Addr) (n : Nat) (es : List Ed) (k0 ks : List Nat), vs = [.ref x, .ref p] ∧ WkAt CW C H x n es k0 ∧ Tp H p ks ∧ CN n es ∧ es.length ≤ 16 ∧ Wlk es 0 (k0 ++ ks) ∧ (k0 ++ ks).length ≤ 1000 ∧
  ∀ H' r l q ys t, Same H H' → H' r = some (.tup [.ref l, .ref q]) → H' l = some (.lst ys) → ys[ys.length - 1]? = some (.ref t) → StT H' t (runS es (st0 es) (k0 ++ ks)) → Tp H' q (k0 ++ ks) → Q (.ref r) H'
abbrev nAh : List Str := ["self", "steps", "passed", "kept", "index", "step"]
theorem scAh : FnScope nAh ["self", "steps"] (defScope sWkAhead) := ⟨rfl, rfl, rfl, by decide +kernel, rfl, by decide +kernel, by decide +kernel⟩
structure MvS (P : Program) (w : World) (K : PySem.W.Frag) (mg : Str → Option Value) (base : Heap) (C : Addr) : Prop where
  iss : Cal P w K mg base "is_step" 3 (spIsStep C)
  afs : Cal P w K mg base "after_step" 4 (spAfS C)
theorem mc_ahead {CW C : Addr} {mcW : Value} (T : Txt mg) (W : WkC K mg CW mcW) (M : MvS P w K mg base C) (GK : MC P w K mg base CX0 CW "_kept_after" 1 (spKept CW)) (D : Dm K CW "_ahead" "Walker._ahead" sWkAhead ["self", "steps"]) : MC P w K mg base CX0 CW "_ahead" 5 (spAhead CW C) := by
  have nd := scAh.nd
  refine mc_of D scAh (fun vs H Q E h => ?_) (fun f cdv A outer s0 H vs Q E hr h => ?_)
  · obtain ⟨x, p, n, es, k0, ks, rfl, _⟩ := h
    rfl
  · obtain ⟨x, p, n, es, k0, ks, rfl, wk, hp, cn, hl, wl, hk, q0⟩ := h
    have hr1 := hr.mono (show 1 ≤ 4 by decide)
    have hr3 := hr.mono (show 3 ≤ 4 by decide)
    obtain ⟨um, vm⟩ := W.mx
    refine ⟨_, pss_cons (ps_set (i := 2) nd rfl (.inl rfl) (pe_lst (pa_cons (pe_fld (pv 0) rfl) pa_nil)))
      <| pss_cons (ps_set (i := 3) nd rfl (.inl rfl) (pe_fld (pv 0) rfl))
      <| pss_cons (ps_for PassesOwn.never rfl (pi_enumT (by rfl) T.enumerate (pa_cons (pv 1) pa_nil)) (pg_tup rfl (pgs_cons (pg_name (i := 4) nd rfl (.inl rfl)) (pgs_cons (pg_name (i := 5) nd rfl (.inl rfl)) pgs_nil)))
          (pss_cons (ps_if (pt_not (pt_val (pe_cl M.iss hr3 (by rfl) (pa_cons (pe_fld (pv 0) rfl) (pa_cons (pe_ix (r := rIxT K) ix_tup (pe_ix (r := rIxL K) ix_list (pv 2) (pe_un un_neg pe_int) (fun _ _ => rfl)) pe_int (fun _ _ => rfl)) (pa_cons (pv 5) pa_nil)))))) (pss_one ps_never) pss_nil)
          <| pss_cons (ps_set (i := 3) nd rfl (.inl rfl) (pe_m GK W.cl hr1 (pv 0) (pa_cons (pv 3) (pa_cons (pv 5) pa_nil))))
          <| pss_cons (ps_if (pt_cmpR op_gt (pe_callB cr_len (by rfl) T.len PySem.boot_len (pa_cons (pv 3) pa_nil)) (pe_cval (pe_glob (by rfl) W.gC (v := .ref CW) rfl)) (nomark _)) (pss_one ps_never) pss_nil)
          <| pss_one (ps_expr (pe_bm PySem.F.plainAttrs_list PySem.F.slot_list_append PySem.F.type_list_append mt_append (pv 2) (pa_cons (pe_cl M.afs hr (by rfl) (pa_cons (pe_fld (pv 0) rfl) (pa_cons (pe_ix (r := rIxL K) ix_list (pv 2) (pe_un un_neg pe_int) (fun _ _ => rfl)) (pa_cons (pv 5) pa_nil)))) pa_nil)))))
      <| pss_one (ps_ret (pe_tup (pa_cons (pv 2) (pa_cons (pv 3) pa_nil)))), ?_⟩
    obtain ⟨dx, fs, y, s, t, h1, h2, h3, h4, h5, h6, h7, h8, h9, h0⟩ := id wk
    refine ⟨_, rfl, x, CW, dx, fs, _, rfl, h1, W.cl, W.n2, h3, by show 1 ≤ sizeLine; decide, fun l nl => ?_⟩
    have s1 := same_upd (o := .lst [V.ref s]) nl
    have hl1 : upd H l (.lst [V.ref s]) l = some (.lst [V.ref s]) := upd_same
    generalize upd H l (.lst [V.ref s]) = H1 at *
    refine ⟨_, rfl, x, CW, dx, fs, _, rfl, s1 _ _ h1, W.cl, W.n3, h4, ?_⟩
    refine ⟨_, rfl, p, NV ks, rfl, sq_of (s1 _ _ hp), for_it (walk_enumT (xs := NV ks)) (fun i σ H' => ∃ ys u q v4 v5, σ = [some (.ref x), some (.ref p), some (.ref l), some (.ref q), v4, v5] ∧ Same H H' ∧ H' l = some (.lst ys) ∧ ys.length = i + 1 ∧ ys[i]? = some (.ref u) ∧ StT H' u (runS es (st0 es) (k0 ++ ks.take i)) ∧ Tp H' q (k0 ++ ks.take i))
      ⟨[V.ref s], s, t, _, _, rfl, s1, hl1, rfl, rfl, by rw [List.take_zero, List.append_nil]; exact h8.same s1, by rw [List.take_zero, List.append_nil]; exact s1 _ _ h9⟩ (fun i σ H' _ ⟨_, _, _, _, _, _, sm, _⟩ => sq_of (sm _ _ hp)) ?_ ?_⟩
    · rintro i z σ H2 H3 hi ⟨ys, u, q, v4, v5, rfl, sm, hL, yl, yu, hu, hq⟩ ⟨T1, a1, b1, rfl, nT, rfl, ea, eb⟩
      obtain rfl := (Option.some.inj ea).symm
      obtain ⟨e, he, rfl⟩ := NV_get' eb
      have il : i < ks.length := (List.getElem?_eq_some_iff.mp he).1
      have sT := same_upd (o := .tup [V.int ((i : Nat) : Int), V.int ((e : Nat) : Int)]) nT
      have hT : upd H2 T1 (.tup [V.int ((i : Nat) : Int), V.int ((e : Nat) : Int)]) T1 = some (.tup [V.int ((i : Nat) : Int), V.int ((e : Nat) : Int)]) := upd_same
      have sm3 := sm.trans sT
      have hL3 := sT _ _ hL
      have hu3 := hu.same sT
      have hq3 := sT _ _ hq
      generalize upd H2 T1 (.tup [V.int ((i : Nat) : Int), V.int ((e : Nat) : Int)]) = H3 at *
      refine ⟨T1, _, rfl, sq_of hT, rfl, _, _, rfl, _, _, rfl, rfl, ?_⟩
      have wi : Wlk es 0 (k0 ++ ks.take i) := by
        have := wl
        rw [← List.take_append_drop i ks, ← List.append_assoc, wlk_app] at this
        exact this.1
      have hgi : (k0 ++ ks)[k0.length + i]? = some e := by
        rw [List.getElem?_append_right (by omega), Nat.add_sub_cancel_left]
        exact he
      have htk : (k0 ++ ks).take (k0.length + i) = k0 ++ ks.take i := by
        rw [List.take_append, List.take_of_length_le (by omega), Nat.add_sub_cancel_left]
      have hd := wlk_get wl hgi
      rw [htk] at hd
      have is2 : IsS n es.length (runS es (st0 es) (k0 ++ ks.take i)) := runS_is cn.2.1 (st0_is n es cn.1) wi
      have hd2 : e ∈ drs es (runS es (st0 es) (k0 ++ ks.take i)).1 := by rw [runS_fst]; exact hd
      have lk : (k0 ++ ks.take i).length ≤ 1000 ∧ (k0 ++ ks.take i).length < 1000 := by
        rw [List.length_append] at hk
        rw [List.length_append, List.length_take]
        omega
      have run1 : runS es (st0 es) (k0 ++ ks.take (i + 1)) = stpS es (runS es (st0 es) (k0 ++ ks.take i)) e := by
        rw [List.take_add_one, he]
        show runS es (st0 es) (k0 ++ (ks.take i ++ [e])) = _
        rw [← List.append_assoc, runS_snoc]
      have kp1 : k0 ++ ks.take (i + 1) = (k0 ++ ks.take i) ++ [e] := by
        rw [List.take_add_one, he, List.append_assoc]
        rfl
      obtain ⟨q2, hu4, _⟩ := id hu3
      have yl' : ys[ys.length - 1]? = some (V.ref u) := by rw [yl]; exact yu
      refine ⟨_, rfl, x, CW, dx, fs, _, rfl, sm3 _ _ h1, W.cl, W.n1, h2, _, rfl, _, rfl, l, _, _, _, rfl, rfl, sl_of hL3, at_last yl', u, _, _, _, rfl, rfl, sq_of hu4, rfl, _, rfl, y, n, es, _, e, rfl, h7.same sm3, hd2, hl, ?_⟩
      refine ⟨_, rfl, iteF ?_⟩
      refine ⟨_, rfl, x, dx, fs, rfl, sm3 _ _ h1, h5 _ (by decide +kernel), _, rfl, _, rfl, x, q, _, e, rfl, hq3, lk.1, fun H4 r s4 hr4 => ?_⟩
      have sm4 := sm3.trans s4
      rw [← kp1] at hr4
      refine ⟨_, rfl, r, _, rfl, .inr (sq_of hr4), CW, mcW, _, _, rfl, W.rd, vm, _, _, rfl, rfl, _, rfl, ?_⟩
      rw [NV_len, show decide (((1000 : Int) < ((k0 ++ ks.take (i + 1)).length : Int))) = false from decide_eq_false (by rw [kp1, List.length_append, List.length_singleton]; omega)]
      refine iteF ?_
      have hL4 := s4 _ _ hL3
      refine ⟨_, rfl, .inl ⟨rfl, _, sl_of hL4⟩, _, rfl, x, CW, dx, fs, _, rfl, sm4 _ _ h1, W.cl, W.n1, h2, _, rfl, _, rfl, l, _, _, _, rfl, rfl, sl_of hL4, at_last yl', _, rfl, y, u, n, es, _, e, rfl, h7.same sm4, hu3.same s4, is2, hd2, hl, fun H5 v s5 nv hv5 => ?_⟩
      have hL5 := s5 _ _ hL4
      refine ⟨l, _, _, rfl, rfl, hL5, by
        rw [yl]
        have : sizeLine = 16777216 := by decide
        rw [List.length_append] at hk
        omega, ?_⟩
      have sm5 := sm4.trans s5
      have tl : ∀ {b : Addr} {xs : List V}, H5 b = some (.tup xs) → upd H5 l (.lst (ys ++ [V.ref v])) b = some (.tup xs) := fun hb => Kx.upd l H5 _ _ _ (ne_of hb hL5 (by intro z; cases z)) hb
      refine ⟨ys ++ [V.ref v], v, r, _, _, rfl, same_in sm5 nl, upd_same, by rw [List.length_append, List.length_singleton, yl], by rw [List.getElem?_append_right (by omega), yl, Nat.sub_self]; rfl, ?_, tl (s5 _ _ hr4)⟩
      rw [run1]
      obtain ⟨q5, g1, g2⟩ := hv5
      exact ⟨q5, tl g1, tl g2⟩
    · rintro σ H2 ⟨ys, u, q, v4, v5, rfl, sm, hL, yl, yu, hu, hq⟩
      rw [NV_len] at yl yu
      rw [NV_len, List.take_length] at hu hq
      refine ⟨_, rfl, _, rfl, by show 2 ≤ sizeLine; decide, fun r nr => ?_⟩
      have s3 := same_upd (o := .tup [V.ref l, .ref q]) nr
      exact q0 _ r l q ys u (sm.trans s3) upd_same (s3 _ _ hL) (by rw [yl]; exact yu) (hu.same s3) (s3 _ _ hq)
end
end Hw

namespace Hw
open PySem PySem.Spec PyProof.Rows L2 ClX
theorem StT.kx {CL x t dx : Addr} {fs : List (Str × V)} {H H' : Hp} {s : Sta} (h : StT H t s) (k : Kx x H H') (hx : H x = some (.ins CL dx fs)) : StT H' t s := by
  obtain ⟨q, h1, h2⟩ := h
  exact ⟨q, k.tup hx h1, k.tup hx h2⟩
/-- a star method of a class, bound or called -/
structure DmS (K : PySem.W.Frag) (C : Addr) (m qual : Str) (st : Stmt) : Prop where
  ex : ∃ (f : Addr) (fd : FuncData), Fun K m qual st f fd ∧ Meth K C m f ∧ BMeth K C m f
structure MS (P : Program) (w : World) (K : PySem.W.Frag) (mg : Str → Option Value) (base : Heap) (C : Addr) (m : Str) (k : Nat) (sp : Sp) : Prop where
  ex : ∃ f : Addr, Meth K C m f ∧ BMeth K C m f ∧ L2.FnR P w K mg base CX0 k f sp
theorem MS.mc {P : Program} {w : World} {K : PySem.W.Frag} {mg : Str → Option Value} {base : Heap} {C : Addr} {m : Str} {k : Nat} {sp : Sp} (M : MS P w K mg base C m k sp) : MC P w K mg base CX0 C m k sp := by
  obtain ⟨f, a, _, F⟩ := M.ex
  exact ⟨f, a, F⟩
section
variable {P : Program} {w : World} {K : PySem.W.Frag} {mg : Str → Option Value} {base : Heap}
/-! ### _go -/
def spGo (CW C : Addr) : Sp := fun vs H Q _ => ∃ (x l q : Addr) (n : Nat) (es : List Ed) (k0 ks : List Nat) (ys : List V) (t : Addr), vs = [.ref x, .ref l, .ref q] ∧ WkAt CW C H x n es k0 ∧ H l = some (.lst ys) ∧ ys[ys.length - 1]? = some (.ref t) ∧ StT H t (runS es (st0 es) ks) ∧ Tp H q ks ∧
  ∀ H', Kx x H H' → WkAt CW C H' x n es ks → Q .non H'
theorem scGo : FnScope ["self", "passed", "kept"] ["self", "passed", "kept"] (defScope sWkGo) := ⟨rfl, rfl, rfl, by decide +kernel, rfl, by decide +kernel, by decide +kernel⟩
theorem mc_go {CW C : Addr} {mcW : Value} (W : WkC K mg CW mcW) (D : Dm K CW "_go" "Walker._go" sWkGo ["self", "passed", "kept"]) : MC P w K mg base CX0 CW "_go" 1 (spGo CW C) := by
  refine mc_of D scGo (fun vs H Q E h => ?_) (fun f cdv A outer s0 H vs Q E hr h => ?_)
  · obtain ⟨x, l, q, n, es, k0, ks, ys, t, rfl, _⟩ := h
    rfl
  · obtain ⟨x, l, q, n, es, k0, ks, ys, t, rfl, wk, hL, yl, ht, hq, q0⟩ := h
    refine ⟨_, pss_cons (ps_fld (pv 0) (pe_ix (r := rIxL K) ix_list (pv 1) (pe_un un_neg pe_int) (fun _ _ => rfl)) rfl)
      <| pss_one (ps_fld (pv 0) (pv 2) rfl), ?_⟩
    obtain ⟨dx, fs, y, s, t0, h1, h2, h3, h4, h5, h6, h7, h8, h9, h0⟩ := id wk
    refine ⟨_, rfl, _, rfl, l, _, _, _, rfl, rfl, sl_of hL, at_last yl, _, rfl, x, CW, dx, _, rfl, h1, W.cl, W.n2, by omega, ?_⟩
    have k1 := Kx.upd x H (.ins CW dx (putF "_state" (.ref t) fs))
    have l1 := len_putF_old (v := .ref t) h3
    have p1 := lk_put0' (f := "_state") (v := .ref t) (fs := fs)
    have p2 := (lk_put' (f := "_state") (g := "_network") (v := .ref t) (fs := fs) f_w.1).trans h2
    have p3 := (lk_put' (f := "_state") (g := "_steps") (v := .ref t) (fs := fs) f_w.2.2.2).trans h4
    have m1 := noW_put (v := .ref t) w_st h5
    have hx1 : upd H x (.ins CW dx (putF "_state" (.ref t) fs)) x = some (.ins CW dx (putF "_state" (.ref t) fs)) := upd_same
    have ht1 := ht.kx k1 h1
    have hq1 := k1.tup h1 hq
    have n1 := h7.kx k1 h1 h0
    generalize putF "_state" (.ref t) fs = f1 at *
    generalize upd H x (.ins CW dx f1) = H1 at *
    refine ⟨_, rfl, _, rfl, x, CW, dx, _, rfl, hx1, W.cl, W.n3, by omega, ?_⟩
    have k2 := Kx.upd x H1 (.ins CW dx (putF "_steps" (.ref q) f1))
    have l2 := len_putF_old (v := .ref q) p3
    refine q0 _ (k1.trans k2) ⟨dx, _, y, t, q, upd_same, (lk_put' (f := "_steps") (g := "_network") (v := .ref q) (fs := f1) f_w.2.1).trans p2, (lk_put' (f := "_steps") (g := "_state") (v := .ref q) (fs := f1) f_w.2.2.1).trans p1, lk_put0', noW_put (v := .ref q) w_sp m1, by omega, n1.kx k2 hx1 h0, ht1.kx k2 hx1, k2.tup hx1 hq1, h0⟩
/-! ### walk -/
def spWalk0 (CW C : Addr) : Sp := fun vs H Q _ => ∃ (x p : Addr) (n : Nat) (es : List Ed) (k0 ks : List Nat), vs = [.ref x, .ref p] ∧ WkAt CW C H x n es k0 ∧ Tp H p ks ∧ CN n es ∧ es.length ≤ 16 ∧ Wlk es 0 (k0 ++ ks) ∧ (k0 ++ ks).length ≤ 1000 ∧
  ∀ H', Kx x H H' → WkAt CW C H' x n es (k0 ++ ks) → Q .non H'
def spWalk (CW C : Addr) : Sp := fun vs H Q _ => ∃ (x : Addr) (n : Nat) (es : List Ed) (k0 ks : List Nat), vs = .ref x :: NV ks ∧ WkAt CW C H x n es k0 ∧ CN n es ∧ es.length ≤ 16 ∧ Wlk es 0 (k0 ++ ks) ∧ (k0 ++ ks).length ≤ 1000 ∧
  ∀ H', Kx x H H' → WkAt CW C H' x n es (k0 ++ ks) → Q .non H'
abbrev nWk : List Str := ["self", "steps", "passed", "kept"]
theorem scWk : FnScope nWk (([("self" : Str)] : List Str) ++ [("steps" : Str)]) (defScope sWkWalk) := ⟨rfl, rfl, rfl, by decide +kernel, rfl, by decide +kernel, by decide +kernel⟩
theorem ms_walk {CW C : Addr} {mcW : Value} (W : WkC K mg CW mcW) (GA : MC P w K mg base CX0 CW "_ahead" 5 (spAhead CW C)) (GG : MC P w K mg base CX0 CW "_go" 1 (spGo CW C)) (D : DmS K CW "walk" "Walker.walk" sWkWalk) : MS P w K mg base CW "walk" 6 (spWalk CW C) := by
  obtain ⟨f, fd, F, m1, m2⟩ := D.ex
  obtain ⟨oc, od, kV, doc, pm, an, cdv, ct, osl, rfl, lk, hcd⟩ := F.ex
  have nd := scWk.nd
  have R := StX.fn_star (P := P) (w := w) (K := K) (mg := mg) (base := base) (CX := CX0) (k := 5) (ps := ["self"]) (pv := "steps") (sp := spWalk0 CW C) lk hcd scWk StX.cxUp_none
    (StX.bind_star1 (B := fun l => bindArgs (PySem.W.fnOf "walk" "Walker.walk" (defArgs sWkWalk) (defBody sWkWalk) (defScope sWkWalk) .none kV doc pm an cdv ct) ⟨l, []⟩) (p1 := "self") (pv := "steps") (fun a => rfl) (fun a r rs => by kernel_rfl))
    (fun A outer s0 H vs Q E hr h => ?_)
  · refine ⟨f, m1, m2, R.imp ?_⟩
    rintro vs H Q E ⟨x, n, es, k0, ks, rfl, wk, cn, hl, wl, hk, q⟩
    refine ⟨[.ref x], NV ks, rfl, rfl, ?_, fun p np => ?_⟩
    · rw [NV_len]
      have : sizeLine = 16777216 := by decide
      rw [List.length_append] at hk
      omega
    have z := same_upd (o := .tup (NV ks)) np
    exact ⟨x, p, n, es, k0, ks, rfl, wk.same z, upd_same, cn, hl, wl, hk, fun H' k => q H' ((Kx.of z).trans k)⟩
  · obtain ⟨x, p, n, es, k0, ks, rfl, wk, hp, cn, hl, wl, hk, q⟩ := h
    have hr1 := hr.mono (show 1 ≤ 5 by decide)
    refine ⟨_, pss_cons (ps_asg (pe_m GA W.cl hr (pv 0) (pa_cons (pv 1) pa_nil)) (pg_tup rfl (pgs_cons (pg_name (i := 2) nd rfl (.inl rfl)) (pgs_cons (pg_name (i := 3) nd rfl (.inl rfl)) pgs_nil))))
      <| pss_one (ps_expr (pe_m GG W.cl hr1 (pv 0) (pa_cons (pv 2) (pa_cons (pv 3) pa_nil)))), ?_⟩
    obtain ⟨dx, fs, y, s, t0, h1, h2, h3, h4, h5, h6, h7, h8, h9, h0⟩ := id wk
    refine ⟨_, rfl, x, dx, fs, rfl, h1, h5 _ (by decide +kernel), _, rfl, x, p, n, es, k0, ks, rfl, wk, hp, cn, hl, wl, hk, fun H1 r l u ys t s1 hr' hL yl ht hu => ?_⟩
    refine ⟨r, _, rfl, sq_of hr', rfl, _, _, rfl, _, _, rfl, rfl, ?_⟩
    exact ⟨_, rfl, x, dx, fs, rfl, s1 _ _ h1, h5 _ (by decide +kernel), _, rfl, _, rfl, x, l, u, n, es, k0, _, ys, t, rfl, wk.same s1, hL, yl, ht, hu, fun H' k' w' => q H' ((Kx.of s1).trans k') w'⟩
/-! ### __init__ -/
def spWi0 (CW C : Addr) : Sp := fun vs H Q _ => ∃ (x y p dx : Addr) (n : Nat) (es : List Ed) (ks : List Nat), vs = [.ref x, .ref y, .ref p] ∧ H x = some (.ins CW dx []) ∧ NetAt5 C H y n es ∧ NetX C H y n es ∧ y ≠ x ∧ Tp H p ks ∧ CN n es ∧ es.length ≤ 16 ∧ Wlk es 0 ks ∧ ks.length ≤ 1000 ∧
  ∀ H', Kx x H H' → WkAt CW C H' x n es ks → Q .non H'
def spWi (CW C : Addr) : Sp := fun vs H Q _ => ∃ (x y dx : Addr) (n : Nat) (es : List Ed) (ks : List Nat), vs = .ref x :: .ref y :: NV ks ∧ H x = some (.ins CW dx []) ∧ NetAt5 C H y n es ∧ NetX C H y n es ∧ y ≠ x ∧ CN n es ∧ es.length ≤ 16 ∧ Wlk es 0 ks ∧ ks.length ≤ 1000 ∧
  ∀ H', Kx x H H' → WkAt CW C H' x n es ks → Q .non H'
abbrev nWi : List Str := ["self", "network", "steps"]
theorem scWi : FnScope nWi (([("self" : Str), "network"] : List Str) ++ [("steps" : Str)]) (defScope sWkInit) := ⟨rfl, rfl, rfl, by decide +kernel, rfl, by decide +kernel, by decide +kernel⟩
theorem fn_wkInit {CW C f : Addr} {fd : FuncData} {mcW : Value} (T : Txt mg) (W : WkC K mg CW mcW) (cl : Cls K C) (GS : PrG P w K mg base C "start" "_start") (GW : MS P w K mg base CW "walk" 6 (spWalk CW C)) (F : Fun K "__init__" "Walker.__init__" sWkInit f fd) : L2.FnR P w K mg base CX0 7 f (spWi CW C) := by
  obtain ⟨oc, od, kV, doc, pm, an, cdv, ct, osl, rfl, lk, hcd⟩ := F.ex
  have nd := scWi.nd
  have R := StX.fn_star (P := P) (w := w) (K := K) (mg := mg) (base := base) (CX := CX0) (k := 6) (ps := ["self", "network"]) (pv := "steps") (sp := spWi0 CW C) lk hcd scWi StX.cxUp_none
    (StX.bind_star2 (B := fun l => bindArgs (PySem.W.fnOf "__init__" "Walker.__init__" (defArgs sWkInit) (defBody sWkInit) (defScope sWkInit) .none kV doc pm an cdv ct) ⟨l, []⟩) (p1 := "self") (p2 := "network") (pv := "steps") (fun a b => rfl) (fun a b r rs => by kernel_rfl))
    (fun A outer s0 H vs Q E hr h => ?_)
  · refine R.imp ?_
    rintro vs H Q E ⟨x, y, dx, n, es, ks, rfl, hx, net, nx, yx, cn, hl, wl, hk, q⟩
    refine ⟨[.ref x, .ref y], NV ks, rfl, rfl, ?_, fun p np => ?_⟩
    · rw [NV_len]
      have : sizeLine = 16777216 := by decide
      omega
    have z := same_upd (o := .tup (NV ks)) np
    exact ⟨x, y, p, dx, n, es, ks, rfl, z _ _ hx, net.same z, nx.same z, yx, upd_same, cn, hl, wl, hk, fun H' k => q H' ((Kx.of z).trans k)⟩
  · obtain ⟨x, y, p, dx, n, es, ks, rfl, hx, net, nx, yx, hp, cn, hl, wl, hk, q⟩ := h
    have hr2 := hr.mono (show 2 ≤ 6 by decide)
    obtain ⟨um, vm⟩ := W.mx
    obtain ⟨g, _, bm, FW⟩ := GW.ex
    refine ⟨_, pss_cons (ps_if (pt_cmpR op_gt (pe_callB cr_len (by rfl) T.len PySem.boot_len (pa_cons (pv 2) pa_nil)) (pe_cval (pe_glob (by rfl) W.gC (v := .ref CW) rfl)) (nomark _)) (pss_one ps_never) pss_nil)
      <| pss_cons (ps_fld (pv 0) (pv 1) rfl)
      <| pss_cons (ps_fld (pv 0) (pe_prp GS cl hr2 (pv 1)) rfl)
      <| pss_cons (ps_fld (pv 0) (pe_tup pa_nil) rfl)
      <| pss_one (ps_expr (pe_methS1 (pv 0) W.cl bm FW hr pass0 (pv 2))), ?_⟩
    refine ⟨_, rfl, p, _, rfl, .inr (sq_of hp), CW, mcW, _, _, rfl, W.rd, vm, _, _, rfl, rfl, _, rfl, ?_⟩
    rw [NV_len, show decide (((1000 : Int) < (ks.length : Int))) = false from decide_eq_false (by omega)]
    refine iteF ⟨_, rfl, _, rfl, x, CW, dx, _, rfl, hx, W.cl, W.n1, by decide, ?_⟩
    have k1 := Kx.upd x H (.ins CW dx (putF "_network" (.ref y) []))
    have l1 := len_putF "_network" (V.ref y) []
    have p1 := lk_put0' (f := "_network") (v := .ref y) (fs := [])
    have m1 := noW_put (v := .ref y) w_ne noW_nil
    have hx1 : upd H x (.ins CW dx (putF "_network" (.ref y) [])) x = some (.ins CW dx (putF "_network" (.ref y) [])) := upd_same
    have net1 := net.kx k1 hx yx
    have nx1 := nx.kx k1 hx yx
    have hp1 := k1.tup hx hp
    generalize putF "_network" (.ref y) [] = f1 at *
    generalize upd H x (.ins CW dx f1) = H1 at *
    obtain ⟨dy, fy, s, u, b, c, i1, i2, i3, i4, i5, i6, i7, i8⟩ := id nx1
    have st1 : StT H1 s (st0 es) := ⟨u, i5, i6⟩
    refine ⟨_, rfl, y, dy, fy, _, rfl, i1, i2, _, rfl, x, CW, dx, _, rfl, hx1, W.cl, W.n2, by simp at l1; omega, ?_⟩
    have k2 := Kx.upd x H1 (.ins CW dx (putF "_state" (.ref s) f1))
    have l2 := len_putF "_state" (V.ref s) f1
    have p2 := lk_put0' (f := "_state") (v := .ref s) (fs := f1)
    have p21 := (lk_put' (f := "_state") (g := "_network") (v := .ref s) (fs := f1) f_w.1).trans p1
    have m2 := noW_put (v := .ref s) w_st m1
    have hx2 : upd H1 x (.ins CW dx (putF "_state" (.ref s) f1)) x = some (.ins CW dx (putF "_state" (.ref s) f1)) := upd_same
    have net2 := net1.kx k2 hx1 yx
    have hp2 := k2.tup hx1 hp1
    have st2 := st1.kx k2 hx1
    clear i1 i2 i3 i4 i5 i6 i7 i8 nx1
    generalize putF "_state" (.ref s) f1 = f2 at *
    generalize upd H1 x (.ins CW dx f2) = H2 at *
    refine ⟨Nat.zero_le _, fun e ne => ?_⟩
    have s3 := same_upd (o := .tup []) ne
    have he3 : upd H2 e (.tup []) e = some (.tup []) := upd_same
    generalize upd H2 e (.tup []) = H3 at *
    have hx3 := s3 _ _ hx2
    refine ⟨_, rfl, x, CW, dx, _, rfl, hx3, W.cl, W.n3, by simp at l1; omega, ?_⟩
    have k4 := Kx.upd x H3 (.ins CW dx (putF "_steps" (.ref e) f2))
    have l4 := len_putF "_steps" (V.ref e) f2
    have p4 := lk_put0' (f := "_steps") (v := .ref e) (fs := f2)
    have p41 := (lk_put' (f := "_steps") (g := "_network") (v := .ref e) (fs := f2) f_w.2.1).trans p21
    have p42 := (lk_put' (f := "_steps") (g := "_state") (v := .ref e) (fs := f2) f_w.2.2.1).trans p2
    have m4 := noW_put (v := .ref e) w_sp m2
    have hx4 : upd H3 x (.ins CW dx (putF "_steps" (.ref e) f2)) x = some (.ins CW dx (putF "_steps" (.ref e) f2)) := upd_same
    have net4 := (net2.same s3).kx k4 hx3 yx
    have hp4 := k4.tup hx3 (s3 _ _ hp2)
    have st4 := (st2.same s3).kx k4 hx3
    have he4 := k4.tup hx3 he3
    have kx4 := (k1.trans k2).trans ((Kx.of s3).trans k4)
    generalize putF "_steps" (.ref e) f2 = f4 at *
    generalize upd H3 x (.ins CW dx f4) = H4 at *
    have wk : WkAt CW C H4 x n es [] := ⟨dx, f4, y, s, e, hx4, p41, p42, p4, m4, by simp at l1; omega, net4, st4, he4, yx⟩
    refine ⟨_, rfl, x, dx, f4, rfl, hx4, m4 _ (by decide +kernel), fun qb nq => ?_⟩
    have s5 := same_upd (o := .met g x) nq
    refine ⟨_, rfl, p, _, rfl, .inl (sq_of (s5 _ _ hp4)), upd_same, ?_⟩
    exact ⟨x, n, es, [], ks, rfl, wk.same s5, cn, hl, wl, hk, fun H' k' w' => q _ (kx4.trans ((Kx.of s5).trans k')) w'⟩
end
end Hw

namespace Hw
open PySem PySem.Spec PyProof.Rows L2 ClX
section
variable {P : Program} {w : World} {K : PySem.W.Frag} {mg : Str → Option Value} {base : Heap}
/-! ### step -/
def spWstep (CW C : Addr) : Sp := fun vs H Q _ => ∃ (x : Addr) (n : Nat) (es : List Ed) (k0 : List Nat) (e : Nat), vs = [.ref x, .int (e : Int)] ∧ WkAt CW C H x n es k0 ∧ CN n es ∧ es.length ≤ 16 ∧ Wlk es 0 (k0 ++ [e]) ∧ (k0 ++ [e]).length ≤ 1000 ∧
  ∀ H', Kx x H H' → WkAt CW C H' x n es (k0 ++ [e]) → Q .non H'
theorem scWstep : FnScope ["self", "passage"] ["self", "passage"] (defScope sWkStep) := ⟨rfl, rfl, rfl, by decide +kernel, rfl, by decide +kernel, by decide +kernel⟩
theorem mc_wstep {CW C : Addr} {mcW : Value} (T : Txt mg) (W : WkC K mg CW mcW) (M : MvS P w K mg base C) (GW : MS P w K mg base CW "walk" 6 (spWalk CW C)) (D : Dm K CW "step" "Walker.step" sWkStep ["self", "passage"]) : MC P w K mg base CX0 CW "step" 7 (spWstep CW C) := by
  refine mc_of D scWstep (fun vs H Q E h => ?_) (fun f cdv A outer s0 H vs Q E hr h => ?_)
  · obtain ⟨x, n, es, k0, e, rfl, _⟩ := h
    rfl
  · obtain ⟨x, n, es, k0, e, rfl, wk, cn, hl, wl, hk, q⟩ := h
    have hr3 := hr.mono (show 3 ≤ 6 by decide)
    refine ⟨_, pss_cons (ps_if (pt_not (pt_val (pe_cl M.iss hr3 (by rfl) (pa_cons (pe_fld (pv 0) rfl) (pa_cons (pe_ix (r := rIxT K) ix_tup (pe_fld (pv 0) rfl) pe_int (fun _ _ => rfl)) (pa_cons (pv 1) pa_nil)))))) (pss_one ps_never) pss_nil)
      <| pss_one (ps_expr (pe_m GW.mc W.cl hr (pv 0) (pa_cons (pv 1) pa_nil))), ?_⟩
    obtain ⟨dx, fs, y, s, t0, h1, h2, h3, h4, h5, h6, h7, h8, h9, h0⟩ := id wk
    obtain ⟨q1, g1, g2⟩ := id h8
    have wl' := wl
    rw [wlk_app] at wl'
    have hd : e ∈ drs es (runS es (st0 es) k0).1 := by rw [runS_fst]; exact wl'.2.1
    refine ⟨_, rfl, x, CW, dx, fs, _, rfl, h1, W.cl, W.n1, h2, _, rfl, x, CW, dx, fs, _, rfl, h1, W.cl, W.n2, h3, s, _, _, _, rfl, rfl, sq_of g1, rfl, _, rfl, y, n, es, _, e, rfl, h7, hd, hl, ?_⟩
    refine ⟨_, rfl, iteF ?_⟩
    exact ⟨_, rfl, x, dx, fs, rfl, h1, h5 _ (by decide +kernel), _, rfl, x, n, es, k0, [e], rfl, wk, cn, hl, wl, hk, fun H' k w' => q H' k w'⟩
/-! ### == of walkers -/
def RWk (CW C : Addr) : Addr → Addr → Hp → Prop := fun a b H => ∃ n es ks, WkAt CW C H a n es ks ∧ WkAt CW C H b n es ks
theorem scWkEq : FnScope ["self", "other"] ["self", "other"] (defScope sWkEq) := ⟨rfl, rfl, rfl, by decide +kernel, rfl, by decide +kernel, by decide +kernel⟩
theorem rc_net {X : Cx} {C : Addr} (M : MF X.prog X.w X.K X.mg X.base CX0 C "__eq__" "Network.__eq__" sNetEq ["self", "other"] 1 (spEq (RNet C))) : RcG X 1 (DIns C (RNet C)) := by
  obtain ⟨f, fd, F, b, me, ok⟩ := M.ex
  exact rcG_ins ok me.at_ me.fn b pass0
theorem rc_wk {X : Cx} {CW C : Addr} (M : MF X.prog X.w X.K X.mg X.base CX0 CW "__eq__" "Walker.__eq__" sWkEq ["self", "other"] 2 (spEq (RWk CW C))) : RcG X 2 (DIns CW (RWk CW C)) := by
  obtain ⟨f, fd, F, b, me, ok⟩ := M.ex
  exact rcG_ins ok me.at_ me.fn b pass0
theorem mf_wkEq {CW C : Addr} {mcW : Value} (T : Txt mg) (hT : mg "type" = none) (W : WkC K mg CW mcW) (N : MF P w K mg base CX0 C "__eq__" "Network.__eq__" sNetEq ["self", "other"] 1 (spEq (RNet C))) (D : Dm K CW "__eq__" "Walker.__eq__" sWkEq ["self", "other"]) :
    MF P w K mg base CX0 CW "__eq__" "Walker.__eq__" sWkEq ["self", "other"] 2 (spEq (RWk CW C)) := by
  obtain ⟨f, fd, F, b, me⟩ := D.ex
  refine ⟨f, fd, F, b, me, F.ok scWkEq (fun vs H Q E h => ?_) (fun cdv A outer s0 H vs Q E hr h => ?_)⟩
  · obtain ⟨a, b, rfl, _⟩ := h
    rfl
  · obtain ⟨x, y, rfl, ⟨n, es, ks, w1, w2⟩, q⟩ := h
    have hu := hr.units
    refine ⟨_, pss_one (ps_ret (pe_and (pe_cmpR op_is_cls (pe_callTy cr_type (by rfl) hT (by decide +kernel) (pa_cons (pv 0) pa_nil)) (pe_callTy cr_type (by rfl) hT (by decide +kernel) (pa_cons (pv 1) pa_nil)) (nomark _))
      (pe_and (pe_cmpR (op_eqG (rc_net N) hr) (pe_fld (pv 0) rfl) (pe_fld (pv 1) rfl) (nomark _)) (pe_one (pe_cmpR (op_eqD hu) (pe_fld (pv 0) rfl) (pe_fld (pv 1) rfl) (nomark _)))))), ?_⟩
    obtain ⟨dx, fs, y1, s1, t1, h1, h2, h3, h4, h5, h6, h7, h8, h9, h0⟩ := id w1
    obtain ⟨ex, gs, y2, s2, t2, g1, g2, g3, g4, g5, g6, g7, g8, g9, g0⟩ := id w2
    obtain ⟨_, _, _, _, i1, _⟩ := id h7
    obtain ⟨_, _, _, _, j1, _⟩ := id g7
    refine ⟨_, rfl, x, CW, dx, fs, rfl, h1, _, rfl, y, CW, ex, gs, rfl, g1, CW, CW, rfl, rfl, .inl rfl, ?_⟩
    refine ⟨_, rfl, ?_⟩
    rw [show decide (CW = CW) = true from decide_eq_true rfl]
    refine iteT ⟨_, rfl, x, CW, dx, fs, _, rfl, h1, W.cl, W.n1, h2, _, rfl, y, CW, ex, gs, _, rfl, g1, W.cl, W.n1, g2, ⟨y1, y2, _, _, _, _, rfl, rfl, i1, j1, n, es, h7, g7⟩, fun H1 e1 => ?_⟩
    refine ⟨_, rfl, iteT ?_⟩
    refine ⟨_, rfl, x, CW, dx, fs, _, rfl, e1 _ _ h1, W.cl, W.n3, h4, _, rfl, y, CW, ex, gs, _, rfl, e1 _ _ g1, W.cl, W.n3, g4, ?_⟩
    refine ⟨_, _, dp_tp (e1 _ _ h9), dp_tp (e1 _ _ g9), shaped_ti _, shaped_ti _, ?_⟩
    rw [eqv_tp, decide_eq_true rfl]
    exact q _ e1
end
end Hw

namespace Hw
open PySem PySem.Spec PyProof.Rows L2 ClX
theorem notStr_same {K : PySem.W.Frag} {H H' : Hp} {v : V} (h : NotStr K H v) (s : ∀ b o, H b = some o → H' b = some o) : True := trivial
/-- a class method of a class, where it stands -/
structure Dc (K : PySem.W.Frag) (C : Addr) (mc : Value) (m qual : Str) (st : Stmt) (ps : List Str) : Prop where
  ex : ∃ (p f : Addr) (fd : FuncData), Fun K m qual st f fd ∧ L2.Binds K fd ps [] ∧ CMet K C mc m p f
structure CC (P : Program) (w : World) (K : PySem.W.Frag) (mg : Str → Option Value) (base : Heap) (CX : CXT) (C : Addr) (mc : Value) (m : Str) (k : Nat) (sp : Sp) : Prop where
  ex : ∃ p f : Addr, CMet K C mc m p f ∧ L2.FnR P w K mg base CX k f sp
section
variable {P : Program} {w : World} {K : PySem.W.Frag} {mg : Str → Option Value} {base : Heap}
/-! ### read -/
def spWread (K : PySem.W.Frag) (CW C CE : Addr) : Sp := fun vs H Q E => ∃ v : V, vs = [.ref CW, v] ∧
  ((NotStr K H v ∧ PErS CE E H 0 0) ∨
   (∃ z : Str, v = .str z ∧ Fits z ∧ (∀ n es ks, rdAll (Txt.split z "\n") = .inr (n, es, ks) → ∀ H' x, Same H H' → WkAt CW C H' x n es ks → Q (.ref x) H') ∧ ∀ l w, rdAll (Txt.split z "\n") = .inl (l, w) → PErS CE E H l w))
abbrev nWr : List Str := ["cls", "text", "network", "steps"]
theorem scWr : FnScope nWr ["cls", "text"] (defScope sWkRead) := ⟨rfl, rfl, rfl, by decide +kernel, rfl, by decide +kernel, by decide +kernel⟩
/-- the class Walker, made -/
structure WkM (P : Program) (w : World) (K : PySem.W.Frag) (mg : Str → Option Value) (base : Heap) (CW C : Addr) : Prop where
  ex : ∃ f : Addr, Mk K CW f ∧ L2.FnR P w K mg base CX0 7 f (spWi CW C)
theorem wkMade {CW C : Addr} {H : Hp} {y : Addr} {n : Nat} {es : List Ed} {ks : List Nat} {Q : Addr → Hp → Prop} {E : XK} (net : NetAt5 C H y n es) (nx : NetX C H y n es) (cn : CN n es) (hl : es.length ≤ 16) (wl : Wlk es 0 ks) (hk : ks.length ≤ 1000) (q : ∀ H' x, Same H H' → H x = none → WkAt CW C H' x n es ks → Q x H') :
    ∀ x dx, H x = none → H dx = none → dx ≠ x → spWi CW C (.ref x :: .ref y :: NV ks) (upd (upd H dx (.own x)) x (.ins CW dx [])) (fun v H2 => v = .non ∧ Q x H2) E := fun x dx nx' nd ne => by
  have s0 : Same H (upd (upd H dx (.own x)) x (.ins CW dx [])) := fun b o e => by
    rw [upd_ne (ne_of_none e nx'), upd_ne (ne_of_none e nd)]
    exact e
  have yx : y ≠ x := fun z => by
    obtain ⟨_, _, _, _, h, _⟩ := net
    rw [z, nx'] at h
    cases h
  exact ⟨x, y, dx, n, es, ks, rfl, upd_same, net.same s0, nx.same s0, yx, cn, hl, wl, hk, fun H' k w' => ⟨rfl, q H' x (kx_same s0 nx' k) nx' w'⟩⟩
theorem cc_read {CW C CE : Addr} {mcW : Value} (W : WkC K mg CW mcW) (WM : WkM P w K mg base CW C) (GP : CalE P w K mg base "parsed" 9 ["text", "most_steps"] (spParsed K C CE)) (D : Dc K CW mcW "read" "Walker.read" sWkRead ["cls", "text"]) : CC P w K mg base (L2.CX P w) CW mcW "read" 10 (spWread K CW C CE) := by
  obtain ⟨p, f, fd, F, b, cm⟩ := D.ex
  have nd := scWr.nd
  refine ⟨p, f, cm, raw0 (F.okX scWr (fun vs H Q E h => ?_) (fun cdv A outer s0 H vs Q E hr h => ?_)) b⟩
  · obtain ⟨v, rfl, _⟩ := h
    rfl
  · obtain ⟨v, rfl, h⟩ := h
    have hr8 := hr.mono (show 8 ≤ 9 by decide)
    have tk : Takes (cxOf (L2.CX P w) P w K mg base nWr "Walker.read" (defScope sWkRead) f cdv A outer s0 H E) (fun cls d _ H => E cls d H) := takes_of rfl rfl rfl rfl
    have hW : ∀ (cls : Value) (d : Option Addr) (σ : L2.St) (H : Hp), E cls d H → (fun (cls : Value) (d : Option Addr) (_ : L2.St) (H : Hp) => E cls d H) cls d σ H := fun _ _ _ _ z => z
    obtain ⟨um, vm⟩ := W.mx
    obtain ⟨fi, M, FI⟩ := WM.ex
    refine ⟨_, pss_cons (ps_asg (pe_clE (E := E) GP hr tk hW (by rfl) (pa_cons (pv 1) (pa_cons (pe_cval (pe_glob (by rfl) W.gC (v := .ref CW) rfl)) pa_nil))) (pg_tup rfl (pgs_cons (pg_name (i := 2) nd rfl (.inl rfl)) (pgs_cons (pg_name (i := 3) nd rfl (.inl rfl)) pgs_nil))))
      <| pss_one (ps_ret (pe_makeVS (i := 0) (E := E0) M FI hr8 rfl (.inl rfl) pass0 (pa_cons (pv 2) (StX.pa_star (pv 3) pa_nil)))), ?_⟩
    refine ⟨_, rfl, CW, mcW, _, _, rfl, W.rd, vm, v, rfl, ?_⟩
    rcases h with ⟨ns, e⟩ | ⟨z, rfl, ft, q1, q2⟩
    · exact .inl ⟨ns, e⟩
    · refine .inr ⟨z, rfl, ft, fun n es ks er H1 r y t s1 hr' nr net nx ht cn hn hl wl hk => ?_, q2⟩
      refine ⟨r, _, rfl, sq_of hr', rfl, _, _, rfl, _, _, rfl, rfl, ?_⟩
      refine ⟨rfl, _, rfl, _, rfl, t, NV ks, rfl, .inl (sq_of ht), ?_⟩
      show ∀ x dx, _
      rw [List.append_nil]
      exact wkMade net nx cn hl wl hk fun H' x s' nx' wk => q1 n es ks er H' x (s1.trans s') wk
/-! ### is_text -/
def spIsText (K : PySem.W.Frag) : Sp := fun vs H Q _ => ∃ v : V, vs = [v] ∧
  ((NotStr K H v ∧ ∀ H', Same H H' → Q (.bl false) H') ∨ (∃ z : Str, v = .str z ∧ Fits z ∧ (∀ e, rdAll (Txt.split z "\n") = .inr e → ∀ H', Same H H' → Q (.bl true) H') ∧ ∀ e, rdAll (Txt.split z "\n") = .inl e → ∀ H', Same H H' → Q (.bl false) H'))
theorem scWt : FnScope ["value"] ["value"] (defScope sWkIsText) := ⟨rfl, rfl, rfl, by decide +kernel, rfl, by decide +kernel, by decide +kernel⟩
theorem pe_clS {X : Cx} {k : Nat} {x : Str} {ps : List Str} {sp : Sp} {W : WX} {e : Expr} {es : List Expr} {t : TA} {p pos : Pos} (c : CalE X.prog X.w X.K X.mg X.base x k ps sp) (hr : Room k X.A) (tk : Takes X W) (hg : Gl X x) (ha : PA X (e :: es) t) (hdb : (x == ("__debug__" : Str)) = false := by decide)
    (he : starEach (e :: es) X.env = (false, eval e X.env) :: starEach es X.env := by rfl) (hpl : (backTo pos (starEach es X.env)).any (·.1) = false := by rfl) : PE X (.Call (.Name x p) (e :: es) [] pos) (tCallS sp (L2.WE W) t) := by
  obtain ⟨f, fd, hm, hk, b, F⟩ := c.ex
  exact pe_callS F hr hg hm hk b (fun σ => L2.passAt tk σ) ha hdb he hpl
theorem sc_isText {CW C CE : Addr} {mcW : Value} (W : WkC K mg CW mcW) (XE : Xc2 P w K mg base "ParseError" CE "line" "word") (GP : CalE P w K mg base "parsed" 9 ["text", "most_steps"] (spParsed K C CE)) (D : Ds K CW mcW "is_text" "Walker.is_text" sWkIsText ["value"]) : SC P w K mg base CX0 CW mcW "is_text" 10 (spIsText K) := by
  obtain ⟨p, f, fd, F, b, sm⟩ := D.ex
  refine ⟨p, f, sm, raw0 (F.ok scWt (fun vs H Q E h => ?_) (fun cdv A outer s0 H vs Q E hr h => ?_)) b⟩
  · obtain ⟨v, rfl, _⟩ := h
    rfl
  · obtain ⟨v, rfl, h⟩ := h
    obtain ⟨um, vm⟩ := W.mx
    refine ⟨_, pss_cons (ps_try_only (c := .ref CE) (Wout := fun _ _ _ _ => False) (tb := fun W => tDrop (tCallS (spParsed K C CE) (L2.WE W) (tCons (tVar 0) (tCons (tCVal K (tC (.ref CW)) "MAX_STEPS") tNil)))) (ts := fun _ _ _ => tRet (tC (.bl false))) rfl rfl ⟨rfl, by decide, .inl XE.gC⟩ (fun u s' ⟨_, _, _, _, _, _, _, _, _, _, _, _, _, _, _, _, w⟩ => w.elim)
        (fun W' pn xe tk _ => pss_one (ps_expr (by exact (pe_clS GP hr tk (by rfl) (pa_cons (pv 0) (pa_cons (pe_cval (pe_glob (by rfl) W.gC (v := .ref CW) rfl)) pa_nil))))))
        (fun a oe cls d pn hz hf => pss_one (ps_ret (by exact pe_bl))))
      <| pss_one (ps_ret pe_bl), ?_⟩
    have err : ∀ l w, (∀ H', Same H H' → Q (.bl false) H') → PErS CE (L2.WE (wOnly K (.ref CE) (fun _ _ _ => tRet (tC (.bl false))) (fun _ _ _ _ => False) { nx := fun σ' H' => Q (.bl true) H', rt := Q }) [some v]) H l w := fun l w q H' d s h => ⟨true, XE.te, fun _ a na => q H' s, fun z => nomatch z⟩
    refine ⟨_, rfl, CW, mcW, _, _, rfl, W.rd, vm, v, rfl, ?_⟩
    rcases h with ⟨ns, q⟩ | ⟨z, rfl, ft, q1, q2⟩
    · exact .inl ⟨ns, err 0 0 q⟩
    · refine .inr ⟨z, rfl, ft, fun n es ks er H1 r y t s1 _ _ _ _ _ _ _ _ _ _ => q1 _ er H1 s1, fun l w er => err l w (q2 _ er)⟩
end
end Hw

/-! What a text weighs. -/
namespace Hw
open PySem PySem.Spec PyProof.Rows L2 ClX
def StrOk (s : Str) : Prop := ∀ c ∈ s.cps.toList, c < 0x110000
theorem edt_at' {H : Hp} {a : Addr} {es : List Ed} {i : Nat} (h : EdT H a es) (hi : i < es.length) : ∃ (ks : List V) (b : Addr), H a = some (.tup ks) ∧ atI ks ((i : Nat) : Int) = some (.ref b) ∧ Tp H b [(es.getD i (0, 0)).1, (es.getD i (0, 0)).2] := by
  obtain ⟨ks, k1, k2, k3⟩ := h
  have kl := ed_len k2
  have hk : i < ks.length := by rw [kl]; exact hi
  obtain ⟨k, hki⟩ : ∃ k, ks[i]? = some k := ⟨ks[i], List.getElem?_eq_getElem hk⟩
  obtain ⟨e, he, ek⟩ := ed_get k2 hki
  have tk := k3 k (List.mem_of_getElem? hki)
  rw [ek] at tk
  rw [getD_of he]
  exact ⟨_, k.1, k1, atI_nat (by rw [List.getElem?_map, hki]; rfl), tk⟩
theorem oth_int {e : Ed} {p : Nat} (h : p ∈ [e.1, e.2]) : ((e.1 : Int) + (e.2 : Int)) - (p : Int) = ((oth e p : Nat) : Int) := by
  obtain ⟨a, b⟩ := oth_sum h
  omega
def Mf (f : Nat → Nat) (s : Str) : Nat := (s.cps.toList.map f).sum
def MSu (f : Nat → Nat) (ls : List Str) : Nat := (ls.map (Mf f)).sum
def fLen : Nat → Nat := fun _ => 1
def fSp : Nat → Nat := fun c => if c = 32 then 1 else 0
def fBig : Nat → Nat := fun c => if c < 0x110000 then 0 else 1
theorem MSu_nil (f : Nat → Nat) : MSu f [] = 0 := rfl
theorem MSu_cons (f : Nat → Nat) (s : Str) (ls : List Str) : MSu f (s :: ls) = Mf f s + MSu f ls := by unfold MSu; rw [List.map_cons, List.sum_cons]
theorem MSu_app (f : Nat → Nat) (a b : List Str) : MSu f (a ++ b) = MSu f a + MSu f b := by unfold MSu; rw [List.map_append, List.sum_append]
theorem MSu_cut (f : Nat → Nat) (ls : List Str) (k : Nat) : MSu f (ls.take k) + MSu f (ls.drop k) = MSu f ls := by rw [← MSu_app, List.take_append_drop]
theorem MSu_at (f : Nat → Nat) {ls : List Str} {k : Nat} {s : Str} (h : ls[k]? = some s) : MSu f (ls.take k) + Mf f s + MSu f (ls.drop (k + 1)) = MSu f ls := by
  rw [← MSu_cut f ls k]
  have hk := (List.getElem?_eq_some_iff.mp h).1
  have e : ls.drop k = s :: ls.drop (k + 1) := by
    rw [List.drop_eq_getElem_cons hk]
    congr 1
    exact Option.some.inj ((List.getElem?_eq_getElem hk).symm.trans h)
  rw [e, MSu_cons]
  omega
theorem MSu_mem (f : Nat → Nat) : ∀ {ls : List Str} {s : Str}, s ∈ ls → Mf f s ≤ MSu f ls
  | x :: ls, s, h => by
    rw [MSu_cons]
    rcases List.mem_cons.mp h with rfl | z
    · omega
    · have := MSu_mem f z
      omega
theorem M_app (f : Nat → Nat) (a b : Str) : Mf f (a ++ b) = Mf f a + Mf f b := by
  unfold Mf
  rw [show (a ++ b).cps.toList = a.cps.toList ++ b.cps.toList from TL.tl_append a b, List.map_append, List.sum_append]
theorem M_sjoin (f : Nat → Nat) (y : Str) : ∀ ps : List Str, Mf f (Str.join y ps) = MSu f ps + (ps.length - 1) * Mf f y
  | [] => by
    show Mf f Str.empty = 0 + (0 - 1) * Mf f y
    rw [Nat.zero_sub, Nat.zero_mul]
    rfl
  | [p] => by show Mf f p = _; rw [MSu_cons, MSu_nil]; simp
  | p :: q :: r => by
    show Mf f (p ++ y ++ Str.join y (q :: r)) = _
    rw [M_app, M_app, M_sjoin f y (q :: r), MSu_cons f p, List.length_cons, List.length_cons, Nat.add_sub_cancel, List.length_cons, Nat.add_sub_cancel, Nat.add_mul]
    omega
theorem M_join (f : Nat → Nat) (y : Str) (ps : List Str) : Mf f (Txt.join y ps) = MSu f ps + (ps.length - 1) * Mf f y := by rw [TL.join_eq, M_sjoin]
theorem M_split (f : Nat → Nat) (x y : Str) : MSu f (Txt.split x y) + ((Txt.split x y).length - 1) * Mf f y = Mf f x := by
  rw [← M_sjoin, PySem.StrLaws.join_split]
theorem M_len (s : Str) : Mf fLen s = s.length := by
  unfold Mf fLen
  rw [show s.length = s.cps.toList.length from (Array.length_toList).symm]
  generalize s.cps.toList = l
  induction l with
  | nil => rfl
  | cons a l ih => rw [List.map_cons, List.sum_cons, ih, List.length_cons]; omega
theorem M_big {s : Str} : Mf fBig s = 0 ↔ StrOk s := by
  unfold Mf StrOk
  generalize s.cps.toList = l
  induction l with
  | nil => simp
  | cons a l ih =>
    rw [List.map_cons, List.sum_cons]
    constructor
    · intro h c hc
      rcases List.mem_cons.mp hc with rfl | m
      · unfold fBig at h
        split at h
        · assumption
        · omega
      · exact ih.mp (by omega) c m
    · intro h
      have h1 := ih.mpr fun c hc => h c (List.mem_cons_of_mem _ hc)
      have h2 := h a List.mem_cons_self
      unfold fBig at h1 ⊢
      rw [if_pos h2]
      omega
theorem M_sp (s : Str) : (Mf fSp s : Int) = cnt 32 s.cps.toList := by
  unfold Mf
  generalize s.cps.toList = l
  induction l with
  | nil => rfl
  | cons a l ih =>
    rw [List.map_cons, List.sum_cons, cnt_cons, ← ih]
    unfold fSp
    split <;> simp
theorem split_sp (s : Str) : (Txt.split s " ").length = 1 + Mf fSp s := by
  have h := split_len s 32
  rw [← M_sp] at h
  have e : (Txt.split s ⟨#[32]⟩) = Txt.split s " " := by
    rw [show (⟨#[32]⟩ : Str) = Str.ofString " " from by decide +kernel]
  rw [e] at h
  omega
/-- no more than T signs, S of them blanks -/
def Bd (T S : Nat) (z : Str) : Prop := Mf fLen z ≤ T ∧ Mf fSp z ≤ S ∧ Mf fBig z = 0
theorem Bd.mono {T S T' S' : Nat} {z : Str} (h : Bd T S z) (a : T ≤ T') (b : S ≤ S') : Bd T' S' z := ⟨Nat.le_trans h.1 a, Nat.le_trans h.2.1 b, h.2.2⟩
theorem nl_m : Mf fLen (Str.ofString "\n") = 1 ∧ Mf fSp (Str.ofString "\n") = 0 ∧ Mf fBig (Str.ofString "\n") = 0 := by decide +kernel
theorem sp_m : Mf fLen (Str.ofString " ") = 1 ∧ Mf fSp (Str.ofString " ") = 1 ∧ Mf fBig (Str.ofString " ") = 0 := by decide +kernel
theorem bd_line {T S : Nat} {z l : Str} (h : Bd T S z) (hl : l ∈ Txt.split z "\n") : Bd T S l := by
  have a := M_split fLen z "\n"
  have b := M_split fSp z "\n"
  have c := M_split fBig z "\n"
  have a1 := MSu_mem fLen hl
  have b1 := MSu_mem fSp hl
  have c1 := MSu_mem fBig hl
  obtain ⟨h1, h2, h3⟩ := h
  exact ⟨by omega, by omega, by omega⟩
theorem bd_word {T S : Nat} {z w : Str} (h : Bd T S z) (hw : w ∈ Txt.split z " ") : Bd T 0 w := by
  have a := M_split fLen z " "
  have b := M_split fSp z " "
  have c := M_split fBig z " "
  have n := split_sp z
  have a1 := MSu_mem fLen hw
  have b1 := MSu_mem fSp hw
  have c1 := MSu_mem fBig hw
  obtain ⟨h1, h2, h3⟩ := h
  rw [sp_m.2.1, n] at b
  exact ⟨by omega, by omega, by omega⟩
end Hw

namespace Hw
open PySem PySem.Spec PyProof.Rows L2 ClX
theorem EdT.kp {m lg lc a : Addr} {H H' : Hp} {s : Nat} {es : List Ed} (h : EdT H a es) (k : Kp m lg H H') (M : MOk H m lg lc s) : EdT H' a es := by
  obtain ⟨k0, k1, k2, k3⟩ := h
  exact ⟨k0, k.tup M k1, k2, fun y hy => k.tup M (k3 y hy)⟩
/-- every place of a connected network with passages has a door -/
theorem door_ex {n : Nat} {es : List Ed} (c : CN n es) (ne : es ≠ []) {p : Nat} (hp : p < n) : drs es p ≠ [] := by
  have some_ : ∀ q, adj es p q → drs es p ≠ [] := fun q a z => by
    obtain ⟨i, hi, _⟩ := adj_oth a
    rw [z] at hi
    cases hi
  by_cases hz : ∃ q, adj es p q
  · obtain ⟨q, a⟩ := hz
    exact some_ q a
  · exfalso
    have iso : ∀ {u v : Nat}, Rch es u v → (u = p ↔ v = p) := fun {u v} r => by
      induction r with
      | refl => exact Iff.rfl
      | step _ a ih =>
        refine ih.trans ⟨fun z => ?_, fun z => ?_⟩
        · subst z; exact absurd ⟨_, a⟩ hz
        · subst z; exact absurd ⟨_, adj_symm a⟩ hz
    have all : ∀ v, v < n → v = p := fun v hv => (iso (c.2.2 v hv)).mp ((iso (c.2.2 p hp)).mpr rfl)
    obtain ⟨e, he⟩ := List.exists_mem_of_ne_nil es ne
    obtain ⟨h1, h2⟩ := c.2.1 e he
    have e1 := all e.1 (by omega)
    exact hz ⟨e.2, .inl (by rw [← e1]; exact he)⟩
section
variable {P : Program} {w : World} {K : PySem.W.Frag} {mg : Str → Option Value} {base : Heap}
/-! ### doors -/
def spDoors : Sp := fun vs H Q _ => ∃ (a : Addr) (es : List Ed) (u : Nat), vs = [.ref a, .int (u : Int)] ∧ EdT H a es ∧ es.length ≤ 100 ∧ ∀ H' r, Same H H' → H r = none → H' r = some (.lst (NV (drs es u))) → Q (.ref r) H'
abbrev nDo : List Str := ["_law_ties_here", "_law_here", "_law_at", "_law_pair"]
theorem scDoors : FnScope nDo ["_law_ties_here", "_law_here"] (defScope sDoors) := ⟨rfl, rfl, rfl, by decide +kernel, rfl, by decide +kernel, by decide +kernel⟩
theorem cal_doors (T : Txt mg) (D : Df K mg "_law_doors" sDoors ["_law_ties_here", "_law_here"]) : Cal P w K mg base "_law_doors" 1 spDoors := by
  have nd := scDoors.nd
  refine cal_of D scDoors (fun vs H Q E h => ?_) (fun f cdv A outer s0 H vs Q E hr h => ?_)
  · obtain ⟨a, es, u, rfl, _⟩ := h
    rfl
  · obtain ⟨a, es, u, rfl, he, hl, q⟩ := h
    refine ⟨_, pss_one (ps_ret (pe_lc (own := [("_law_at", 2), ("_law_pair", 3)]) (g := gTup K 2 (gCons (gName 2) (gCons (gName 3) gNil))) (by rfl) nd (pi_enumT (by rfl) T.enumerate (pa_cons (pv 0) pa_nil))
          (blkOk_by (own := [("_law_at", 2), ("_law_pair", 3)]) (N := nDo) (sc := defScope sDoors) (by decide +kernel)) (fun _ _ _ _ _ => pg_tup rfl (pgs_cons (pg_name (i := 2) nd rfl (.inl rfl)) (pgs_cons (pg_name (i := 3) nd rfl (.inl rfl)) pgs_nil)))
          (fun _ _ _ _ _ => pts_one (pt_cmpR (r := rIn K false) op_in_seq (pv 1) (pv 3) (by rfl))) (fun _ _ _ _ _ => pv 2))), ?_⟩
    obtain ⟨ks, k1, k2, k3⟩ := id he
    have kl := ed_len k2
    refine ⟨_, rfl, a, _, rfl, sq_of k1, fun D nD => lc_it (walk_enumT (xs := ks.map fun k => V.ref k.1)) (fun i H' => Same H H' ∧ H' D = some (.lst (NV (drsTo es u i)))) ⟨same_upd nD, upd_same⟩ (fun i H' _ ⟨sm, _⟩ => sq_of (sm _ _ k1)) ?_ ?_⟩
    · rintro i x H2 H3 hi ⟨sm, hD⟩ ⟨T1, i', y, rfl, nT, rfl, ei, ey⟩
      obtain rfl : V.int (i : Int) = i' := Option.some.inj ei
      obtain ⟨k, hk, rfl⟩ := refs_get ey
      obtain ⟨e, hei, ek⟩ := ed_get k2 hk
      rw [nv_len, kl] at hi
      have sT := same_upd (o := .tup [V.int (i : Int), V.ref k.1]) nT
      have tk := sT _ _ (sm _ _ (k3 k (List.mem_of_getElem? hk)))
      rw [ek] at tk
      refine ⟨T1, _, rfl, .inl (.inl upd_same), rfl, _, _, rfl, _, _, rfl, rfl, rfl, ?_⟩
      refine ⟨_, rfl, _, rfl, k.1, _, rfl, .inr (sq_of tk), rfl, flat_NV _, _, rfl, ?_⟩
      rw [inV_NV, drsTo_succ, getD_of hei]
      refine ite2 (fun z => ?_) (fun z => ?_)
      · have z' : decide (u ∈ [e.1, e.2]) = true := z
        rw [z']
        refine ⟨_, rfl, _, sT _ _ hD, ?_, fun b o eb => ?_, ?_⟩
        · rw [NV_len]
          exact Nat.lt_of_le_of_lt (drsTo_len _ _ _) (small1000 (by omega))
        · rw [upd_ne (ne_of_none eb nD)]
          exact sT _ _ (sm _ _ eb)
        · rw [if_pos rfl, upd_same, NV_snoc]
      · have z' : ¬ decide (u ∈ [e.1, e.2]) = true := z
        rw [if_neg z', List.append_nil]
        exact ⟨sm.trans sT, sT _ _ hD⟩
    · rintro H2 ⟨sm, hD⟩
      rw [nv_len, kl] at hD
      exact q H2 D sm nD hD

/-! ### road -/
def spRoad : Sp := fun vs H Q _ => ∃ (m lg lc a : Addr) (s n p k : Nat) (es : List Ed), vs = [.ref m, .ref a, .int (p : Int), .int (k : Int)] ∧ MOk H m lg lc s ∧ s + k ≤ 100000 ∧ EdT H a es ∧ CN n es ∧ p < n ∧ es.length ≤ 16 ∧ k ≤ 900 ∧
  ∀ H' r ks s', H r = none → r ≠ lg → Kp m lg H H' → H' r = some (.lst (NV ks)) → Wlk es p ks → (ks.length = k ∨ (es = [] ∧ ks = [])) → s' ≤ s + k → MOk H' m lg lc s' → Q (.ref r) H'
abbrev nRo : List Str := ["_law_m", "_law_ties_here", "_law_here", "_law_many", "_law_found", "_law_n", "_law_some", "_law_at"]
theorem scRo : FnScope nRo ["_law_m", "_law_ties_here", "_law_here", "_law_many"] (defScope sRoad) := ⟨rfl, rfl, rfl, by decide +kernel, rfl, by decide +kernel, by decide +kernel⟩
theorem dp_ed {H : Hp} {a : Addr} {es : List Ed} (h : EdT H a es) : ∃ d, Dp K H (.ref a) d ∧ SeqAt.shaped d = true ∧ PyData.eqv d (.tuple []) = decide (es = []) := by
  obtain ⟨ks, k1, k2, k3⟩ := h
  have kl := ed_len k2
  refine ⟨dCT (ks.map (·.2)), .tup (sq_of k1) (by have z := dpa_cs (K := K) ks k3; exact z), ?_, ?_⟩
  · unfold SeqAt.shaped
    have e : (dCT (ks.map (·.2))).depth ≤ 64 := by
      show PyData.depthAll ((ks.map (·.2)).map fun c => PyData.tuple ((NI c).map PyData.int)) + 1 ≤ 64
      have := depth_cs (ks.map (·.2))
      omega
    show (PyData.canLayAll0 ((ks.map (·.2)).map fun c => PyData.tuple ((NI c).map PyData.int)) && _) = true
    rw [lay_cs, decide_eq_true e]
    rfl
  · cases ks with
    | nil =>
      have : es = [] := List.eq_nil_of_length_eq_zero (by simpa using kl.symm)
      subst this
      rfl
    | cons k ks =>
      have : ¬ es = [] := fun z => by rw [z] at kl; simp at kl
      rw [decide_eq_false this]
      rfl
theorem wlk_snoc {es : List Ed} {p : Nat} {ks : List Nat} {e : Nat} (h : Wlk es p ks) (he : e ∈ drs es (plcS es p ks)) : Wlk es p (ks ++ [e]) := wlk_app.mpr ⟨h, he, trivial⟩
theorem plc_snoc (es : List Ed) (p : Nat) (ks : List Nat) (e : Nat) : plcS es p (ks ++ [e]) = oth (es.getD e (0, 0)) (plcS es p ks) := by unfold plcS; rw [List.foldl_append]; rfl
theorem plc_lt {n : Nat} {es : List Ed} (h : VE n es) : ∀ {ks : List Nat} {p : Nat}, p < n → Wlk es p ks → plcS es p ks < n
  | [], _, hp, _ => hp
  | _ :: ks, _, hp, w => plc_lt h (ks := ks) (oth_lt h w.1) w.2
theorem cal_road (T : Txt mg) (GDo : Cal P w K mg base "_law_doors" 1 spDoors) (GD : Cal P w K mg base "_law_draw" 2 spDraw) (D : Df K mg "_law_road" sRoad ["_law_m", "_law_ties_here", "_law_here", "_law_many"]) : Cal P w K mg base "_law_road" 3 spRoad := by
  have nd := scRo.nd
  refine cal_of D scRo (fun vs H Q E h => ?_) (fun f cdv A outer s0 H vs Q E hr h => ?_)
  · obtain ⟨m, lg, lc, a, s, n, p, k, es, rfl, _⟩ := h
    rfl
  · obtain ⟨m, lg, lc, a, s, n, p, k, es, rfl, M, hs, ed, cn, hp, hl, hk, q⟩ := h
    have hr1 := hr.mono (show 1 ≤ 2 by decide)
    have hu := hr.units
    refine ⟨_, pss_cons (ps_set (i := 4) nd rfl (.inl rfl) (pe_lst pa_nil))
      <| pss_cons (ps_for PassesOwn.never rfl (pi_range1 (by rfl) T.range (pa_cons (pe_ifExp (pt_cmpR (op_neD hu) (pv 1) (pe_tup pa_nil) (nomark _)) (pv 3) pe_int) pa_nil)) (pg_name (i := 5) nd rfl (.inl rfl))
          (pss_cons (ps_set (i := 6) nd rfl (.inl rfl) (pe_cl GDo hr1 (by rfl) (pa_cons (pv 1) (pa_cons (pv 2) pa_nil))))
          <| pss_cons (ps_set (i := 7) nd rfl (.inl rfl) (pe_ix (r := rIxL K) ix_list (pv 6) (pe_cl GD hr (by rfl) (pa_cons (pv 0) (pa_cons (pe_callB cr_len (by rfl) T.len PySem.boot_len (pa_cons (pv 6) pa_nil)) pa_nil))) (fun _ _ => rfl)))
          <| pss_cons (ps_expr (pe_bm PySem.F.plainAttrs_list PySem.F.slot_list_append PySem.F.type_list_append mt_append (pv 4) (pa_cons (pv 7) pa_nil)))
          <| pss_one (ps_set (i := 2) nd rfl (.inl rfl) (pe_op op_sub (pe_op op_add (pe_ix (r := rIxT K) ix_tup (pe_ix (r := rIxT K) ix_tup (pv 1) (pv 7) (fun _ _ => rfl)) pe_int (fun _ _ => rfl)) (pe_ix (r := rIxT K) ix_tup (pe_ix (r := rIxT K) ix_tup (pv 1) (pv 7) (fun _ _ => rfl)) pe_int (fun _ _ => rfl))) (pv 2)))))
      <| pss_one (ps_ret (pv 4)), ?_⟩
    refine ⟨Nat.zero_le _, fun l nl => ?_⟩
    have s1 := same_upd (o := .lst []) nl
    have hl1 : upd H l (.lst []) l = some (.lst (NV [])) := upd_same
    have M1 := M.same s1
    have nlg := (M.new nl).1
    generalize upd H l (.lst []) = H1 at *
    obtain ⟨dd, d1, d2, d3⟩ := dp_ed (K := K) (ed.same s1)
    refine ⟨_, rfl, Nat.zero_le _, fun t0 nt0 => ?_⟩
    have s2 := same_upd (o := .tup []) nt0
    have ht0 : upd H1 t0 (.tup []) t0 = some (.tup (NV [])) := upd_same
    obtain ⟨dd2, e1, e2, e3⟩ := dp_ed (K := K) ((ed.same s1).same s2)
    have M2 := M1.same s2
    have hl2 := s2 _ _ hl1
    have s12 := s1.trans s2
    generalize upd H1 t0 (.tup []) = H2 at *
    refine ⟨dd2, .tuple ((NI []).map PyData.int), e1, dp_tp ht0, e2, shaped_ti _, ?_⟩
    have e3' : PyData.eqv dd2 (.tuple ((NI []).map PyData.int)) = decide (es = []) := e3
    rw [e3']
    by_cases hes : es = []
    · -- no passages
      rw [decide_eq_true hes]
      refine ⟨_, rfl, iteF ⟨0, rfl, by decide, by decide, ?_⟩⟩
      refine for_it (walk_rg0 (n := 0)) (fun i σ H' => H' = H2 ∧ σ[4]? = some (some (.ref l))) ⟨rfl, rfl⟩ (fun _ _ _ _ _ => trivial) (fun i x σ H' _ hi => absurd hi (Nat.not_lt_zero _)) ?_
      rintro σ H' ⟨rfl, h4⟩
      refine ⟨_, h4, q _ l [] s nl nlg (Kp.same s12) hl2 trivial (.inr ⟨hes, rfl⟩) (by omega) M2⟩
    · rw [decide_eq_false hes]
      refine ⟨_, rfl, iteT ⟨_, rfl, k, rfl, by omega, by omega, ?_⟩⟩
      rw [Int.toNat_natCast]
      refine for_it walk_rg0 (fun i σ H' => ∃ v5 v6 v7 ks s', σ = [some (.ref m), some (.ref a), some (.int (plcS es p ks : Int)), some (.int (k : Int)), some (.ref l), v5, v6, v7] ∧ Kp m lg H H' ∧ H' l = some (.lst (NV ks)) ∧ EdT H' a es ∧ Wlk es p ks ∧ ks.length = i ∧ s' ≤ s + i ∧ MOk H' m lg lc s')
        ⟨none, none, none, [], s, rfl, Kp.same s12, hl2, (ed.same s1).same s2 |> fun z => by first | exact z | exact ed.same s12, trivial, rfl, by omega, M2⟩ (fun _ _ _ _ _ => trivial) ?_ ?_
      · rintro i x σ _ H3 hi ⟨v5, v6, v7, ks, s', rfl, kp, hL, ed3, wl, kl, hs', M3⟩ ⟨rfl, rfl⟩
        have pl := plc_lt cn.2.1 hp wl
        have dne := door_ex cn hes pl
        refine ⟨_, rfl, _, rfl, a, es, _, rfl, ed3, by omega, fun H4 r s4 nr hr4 => ?_⟩
        have M4 := M3.same s4
        have hL4 := s4 _ _ hL
        have ed4 := ed3.same s4
        have nrg := (M3.new nr).1
        have dl := drs_len es (plcS es p ks)
        have dpos : 0 < (drs es (plcS es p ks)).length := List.length_pos_iff.mpr dne
        refine ⟨_, rfl, _, rfl, _, rfl, r, _, rfl, .inl (sl_of hr4), m, lg, lc, s', (drs es (plcS es p ks)).length, by rw [NV_len], M4, by omega, by omega, by omega, fun H5 d hd kp5 M5 => ?_⟩
        have hr5 := kp5.lst M4 nrg hr4
        have hL5 := kp5.lst M4 nlg hL4
        have ed5 := ed4.kp kp5 M4
        obtain ⟨e, he⟩ : ∃ e, (drs es (plcS es p ks))[d]? = some e := ⟨_, List.getElem?_eq_getElem hd⟩
        have hem : e ∈ drs es (plcS es p ks) := List.mem_of_getElem? he
        obtain ⟨el, em⟩ := mem_drs.mp hem
        refine ⟨r, _, _, _, rfl, rfl, sl_of hr5, atI_nat (NV_get he), ?_⟩
        refine ⟨_, rfl, .inl ⟨rfl, _, sl_of hL5⟩, _, rfl, l, _, _, rfl, rfl, hL5, by rw [NV_len]; exact small1000 (by omega), ?_⟩
        rw [← NV_snoc]
        have hL6 : upd H5 l (.lst (NV (ks ++ [e]))) l = some (.lst (NV (ks ++ [e]))) := upd_same
        have M6 : MOk (upd H5 l (.lst (NV (ks ++ [e])))) m lg lc (s' + 1) := M5.upd (M.new nl)
        have ed6 : EdT (upd H5 l (.lst (NV (ks ++ [e])))) a es := by
          obtain ⟨k0, k1, k2, k3⟩ := ed5
          exact ⟨k0, by rw [upd_ne (ne_of k1 hL5 (by intro z; cases z))]; exact k1, k2, fun y hy => tp_upd (k3 y hy) hL5⟩
        have kp6 : Kp m lg H (upd H5 l (.lst (NV (ks ++ [e])))) := fun b o h1 h2 eb => by
          rw [upd_ne (ne_of_none eb nl)]
          exact kp5 b o h1 h2 (s4 _ _ (kp b o h1 h2 eb))
        generalize upd H5 l (.lst (NV (ks ++ [e]))) = H6 at *
        obtain ⟨k0, b, k1, k2, k3⟩ := edt_at' ed6 el
        refine ⟨_, rfl, _, rfl, a, _, _, _, rfl, rfl, sq_of k1, k2, b, _, _, _, rfl, rfl, sq_of k3, rfl, ?_⟩
        refine ⟨_, rfl, _, rfl, a, _, _, _, rfl, rfl, sq_of k1, k2, b, _, _, _, rfl, rfl, sq_of k3, rfl, _, _, rfl, rfl, ?_⟩
        refine ⟨_, rfl, _, _, rfl, rfl, some (.int (i : Int)), some (.ref r), some (.int (e : Int)), ks ++ [e], s' + 1, ?_, kp6, hL6, ed6, wlk_snoc wl hem, by rw [List.length_append, kl]; rfl, by omega, M6⟩
        rw [plc_snoc, ← oth_int em]
        rfl
      · rintro σ H3 ⟨v5, v6, v7, ks, s', rfl, kp, hL, ed3, wl, kl, hs', M3⟩
        exact ⟨_, rfl, q H3 l ks s' nl nlg kp hL wl (.inl kl) hs' M3⟩
end
end Hw

namespace Hw
open PySem PySem.Spec PyProof.Rows L2 ClX
theorem nS_m : ∀ m ≤ 16, Mf fLen (nS m) ≤ 2 ∧ Mf fSp (nS m) = 0 ∧ Mf fBig (nS m) = 0 := by decide +kernel
/-- what a list of texts weighs -/
def BdL (T S : Nat) (ls : List Str) : Prop := MSu fLen ls ≤ T ∧ MSu fSp ls ≤ S ∧ MSu fBig ls = 0
theorem BdL.nil : BdL 0 0 [] := ⟨Nat.le_refl _, Nat.le_refl _, rfl⟩
theorem BdL.app {T S T' S' : Nat} {a b : List Str} (h : BdL T S a) (k : BdL T' S' b) : BdL (T + T') (S + S') (a ++ b) := by
  unfold BdL
  rw [MSu_app, MSu_app, MSu_app]
  obtain ⟨h1, h2, h3⟩ := h
  obtain ⟨k1, k2, k3⟩ := k
  exact ⟨by omega, by omega, by omega⟩
theorem BdL.one {T S : Nat} {s : Str} (h : Bd T S s) : BdL T S [s] := by
  unfold BdL
  rw [MSu_cons, MSu_cons, MSu_cons, MSu_nil, MSu_nil, MSu_nil]
  exact h
theorem BdL.mono {T S T' S' : Nat} {z : List Str} (h : BdL T S z) (a : T ≤ T') (b : S ≤ S') : BdL T' S' z := ⟨Nat.le_trans h.1 a, Nat.le_trans h.2.1 b, h.2.2⟩
theorem BdL.take {T S : Nat} {ls : List Str} (h : BdL T S ls) (k : Nat) : BdL T S (ls.take k) := by
  have a := MSu_cut fLen ls k
  have b := MSu_cut fSp ls k
  have c := MSu_cut fBig ls k
  obtain ⟨h1, h2, h3⟩ := h
  exact ⟨by omega, by omega, by omega⟩
theorem BdL.drop {T S : Nat} {ls : List Str} (h : BdL T S ls) (k : Nat) : BdL T S (ls.drop k) := by
  have a := MSu_cut fLen ls k
  have b := MSu_cut fSp ls k
  have c := MSu_cut fBig ls k
  obtain ⟨h1, h2, h3⟩ := h
  exact ⟨by omega, by omega, by omega⟩
theorem BdL.mem {T S : Nat} {ls : List Str} {s : Str} (h : BdL T S ls) (m : s ∈ ls) : Bd T S s := by
  have a := MSu_mem fLen m
  have b := MSu_mem fSp m
  have c := MSu_mem fBig m
  obtain ⟨h1, h2, h3⟩ := h
  exact ⟨by omega, by omega, by omega⟩
theorem Bd.app {T S T' S' : Nat} {a b : Str} (h : Bd T S a) (k : Bd T' S' b) : Bd (T + T') (S + S') (a ++ b) := by
  unfold Bd
  rw [M_app, M_app, M_app]
  obtain ⟨h1, h2, h3⟩ := h
  obtain ⟨k1, k2, k3⟩ := k
  exact ⟨by omega, by omega, by omega⟩
theorem Mf_app (f : Nat → Nat) (a b : Str) : Mf f (a ++ b) = Mf f a + Mf f b := M_app f a b
theorem bd_joinN {T S : Nat} {ls : List Str} (h : BdL T S ls) : Bd (T + (ls.length - 1)) S (Txt.join "\n" ls) := by
  unfold Bd
  rw [M_join, M_join, M_join, nl_m.1, nl_m.2.1, nl_m.2.2]
  obtain ⟨h1, h2, h3⟩ := h
  exact ⟨by omega, by omega, by omega⟩
theorem bd_joinS {T S : Nat} {ls : List Str} (h : BdL T S ls) : Bd (T + (ls.length - 1)) (S + (ls.length - 1)) (Txt.join " " ls) := by
  unfold Bd
  rw [M_join, M_join, M_join, sp_m.1, sp_m.2.1, sp_m.2.2]
  obtain ⟨h1, h2, h3⟩ := h
  exact ⟨by omega, by omega, by omega⟩
theorem jn_fit {T S : Nat} {ls : List Str} {y : Str} (h : BdL T S ls) (hT : T ≤ 100000) (hl : ls.length ≤ 200000) (hy : y.length ≤ 1) : (ls.map (·.length)).sum + ls.length * y.length ≤ 16777216 := by
  have e : (ls.map (·.length)).sum = MSu fLen ls := by
    unfold MSu
    congr 1
    exact List.map_congr_left fun s _ => (M_len s).symm
  rw [e]
  have := h.1
  have : ls.length * y.length ≤ ls.length * 1 := Nat.mul_le_mul_left _ hy
  omega
theorem bd_len {T S : Nat} {z : Str} (h : Bd T S z) : z.length ≤ T := by rw [← M_len]; exact h.1
theorem bd_split {T S : Nat} {z : Str} (h : Bd T S z) : BdL T S (Txt.split z "\n") ∧ (Txt.split z "\n").length ≤ T + 1 ∧ MSu fLen (Txt.split z "\n") + ((Txt.split z "\n").length - 1) ≤ T := by
  have a := M_split fLen z "\n"
  have b := M_split fSp z "\n"
  have c := M_split fBig z "\n"
  rw [nl_m.1] at a
  obtain ⟨h1, h2, h3⟩ := h
  exact ⟨⟨by omega, by omega, by omega⟩, by omega, by omega⟩
theorem bd_words {T S : Nat} {z : Str} (h : Bd T S z) : BdL T 0 (Txt.split z " ") ∧ (Txt.split z " ").length ≤ S + 1 ∧ MSu fLen (Txt.split z " ") + ((Txt.split z " ").length - 1) ≤ T := by
  have a := M_split fLen z " "
  have b := M_split fSp z " "
  have c := M_split fBig z " "
  have n := split_sp z
  rw [sp_m.1] at a
  rw [sp_m.2.1, n] at b
  obtain ⟨h1, h2, h3⟩ := h
  exact ⟨⟨by omega, by omega, by omega⟩, by omega, by omega⟩
theorem bdNS {m : Nat} (h : m ≤ 16) : Bd 2 0 (nS m) := ⟨(nS_m m h).1, Nat.le_of_eq (nS_m m h).2.1, (nS_m m h).2.2⟩
theorem bd_net : Bd 8 1 (Str.ofString "network ") := ⟨by decide +kernel, by decide +kernel, by decide +kernel⟩
theorem bd_pas : Bd 8 1 (Str.ofString "passage ") := ⟨by decide +kernel, by decide +kernel, by decide +kernel⟩
theorem bd_spc : Bd 1 1 (Str.ofString " ") := ⟨by decide +kernel, by decide +kernel, by decide +kernel⟩
theorem bd_wlk : Bd 4 0 (Str.ofString "walk") := ⟨by decide +kernel, by decide +kernel, by decide +kernel⟩
end Hw

/-! The text of a walker, and that it is read back. No Python here. -/
namespace Hw
open PySem PySem.Spec PyProof.Rows L2 ClX
def lnNet (n : Nat) : Str := (Str.ofString "network ") ++ nS n
def lnPas (e : Ed) : Str := (((Str.ofString "passage ") ++ nS e.1) ++ (Str.ofString " ")) ++ nS e.2
def wdWalk (ks : List Nat) : List Str := [Str.ofString "walk"] ++ ks.map nS
def lnWalk (ks : List Nat) : Str := Txt.join " " (wdWalk ks)
def lnsOf (n : Nat) (es : List Ed) (ks : List Nat) : List Str := ([lnNet n] ++ es.map lnPas) ++ [lnWalk ks]
def txtOf (n : Nat) (es : List Ed) (ks : List Nat) : Str := Txt.join "\n" (lnsOf n es ks)
theorem tl_inj {a b : Str} (h : TL.tl a = TL.tl b) : a = b := by
  have := TL.map_tl_inj (l := [a]) (m := [b]) (by simpa using h)
  simpa using this
theorem mem_joinL {c : Nat} {S : List Nat} : ∀ {ps : List (List Nat)}, c ∈ TL.joinL S ps → c ∈ S ∨ ∃ p ∈ ps, c ∈ p
  | [], h => by cases h
  | [p], h => .inr ⟨p, List.mem_singleton.mpr rfl, h⟩
  | p :: q :: r, h => by
    have h : c ∈ p ++ (S ++ TL.joinL S (q :: r)) := h
    rcases List.mem_append.mp h with z | z
    · exact .inr ⟨p, List.mem_cons_self, z⟩
    · rcases List.mem_append.mp z with z | z
      · exact .inl z
      · rcases mem_joinL z with y | ⟨p', m, y⟩
        · exact .inl y
        · exact .inr ⟨p', List.mem_cons_of_mem _ m, y⟩
theorem tl_nS (m : Nat) (h : m ≤ 16) : 10 ∉ TL.tl (nS m) ∧ 32 ∉ TL.tl (nS m) := by
  have : ∀ m ≤ 16, 10 ∉ TL.tl (nS m) ∧ 32 ∉ TL.tl (nS m) := by decide +kernel
  exact this m h
theorem tl_words : (10 ∉ TL.tl (Str.ofString "network ") ∧ 32 ∉ TL.tl (Str.ofString "network")) ∧ (10 ∉ TL.tl (Str.ofString "passage ") ∧ 32 ∉ TL.tl (Str.ofString "passage")) ∧ (10 ∉ TL.tl (Str.ofString "walk") ∧ 32 ∉ TL.tl (Str.ofString "walk")) ∧ 10 ∉ TL.tl (Str.ofString " ") := by decide +kernel
theorem tl_sp : TL.tl (Str.ofString " ") = [32] ∧ TL.tl (Str.ofString "\n") = [10] := by decide +kernel
theorem tl_net : TL.tl (Str.ofString "network ") = TL.tl (Str.ofString "network") ++ [32] ∧ TL.tl (Str.ofString "passage ") = TL.tl (Str.ofString "passage") ++ [32] := by decide +kernel
theorem kn_sp : (Str.ofString " ").cps.all (· < 256) = true ∧ (Str.ofString "\n").cps.all (· < 256) = true := by decide +kernel
theorem net_join (n : Nat) : lnNet n = Txt.join " " [Str.ofString "network", nS n] := by
  refine tl_inj ?_
  rw [TL.join_eq, TL.tl_join]
  unfold lnNet
  rw [TL.tl_append, tl_net.1]
  show _ = TL.tl (Str.ofString "network") ++ (TL.tl (Str.ofString " ") ++ TL.tl (nS n))
  rw [tl_sp.1, List.append_assoc]
theorem pas_join (e : Ed) : lnPas e = Txt.join " " [Str.ofString "passage", nS e.1, nS e.2] := by
  refine tl_inj ?_
  rw [TL.join_eq, TL.tl_join]
  unfold lnPas
  rw [TL.tl_append, TL.tl_append, TL.tl_append, tl_net.2]
  show _ = TL.tl (Str.ofString "passage") ++ (TL.tl (Str.ofString " ") ++ (TL.tl (nS e.1) ++ (TL.tl (Str.ofString " ") ++ TL.tl (nS e.2))))
  rw [tl_sp.1]
  simp only [List.append_assoc]
theorem spl_sp {ps : List Str} (ne : ps ≠ []) (h : ∀ p ∈ ps, 32 ∉ TL.tl p) : Txt.split (Txt.join " " ps) " " = ps := TL.split_join tl_sp.1 kn_sp.1 ne h
theorem spl_nl {ps : List Str} (ne : ps ≠ []) (h : ∀ p ∈ ps, 10 ∉ TL.tl p) : Txt.split (Txt.join "\n" ps) "\n" = ps := TL.split_join tl_sp.2 kn_sp.2 ne h
theorem spl_net {n : Nat} (h : n ≤ 16) : Txt.split (lnNet n) " " = [Str.ofString "network", nS n] := by
  rw [net_join]
  refine spl_sp (by simp) fun p hp => ?_
  rcases List.mem_cons.mp hp with z | z
  · rw [z]; exact tl_words.1.2
  · rw [List.mem_singleton.mp z]; exact (tl_nS n h).2
theorem spl_pas {e : Ed} (h1 : e.1 ≤ 16) (h2 : e.2 ≤ 16) : Txt.split (lnPas e) " " = [Str.ofString "passage", nS e.1, nS e.2] := by
  rw [pas_join]
  refine spl_sp (by simp) fun p hp => ?_
  rcases List.mem_cons.mp hp with z | z
  · rw [z]; exact tl_words.2.1.2
  · rcases List.mem_cons.mp z with z | z
    · rw [z]; exact (tl_nS _ h1).2
    · rw [List.mem_singleton.mp z]; exact (tl_nS _ h2).2
theorem spl_walk {ks : List Nat} (h : ∀ k ∈ ks, k ≤ 16) : Txt.split (lnWalk ks) " " = wdWalk ks := by
  refine spl_sp (by unfold wdWalk; simp) fun p hp => ?_
  rcases List.mem_append.mp hp with z | z
  · rw [List.mem_singleton.mp z]; exact tl_words.2.2.1.2
  · obtain ⟨k, hk, rfl⟩ := List.mem_map.mp z
    exact (tl_nS k (h k hk)).2
theorem nl_lns {n : Nat} {es : List Ed} {ks : List Nat} (hn : n ≤ 16) (he : ∀ e ∈ es, e.1 ≤ 16 ∧ e.2 ≤ 16) (hk : ∀ k ∈ ks, k ≤ 16) : ∀ p ∈ lnsOf n es ks, 10 ∉ TL.tl p := by
  intro p hp
  rcases List.mem_append.mp hp with z | z
  · rcases List.mem_append.mp z with z | z
    · rw [List.mem_singleton.mp z]
      unfold lnNet
      rw [TL.tl_append]
      intro m
      rcases List.mem_append.mp m with y | y
      · exact tl_words.1.1 y
      · exact (tl_nS n hn).1 y
    · obtain ⟨e, me, rfl⟩ := List.mem_map.mp z
      unfold lnPas
      rw [TL.tl_append, TL.tl_append, TL.tl_append]
      intro m
      rcases List.mem_append.mp m with y | y
      · rcases List.mem_append.mp y with y | y
        · rcases List.mem_append.mp y with y | y
          · exact tl_words.2.1.1 y
          · exact (tl_nS _ (he e me).1).1 y
        · exact tl_words.2.2.2 y
      · exact (tl_nS _ (he e me).2).1 y
  · rw [List.mem_singleton.mp z]
    unfold lnWalk
    rw [TL.join_eq, TL.tl_join]
    intro m
    rcases mem_joinL m with y | ⟨q, mq, y⟩
    · exact tl_words.2.2.2 y
    · obtain ⟨s, ms, rfl⟩ := List.mem_map.mp mq
      rcases List.mem_append.mp ms with z | z
      · rw [List.mem_singleton.mp z] at y; exact tl_words.2.2.1.1 y
      · obtain ⟨k, mk, rfl⟩ := List.mem_map.mp z
        exact (tl_nS k (hk k mk)).1 y
theorem spl_txt {n : Nat} {es : List Ed} {ks : List Nat} (hn : n ≤ 16) (he : ∀ e ∈ es, e.1 ≤ 16 ∧ e.2 ≤ 16) (hk : ∀ k ∈ ks, k ≤ 16) : Txt.split (txtOf n es ks) "\n" = lnsOf n es ks := spl_nl (by unfold lnsOf; simp) (nl_lns hn he hk)
/-! ### read back -/
def rdIs (n : Nat) (ls : List Str) (es : List Ed) : Prop := rdPl (wdsAt ls 1) = .inr n ∧ es.length ≤ 16 ∧ rdPs n ls (17 - es.length) es = rdPs n ls 17 []
theorem rdPs_step (n : Nat) (ls : List Str) (es : List Ed) (h : es.length ≤ 16) : rdPs n ls (17 - es.length) es = match rdHead n es (wdsAt ls (es.length + 2)) with
    | .inl w => .inl (es.length + 2, w)
    | .inr false => .inr es
    | .inr true => match rdPair n (wdsAt ls (es.length + 2)) with
      | .inl w => .inl (es.length + 2, w)
      | .inr e => rdPs n ls (17 - (es ++ [e]).length) (es ++ [e]) := by
  obtain ⟨g, eg⟩ : ∃ g, 17 - es.length = g + 1 := ⟨16 - es.length, by omega⟩
  have e2 : ∀ e : Ed, 17 - (es ++ [e]).length = g := fun e => by rw [List.length_append, List.length_singleton]; omega
  simp only [e2]
  rw [eg]
  rfl
theorem rdAll_of {n : Nat} {ls : List Str} (h : rdPl (wdsAt ls 1) = .inr n) : rdAll ls = match rdPs n ls 17 [] with
    | .inl e => .inl e
    | .inr es => match rdSt es ((wdsAt ls (es.length + 2)).drop 1) 0 1 [] with
      | .inl w => .inl (es.length + 2, w)
      | .inr ks => if Str.ofString "" ∈ wdsAt ls (es.length + 3) then .inl (es.length + 3, 0) else if 0 < (wdsAt ls (es.length + 3)).length then .inl (es.length + 3, 1) else .inr (n, es, ks) := by
  unfold rdAll
  rw [h]
  try rfl
theorem rdIs_next {n : Nat} {ls : List Str} {es : List Ed} {e : Ed} (h : rdIs n ls es) (h16 : es.length < 16) (hw : rdHead n es (wdsAt ls (es.length + 2)) = .inr true) (hp : rdPair n (wdsAt ls (es.length + 2)) = .inr e) : rdIs n ls (es ++ [e]) := by
  refine ⟨h.1, by rw [List.length_append, List.length_singleton]; omega, ?_⟩
  rw [← h.2.2, rdPs_step n ls es h.2.1, hw]
  show _ = (match rdPair n (wdsAt ls (es.length + 2)) with
      | .inl w => (.inl (es.length + 2, w) : (Nat × Nat) ⊕ List Ed)
      | .inr e => rdPs n ls (17 - (es ++ [e]).length) (es ++ [e]))
  rw [hp]
theorem rdHead_of {n : Nat} {es : List Ed} {W : List Str} {w0 : Str} (ne : Str.ofString "" ∉ W) (h0 : W[0]? = some w0) (hw : w0 ≠ Str.ofString "walk") : rdHead n es W = if w0 = Str.ofString "passage" ∧ es.length < 16 then .inr true else .inl 1 := by
  unfold rdHead
  rw [if_neg ne, h0]
  show (if w0 ∈ fw n es then _ else _) = _
  by_cases m : w0 = Str.ofString "passage" ∧ es.length < 16
  · rw [if_pos m, if_pos, decide_eq_true m.1]
    unfold fw
    rw [if_pos m.2]
    exact List.mem_append_left _ (List.mem_singleton.mpr m.1)
  · rw [if_neg m, if_neg]
    intro z
    rcases fw_cases z with y | y
    · exact m y
    · exact hw y.1
theorem fnd_is {al : List Nat} {m : Nat} (hb : ∀ m ∈ al, m ≤ 16) (hm : m ∈ al) : fnd al (some (nS m)) = some m := by
  cases h : fnd al (some (nS m)) with
  | none => exact absurd rfl (fnd_none h m hm)
  | some q => rw [fnd_one h hb hm rfl]
theorem lns_len (n : Nat) (es : List Ed) (ks : List Nat) : (lnsOf n es ks).length = es.length + 2 := by
  unfold lnsOf
  rw [List.length_append, List.length_append, List.length_map, List.length_singleton, List.length_singleton]
  omega
theorem wds_of {ls : List Str} {k : Nat} {l : Str} (h : ls[k]? = some l) : wdsAt ls (k + 1) = Txt.split l " " := by
  have hlt := (List.getElem?_eq_some_iff.mp h).1
  unfold wdsAt
  rw [dif_pos (show k + 1 - 1 < ls.length by omega), if_pos (by omega)]
  congr 1
  exact (List.getElem?_eq_some_iff.mp h).2
theorem wds_out {ls : List Str} {k : Nat} (h : ls.length ≤ k) : wdsAt ls (k + 1) = [] := by
  unfold wdsAt
  rw [dif_neg (by omega)]
theorem empty_not {ks : List Str} (h : ∀ s ∈ ks, 0 < s.length) : Str.ofString "" ∉ ks := fun m => by
  have := h _ m
  have e : (Str.ofString "").length = 0 := by decide +kernel
  omega
theorem nS_pos (m : Nat) (h : m ≤ 16) : 0 < (nS m).length := by
  have : ∀ m ≤ 16, 0 < (nS m).length := by decide +kernel
  exact this m h
theorem rd_txt {n : Nat} {es : List Ed} {ks : List Nat} (cn : CN n es) (n12 : n ≤ 12) (hl : es.length ≤ 16) (wl : Wlk es 0 ks) : rdAll (Txt.split (txtOf n es ks) "\n") = .inr (n, es, ks) := by
  have ve := cn.2.1
  have he : ∀ e ∈ es, e.1 ≤ 16 ∧ e.2 ≤ 16 := fun e m => by have := ve e m; omega
  have hk : ∀ k ∈ ks, k ≤ 16 := fun k m => by
    obtain ⟨i, hi, e⟩ := List.mem_iff_getElem.mp m
    have := (mem_drs.mp (wlk_get wl (List.getElem?_eq_getElem hi))).1
    omega
  rw [spl_txt (by omega) he hk]
  have g0 : (lnsOf n es ks)[0]? = some (lnNet n) := rfl
  have gi : ∀ (i : Nat) (e : Ed), es[i]? = some e → (lnsOf n es ks)[i + 1]? = some (lnPas e) := fun i e h => by
    have hlt := (List.getElem?_eq_some_iff.mp h).1
    unfold lnsOf
    rw [List.getElem?_append_left (by rw [List.length_append, List.length_map, List.length_singleton]; omega), List.getElem?_append_right (by rw [List.length_singleton]; omega), List.length_singleton, Nat.add_sub_cancel, List.getElem?_map, h]
    rfl
  have gw : (lnsOf n es ks)[es.length + 1]? = some (lnWalk ks) := by
    unfold lnsOf
    rw [List.getElem?_append_right (by rw [List.length_append, List.length_map, List.length_singleton]; omega), List.length_append, List.length_map, List.length_singleton, show es.length + 1 - (1 + es.length) = 0 by omega]
    rfl
  have w1 : wdsAt (lnsOf n es ks) 1 = [Str.ofString "network", nS n] := by rw [show (1 : Nat) = 0 + 1 from rfl, wds_of g0, spl_net (by omega)]
  have wi : ∀ (i : Nat) (e : Ed), es[i]? = some e → wdsAt (lnsOf n es ks) (i + 2) = [Str.ofString "passage", nS e.1, nS e.2] := fun i e h => by
    have b := he e (List.mem_of_getElem? h)
    rw [show i + 2 = (i + 1) + 1 from rfl, wds_of (gi i e h), spl_pas b.1 b.2]
  have ww : wdsAt (lnsOf n es ks) (es.length + 2) = wdWalk ks := by rw [show es.length + 2 = (es.length + 1) + 1 from rfl, wds_of gw, spl_walk hk]
  have we : wdsAt (lnsOf n es ks) (es.length + 3) = [] := by rw [show es.length + 3 = (es.length + 2) + 1 from rfl]; exact wds_out (by rw [lns_len]; exact Nat.le_refl _)
  generalize lnsOf n es ks = ls at *
  have l7 : 0 < (Str.ofString "network").length ∧ 0 < (Str.ofString "passage").length ∧ 0 < (Str.ofString "walk").length := by decide +kernel
  have rp : rdPl (wdsAt ls 1) = .inr n := by
    rw [w1]
    unfold rdPl
    rw [if_neg (empty_not fun s hs => by
      rcases List.mem_cons.mp hs with z | z
      · rw [z]; exact l7.1
      · rw [List.mem_singleton.mp z]; exact nS_pos n (by omega)), if_neg (by simp)]
    show (match fnd ((List.range 12).map fun i => 1 + i) (some (nS n)) with | none => (.inl 2 : Nat ⊕ Nat) | some n' => if [Str.ofString "network", nS n].length ≤ 2 then .inr n' else .inl 3) = .inr n
    rw [fnd_is (by decide) (List.mem_map.mpr ⟨n - 1, List.mem_range.mpr (by have := cn.1; omega), by have := cn.1; omega⟩)]
    exact if_pos (by simp)
  have head : ∀ (i : Nat) (e : Ed), es[i]? = some e → rdHead n (es.take i) (wdsAt ls ((es.take i).length + 2)) = .inr true ∧ rdPair n (wdsAt ls ((es.take i).length + 2)) = .inr e := fun i e h => by
    have hlt := (List.getElem?_eq_some_iff.mp h).1
    have lt : (es.take i).length = i := by rw [List.length_take]; omega
    have b := he e (List.mem_of_getElem? h)
    have bv := ve e (List.mem_of_getElem? h)
    rw [lt, wi i e h]
    constructor
    · rw [rdHead_of (w0 := Str.ofString "passage") (empty_not fun s hs => by
        rcases List.mem_cons.mp hs with z | z
        · rw [z]; exact l7.2.1
        · rcases List.mem_cons.mp z with z | z
          · rw [z]; exact nS_pos _ b.1
          · rw [List.mem_singleton.mp z]; exact nS_pos _ b.2) rfl (by decide +kernel), if_pos ⟨rfl, by rw [lt]; omega⟩]
    · unfold rdPair
      show (match fnd (List.range n) (some (nS e.1)) with
        | none => (.inl 2 : Nat ⊕ Ed)
        | some u => match fnd ((List.range (n - u)).map fun i => u + i) (some (nS e.2)) with
          | none => .inl 3
          | some v => if [Str.ofString "passage", nS e.1, nS e.2].length ≤ 3 then .inr (u, v) else .inl 4) = .inr e
      rw [fnd_is (fun m hm => by have := List.mem_range.mp hm; omega) (List.mem_range.mpr (by omega))]
      show (match fnd ((List.range (n - e.1)).map fun i => e.1 + i) (some (nS e.2)) with
          | none => (.inl 3 : Nat ⊕ Ed)
          | some v => if [Str.ofString "passage", nS e.1, nS e.2].length ≤ 3 then .inr (e.1, v) else .inl 4) = .inr e
      rw [fnd_is (fun m hm => by obtain ⟨j, hj, rfl⟩ := List.mem_map.mp hm; have := List.mem_range.mp hj; omega) (List.mem_map.mpr ⟨e.2 - e.1, List.mem_range.mpr (by omega), by omega⟩)]
      exact if_pos (by simp)
  have all : ∀ i, i ≤ es.length → rdIs n ls (es.take i) := by
    intro i
    induction i with
    | zero => intro _; exact ⟨rp, Nat.zero_le _, rfl⟩
    | succ i ih =>
      intro hi
      obtain ⟨e, h⟩ : ∃ e, es[i]? = some e := ⟨es[i], List.getElem?_eq_getElem (by omega)⟩
      obtain ⟨h1, h2⟩ := head i e h
      rw [List.take_add_one, h]
      exact rdIs_next (ih (by omega)) (by rw [List.length_take]; omega) h1 h2
  have fin := all es.length (Nat.le_refl _)
  rw [List.take_length] at fin
  have hd : rdHead n es (wdsAt ls (es.length + 2)) = .inr false := by
    rw [ww]
    unfold rdHead
    rw [if_neg (empty_not fun s hs => by
      rcases List.mem_append.mp hs with z | z
      · rw [List.mem_singleton.mp z]; exact l7.2.2
      · obtain ⟨k, mk, rfl⟩ := List.mem_map.mp z; exact nS_pos k (hk k mk))]
    show (if Str.ofString "walk" ∈ fw n es then (.inr (decide (Str.ofString "walk" = Str.ofString "passage")) : Nat ⊕ Bool) else .inl 1) = .inr false
    rw [if_pos, decide_eq_false walk_ne]
    unfold fw
    rw [if_pos ((cB_iff cn.2.1 cn.1).mpr cn.2.2)]
    exact List.mem_append_right _ (List.mem_singleton.mpr rfl)
  have rs : ∀ (ks' : List Nat) (p c : Nat) (acc : List Nat), Wlk es p ks' → rdSt es (ks'.map nS) p c acc = .inr (acc ++ ks') := by
    intro ks'
    induction ks' with
    | nil => intro p c acc _; rw [List.append_nil]; rfl
    | cons k r ih =>
      intro p c acc w
      show (match fnd (drs es p) (some (nS k)) with | none => (.inl (c + 1) : Nat ⊕ List Nat) | some e => rdSt es (r.map nS) (oth (es.getD e (0, 0)) p) (c + 1) (acc ++ [e])) = _
      rw [fnd_is (fun m hm => by have := (mem_drs.mp hm).1; omega) w.1]
      show rdSt es (r.map nS) (oth (es.getD k (0, 0)) p) (c + 1) (acc ++ [k]) = _
      rw [ih _ _ _ w.2, List.append_assoc]
      rfl
  rw [rdAll_of rp, ← fin.2.2, rdPs_step n ls es hl, hd]
  show (match rdSt es ((wdsAt ls (es.length + 2)).drop 1) 0 1 [] with
      | .inl w => (.inl (es.length + 2, w) : (Nat × Nat) ⊕ (Nat × List Ed × List Nat))
      | .inr ks => if Str.ofString "" ∈ wdsAt ls (es.length + 3) then .inl (es.length + 3, 0) else if 0 < (wdsAt ls (es.length + 3)).length then .inl (es.length + 3, 1) else .inr (n, es, ks)) = _
  rw [ww, we, show (wdWalk ks).drop 1 = ks.map nS from rfl, rs ks 0 1 [] wl]
  rfl
end Hw

namespace Hw
open PySem PySem.Spec PyProof.Rows L2 ClX
theorem SV_snoc (ws : List Str) (s : Str) : SV ws ++ [V.str s] = SV (ws ++ [s]) := by unfold SV; rw [List.map_append]; rfl
theorem SV_app (a b : List Str) : SV a ++ SV b = SV (a ++ b) := by unfold SV; rw [List.map_append]
theorem bd_lnPas {e : Ed} (h : e.1 ≤ 16 ∧ e.2 ≤ 16) : Bd 13 2 (lnPas e) := ((bd_pas.app (bdNS h.1)).app bd_spc).app (bdNS h.2)
theorem bdl_pas : ∀ {es : List Ed}, (∀ e ∈ es, e.1 ≤ 16 ∧ e.2 ≤ 16) → BdL (13 * es.length) (2 * es.length) (es.map lnPas)
  | [], _ => BdL.nil
  | e :: es, h => by
    have a := (BdL.one (bd_lnPas (h e List.mem_cons_self))).app (bdl_pas (es := es) fun x hx => h x (List.mem_cons_of_mem _ hx))
    exact BdL.mono a (by rw [List.length_cons]; omega) (by rw [List.length_cons]; omega)
theorem bdl_ns : ∀ {ks : List Nat}, (∀ k ∈ ks, k ≤ 16) → BdL (2 * ks.length) 0 (ks.map nS)
  | [], _ => BdL.nil
  | k :: ks, h => by
    have a := (BdL.one (bdNS (h k List.mem_cons_self))).app (bdl_ns (ks := ks) fun x hx => h x (List.mem_cons_of_mem _ hx))
    exact BdL.mono a (by rw [List.length_cons]; omega) (by omega)
theorem bdl_walk {ks : List Nat} (h : ∀ k ∈ ks, k ≤ 16) : BdL (4 + 2 * ks.length) 0 (wdWalk ks) := (BdL.one bd_wlk).app (bdl_ns h)
theorem bdl_lns {n : Nat} {es : List Ed} {ks : List Nat} (hn : n ≤ 16) (he : ∀ e ∈ es, e.1 ≤ 16 ∧ e.2 ≤ 16) (hk : ∀ k ∈ ks, k ≤ 16) : BdL (10 + 13 * es.length + (4 + 2 * ks.length + ks.length)) (1 + 2 * es.length + ks.length) (lnsOf n es ks) := by
  have w := bd_joinS (bdl_walk hk)
  have l : (wdWalk ks).length = ks.length + 1 := by unfold wdWalk; rw [List.length_append, List.length_map, List.length_singleton]; omega
  rw [l] at w
  have a := ((BdL.one (bd_net.app (bdNS hn))).app (bdl_pas he)).app (BdL.one w)
  exact BdL.mono a (by omega) (by omega)
theorem fits_bd {T S : Nat} {z : Str} (h : Bd T S z) (hT : T ≤ 90000) (hS : S ≤ 990) : Fits z := by
  refine ⟨Nat.le_trans (bd_len h) (by omega), Nat.le_trans (bd_split h).2.1 (by omega), fun l hl => Nat.le_trans (bd_len (bd_line h hl)) (by omega), fun k => ?_⟩
  unfold wdsAt
  split
  · rename_i hk
    split
    · rw [split_sp]
      have := (bd_line h (List.getElem_mem hk)).2.1
      omega
    · exact Nat.zero_le _
  · exact Nat.zero_le _
theorem fits_txt {n : Nat} {es : List Ed} {ks : List Nat} (hn : n ≤ 16) (hl : es.length ≤ 16) (he : ∀ e ∈ es, e.1 ≤ 16 ∧ e.2 ≤ 16) (hk : ∀ k ∈ ks, k ≤ 16) (hz : ks.length ≤ 900) : Fits (txtOf n es ks) := by
  have b := bd_joinN (bdl_lns hn he hk)
  rw [lns_len] at b
  exact fits_bd b (by omega) (by omega)
section
variable {P : Program} {w : World} {K : PySem.W.Frag} {mg : Str → Option Value} {base : Heap}
abbrev nTo : List Str := ["_law_many", "_law_ties_here", "_law_road_here", "_law_lines", "_law_pair", "_law_at"]
theorem scTo : FnScope nTo ["_law_many", "_law_ties_here", "_law_road_here"] (defScope sTextOf) := ⟨rfl, rfl, rfl, by decide +kernel, rfl, by decide +kernel, by decide +kernel⟩
/-! ### text_of, the road a list -/
def spTextOfL : Sp := fun vs H Q _ => ∃ (a r : Addr) (n : Nat) (es : List Ed) (ks : List Nat), vs = [.int (n : Int), .ref a, .ref r] ∧ EdT H a es ∧ VE n es ∧ n ≤ 12 ∧ es.length ≤ 16 ∧ H r = some (.lst (NV ks)) ∧ ks.length ≤ 900 ∧ (∀ e ∈ ks, e ≤ 16) ∧ ∀ H', Same H H' → Q (.str (txtOf n es ks)) H'
theorem cal_textOfL (T : Txt mg) (D : Df K mg "_law_text_of" sTextOf ["_law_many", "_law_ties_here", "_law_road_here"]) : Cal P w K mg base "_law_text_of" 1 spTextOfL := by
  have nd := scTo.nd
  refine cal_of D scTo (fun vs H Q E h => ?_) (fun f cdv A outer s0 H vs Q E hr h => ?_)
  · obtain ⟨a, r, n, es, ks, rfl, _⟩ := h
    rfl
  · obtain ⟨a, r, n, es, ks, rfl, ed, ve, hn, hl, hr0, hk, he, q⟩ := h
    refine ⟨_, pss_cons (ps_set (i := 3) nd rfl (.inl rfl) (pe_op op_cat (pe_lst (pa_cons (pe_op op_add_str pe_str (pe_callTy call_str_int (by rfl) T.str (by decide +kernel) (pa_cons (pv 0) pa_nil))) pa_nil))
          (pe_lc (own := [("_law_pair", 4)]) (g := gName 4) (tt := tYes) (by rfl) nd (pi_tup (pv 1)) (blkOk_by (own := [("_law_pair", 4)]) (N := nTo) (sc := defScope sTextOf) (by decide +kernel)) (fun _ _ _ _ _ => pg_name (i := 4) nd rfl (.inl rfl)) (fun _ _ _ _ _ => pts_nil)
            (fun _ _ _ _ _ => pe_op op_add_str (pe_op op_add_str (pe_op op_add_str pe_str (pe_callTy call_str_int (by rfl) T.str (by decide +kernel) (pa_cons (pe_ix (r := rIxT K) ix_tup (pv 4) pe_int (fun _ _ => rfl)) pa_nil))) pe_str) (pe_callTy call_str_int (by rfl) T.str (by decide +kernel) (pa_cons (pe_ix (r := rIxT K) ix_tup (pv 4) pe_int (fun _ _ => rfl)) pa_nil))))))
      <| pss_one (ps_ret (pe_join pe_str (pe_op op_cat (pv 3) (pe_lst (pa_cons (pe_join pe_str (pe_op op_cat (pe_lst (pa_cons pe_str pa_nil))
          (pe_lc (own := [("_law_at", 5)]) (g := gName 5) (tt := tYes) (by rfl) nd (pi_list (pv 2)) (blkOk_by (own := [("_law_at", 5)]) (N := nTo) (sc := defScope sTextOf) (by decide +kernel)) (fun _ _ _ _ _ => pg_name (i := 5) nd rfl (.inl rfl)) (fun _ _ _ _ _ => pts_nil)
            (fun _ _ _ _ _ => pe_callTy call_str_int (by rfl) T.str (by decide +kernel) (pa_cons (pv 5) pa_nil))))) pa_nil))))), ?_⟩
    have sz : sizeLine = 16777216 := by decide
    have len_nS : ∀ m ≤ 16, (nS m).length ≤ 2 := fun m hm => bd_len (bdNS hm)
    have l8 : (Str.ofString "network ").length = 8 := by decide +kernel
    have l8p : (Str.ofString "passage ").length = 8 := by decide +kernel
    have l1 : (Str.ofString " ").length = 1 := by decide +kernel
    have he16 : ∀ e ∈ es, e.1 ≤ 16 ∧ e.2 ≤ 16 := fun e m => by have := ve e m; omega
    refine ⟨_, rfl, _, rfl, small_log2 (show n ≤ 16 by omega), _, _, rfl, rfl, ?_, by show 1 ≤ sizeLine; omega, fun l0 n0 => ?_⟩
    · have := len_nS n (by omega)
      show (Str.ofString "network ").length + (nS n).length ≤ sizeLine
      omega
    have s1 := same_upd (o := .lst [V.str ((Str.ofString "network ") ++ nS n)]) n0
    have h1 : upd H l0 (.lst [V.str ((Str.ofString "network ") ++ nS n)]) l0 = some (.lst (SV [lnNet n])) := upd_same
    have e0 : ((Str.ofString "network ") ++ (toString (n : Int) : String) : Str) = (Str.ofString "network ") ++ nS n := rfl
    rw [e0]
    generalize upd H l0 (.lst [V.str ((Str.ofString "network ") ++ nS n)]) = H1 at *
    obtain ⟨js, k1, k2, k3⟩ := id ed
    have kl := ed_len k2
    refine ⟨_, rfl, a, rfl, ⟨_, sq_of (s1 _ _ k1)⟩, fun Dl nD => ?_⟩
    refine lc_it (walk_tup (xs := js.map fun k => V.ref k.1)) (fun i H' => Same H1 H' ∧ H' Dl = some (.lst (SV ((es.take i).map lnPas)))) ⟨same_upd nD, by rw [upd_same]; rfl⟩ (fun i H' _ ⟨sm, _⟩ => sq_of (sm _ _ (s1 _ _ k1))) ?_ ?_
    · rintro i y _ H2 hi ⟨sm, hD⟩ ⟨rfl, hy⟩
      obtain ⟨k, hki, rfl⟩ := refs_get hy
      obtain ⟨e, hei, ek⟩ := ed_get k2 hki
      have tk := sm _ _ (s1 _ _ (k3 k (List.mem_of_getElem? hki)))
      rw [ek] at tk
      have vb := he16 e (List.mem_of_getElem? hei)
      rw [nv_len, kl] at hi
      have u1 := len_nS e.1 vb.1
      have u2 := len_nS e.2 vb.2
      have n1 : ((Str.ofString "passage ") ++ nS e.1).length ≤ 10 := bd_len (bd_pas.app (bdNS vb.1))
      have n2 : (((Str.ofString "passage ") ++ nS e.1) ++ (Str.ofString " ")).length ≤ 11 := bd_len ((bd_pas.app (bdNS vb.1)).app bd_spc)
      refine ⟨rfl, _, rfl, k.1, _, _, _, rfl, rfl, sq_of tk, rfl, _, rfl, small_log2 vb.1, _, _, rfl, rfl, ?_, _, _, rfl, rfl, ?_, _, rfl, k.1, _, _, _, rfl, rfl, sq_of tk, rfl, _, rfl, small_log2 vb.2, _, _, rfl, rfl, ?_, _, hD, ?_, fun b o eb => ?_, ?_⟩
      · show (Str.ofString "passage ").length + (nS e.1).length ≤ sizeLine
        omega
      · show ((Str.ofString "passage ") ++ nS e.1).length + (Str.ofString " ").length ≤ sizeLine
        omega
      · show (((Str.ofString "passage ") ++ nS e.1) ++ (Str.ofString " ")).length + (nS e.2).length ≤ sizeLine
        omega
      · rw [SV_len, List.length_map, List.length_take]; omega
      · rw [upd_ne (ne_of_none eb nD)]
        exact sm _ _ eb
      · rw [upd_same, List.take_add_one, hei, List.map_append]
        exact congrArg (fun z => some (HO.lst z)) (SV_snoc _ _)
    · rintro H2 ⟨sm, hD⟩
      rw [nv_len, kl, List.take_length] at hD
      have h12 := sm _ _ h1
      have sm2 := s1.trans sm
      refine ⟨l0, Dl, _, _, rfl, rfl, h12, hD, ?_, fun l1 nl1 => ?_⟩
      · rw [SV_len, SV_len, List.length_map]
        show 1 + es.length ≤ sizeLine
        omega
      rw [SV_app]
      have s3 := same_upd (o := .lst (SV ([lnNet n] ++ es.map lnPas))) nl1
      have h3 : upd H2 l1 (.lst (SV ([lnNet n] ++ es.map lnPas))) l1 = some (.lst (SV ([lnNet n] ++ es.map lnPas))) := upd_same
      have sm3 := sm2.trans s3
      generalize upd H2 l1 (.lst (SV ([lnNet n] ++ es.map lnPas))) = H3 at *
      clear hD h12 h1
      -- the last line
      refine ⟨⟨_, rfl⟩, _, rfl, ⟨_, rfl⟩, by show 1 ≤ sizeLine; omega, fun l2 nl2 => ?_⟩
      have s4 := same_upd (o := .lst [V.str (Str.ofString "walk")]) nl2
      have h4 : upd H3 l2 (.lst [V.str (Str.ofString "walk")]) l2 = some (.lst (SV [Str.ofString "walk"])) := upd_same
      have sm4 := sm3.trans s4
      have h34 := s4 _ _ h3
      generalize upd H3 l2 (.lst [V.str (Str.ofString "walk")]) = H4 at *
      refine ⟨_, rfl, r, rfl, ⟨_, sl_of (sm4 _ _ hr0)⟩, fun D2 nD2 => ?_⟩
      refine lc_it (walk_list (xs := NV ks)) (fun i H' => Same H4 H' ∧ H' D2 = some (.lst (SV ((ks.take i).map nS)))) ⟨same_upd nD2, by rw [upd_same]; rfl⟩ (fun i H' _ ⟨sm, _⟩ => sl_of (sm _ _ (sm4 _ _ hr0))) ?_ ?_
      · rintro i y _ H5 hi ⟨sm, hD⟩ ⟨rfl, hy⟩
        obtain ⟨m, hm1, rfl⟩ := NV_get' hy
        have hm2 := he m (List.mem_of_getElem? hm1)
        rw [NV_len] at hi
        refine ⟨rfl, _, rfl, _, rfl, small_log2 hm2, _, hD, by rw [SV_len, List.length_map, List.length_take]; omega, fun b o eb => ?_, ?_⟩
        · rw [upd_ne (ne_of_none eb nD2)]
          exact sm _ _ eb
        · rw [upd_same, List.take_add_one, hm1, List.map_append]
          exact congrArg (fun z => some (HO.lst z)) (SV_snoc _ _)
      · rintro H5 ⟨sm, hD⟩
        rw [NV_len, List.take_length] at hD
        have h45 := sm _ _ h4
        have h35 := sm _ _ h34
        have sm5 := sm4.trans sm
        refine ⟨l2, D2, _, _, rfl, rfl, h45, hD, ?_, fun l3 nl3 => ?_⟩
        · rw [SV_len, SV_len, List.length_map]
          show 1 + ks.length ≤ sizeLine
          omega
        rw [SV_app]
        have s6 := same_upd (o := .lst (SV (wdWalk ks))) nl3
        have h6 : upd H5 l3 (.lst (SV (wdWalk ks))) l3 = some (.lst (SV (wdWalk ks))) := upd_same
        have sm6 := sm5.trans s6
        have h36 := s6 _ _ h35
        rw [show [Str.ofString "walk"] ++ ks.map nS = wdWalk ks from rfl]
        generalize upd H5 l3 (.lst (SV (wdWalk ks))) = H6 at *
        have lw : (wdWalk ks).length = ks.length + 1 := by unfold wdWalk; rw [List.length_append, List.length_map, List.length_singleton]; omega
        refine ⟨_, l3, wdWalk ks, rfl, rfl, .inl (sl_of h6), jn_fit (bdl_walk he) (by omega) (by omega) (by omega), by show 1 ≤ sizeLine; omega, fun l4 nl4 => ?_⟩
        have s7 := same_upd (o := .lst [V.str (Txt.join " " (wdWalk ks))]) nl4
        have h7 : upd H6 l4 (.lst [V.str (Txt.join " " (wdWalk ks))]) l4 = some (.lst (SV [lnWalk ks])) := upd_same
        have h37 := s7 _ _ h36
        have sm7 := sm6.trans s7
        generalize upd H6 l4 (.lst [V.str (Txt.join " " (wdWalk ks))]) = H7 at *
        refine ⟨l1, l4, _, _, rfl, rfl, h37, h7, ?_, fun l5 nl5 => ?_⟩
        · rw [SV_len, SV_len, List.length_append, List.length_map]
          show 1 + es.length + 1 ≤ sizeLine
          omega
        rw [SV_app]
        have s8 := same_upd (o := .lst (SV (lnsOf n es ks))) nl5
        have h8 : upd H7 l5 (.lst (SV (lnsOf n es ks))) l5 = some (.lst (SV (lnsOf n es ks))) := upd_same
        rw [show ([lnNet n] ++ es.map lnPas) ++ [lnWalk ks] = lnsOf n es ks from rfl]
        refine ⟨_, l5, lnsOf n es ks, rfl, rfl, .inl (sl_of h8), jn_fit (bdl_lns (by omega) he16 he) (by omega) (by rw [lns_len]; omega) (by decide +kernel), ?_⟩
        exact q _ (sm7.trans s8)
/-! ### text_of, the road a tuple -/
def spTextOfT : Sp := fun vs H Q _ => ∃ (a r : Addr) (n : Nat) (es : List Ed) (ks : List Nat), vs = [.int (n : Int), .ref a, .ref r] ∧ EdT H a es ∧ VE n es ∧ n ≤ 12 ∧ es.length ≤ 16 ∧ H r = some (.tup (NV ks)) ∧ ks.length ≤ 900 ∧ (∀ e ∈ ks, e ≤ 16) ∧ ∀ H', Same H H' → Q (.str (txtOf n es ks)) H'
theorem cal_textOfT (T : Txt mg) (D : Df K mg "_law_text_of" sTextOf ["_law_many", "_law_ties_here", "_law_road_here"]) : Cal P w K mg base "_law_text_of" 1 spTextOfT := by
  have nd := scTo.nd
  refine cal_of D scTo (fun vs H Q E h => ?_) (fun f cdv A outer s0 H vs Q E hr h => ?_)
  · obtain ⟨a, r, n, es, ks, rfl, _⟩ := h
    rfl
  · obtain ⟨a, r, n, es, ks, rfl, ed, ve, hn, hl, hr0, hk, he, q⟩ := h
    refine ⟨_, pss_cons (ps_set (i := 3) nd rfl (.inl rfl) (pe_op op_cat (pe_lst (pa_cons (pe_op op_add_str pe_str (pe_callTy call_str_int (by rfl) T.str (by decide +kernel) (pa_cons (pv 0) pa_nil))) pa_nil))
          (pe_lc (own := [("_law_pair", 4)]) (g := gName 4) (tt := tYes) (by rfl) nd (pi_tup (pv 1)) (blkOk_by (own := [("_law_pair", 4)]) (N := nTo) (sc := defScope sTextOf) (by decide +kernel)) (fun _ _ _ _ _ => pg_name (i := 4) nd rfl (.inl rfl)) (fun _ _ _ _ _ => pts_nil)
            (fun _ _ _ _ _ => pe_op op_add_str (pe_op op_add_str (pe_op op_add_str pe_str (pe_callTy call_str_int (by rfl) T.str (by decide +kernel) (pa_cons (pe_ix (r := rIxT K) ix_tup (pv 4) pe_int (fun _ _ => rfl)) pa_nil))) pe_str) (pe_callTy call_str_int (by rfl) T.str (by decide +kernel) (pa_cons (pe_ix (r := rIxT K) ix_tup (pv 4) pe_int (fun _ _ => rfl)) pa_nil))))))
      <| pss_one (ps_ret (pe_join pe_str (pe_op op_cat (pv 3) (pe_lst (pa_cons (pe_join pe_str (pe_op op_cat (pe_lst (pa_cons pe_str pa_nil))
          (pe_lc (own := [("_law_at", 5)]) (g := gName 5) (tt := tYes) (by rfl) nd (pi_tup (pv 2)) (blkOk_by (own := [("_law_at", 5)]) (N := nTo) (sc := defScope sTextOf) (by decide +kernel)) (fun _ _ _ _ _ => pg_name (i := 5) nd rfl (.inl rfl)) (fun _ _ _ _ _ => pts_nil)
            (fun _ _ _ _ _ => pe_callTy call_str_int (by rfl) T.str (by decide +kernel) (pa_cons (pv 5) pa_nil))))) pa_nil))))), ?_⟩
    have sz : sizeLine = 16777216 := by decide
    have len_nS : ∀ m ≤ 16, (nS m).length ≤ 2 := fun m hm => bd_len (bdNS hm)
    have l8 : (Str.ofString "network ").length = 8 := by decide +kernel
    have l8p : (Str.ofString "passage ").length = 8 := by decide +kernel
    have l1 : (Str.ofString " ").length = 1 := by decide +kernel
    have he16 : ∀ e ∈ es, e.1 ≤ 16 ∧ e.2 ≤ 16 := fun e m => by have := ve e m; omega
    refine ⟨_, rfl, _, rfl, small_log2 (show n ≤ 16 by omega), _, _, rfl, rfl, ?_, by show 1 ≤ sizeLine; omega, fun l0 n0 => ?_⟩
    · have := len_nS n (by omega)
      show (Str.ofString "network ").length + (nS n).length ≤ sizeLine
      omega
    have s1 := same_upd (o := .lst [V.str ((Str.ofString "network ") ++ nS n)]) n0
    have h1 : upd H l0 (.lst [V.str ((Str.ofString "network ") ++ nS n)]) l0 = some (.lst (SV [lnNet n])) := upd_same
    have e0 : ((Str.ofString "network ") ++ (toString (n : Int) : String) : Str) = (Str.ofString "network ") ++ nS n := rfl
    rw [e0]
    generalize upd H l0 (.lst [V.str ((Str.ofString "network ") ++ nS n)]) = H1 at *
    obtain ⟨js, k1, k2, k3⟩ := id ed
    have kl := ed_len k2
    refine ⟨_, rfl, a, rfl, ⟨_, sq_of (s1 _ _ k1)⟩, fun Dl nD => ?_⟩
    refine lc_it (walk_tup (xs := js.map fun k => V.ref k.1)) (fun i H' => Same H1 H' ∧ H' Dl = some (.lst (SV ((es.take i).map lnPas)))) ⟨same_upd nD, by rw [upd_same]; rfl⟩ (fun i H' _ ⟨sm, _⟩ => sq_of (sm _ _ (s1 _ _ k1))) ?_ ?_
    · rintro i y _ H2 hi ⟨sm, hD⟩ ⟨rfl, hy⟩
      obtain ⟨k, hki, rfl⟩ := refs_get hy
      obtain ⟨e, hei, ek⟩ := ed_get k2 hki
      have tk := sm _ _ (s1 _ _ (k3 k (List.mem_of_getElem? hki)))
      rw [ek] at tk
      have vb := he16 e (List.mem_of_getElem? hei)
      rw [nv_len, kl] at hi
      have u1 := len_nS e.1 vb.1
      have u2 := len_nS e.2 vb.2
      have n1 : ((Str.ofString "passage ") ++ nS e.1).length ≤ 10 := bd_len (bd_pas.app (bdNS vb.1))
      have n2 : (((Str.ofString "passage ") ++ nS e.1) ++ (Str.ofString " ")).length ≤ 11 := bd_len ((bd_pas.app (bdNS vb.1)).app bd_spc)
      refine ⟨rfl, _, rfl, k.1, _, _, _, rfl, rfl, sq_of tk, rfl, _, rfl, small_log2 vb.1, _, _, rfl, rfl, ?_, _, _, rfl, rfl, ?_, _, rfl, k.1, _, _, _, rfl, rfl, sq_of tk, rfl, _, rfl, small_log2 vb.2, _, _, rfl, rfl, ?_, _, hD, ?_, fun b o eb => ?_, ?_⟩
      · show (Str.ofString "passage ").length + (nS e.1).length ≤ sizeLine
        omega
      · show ((Str.ofString "passage ") ++ nS e.1).length + (Str.ofString " ").length ≤ sizeLine
        omega
      · show (((Str.ofString "passage ") ++ nS e.1) ++ (Str.ofString " ")).length + (nS e.2).length ≤ sizeLine
        omega
      · rw [SV_len, List.length_map, List.length_take]; omega
      · rw [upd_ne (ne_of_none eb nD)]
        exact sm _ _ eb
      · rw [upd_same, List.take_add_one, hei, List.map_append]
        exact congrArg (fun z => some (HO.lst z)) (SV_snoc _ _)
    · rintro H2 ⟨sm, hD⟩
      rw [nv_len, kl, List.take_length] at hD
      have h12 := sm _ _ h1
      have sm2 := s1.trans sm
      refine ⟨l0, Dl, _, _, rfl, rfl, h12, hD, ?_, fun l1 nl1 => ?_⟩
      · rw [SV_len, SV_len, List.length_map]
        show 1 + es.length ≤ sizeLine
        omega
      rw [SV_app]
      have s3 := same_upd (o := .lst (SV ([lnNet n] ++ es.map lnPas))) nl1
      have h3 : upd H2 l1 (.lst (SV ([lnNet n] ++ es.map lnPas))) l1 = some (.lst (SV ([lnNet n] ++ es.map lnPas))) := upd_same
      have sm3 := sm2.trans s3
      generalize upd H2 l1 (.lst (SV ([lnNet n] ++ es.map lnPas))) = H3 at *
      clear hD h12 h1
      -- the last line
      refine ⟨⟨_, rfl⟩, _, rfl, ⟨_, rfl⟩, by show 1 ≤ sizeLine; omega, fun l2 nl2 => ?_⟩
      have s4 := same_upd (o := .lst [V.str (Str.ofString "walk")]) nl2
      have h4 : upd H3 l2 (.lst [V.str (Str.ofString "walk")]) l2 = some (.lst (SV [Str.ofString "walk"])) := upd_same
      have sm4 := sm3.trans s4
      have h34 := s4 _ _ h3
      generalize upd H3 l2 (.lst [V.str (Str.ofString "walk")]) = H4 at *
      refine ⟨_, rfl, r, rfl, ⟨_, sq_of (sm4 _ _ hr0)⟩, fun D2 nD2 => ?_⟩
      refine lc_it (walk_tup (xs := NV ks)) (fun i H' => Same H4 H' ∧ H' D2 = some (.lst (SV ((ks.take i).map nS)))) ⟨same_upd nD2, by rw [upd_same]; rfl⟩ (fun i H' _ ⟨sm, _⟩ => sq_of (sm _ _ (sm4 _ _ hr0))) ?_ ?_
      · rintro i y _ H5 hi ⟨sm, hD⟩ ⟨rfl, hy⟩
        obtain ⟨m, hm1, rfl⟩ := NV_get' hy
        have hm2 := he m (List.mem_of_getElem? hm1)
        rw [NV_len] at hi
        refine ⟨rfl, _, rfl, _, rfl, small_log2 hm2, _, hD, by rw [SV_len, List.length_map, List.length_take]; omega, fun b o eb => ?_, ?_⟩
        · rw [upd_ne (ne_of_none eb nD2)]
          exact sm _ _ eb
        · rw [upd_same, List.take_add_one, hm1, List.map_append]
          exact congrArg (fun z => some (HO.lst z)) (SV_snoc _ _)
      · rintro H5 ⟨sm, hD⟩
        rw [NV_len, List.take_length] at hD
        have h45 := sm _ _ h4
        have h35 := sm _ _ h34
        have sm5 := sm4.trans sm
        refine ⟨l2, D2, _, _, rfl, rfl, h45, hD, ?_, fun l3 nl3 => ?_⟩
        · rw [SV_len, SV_len, List.length_map]
          show 1 + ks.length ≤ sizeLine
          omega
        rw [SV_app]
        have s6 := same_upd (o := .lst (SV (wdWalk ks))) nl3
        have h6 : upd H5 l3 (.lst (SV (wdWalk ks))) l3 = some (.lst (SV (wdWalk ks))) := upd_same
        have sm6 := sm5.trans s6
        have h36 := s6 _ _ h35
        rw [show [Str.ofString "walk"] ++ ks.map nS = wdWalk ks from rfl]
        generalize upd H5 l3 (.lst (SV (wdWalk ks))) = H6 at *
        have lw : (wdWalk ks).length = ks.length + 1 := by unfold wdWalk; rw [List.length_append, List.length_map, List.length_singleton]; omega
        refine ⟨_, l3, wdWalk ks, rfl, rfl, .inl (sl_of h6), jn_fit (bdl_walk he) (by omega) (by omega) (by omega), by show 1 ≤ sizeLine; omega, fun l4 nl4 => ?_⟩
        have s7 := same_upd (o := .lst [V.str (Txt.join " " (wdWalk ks))]) nl4
        have h7 : upd H6 l4 (.lst [V.str (Txt.join " " (wdWalk ks))]) l4 = some (.lst (SV [lnWalk ks])) := upd_same
        have h37 := s7 _ _ h36
        have sm7 := sm6.trans s7
        generalize upd H6 l4 (.lst [V.str (Txt.join " " (wdWalk ks))]) = H7 at *
        refine ⟨l1, l4, _, _, rfl, rfl, h37, h7, ?_, fun l5 nl5 => ?_⟩
        · rw [SV_len, SV_len, List.length_append, List.length_map]
          show 1 + es.length + 1 ≤ sizeLine
          omega
        rw [SV_app]
        have s8 := same_upd (o := .lst (SV (lnsOf n es ks))) nl5
        have h8 : upd H7 l5 (.lst (SV (lnsOf n es ks))) l5 = some (.lst (SV (lnsOf n es ks))) := upd_same
        rw [show ([lnNet n] ++ es.map lnPas) ++ [lnWalk ks] = lnsOf n es ks from rfl]
        refine ⟨_, l5, lnsOf n es ks, rfl, rfl, .inl (sl_of h8), jn_fit (bdl_lns (by omega) he16 he) (by omega) (by rw [lns_len]; omega) (by decide +kernel), ?_⟩
        exact q _ (sm7.trans s8)
end
end Hw

/-! Rows of numbers in which pairs of equal neighbours are removed. No Python here. -/
namespace Hw
section
variable {α : Type} [DecidableEq α]
def pushR (st : List α) (x : α) : List α := if st.getLast? = some x then st.dropLast else st ++ [x]
def redF (ks : List α) : List α := ks.foldl pushR []
/-- no two equal neighbours -/
def NoEq (ks : List α) : Prop := ∀ i x, ks[i]? = some x → ks[i + 1]? ≠ some x
theorem redF_snoc (ks : List α) (x : α) : redF (ks ++ [x]) = pushR (redF ks) x := by unfold redF; rw [List.foldl_append]; rfl
theorem noEq_nil : NoEq ([] : List α) := fun i x h => by simp at h
theorem noEq_push {st : List α} {x : α} (h : NoEq st) : NoEq (pushR st x) := by
  unfold pushR
  split
  · intro i y hy z
    rw [List.getElem?_dropLast] at hy z
    split at hy
    · split at z
      · exact h i y hy z
      · cases z
    · cases hy
  · rename_i hl
    intro i y hy z
    by_cases h1 : i + 1 < st.length
    · rw [List.getElem?_append_left (by omega)] at hy
      rw [List.getElem?_append_left h1] at z
      exact h i y hy z
    · by_cases h2 : i + 1 = st.length
      · rw [List.getElem?_append_left (by omega)] at hy
        rw [List.getElem?_append_right (by omega), h2, Nat.sub_self] at z
        have z' : x = y := by simpa using z
        subst z'
        apply hl
        rw [List.getLast?_eq_getElem?]
        rw [show st.length - 1 = i by omega]
        exact hy
      · rw [List.getElem?_eq_none (by rw [List.length_append, List.length_singleton]; omega)] at z
        cases z
theorem noEq_redF (ks : List α) : NoEq (redF ks) := by
  suffices h : ∀ (ks st : List α), NoEq st → NoEq (ks.foldl pushR st) from h ks [] noEq_nil
  intro ks
  induction ks with
  | nil => intro st h; exact h
  | cons x ks ih => intro st h; exact ih _ (noEq_push h)
/-- the same twice: as it was -/
theorem push_push {st : List α} {x : α} (h : NoEq st) : pushR (pushR st x) x = st := by
  by_cases hl : st.getLast? = some x
  · have e1 : pushR st x = st.dropLast := by unfold pushR; rw [if_pos hl]
    rw [e1]
    have e2 : st.dropLast.getLast? ≠ some x := fun z => by
      rw [List.getLast?_eq_getElem?] at hl z
      rw [List.length_dropLast, List.getElem?_dropLast] at z
      split at z
      · rename_i h1
        refine h (st.length - 1 - 1) x z ?_
        rw [show st.length - 1 - 1 + 1 = st.length - 1 by omega]
        exact hl
      · cases z
    unfold pushR
    rw [if_neg e2]
    have hne : st ≠ [] := fun z => by rw [z] at hl; simp at hl
    have := List.dropLast_concat_getLast hne
    rw [List.getLast?_eq_some_getLast hne] at hl
    rw [Option.some.inj hl] at this
    exact this
  · have e1 : pushR st x = st ++ [x] := by unfold pushR; rw [if_neg hl]
    rw [e1]
    unfold pushR
    rw [if_pos (by simp), List.dropLast_concat]
theorem redF_app (ks ls : List α) : redF (ks ++ ls) = ls.foldl pushR (redF ks) := by unfold redF; rw [List.foldl_append]
/-- a pair taken out -/
theorem redF_pair (a b : List α) (x : α) : redF (a ++ [x, x] ++ b) = redF (a ++ b) := by
  rw [redF_app, redF_app, redF_app]
  show b.foldl pushR (pushR (pushR (redF a) x) x) = _
  rw [push_push (noEq_redF a)]
/-- of a row without such pairs -/
theorem redF_id : ∀ {ks : List α}, NoEq ks → redF ks = ks := by
  intro ks
  suffices h : ∀ n, n ≤ ks.length → NoEq ks → redF (ks.take n) = ks.take n from fun z => by
    have := h ks.length (Nat.le_refl _) z
    rwa [List.take_length] at this
  intro n
  induction n with
  | zero => intro _ _; rfl
  | succ n ih =>
    intro hn z
    obtain ⟨x, hx⟩ : ∃ x, ks[n]? = some x := ⟨ks[n], List.getElem?_eq_getElem (by omega)⟩
    rw [List.take_add_one, hx]
    show redF (ks.take n ++ [x]) = ks.take n ++ [x]
    rw [redF_snoc, ih (by omega) z]
    unfold pushR
    rw [if_neg]
    intro q
    rw [List.getLast?_eq_getElem?, List.length_take] at q
    cases n with
    | zero => simp at q
    | succ n =>
      rw [Nat.min_eq_left (by omega), Nat.add_sub_cancel, List.getElem?_take_of_lt (by omega)] at q
      exact z n x q hx
/-! ### the law's own way -/
/-- the places at which an equal pair begins -/
def prs (ks : List α) : List Nat := (List.range (ks.length - 1)).filter fun i => decide (ks[i]? = ks[i + 1]?)
def cutB (ks : List α) : List α := match (prs ks).getLast? with
  | some i => ks.take i ++ ks.drop (i + 2)
  | none => ks
def bareN : Nat → List α → List α
  | 0, ks => ks
  | n + 1, ks => bareN n (cutB ks)
theorem mem_prs {ks : List α} {i : Nat} : i ∈ prs ks ↔ i + 1 < ks.length ∧ ks[i]? = ks[i + 1]? := by
  unfold prs
  rw [List.mem_filter, List.mem_range, decide_eq_true_eq]
  constructor
  · rintro ⟨a, b⟩; exact ⟨by omega, b⟩
  · rintro ⟨a, b⟩; exact ⟨by omega, b⟩
theorem cutB_split {ks : List α} {i : Nat} (h : (prs ks).getLast? = some i) : ∃ x, ks = ks.take i ++ [x, x] ++ ks.drop (i + 2) := by
  obtain ⟨h1, h2⟩ := mem_prs.mp (List.mem_of_getLast? h)
  refine ⟨ks[i], ?_⟩
  have e2 : ks[i + 1] = ks[i] := by
    rw [List.getElem?_eq_getElem (by omega), List.getElem?_eq_getElem h1] at h2
    exact (Option.some.inj h2).symm
  conv => lhs; rw [← List.take_append_drop i ks]
  rw [List.drop_eq_getElem_cons (by omega), List.drop_eq_getElem_cons (by omega), e2]
  simp
theorem redF_cutB (ks : List α) : redF (cutB ks) = redF ks := by
  unfold cutB
  split
  · rename_i i h
    obtain ⟨x, e⟩ := cutB_split h
    conv => rhs; rw [e]
    exact (redF_pair _ _ _).symm
  · rfl
theorem prs_none {ks : List α} (h : (prs ks).getLast? = none) : NoEq ks := by
  have e : prs ks = [] := List.getLast?_eq_none_iff.mp h
  intro i x h1 h2
  have hi : i + 1 < ks.length := (List.getElem?_eq_some_iff.mp h2).1
  have : i ∈ prs ks := mem_prs.mpr ⟨hi, h1.trans h2.symm⟩
  rw [e] at this
  cases this
theorem cutB_len {ks : List α} {i : Nat} (h : (prs ks).getLast? = some i) : (cutB ks).length + 2 = ks.length := by
  obtain ⟨h1, _⟩ := mem_prs.mp (List.mem_of_getLast? h)
  unfold cutB
  rw [h]
  show (ks.take i ++ ks.drop (i + 2)).length + 2 = _
  rw [List.length_append, List.length_take, List.length_drop]
  omega
theorem bareN_is : ∀ (n : Nat) (ks : List α), ks.length ≤ n → bareN n ks = redF ks
  | 0, ks, h => by
    have : ks = [] := List.eq_nil_of_length_eq_zero (by omega)
    subst this
    rfl
  | n + 1, ks, h => by
    show bareN n (cutB ks) = redF ks
    cases hl : (prs ks).getLast? with
    | some i =>
      have := cutB_len hl
      rw [bareN_is n _ (by omega), redF_cutB]
    | none =>
      have e : cutB ks = ks := by unfold cutB; rw [hl]
      rw [e]
      have ne := prs_none hl
      -- nothing changes any more
      suffices z : ∀ m, bareN m ks = ks by rw [z, redF_id ne]
      intro m
      induction m with
      | zero => rfl
      | succ m ih =>
        show bareN m (cutB ks) = ks
        rw [e]
        exact ih
theorem pushR_len (st : List α) (x : α) : ∃ d : Int, ((pushR st x).length : Int) = st.length + 1 - 2 * d := by
  unfold pushR
  split
  · rename_i h
    have : st ≠ [] := fun z => by rw [z] at h; simp at h
    have := List.length_pos_iff.mpr this
    refine ⟨1, ?_⟩
    rw [List.length_dropLast]
    omega
  · refine ⟨0, ?_⟩
    rw [List.length_append, List.length_singleton]
    omega
theorem redF_par (ks : List α) : ∃ d : Int, ((redF ks).length : Int) = ks.length - 2 * d := by
  suffices h : ∀ n, n ≤ ks.length → ∃ d : Int, ((redF (ks.take n)).length : Int) = n - 2 * d by
    obtain ⟨d, h⟩ := h ks.length (Nat.le_refl _)
    rw [List.take_length] at h
    exact ⟨d, h⟩
  intro n
  induction n with
  | zero => intro _; exact ⟨0, rfl⟩
  | succ n ih =>
    intro hn
    obtain ⟨d, hd⟩ := ih (by omega)
    obtain ⟨x, hx⟩ : ∃ x, ks[n]? = some x := ⟨ks[n], List.getElem?_eq_getElem (by omega)⟩
    rw [List.take_add_one, hx]
    show ∃ d : Int, ((redF (ks.take n ++ [x])).length : Int) = _
    rw [redF_snoc]
    obtain ⟨d2, h2⟩ := pushR_len (redF (ks.take n)) x
    exact ⟨d + d2, by omega⟩
theorem noEq_rev {ks : List α} (h : NoEq ks) : NoEq ks.reverse := by
  intro i x h1 h2
  have l1 := (List.getElem?_eq_some_iff.mp h1).1
  have l2 := (List.getElem?_eq_some_iff.mp h2).1
  rw [List.length_reverse] at l1 l2
  rw [List.getElem?_reverse l1] at h1
  rw [List.getElem?_reverse l2] at h2
  refine h (ks.length - 1 - (i + 1)) x h2 ?_
  rw [show ks.length - 1 - (i + 1) + 1 = ks.length - 1 - i by omega]
  exact h1
/-- turned round and reduced: the reduced one turned round -/
theorem redF_rev (ks : List α) : redF ks.reverse = (redF ks).reverse := by
  suffices h : ∀ (n : Nat) (ks : List α), ks.length ≤ n → redF ks.reverse = (redF ks).reverse from h _ ks (Nat.le_refl _)
  intro n
  induction n with
  | zero =>
    intro ks h
    have : ks = [] := List.eq_nil_of_length_eq_zero (by omega)
    subst this
    rfl
  | succ n ih =>
    intro ks h
    cases hl : (prs ks).getLast? with
    | none =>
      have ne := prs_none hl
      rw [redF_id ne, redF_id (noEq_rev ne)]
    | some i =>
      obtain ⟨x, e⟩ := cutB_split hl
      have cl := cutB_len hl
      have ec : cutB ks = ks.take i ++ ks.drop (i + 2) := by unfold cutB; rw [hl]
      have e1 : redF ks = redF (cutB ks) := (redF_cutB ks).symm
      rw [e1, ← ih (cutB ks) (by omega), ec]
      conv => lhs; rw [e]
      rw [List.reverse_append, List.reverse_append, List.reverse_append, show ([x, x] : List α).reverse = [x, x] from rfl, ← List.append_assoc]
      exact redF_pair _ _ _
/-- there and back: nothing is left -/
theorem redF_back (ks : List α) : redF (ks ++ ks.reverse) = [] := by
  suffices h : ∀ n, n ≤ ks.length → redF (ks.take n ++ (ks.take n).reverse) = [] by
    have := h ks.length (Nat.le_refl _)
    rwa [List.take_length] at this
  intro n
  induction n with
  | zero => intro _; rfl
  | succ n ih =>
    intro hn
    obtain ⟨x, hx⟩ : ∃ x, ks[n]? = some x := ⟨ks[n], List.getElem?_eq_getElem (by omega)⟩
    rw [List.take_add_one, hx]
    show redF (ks.take n ++ [x] ++ (ks.take n ++ [x]).reverse) = []
    have e : ks.take n ++ [x] ++ (ks.take n ++ [x]).reverse = ks.take n ++ [x, x] ++ (ks.take n).reverse := by simp
    rw [e, redF_pair]
    exact ih (by omega)
end
theorem pushR_map {α β : Type} [DecidableEq α] [DecidableEq β] {f : α → β} (hf : ∀ a b, f a = f b → a = b) (st : List α) (x : α) : pushR (st.map f) (f x) = (pushR st x).map f := by
  unfold pushR
  by_cases h : st.getLast? = some x
  · rw [if_pos h, if_pos (by rw [List.getLast?_map, h]; rfl), List.map_dropLast]
  · rw [if_neg h, if_neg (fun z => h ?_), List.map_append]
    · rfl
    · rw [List.getLast?_map] at z
      cases q : st.getLast? with
      | none => rw [q] at z; cases z
      | some y => rw [q] at z; rw [hf _ _ (Option.some.inj z)]
theorem redF_map {α β : Type} [DecidableEq α] [DecidableEq β] {f : α → β} (hf : ∀ a b, f a = f b → a = b) (ks : List α) : redF (ks.map f) = (redF ks).map f := by
  suffices h : ∀ (ks st : List α), (ks.map f).foldl pushR (st.map f) = (ks.foldl pushR st).map f from h ks []
  intro ks
  induction ks with
  | nil => intro st; rfl
  | cons x ks ih =>
    intro st
    show (ks.map f).foldl pushR (pushR (st.map f) (f x)) = (ks.foldl pushR (pushR st x)).map f
    rw [pushR_map hf]
    exact ih _
end Hw

/-! A def of an own class whose text says super().m(..): its frame (with the cell of __class__), and the call as the last statement. -/
namespace Hw
open PySem PySem.Spec PyProof.Rows L2
theorem cellsFrom_app : ∀ (names : List (Str × NameKind)) (n : Nat) (acc : List (Str × Addr)), cellsFrom n names acc = cellsFrom n names [] ++ acc
  | [], _, _ => rfl
  | (x, k) :: r, n, acc => by
    unfold cellsFrom
    split
    · rw [cellsFrom_app r (n + 1) ((x, n) :: acc), cellsFrom_app r (n + 1) [(x, n)], List.append_assoc]
      rfl
    · exact cellsFrom_app r n acc
section
variable {M : Model} {A : Around} {E : Value → Shared → Prop} {s₀ s : Shared} {m cm : Str → Option Value} {env : Env} {own : List (Str × Addr)}
theorem stLD {n : Str} {v : Value} {Q : Unit → Shared → Prop} (x : InCallC s₀ env.locals m own cm s) (hk : env.scope.kind = .function) (hl : env.kindOf n = some .local)
    (h : ∀ s', InCallC s₀ env.locals (fun y => if y = n then some v else m y) own cm s' → Q () s') : wpAny M A (storeName env n v) Q E s := by
  refine wpAny_storeName_local hl x.toInCall.ns (fun h' hn' hs' => h _ ⟨⟨?_, hn', fun b o e => ?_, x.toInCall.fresh⟩, fun k c hc => ?_, x.apart, x.above⟩) (by rw [hk]; rfl)
  · obtain ⟨h₁, tk, rfl⟩ := x.toInCall.same
    exact ⟨h', _, rfl⟩
  · exact hs'.extBut b o (Nat.ne_of_lt (Nat.lt_of_lt_of_le (Heap.lt_size e) x.toInCall.fresh)) (x.toInCall.keep b o e)
  · exact (x.cell k c hc).sameBut hs' (Nat.ne_of_gt (x.above k c (PySem.mem_of_lookup hc)))
theorem stCD {n : Str} {c : Addr} {v : Value} {Q : Unit → Shared → Prop} (x : InCallC s₀ env.locals m own cm s) (hk : env.scope.kind = .function) (hl : env.kindOf n = some .cell)
    (hc : own.lookup n = some c) (he : env.cells.lookup n = some c) (h : ∀ s', InCallC s₀ env.locals m own (fun y => if y = n then some v else cm y) s' → Q () s') : wpAny M A (storeName env n v) Q E s := by
  have hLc := x.above n c (PySem.mem_of_lookup hc)
  refine wpAny_storeName_cell hk hl he (x.cell n c hc) fun h' hc' hs' => h _ ⟨⟨?_, x.toInCall.ns.sameBut hs' (Nat.ne_of_lt hLc), fun b o e => ?_, x.toInCall.fresh⟩, fun k c' hk' => ?_, x.apart, x.above⟩
  · obtain ⟨h₁, tk, rfl⟩ := x.toInCall.same
    exact ⟨h', _, rfl⟩
  · exact hs'.extBut b o (Nat.ne_of_lt (Nat.lt_trans (Nat.lt_of_lt_of_le (Heap.lt_size e) x.toInCall.fresh) hLc)) (x.toInCall.keep b o e)
  · by_cases hkn : k = n
    · subst hkn
      rw [hc] at hk'; cases hk'
      simpa using hc'
    · rw [if_neg hkn]
      exact (x.cell k c' hk').sameBut hs' fun e => hkn (name_of_addr x.apart (PySem.mem_of_lookup hk') (e ▸ PySem.mem_of_lookup hc))
theorem bindParamsD (f : Str × Value → PUnit → Sem (ForInStep PUnit)) (hf : ∀ n v u, f (n, v) u = (do storeName env n v; pure (.yield ⟨⟩))) (hk : env.scope.kind = .function) :
    ∀ (binds : List (Str × Value)) (m cm : Str → Option Value) (s : Shared) (Q : PUnit → Shared → Prop), InCallC s₀ env.locals m own cm s →
      (∀ x ∈ binds, env.kindOf x.1 = some .local ∨ (env.kindOf x.1 = some .cell ∧ ∃ c, own.lookup x.1 = some c ∧ env.cells.lookup x.1 = some c)) →
      (∀ s', InCallC s₀ env.locals (bindL env.kindOf binds m) own (bindC env.kindOf binds cm) s' → Q ⟨⟩ s') → wpAny M A (forIn binds ⟨⟩ f) Q E s
  | [], m, cm, s, Q, x, _, h => by rw [List.forIn_nil]; exact wpAny_pure (h s x)
  | (n, v) :: r, m, cm, s, Q, x, hkind, h => by
    rw [List.forIn_cons, hf]
    have hr : ∀ y ∈ r, env.kindOf y.1 = some .local ∨ (env.kindOf y.1 = some .cell ∧ ∃ c, own.lookup y.1 = some c ∧ env.cells.lookup y.1 = some c) := fun y hy => hkind y (List.mem_cons_of_mem _ hy)
    rcases hkind (n, v) List.mem_cons_self with hl | ⟨hl, c, hc, he⟩
    · refine wpAny_bind (wpAny_bind (stLD x hk hl fun s' x' => wpAny_pure (bindParamsD f hf hk r _ _ s' Q x' hr fun s'' x'' => h s'' ?_)))
      unfold bindL bindC; rw [if_pos hl, if_pos hl]; exact x''
    · have hnl : ¬ env.kindOf n = some .local := by rw [hl]; decide
      refine wpAny_bind (wpAny_bind (stCD x hk hl hc he fun s' x' => wpAny_pure (bindParamsD f hf hk r _ _ s' Q x' hr fun s'' x'' => h s'' ?_)))
      unfold bindL bindC; rw [if_neg hnl, if_neg hnl]; exact x''
end
/-- the frame of a def that has the cell of __class__ -/
abbrev envS (qual : Str) (scope : Scope) (L f : Addr) (cdv : Value) (cc : Addr) : Env :=
  { scope := scope, locals := L, globals := mainGlobals, cells := cellsFrom (L + 1) scope.names [] ++ [(("__class__" : Str), cc)], qual := qual ++ ".<locals>.", func := some f, code := cdv, frame := some L, builtins := builtinsNs }
section
variable {M : Model} {A : Around} {E : Value → Shared → Prop} {s : Shared}
theorem lookup_own {own rest : List (Str × Addr)} {x : Str} {c : Addr} (h : own.lookup x = some c) : (own ++ rest).lookup x = some c := by
  rw [List.lookup_append, h]
  rfl
theorem newFunctionEnvS {scope : Scope} {binds : List (Str × Value)} {qual : Str} {f cc : Addr} {cdv : Value} {Q : Env → Shared → Prop} (hk : scope.kind = .function)
    (hkind : ∀ x ∈ binds, scope.names.lookup x.1 = some .local ∨ scope.names.lookup x.1 = some .cell)
    (hQ : ∀ s', InCallC s s.heap.objs.size (bindL (envS qual scope s.heap.objs.size f cdv cc).kindOf binds fun _ => none) (cellsFrom (s.heap.objs.size + 1) scope.names []) (bindC (envS qual scope s.heap.objs.size f cdv cc).kindOf binds fun _ => none) s' → Q (envS qual scope s.heap.objs.size f cdv cc) s') :
    wpAny M A (newFunctionEnv scope mainGlobals [(("__class__" : Str), cc)] binds (qual ++ ".<locals>.") (some f) cdv none builtinsNs) Q E s := by
  simp only [newFunctionEnv, Option.isSome_none, Bool.false_eq_true, if_false]
  refine wpAny_bind (wpAny_alloc ?_)
  refine wpAny_bind (wpAny_layCells _ (fun name kind cells => by cases hkc : kind == NameKind.cell <;> simp [hkc]) _ _ _ _ ?_)
  have ok := cellsFrom_ok scope.names (s.heap.push { cls := .type "frame", data := .dict #[] }) (s.heap.objs.size + 1) [] ⟨fun _ _ hm => (nomatch hm), List.Pairwise.nil⟩ (by rw [Heap.size_push]; exact Nat.le_refl _)
  rw [Heap.size_push] at ok
  rw [show ({ s with heap := s.heap.push { cls := .type "frame", data := .dict #[] } } : Shared).heap.objs.size = s.heap.objs.size + 1 from Heap.size_push .., cellsFrom_app]
  refine wpAny_bind (bindParamsD (s₀ := s) (env := envS qual scope s.heap.objs.size f cdv cc) (own := cellsFrom (s.heap.objs.size + 1) scope.names [])
    _ (fun _ _ _ => rfl) hk binds (fun _ => none) (fun _ => none) _ _
    ⟨⟨⟨_, _, rfl⟩, (Heap.Ns.new s.heap (.type "frame")).keeps (pushCells_keeps _ _), fun b o e => pushCells_keeps _ _ b o (Heap.get?_push_of_some _ e), Nat.le_refl _⟩,
      fun n c hc => (ok.empty n c (PySem.mem_of_lookup hc)).1, ok.apart, fun n c hm => (ok.empty n c hm).2⟩
    (fun x hx => (hkind x hx).imp id fun q => ?_) fun s' x => wpAny_pure (hQ s' x))
  obtain ⟨c, e⟩ := cell_has (n := s.heap.objs.size + 1) q
  exact ⟨q, c, e, lookup_own (rest := [(("__class__" : Str), cc)]) e⟩
end
/-- what the def's own names are -/
structure SpS (N ps : List Str) (scope : Scope) : Prop where
  kind : scope.kind = .function
  co : scope.isCoroutine = false
  gen : scope.isGenerator = false
  nd : N.Nodup
  pre : N.take ps.length = ps
  par : ∀ x ∈ ps, scope.names.lookup x = some .local ∨ scope.names.lookup x = some .cell
  free : ∀ y ∈ scope.names, y.2 = .free → y.1 = "__class__"
  sup : scope.names.lookup ("super" : Str) = some .globalImplicit
  cls : scope.names.lookup ("__class__" : Str) = some .free
  noc : ∀ y ∈ scope.names, y.2 = .cell → y.1 ≠ "__class__"
  self : N[0]? = some ("self" : Str) ∧ (scope.names.lookup ("self" : Str) = some .local ∨ scope.names.lookup ("self" : Str) = some .cell)
theorem cells_mem : ∀ (names : List (Str × NameKind)) (n : Nat) (acc : List (Str × Addr)) {y : Str} {c : Addr}, (y, c) ∈ cellsFrom n names acc → (y, NameKind.cell) ∈ names ∨ (y, c) ∈ acc
  | [], _, _, _, _, h => .inr h
  | (x, k) :: r, n, acc, y, c, h => by
    unfold cellsFrom at h
    split at h
    · rename_i hk
      rcases cells_mem r (n + 1) ((x, n) :: acc) h with z | z
      · exact .inl (List.mem_cons_of_mem _ z)
      · rcases List.mem_cons.mp z with e | z
        · cases e
          rw [beq_iff_eq.mp hk]
          exact .inl List.mem_cons_self
        · exact .inr z
    · exact (cells_mem r n acc h).imp (List.mem_cons_of_mem _) id
theorem SpS.own {N ps : List Str} {scope : Scope} (S : SpS N ps scope) (n : Nat) : (cellsFrom n scope.names []).lookup ("__class__" : Str) = none := by
  cases e : (cellsFrom n scope.names []).lookup ("__class__" : Str) with
  | none => rfl
  | some c =>
    rcases cells_mem _ _ _ (PySem.mem_of_lookup e) with z | z
    · exact absurd rfl (S.noc _ z rfl)
    · cases z
/-- the context of such a def's body -/
def cxS (CX : CXT) (P : Program) (w : World) (K : PySem.W.Frag) (mg : Str → Option Value) (base : Heap) (N : List Str) (qual : Str) (scope : Scope) (f : Addr) (cd : Value) (cc : Addr) (A : Around) (outer : List Env) (s : Shared) (H : Hp) (E : XK) : Cx where
  prog := P
  w := w
  K := K
  mg := mg
  base := base
  A := A.deeper (envS qual scope s.heap.objs.size f cd cc)
  N := N
  s_0 := s
  H_0 := H
  env := envS qual scope s.heap.objs.size f cd cc
  outer := outer
  stack := envS qual scope s.heap.objs.size f cd cc :: outer
  ex := []
  calm := true
  fn := fun x => decide (scope.names.lookup x = some .cell)
  pn := []
  xe := fun e s' => wpAny (model P w) (A.deeper (envS qual scope s.heap.objs.size f cd cc)) (leaving (envS qual scope s.heap.objs.size f cd cc) e) (fun _ s'' => CX outer H s E e s'') (fun e' s'' => CX outer H s E e' s'') s'
theorem inv_startS {CX : CXT} {P : Program} {w : World} {K : PySem.W.Frag} {mg : Str → Option Value} {base : Heap} {N ps : List Str} {qual : Str} {scope : Scope} {f cc : Addr} {cd : Value} {A : Around} {outer : List Env} {s s1 : Shared} {H : Hp} {E : XK} {us : List Value} {vs : List V}
    (S : SpS N ps scope) (hd : A.handled = none) (e0 : Env0 P w K mg base A outer s H) (hl : vs.length = ps.length) (r : Vals vs us) (hcell : ∃ cl cld csl v, K.lookup cc = some ⟨cl, cld, .cell v, csl⟩)
    (x : InCallC s s.heap.objs.size (bindL (envS qual scope s.heap.objs.size f cd cc).kindOf (ps.zip us) fun _ => none) (cellsFrom (s.heap.objs.size + 1) scope.names []) (bindC (envS qual scope s.heap.objs.size f cd cc).kindOf (ps.zip us) fun _ => none) s1) :
    Inv (cxS CX P w K mg base N qual scope f cd cc A outer s H E) [] (L2.start N vs) H s1 := by
  have hpl : ps.length ≤ N.length := by have := congrArg List.length S.pre; rw [List.length_take] at this; omega
  obtain ⟨h1, tk, rfl, hk⟩ := x.done
  obtain ⟨cl, cld, csl, cv, hc⟩ := hcell
  have kb := e0.mod.kin _ _ hc
  have ltc : cc < s.heap.objs.size := Heap.lt_size (e0.bs _ _ kb).1
  have noA : ∀ b : Addr, b ∉ (cxS CX P w K mg base N qual scope f cd cc A outer s H E).ex := fun b z => absurd (show b ∈ ([] : List Addr) from z) (by simp)
  have cas : ∀ {y : Str} {c : Addr}, (envS qual scope s.heap.objs.size f cd cc).cells.lookup y = some c → (cellsFrom (s.heap.objs.size + 1) scope.names []).lookup y = some c ∨ (y = "__class__" ∧ c = cc) := fun {y c} h => by
    have h : (cellsFrom (s.heap.objs.size + 1) scope.names [] ++ [(("__class__" : Str), cc)]).lookup y = some c := h
    rw [List.lookup_append] at h
    cases e : (cellsFrom (s.heap.objs.size + 1) scope.names []).lookup y with
    | some d => rw [e] at h; exact .inl h
    | none =>
      rw [e] at h
      have h : ([(("__class__" : Str), cc)] : List (Str × Addr)).lookup y = some c := h
      rw [lk_cons] at h
      split at h
      · rename_i z
        exact .inr ⟨z, (Option.some.inj h).symm⟩
      · cases h
  refine ⟨⟨e0.mod, S.kind, rfl, rfl, Nat.le_refl _, fun y z c h1 h2 => ?_, fun y hy => ?_, fun y c hf h => ?_, fun _ => hd, Around.frames_deeper e0.frames, .inr ⟨rfl, rfl⟩, fun b z => absurd z (noA b), e0.bs, e0.bsz, fun b _ _ => noA b, fun b z => absurd z (noA b), e0.funs, e0.frf⟩,
    rfl, e0.bare, Un.kept hk, ⟨_, x.toInCall.ns, fun i y v h1 h2 h3 => ?_⟩, fun y c h => ?_, e0.hok.fresh (Nat.le_refl _), fun y c h => ?_, fun p hp => absurd (show p ∈ ([] : List (Addr × Obj)) from hp) (by simp), e0.hok.kept hk, ?_⟩
  · rcases cas h1 with a | ⟨a, a'⟩ <;> rcases cas h2 with b | ⟨b, b'⟩
    · exact name_of_addr x.apart (PySem.mem_of_lookup a) (PySem.mem_of_lookup b)
    · have := x.above y c (PySem.mem_of_lookup a)
      rw [b'] at this
      exact absurd (Nat.lt_trans ltc this) (Nat.lt_irrefl _)
    · have := x.above z c (PySem.mem_of_lookup b)
      rw [a'] at this
      exact absurd (Nat.lt_trans ltc this) (Nat.lt_irrefl _)
    · rw [a, b]
  · have hy : scope.names.lookup y = some .cell ∨ scope.names.lookup y = some .free := hy
    rcases hy with hy | hy
    · obtain ⟨c, e⟩ := cell_has (n := s.heap.objs.size + 1) hy
      exact ⟨c, lookup_own (rest := [(("__class__" : Str), cc)]) e⟩
    · have := S.free _ (PySem.mem_of_lookup hy) rfl
      dsimp only at this
      subst this
      show ∃ c, (cellsFrom (s.heap.objs.size + 1) scope.names [] ++ [(("__class__" : Str), cc)]).lookup ("__class__" : Str) = some c
      rw [List.lookup_append]
      cases (cellsFrom (s.heap.objs.size + 1) scope.names []).lookup ("__class__" : Str) with
      | some d => exact ⟨d, rfl⟩
      | none => exact ⟨cc, rfl⟩
  · have hf : scope.names.lookup y = some .cell := of_decide_eq_true hf
    rcases cas h with a | ⟨a, _⟩
    · exact Nat.le_of_lt (x.above y c (PySem.mem_of_lookup a))
    · rw [a, S.cls] at hf
      cases hf
  · have hi : i < vs.length := by
      unfold L2.start at h2
      by_cases hi : i < vs.length
      · exact hi
      · rw [List.getElem?_append_right (by simpa using hi)] at h2
        rw [List.getElem?_replicate] at h2
        split at h2 <;> cases h2
    have ha : vs[i]? = some v := by
      unfold L2.start at h2
      rw [List.getElem?_append_left (by simpa using hi), List.getElem?_map] at h2
      cases e : vs[i]? with
      | none => rw [e] at h2; cases h2
      | some a => rw [e] at h2; cases h2; rfl
    obtain ⟨u, hu, rv⟩ := r.get ha
    have hp : ps[i]? = some y := by
      rw [← S.pre, List.getElem?_take_of_lt (by omega)]; exact h1
    have ndP : ps.Nodup := by rw [← S.pre]; exact S.nd.sublist (List.take_sublist _ _)
    refine ⟨u, rv, ?_⟩
    rcases S.par y (List.mem_of_getElem? hp) with k | k
    · exact .inl ⟨k, bindL_get ndP hp hu k⟩
    · obtain ⟨c, e⟩ := cell_has (n := s.heap.objs.size + 1) k
      refine .inr ⟨.inl k, c, lookup_own (rest := [(("__class__" : Str), cc)]) e, ?_⟩
      have q := x.cell y c e
      rw [bindC_get ndP hp hu (by show scope.names.lookup y ≠ _; rw [k]; decide)] at q
      exact q
  · rcases cas h with a | ⟨_, rfl⟩
    · exact ⟨_, x.cell y c a⟩
    · exact ⟨_, _, hk _ _ (e0.bs _ _ kb).1, rfl⟩
  · rcases cas h with a | ⟨_, rfl⟩
    · exact e0.hok.fresh (Nat.le_of_lt (x.above y c (PySem.mem_of_lookup a)))
    · exact (e0.bs _ _ kb).2
  · unfold L2.start
    show _ = N.length
    rw [List.length_append, List.length_map, List.length_replicate]
    omega
/-! ### a body that knows its own code -/
structure PBs (X : Cx) (body st : List Stmt) (t : TS) : Prop where
  run : ∀ (pins : List (Addr × Obj)) (s : Shared) (σ : L2.St) (H : Hp) (D : Ends), Inv X pins σ H s → t D σ H → _root_.PySem.wpAt (model X.prog X.w) X.A (.func body X.env) (execs st X.env) (SP X pins D) X.xe s
/-- an expression that asks for the running code -/
structure PEb (X : Cx) (body : List Stmt) (e : Expr) (t : TE) : Prop where
  run : ∀ (pins : List (Addr × Obj)) (s : Shared) (σ : L2.St) (H : Hp) (Q : VK), Inv X pins σ H s → t σ H Q → _root_.PySem.wpAt (model X.prog X.w) X.A (.func body X.env) (eval e X.env) (EP X pins σ Q) X.xe s
section
variable {X : Cx} {body rest sts : List Stmt} {st : Stmt} {t u : TS} {te : TE} {e : Expr} {pos : Pos}
theorem pbs_of (h : PSs X sts t) : PBs X body sts t := ⟨fun pins s σ H D I q => wpAt_of_wpAny (h.run pins s σ H D I q)⟩
theorem pbs_cons (h1 : PS X st t) (h2 : PBs X body rest u) : PBs X body (st :: rest) (tSeq t u) := by
  refine ⟨fun pins s σ H D I h => ?_⟩
  refine ks_wpAt_execs_cons (wpAt_of_wpAny (thn (h1.run pins s σ H { D with nx := u D } I h) fun f s1 q => ?_))
  cases f with
  | next =>
    obtain ⟨σ', H', I', q⟩ := q
    exact h2.run pins s1 σ' H' D I' q
  | ret v => exact q
  | brk => exact q
  | cont => exact q
theorem pbs_expr (h : PEb X body e te) (hi : interactive X.env = false := by rfl) (hs : swapsWith e none pos.line X.env = pure false := by rfl) : PBs X body [.Expr e pos] (tDrop te) := by
  refine ⟨fun pins s σ H D I q => ?_⟩
  refine ks_wpAt_execs_cons (ks_wpAt_Expr_any (ks_wpAt_mono (h.run pins s σ H _ I q) (fun v s1 z => ?_) fun _ _ z => z) hi hs)
  obtain ⟨x, H1, I1, r1, q1⟩ := z
  exact wpAt_of_wpAny (wpAny_execs_nil ⟨σ, H1, I1, q1⟩)
theorem pbs_ret (h : PEb X body e te) : PBs X body [.Return (some e) pos] (tRet te) := by
  refine ⟨fun pins s σ H D I q => ?_⟩
  refine ks_wpAt_execs_cons (ks_wpAt_Return_some (ks_wpAt_mono (h.run pins s σ H _ I q) (fun v s1 z => ?_) fun _ _ z => z))
  obtain ⟨x, H1, I1, r1, q1⟩ := z
  exact ⟨x, σ, H1, I1, r1, q1⟩
end
/-- what stands in the text of super().m(..) in a def of the class at D, self of the class at C: the def at g is meant -/
structure SupT (P : Program) (K : PySem.W.Frag) (mg : Str → Option Value) (C D : Addr) (f : Addr) (fd : FuncData) (cda cc : Addr) (m : Str) (g : Addr) : Prop where
  hd_ : ∃ ar, (fd.params.posonlyargs ++ fd.params.args).head? = some ar ∧ ar.arg = "self"
  lk : ∃ oc od osl, K.lookup f = some ⟨oc, od, .func fd, osl⟩
  file : ∃ ccl cdd vs ccs file tf, K.lookup cda = some ⟨ccl, cdd, .fields vs, ccs⟩ ∧ vs[2]? = some (.str file tf) ∧ ((P.main.file : Str) == file) = true
  cell : ∃ cl cld csl, K.lookup cc = some ⟨cl, cld, .cell (some (.ref D)), csl⟩
  clsD : PySem.W.isClsIn K D = true
  sub : PySem.W.mroIn K C (.ref D) = some true
  opq : PySem.W.nsIn K PySem.cStatics "thirdparty.any" = some none
  sup : PySem.W.ks_superIn K C D m = some (some (.ref g))
  ty : PySem.W.typeIn K (.ref g) = some (.type "function")
  fi : PySem.W.fnIn K g = true
  noS : mg "super" = none
  top : (P.main.scope.names.lookup ("super" : Str)).isSome = false
  ncl : (m == ("__class__" : Str)) = false
/-- super().m(..): self in slot 0 -/
def tSup (C : Addr) (sp : Sp) (E : XK) (t : TA) : TE := fun σ H Q => ∃ a dx fs, σ[0]? = some (some (.ref a)) ∧ H a = some (.ins C dx fs) ∧ t σ H fun vs H1 => sp (.ref a :: vs) H1 Q E
section
variable {CX CX2 : CXT} {P : Program} {w : World} {K : PySem.W.Frag} {mg : Str → Option Value} {base : Heap} {N ps : List Str} {qual : Str} {scope : Scope} {f cc cda C D g : Addr} {fd : FuncData} {A : Around} {outer : List Env} {s0 : Shared} {H0 : Hp} {E E2 : XK} {body : List Stmt}
  {k : Nat} {sp : Sp} {m : Str} {p0 p1 p2 p3 : Pos} {ta : TA} {te : TE} {pl : Sem Bool}
theorem super_obj (S : SpS N ps scope) (F : SupT P K mg C D f fd cda cc m g) {pins : List (Addr × Obj)} {s : Shared} {σ : L2.St} {H : Hp} {a dx : Addr} {fs : List (Str × V)} {Q : Value → Shared → Prop} {whole : Sem Value}
    (I : Inv (cxS CX P w K mg base N qual scope f (.ref cda) cc A outer s0 H0 E) pins σ H s) (h0 : σ[0]? = some (some (.ref a))) (hx : H a = some (.ins C dx fs))
    (h : ∀ so s', Inv (cxS CX P w K mg base N qual scope f (.ref cda) cc A outer s0 H0 E) pins σ H s' → s'.heap.get? so = some (PySem.W.ks_superObj D a C) → Q (.ref so) s') :
    _root_.PySem.wpAt (model P w) (A.deeper (envS qual scope s0.heap.objs.size f (.ref cda) cc)) (.func body (envS qual scope s0.heap.objs.size f (.ref cda) cc))
      (attributeBase (.Call (.Name "super" p0) [] [] p1) m (envS qual scope s0.heap.objs.size f (.ref cda) cc) whole) Q (cxS CX P w K mg base N qual scope f (.ref cda) cc A outer s0 H0 E).xe s := by
  obtain ⟨ar, hhead, har⟩ := F.hd_
  obtain ⟨oc, od, osl, lk⟩ := F.lk
  obtain ⟨ccl, cdd, fv, ccs, file, tf, ck, cv, cf⟩ := F.file
  obtain ⟨cl, cld, csl, cellk⟩ := F.cell
  have KI : K.In s.heap := I.kIn
  obtain ⟨cdD, hcd⟩ := Option.isSome_iff_exists.mp (show (PySem.W.clsIn K D).isSome = true from F.clsD)
  obtain ⟨oD, hD1, hD2⟩ : ∃ oD, s.heap.get? D = some oD ∧ oD.data = .cls cdD := by
    unfold PySem.W.clsIn at hcd
    split at hcd
    · rename_i c d cd' sl ho
      cases hcd
      exact ⟨_, KI _ _ ho, rfl⟩
    · cases hcd
  obtain ⟨mb, hm1, hm2⟩ := I.ok.mod.blt
  have bk := I.bk
  refine ks_wpAt_super_base (env := envS qual scope s0.heap.objs.size f (.ref cda) cc) S.sup S.cls F.ncl rfl (KI _ _ lk) rfl hhead rfl (KI _ _ ck) rfl cv cf F.top ?_
  refine PySem.W.ks_loadName_global S.kind S.sup (Calls.loadGlobal_builtin (env := envS qual scope s0.heap.objs.size f (.ref cda) cc) (I.ok.mod.glob.keeps bk) F.noS (hm1.keeps bk) ((hm2 _ (by decide)).trans (by decide +kernel)) ⟨rfl, ?_⟩)
  have hcl : (envS qual scope s0.heap.objs.size f (.ref cda) cc).cells.lookup ("__class__" : Str) = some cc := by
    show (cellsFrom (s0.heap.objs.size + 1) scope.names [] ++ [(("__class__" : Str), cc)]).lookup ("__class__" : Str) = some cc
    rw [List.lookup_append, S.own]
    simp [List.lookup]
  refine wpAny_loadName_free S.kind S.cls hcl ⟨_, KI _ _ cellk, rfl⟩ ?_
  rw [har]
  have go : wpAny (model P w) (A.deeper (envS qual scope s0.heap.objs.size f (.ref cda) cc)) (isType (.ref D)) (fun b s₄ => b = true ∧ wpAny (model P w) (A.deeper (envS qual scope s0.heap.objs.size f (.ref cda) cc)) (call (.type "super") [.ref D, .ref a]) Q (cxS CX P w K mg base N qual scope f (.ref cda) cc A outer s0 H0 E).xe s₄) (cxS CX P w K mg base N qual scope f (.ref cda) cc A outer s0 H0 E).xe s := by
    obtain ⟨mA, O, rr, _, _, _⟩ := ins_get I.hok hx
    obtain ⟨od, J, _⟩ := O.look
    refine ks_wpAny_isType_cls hD1 hD2 ⟨rfl, ?_⟩
    refine ks_wpAny_call_super hD1 hD2 J.at_ J.cls (fun c z => ?_) (PySem.W.looks_mroIn KI F.sub) (fun h1 hso k1 => ?_)
    · have := J.no
      unfold PySem.W.notCls at this
      rw [z] at this
      exact Bool.noConfusion this
    · exact h _ _ (I.kept (h' := h1) (t' := s.toks) k1) hso
  obtain ⟨mL, hnL, hlL⟩ := I.loc
  obtain ⟨u0, ru, look⟩ := hlL 0 "self" (.ref a) S.self.1 h0 (S.self.2.elim .inl fun z => .inr (.inl z))
  obtain rfl : u0 = Value.ref a := ru
  rcases look with ⟨z1, z2⟩ | ⟨z1, c, hc, z2⟩
  · exact wpAny_loadName_local S.kind z1 hnL z2 go
  · rcases z1 with z1 | z1
    · exact wpAny_loadName_cell S.kind z1 hc z2 go
    · exact wpAny_loadName_free S.kind z1 hc z2 go
/-- the method of the super object, bound -/
theorem super_meth {X : Cx} {pins : List (Addr × Obj)} {s : Shared} {σ : L2.St} {H : Hp} {a dx so : Addr} {fs : List (Str × V)} {Q : Value × List Value → Shared → Prop} {A1 : Around} {E1 : Value → Shared → Prop} (F : SupT P X.K mg C D f fd cda cc m g)
    (I : Inv X pins σ H s) (hx : H a = some (.ins C dx fs)) (hso : s.heap.get? so = some (PySem.W.ks_superObj D a C))
    (h : ∀ q s', X.base.get? q = none → Inv X ((q, PySem.W.methodObj (.ref g) (.ref a)) :: pins) σ H s' → Q (.ref q, []) s') : wpAny (model X.prog X.w) A1 (getMethod (.ref so) m pl) Q E1 s := by
  have KI : X.K.In s.heap := I.kIn
  obtain ⟨mA, O, rr, _, _, _⟩ := ins_get I.hok hx
  obtain ⟨od, J, _⟩ := O.look
  have hm := F.sup
  unfold PySem.W.ks_superIn at hm
  cases hc : PySem.W.clsIn X.K C with
  | none => rw [hc] at hm; cases hm
  | some cd =>
    rw [hc] at hm
    obtain ⟨of, hof, hofc⟩ : ∃ of, s.heap.get? g = some of ∧ of.cls = .type "function" := by
      have ht' : (X.K.lookup g).map (·.cls) = some (.type "function") := F.ty
      cases z : X.K.lookup g with
      | none => rw [z] at ht'; cases ht'
      | some of => rw [z] at ht'; exact ⟨of, KI _ _ z, Option.some.inj ht'⟩
    have ne := PySem.W.ks_ne KI J hc
    obtain ⟨hh, gg, d, t, os⟩ := s
    refine ks_wpAny_getMethod_super hso (PySem.W.looks_opaque KI F.opq) (l₀ := cd.mro) (fun A Q E s k q => wpAny_bind ((PySem.W.looks_clsIn KI hc) A _ E s k (wpAny_pure q))) rfl KI hm hof hofc ne F.ncl ?_
    exact h _ _ (ClX.base_none I (Nat.le_refl _)) (ClX.met_new I)
/-- super().m(e, ..) -/
theorem peb_super {e : Expr} {es : List Expr} (S : SpS N ps scope) (F : SupT P K mg C D f fd cda cc m g) (R : L2.FnR P w K mg base CX2 k g sp) (hr : Room k (A.deeper (envS qual scope s0.heap.objs.size f (.ref cda) cc)))
    (hx : Passes CX2 (cxS CX P w K mg base N qual scope f (.ref cda) cc A outer s0 H0 E) E2) (ha : PA (cxS CX P w K mg base N qual scope f (.ref cda) cc A outer s0 H0 E) (e :: es) ta)
    (hev : ∀ (L : Addr), eval (.Call (.Attribute (.Call (.Name "super" p0) [] [] p1) m p2) (e :: es) [] p3) (envS qual scope L f (.ref cda) cc) = (do
      let ov ← attributeBase (.Call (.Name "super" p0) [] [] p1) m (envS qual scope L f (.ref cda) cc) (eval (.Call (.Name "super" p0) [] [] p1) (envS qual scope L f (.ref cda) cc))
      standAt p2.atName
      let (f1, first) ← holding [ov] (getMethod ov m pl)
      callWith p3 f1 first (backTo p3 (starEach (e :: es) (envS qual scope L f (.ref cda) cc))) []) := by exact fun _ => rfl)
    (hst : ∀ L, starEach (e :: es) (envS qual scope L f (.ref cda) cc) = (false, eval e (envS qual scope L f (.ref cda) cc)) :: starEach es (envS qual scope L f (.ref cda) cc) := by exact fun _ => rfl)
    (hpl : ∀ L, (backTo p3 (starEach es (envS qual scope L f (.ref cda) cc))).any (·.1) = false := by exact fun _ => rfl) :
    PEb (cxS CX P w K mg base N qual scope f (.ref cda) cc A outer s0 H0 E) body (.Call (.Attribute (.Call (.Name "super" p0) [] [] p1) m p2) (e :: es) [] p3) (tSup C sp E2 ta) := by
  refine ⟨fun pins s σ H Q I ⟨a, dx, fs, h0, hx0, q⟩ => ?_⟩
  refine ks_wpAt_MethodCall (pl := pl) (super_obj (body := body) S F I h0 hx0 fun so s1 I1 hso => ?_) (hev _)
  refine super_meth F I1 hx0 hso fun q1 s2 hb I2 => ?_
  refine ClX.callwith_cm (X := cxS CX P w K mg base N qual scope f (.ref cda) cc A outer s0 H0 E) I2 hb F.fi (thn (ha.run p3 _ s2 σ H _ I2 q) fun us s3 ⟨vs, H2, I3, rv, q2⟩ => ⟨⟨ClX.pin_at I3, I3.kIn⟩, ?_⟩) (hst _) (hpl _)
  exact ClX.run_cm (X := cxS CX P w K mg base N qual scope f (.ref cda) cc A outer s0 H0 E) R hr hx I3 rv q2
end
section
variable {prog : Program} {w : World} {A : Around} {E : Value → Shared → Prop} {h : Heap} {g : Array GenState} {d : Drawn} {t : Nat} {os : OsState}
theorem getAttr_super {so D x C f : Addr} {of : Obj} {l₀ l : List Value} {K : PySem.W.Frag} {name : Str} {Q : Value → Shared → Prop}
    (hso : h.get? so = some { cls := .type "super", dict := none, data := .fields #[.ref D, .ref x, .ref C], slots := #[] }) (hno : PySem.W.Looks (model prog w) h (opaqueClassAbove (.ref C)) none)
    (hC : PySem.W.Looks (model prog w) h (mroOf (.ref C)) l₀) (hl : (l₀.dropWhile (· != .ref D)).drop 1 = l) (X : K.In h)
    (hf : PySem.W.alongIn K name l = some (some (.ref f))) (hfo : h.get? f = some of) (hfc : of.cls = .type "function") (hxC : x ≠ C) (hn : (name == ("__class__" : Str)) = false)
    (hq : Q (.ref h.objs.size) ⟨h.push { cls := .type "method", data := .fields #[.ref f, .ref x] }, g, d, t + 1, os⟩) :
    wpAny (model prog w) A (getAttr (.ref so) name true) Q E ⟨h, g, d, t, os⟩ := by
  have hlk := F.ks_slot_super_ga.lookup
  have hT : ∀ t', (⟨h, g, d, t', os⟩ : Shared).TypeIs (.ref so) "super" := fun _ => ⟨_, hso, rfl⟩
  unfold getAttr getAttrBy
  refine wpAny_bind (wpAny_mkText (wpAny_holding (wpAny_bind (wpAny_typeOf (hT _) (wpAny_bind (wpAny_of_eq hlk ?_))))))
  show wpAny _ _ (getAttrByItsOwn (.ref so) (.str name t) (.type "super") (.builtin "super.__getattribute__") true true) _ _ _
  unfold getAttrByItsOwn hookBefore callGetattribute boundAndCalled
  refine wpAny_bind (wpAny_of_eq (show (if onTheHeap (.type "super") then typeLookup (.type "super") "__getattr__" else pure none) = pure none from rfl) ?_)
  refine wpAny_bind (wpAny_attempt (wpAny_holding ?_))
  show wpAny _ _ (bindSpecial (.builtin "super.__getattribute__") (.ref so) >>= _) _ _ _
  refine wpAny_bind (wpAny_of_eq (F.ks_slot_super_ga.bind _) ?_)
  refine wpAny_mono (Q := fun v s' => v = .ref h.objs.size ∧ s' = ⟨h.push { cls := .type "method", data := .fields #[.ref f, .ref x] }, g, d, t + 1, os⟩) (E := fun _ _ => False)
    (wpAny_call_entry F.ks_slot_super_ga (hT _) F.ks_entry_super_ga (ks_wpAny_super_ga hso hno hC hl X hf hfo hfc hxC hn ⟨_, rfl, rfl, rfl⟩) (F.ks_gaArgs_super _ _)) (fun v s' hv => ?_) fun _ _ z => z.elim
  obtain ⟨rfl, rfl⟩ := hv
  exact wpAny_pure hq
end
/-- o.m(.., *y) where o knows the running code -/
theorem starcallb_of {M : Model} {A : Around} {c : Code} {E : Value → Shared → Prop} {s : Shared} {env : Env} {o : Expr} {args : List Expr} {m : Str} {apos pos : Pos} {Q : Value → Shared → Prop} 
    (hst : methodCallForm (args.length + ([] : List Keyword).length) (backTo pos (starEach args env)) [] = false) (hpos : methodCallPos false o env apos pos = pure pos) (hcal : ∀ ov, calleeOf false o env ov m = (getAttr ov m true >>= fun v => pure (v, [])))
    (h : _root_.PySem.wpAt M A c (attributeBase o m env (eval o env)) (fun ov s₁ => wpAny M A (getAttr ov m true) (fun f s₂ => wpAny M A (callWith pos f [] (backTo pos (starEach args env)) []) Q E s₂) E s₁) E s) :
    _root_.PySem.wpAt M A c (eval (.Call (.Attribute o m apos) args [] pos) env) Q E s := by
  have hke : backToKw pos (keywordEach [] env) = [] := rfl
  rw [arm_eval_Call, hke]
  refine _root_.PySem.wpAt_bind (ks_wpAt_mono h (fun ov s₁ h₁ => wpAt_of_wpAny ?_) fun _ _ x => x)
  refine wpAny_bind (wpAny_standAt ?_)
  unfold methodCall
  rw [hst, hpos, hcal]
  refine wpAny_bind (wpAny_holding (wpAny_bind (wpAny_mono h₁ (fun f s₂ h₂ => wpAny_pure ?_) fun _ _ x => x)))
  exact wpAny_bind (wpAny_pure h₂)
section
variable {CX CX2 : CXT} {P : Program} {w : World} {K : PySem.W.Frag} {mg : Str → Option Value} {base : Heap} {N ps : List Str} {qual : Str} {scope : Scope} {f cc cda C D g : Addr} {fd : FuncData} {A : Around} {outer : List Env} {s0 : Shared} {H0 : Hp} {E E2 : XK} {body : List Stmt}
  {k : Nat} {sp : Sp} {m : Str} {p0 p1 p2 p3 p4 : Pos} {ta : TA} {te : TE} {pl : Sem Bool}
theorem super_attr {X : Cx} {pins : List (Addr × Obj)} {s : Shared} {σ : L2.St} {H : Hp} {a dx so : Addr} {fs : List (Str × V)} {Q : Value → Shared → Prop} {A1 : Around} {E1 : Value → Shared → Prop} (F : SupT P X.K mg C D f fd cda cc m g)
    (I : Inv X pins σ H s) (hx : H a = some (.ins C dx fs)) (hso : s.heap.get? so = some (PySem.W.ks_superObj D a C))
    (h : ∀ q s', X.base.get? q = none → Inv X ((q, PySem.W.methodObj (.ref g) (.ref a)) :: pins) σ H s' → Q (.ref q) s') : wpAny (model X.prog X.w) A1 (getAttr (.ref so) m true) Q E1 s := by
  have KI : X.K.In s.heap := I.kIn
  obtain ⟨mA, O, rr, _, _, _⟩ := ins_get I.hok hx
  obtain ⟨od, J, _⟩ := O.look
  have hm := F.sup
  unfold PySem.W.ks_superIn at hm
  cases hc : PySem.W.clsIn X.K C with
  | none => rw [hc] at hm; cases hm
  | some cd =>
    rw [hc] at hm
    obtain ⟨of, hof, hofc⟩ : ∃ of, s.heap.get? g = some of ∧ of.cls = .type "function" := by
      have ht' : (X.K.lookup g).map (·.cls) = some (.type "function") := F.ty
      cases z : X.K.lookup g with
      | none => rw [z] at ht'; cases ht'
      | some of => rw [z] at ht'; exact ⟨of, KI _ _ z, Option.some.inj ht'⟩
    have ne := PySem.W.ks_ne KI J hc
    obtain ⟨hh, gg, d, t, os⟩ := s
    refine getAttr_super hso (PySem.W.looks_opaque KI F.opq) (l₀ := cd.mro) (fun A Q E s k q => wpAny_bind ((PySem.W.looks_clsIn KI hc) A _ E s k (wpAny_pure q))) rfl KI hm hof hofc ne F.ncl ?_
    exact h _ _ (ClX.base_none I (Nat.le_refl _)) (ClX.met_new I)
/-- super().m(e, *y): self in slot 0 -/
def tSupS (K : PySem.W.Frag) (C : Addr) (sp : Sp) (E : XK) (t1 t2 : TE) : TE := fun σ H Q => ∃ a dx fs, σ[0]? = some (some (.ref a)) ∧ H a = some (.ins C dx fs) ∧ t1 σ H fun v H1 => t2 σ H1 fun y H2 => ∃ b vs, y = .ref b ∧ (SqT K H2 b vs ∨ SqL K H2 b vs) ∧ sp (.ref a :: v :: vs) H2 Q E
/-- super().m( *y) -/
def tSupS1 (K : PySem.W.Frag) (C : Addr) (sp : Sp) (E : XK) (t2 : TE) : TE := fun σ H Q => ∃ a dx fs, σ[0]? = some (some (.ref a)) ∧ H a = some (.ins C dx fs) ∧ t2 σ H fun y H2 => ∃ b vs, y = .ref b ∧ (SqT K H2 b vs ∨ SqL K H2 b vs) ∧ sp (.ref a :: vs) H2 Q E
theorem peb_superS1 {e2 : Expr} {t2 : TE} (S : SpS N ps scope) (F : SupT P K mg C D f fd cda cc m g) (R : L2.FnR P w K mg base CX2 k g sp) (hr : Room k (A.deeper (envS qual scope s0.heap.objs.size f (.ref cda) cc)))
    (hx : Passes CX2 (cxS CX P w K mg base N qual scope f (.ref cda) cc A outer s0 H0 E) E2) (h2 : PE (cxS CX P w K mg base N qual scope f (.ref cda) cc A outer s0 H0 E) e2 t2)
    (hpos : ∀ L, methodCallPos false (.Call (.Name "super" p0) [] [] p1) (envS qual scope L f (.ref cda) cc) p2 p3 = pure p3 := by exact fun _ => rfl)
    (hcal : ∀ L ov, calleeOf false (.Call (.Name "super" p0) [] [] p1) (envS qual scope L f (.ref cda) cc) ov m = (getAttr ov m true >>= fun v => pure (v, [])) := by exact fun _ _ => rfl) :
    PEb (cxS CX P w K mg base N qual scope f (.ref cda) cc A outer s0 H0 E) body (.Call (.Attribute (.Call (.Name "super" p0) [] [] p1) m p2) [.Starred e2 p4] [] p3) (tSupS1 K C sp E2 t2) := by
  refine ⟨fun pins s σ H Q I ⟨a, dx, fs, h0, hx0, q⟩ => ?_⟩
  refine starcallb_of rfl (hpos _) (hcal _) (super_obj (body := body) S F I h0 hx0 fun so s1 I1 hso => ?_)
  refine super_attr F I1 hx0 hso fun q1 s2 hb I2 => ?_
  refine PySem.W.ks_call (P := PySem.W.MethP K q1 g (.ref a)) rfl (PySem.W.keeps_M F.fi) (PySem.W.ks_lone (thn (h2.run _ s2 σ _ _ I2 q) fun v2 s4 ⟨y2, H3, I4, ry2, t, vs, ey, ht, hsp⟩ => ?_))
  subst ey
  obtain rfl : v2 = Value.ref t := ry2
  refine StX.star_any I4 ht fun us s5 I5 rv => ?_
  exact ⟨⟨ClX.pin_at I5, I5.kIn⟩, ClX.run_cm (X := cxS CX P w K mg base N qual scope f (.ref cda) cc A outer s0 H0 E) R hr hx I5 rv hsp⟩
theorem peb_superS {e1 e2 : Expr} {t1 t2 : TE} (S : SpS N ps scope) (F : SupT P K mg C D f fd cda cc m g) (R : L2.FnR P w K mg base CX2 k g sp) (hr : Room k (A.deeper (envS qual scope s0.heap.objs.size f (.ref cda) cc)))
    (hx : Passes CX2 (cxS CX P w K mg base N qual scope f (.ref cda) cc A outer s0 H0 E) E2) (h1 : PE (cxS CX P w K mg base N qual scope f (.ref cda) cc A outer s0 H0 E) e1 t1) (h2 : PE (cxS CX P w K mg base N qual scope f (.ref cda) cc A outer s0 H0 E) e2 t2)
    (hpos : ∀ L, methodCallPos false (.Call (.Name "super" p0) [] [] p1) (envS qual scope L f (.ref cda) cc) p2 p3 = pure p3 := by exact fun _ => rfl)
    (hcal : ∀ L ov, calleeOf false (.Call (.Name "super" p0) [] [] p1) (envS qual scope L f (.ref cda) cc) ov m = (getAttr ov m true >>= fun v => pure (v, [])) := by exact fun _ _ => rfl)
    (hse : ∀ L, starEach [e1, .Starred e2 p4] (envS qual scope L f (.ref cda) cc) = [(false, eval e1 (envS qual scope L f (.ref cda) cc)), (true, eval e2 (envS qual scope L f (.ref cda) cc))] := by exact fun _ => rfl) :
    PEb (cxS CX P w K mg base N qual scope f (.ref cda) cc A outer s0 H0 E) body (.Call (.Attribute (.Call (.Name "super" p0) [] [] p1) m p2) [e1, .Starred e2 p4] [] p3) (tSupS K C sp E2 t1 t2) := by
  refine ⟨fun pins s σ H Q I ⟨a, dx, fs, h0, hx0, q⟩ => ?_⟩
  refine starcallb_of (by show methodCallForm _ (backTo p3 (starEach [e1, .Starred e2 p4] (envS qual scope s0.heap.objs.size f (.ref cda) cc))) [] = false; rw [hse]; rfl) (hpos _) (hcal _) (super_obj (body := body) S F I h0 hx0 fun so s1 I1 hso => ?_)
  refine super_attr F I1 hx0 hso fun q1 s2 hb I2 => ?_
  show wpAny _ _ (callWith p3 (.ref q1) [] (backTo p3 (starEach [e1, .Starred e2 p4] (envS qual scope s0.heap.objs.size f (.ref cda) cc))) []) _ _ _
  rw [hse]
  refine PySem.W.ks_call (P := PySem.W.MethP K q1 g (.ref a)) rfl (PySem.W.keeps_M F.fi) (Calls.evalArgs_plain (Calls.spliced_cons (thn (h1.run _ s2 σ _ _ I2 q) fun v1 s3 ⟨y1, H2, I3, ry1, q2⟩ =>
    PySem.W.ks_spliced (thn (h2.run _ s3 σ H2 _ I3 q2) fun v2 s4 ⟨y2, H3, I4, ry2, t, vs, ey, ht, hsp⟩ => ?_))))
  subst ey
  obtain rfl : v2 = Value.ref t := ry2
  refine StX.star_any I4 ht fun us s5 I5 rv => Calls.spliced_nil ?_
  show PySem.W.MethP K q1 g (.ref a) s5.heap ∧ wpAny (model P w) _ (call (.ref q1) (v1 :: (us ++ [])) []) _ _ s5
  rw [List.append_nil]
  exact ⟨⟨ClX.pin_at I5, I5.kIn⟩, ClX.run_cm (X := cxS CX P w K mg base N qual scope f (.ref cda) cc A outer s0 H0 E) R hr hx I5 (.cons ry1 rv) hsp⟩
end
/-! ### the def -/
section
variable {CX : CXT} {P : Program} {w : World} {K : PySem.W.Frag} {mg : Str → Option Value} {base : Heap} {k : Nat} {f cc : Addr} {name qual : Str} {params : Arguments} {body : List Stmt} {scope : Scope} {dV kV doc pm cdv ct oc : Value} {an od : Option Addr}
  {osl : Array (Option Value)} {N ps : List Str} {sp : Sp}
theorem run_bndS {A : Around} {outer : List Env} {s : Shared} {H : Hp} {args : Args} {Q : VK} {E : XK} {G : List V → Hp → Prop} (lk : K.lookup f = some ⟨oc, od, .func (PySem.W.ksFn name qual params body scope dV kV doc pm an cdv ct cc), osl⟩) (hcd : PySem.W.codeIn K cdv qual = true)
    (hcell : ∃ cl cld csl v, K.lookup cc = some ⟨cl, cld, .cell v, csl⟩) (S : SpS N ps scope) (hr : Room (k + 1) A) (e0 : Env0 P w K mg base A outer s H) (hb : StX.Bnd CX P w K mg base (PySem.W.ksFn name qual params body scope dV kV doc pm an cdv ct cc) args ps A outer s H E G)
    (hbody : ∀ (s2 : Shared) (H2 : Hp) (vs : List V), G vs H2 → Room k (A.deeper (envS qual scope s2.heap.objs.size f cdv cc)) →
      ∃ t, PBs (cxS CX P w K mg base N qual scope f cdv cc A outer s2 H2 E) body body t ∧ t { nx := fun _ H' => Q .non H', rt := Q } (L2.start N vs) H2) : codeAny (model P w) A (.call (.ref f) args) (CR CX outer P w H s Q E) s := by
  have KX : K.In s.heap := e0.mod.kin.keeps fun b o e => (e0.bs b o e).1
  refine codeAny_call_function hr.depth (KX _ _ lk) rfl S.co S.gen rfl (PySem.W.codeRec_of KX hcd) ?_
  refine hb _ _ _ fun s2 H2 vs us e2 un ho hx r hl g => ?_
  have lim : s2.heap.NoLimit := e0.mod.nolimit.keeps fun b o e => (e2.bs b o e).1
  refine newFunctionEnvS (s := s2) (qual := qual) S.kind (fun y hy => S.par y.1 (List.of_mem_zip hy).1) fun s1 x => ?_
  refine ⟨lim.keeps x.toInCall.keep, ks_codeAny_funcAt ?_⟩
  obtain ⟨t, ht, hq⟩ := hbody s2 H2 vs g (hr.deeper _)
  have I : Inv (cxS CX P w K mg base N qual scope f cdv cc A outer s2 H2 E) [] (L2.start N vs) H2 s1 := inv_startS S hr.hd e2 hl r hcell x
  refine ks_wpAt_mono (ht.run [] s1 _ _ _ I hq) (fun fl s' hs => ?_) fun e s' hs => ?_
  · have fin : ∀ {σ' : L2.St} {H' : Hp} {v' : V} {u' : Value}, Inv (cxS CX P w K mg base N qual scope f cdv cc A outer s2 H2 E) [] σ' H' s' → RelV v' u' → Q v' H' → CE outer P w H s Q u' s' :=
      fun {σ' H' v' u'} J rv' q => ⟨v', H', J.os.trans ho, J.bare, un.trans J.base, J.hok, rv', q⟩
    cases fl with
    | ret u' =>
      obtain ⟨v', σ', H', J, rv', q⟩ := hs
      exact fin J rv' q
    | next =>
      obtain ⟨σ', H', J, q⟩ := hs
      exact fin (v' := V.non) (u' := Value.none) J rfl q
    | brk =>
      obtain ⟨_, _, _, q⟩ := hs
      exact False.elim q
    | cont =>
      obtain ⟨_, _, _, q⟩ := hs
      exact False.elim q
  · exact wpAny_mono hs (fun _ s'' z => hx e s'' z) fun e' s'' z => hx e' s'' z
/-- plain parameters -/
theorem fn_sup (lk : K.lookup f = some ⟨oc, od, .func (PySem.W.ksFn name qual params body scope dV kV doc pm an cdv ct cc), osl⟩) (hcd : PySem.W.codeIn K cdv qual = true) (hcell : ∃ cl cld csl v, K.lookup cc = some ⟨cl, cld, .cell v, csl⟩) (S : SpS N ps scope)
    (hb : ∀ us : List Value, us.length = ps.length → bindArgs (PySem.W.ksFn name qual params body scope dV kV doc pm an cdv ct cc) ⟨us, []⟩ = pure (ps.zip us)) (len : ∀ vs H Q E, sp vs H Q E → vs.length = ps.length)
    (hbody : ∀ (A : Around) (outer : List Env) (s : Shared) (H : Hp) (vs : List V) (Q : VK) (E : XK), Room k (A.deeper (envS qual scope s.heap.objs.size f cdv cc)) → sp vs H Q E →
      ∃ t, PBs (cxS CX P w K mg base N qual scope f cdv cc A outer s H E) body body t ∧ t { nx := fun _ H' => Q .non H', rt := Q } (L2.start N vs) H) : L2.FnR P w K mg base CX (k + 1) f sp := by
  intro A outer s H us vs Q E hr e0 r hsp
  have hl := len _ _ _ _ hsp
  refine run_bndS lk hcd hcell S hr e0 (G := fun xs H2 => xs = vs ∧ H2 = H) (fun A' Ex Q' h => ?_) fun s2 H2 xs ⟨ex, eH⟩ hr' => ?_
  · rw [hb us (by rw [← r.length]; exact hl)]
    exact wpAny_pure (h s H vs us e0 Un.refl rfl (fun _ _ z => z) r hl ⟨rfl, rfl⟩)
  · subst ex eH
    exact hbody A outer s2 _ _ Q E hr' hsp
/-- .. and *v -/
theorem fn_supStar {pv : Str} (lk : K.lookup f = some ⟨oc, od, .func (PySem.W.ksFn name qual params body scope dV kV doc pm an cdv ct cc), osl⟩) (hcd : PySem.W.codeIn K cdv qual = true) (hcell : ∃ cl cld csl v, K.lookup cc = some ⟨cl, cld, .cell v, csl⟩) (S : SpS N (ps ++ [pv]) scope) (hCX : StX.CXUp CX)
    (hb : ∀ us rest : List Value, us.length = ps.length → bindArgs (PySem.W.ksFn name qual params body scope dV kV doc pm an cdv ct cc) ⟨us ++ rest, []⟩ = (newTuple rest >>= fun t => pure (ps.zip us ++ [(pv, t)])))
    (hbody : ∀ (A : Around) (outer : List Env) (s : Shared) (H : Hp) (vs : List V) (Q : VK) (E : XK), Room k (A.deeper (envS qual scope s.heap.objs.size f cdv cc)) → sp vs H Q E →
      ∃ t, PBs (cxS CX P w K mg base N qual scope f cdv cc A outer s H E) body body t ∧ t { nx := fun _ H' => Q .non H', rt := Q } (L2.start N vs) H) :
    L2.FnR P w K mg base CX (k + 1) f (fun vs H Q E => ∃ ws rest, vs = ws ++ rest ∧ ws.length = ps.length ∧ rest.length ≤ sizeLine ∧ ∀ p, H p = Option.none → sp (ws ++ [V.ref p]) (upd H p (.tup rest)) Q E) := by
  intro A outer s H us vs Q E hr e0 r hsp
  obtain ⟨ws, rest, ev, hl, hz, hq⟩ := hsp
  subst ev
  obtain ⟨u1, u2, eu, r1, r2⟩ := StX.vals_split r
  subst eu
  have hn : H s.heap.objs.size = Option.none := e0.hok.fresh (Nat.le_refl _)
  have hl1 : u1.length = ps.length := by rw [← r1.length]; exact hl
  have hl2 : u2.length ≤ sizeLine := by rw [← r2.length]; exact hz
  refine run_bndS lk hcd hcell S hr e0 (G := fun xs H2 => ∃ p, H p = Option.none ∧ xs = ws ++ [V.ref p] ∧ H2 = upd H p (.tup rest)) (fun A' Ex Q' h => ?_) fun s2 H2 xs ⟨p, hp, ex, eH⟩ hr' => ?_
  · rw [hb u1 u2 hl1]
    refine wpAny_bind (wpAny_newTuple (wpAny_pure ?_) hl2)
    have new : ObjOk P w (upd H s.heap.objs.size (.tup rest)) (s.heap.push ({ cls := .type "tuple", data := .seq u2.toArray } : Obj)) s.heap.objs.size (.tup rest) := ⟨hz, u2, r2, ⟨_, Heap.get?_push_size _ rfl, rfl, _, rfl⟩⟩
    have un := StX.un_laid (fs := frs outer) (s := s) (o := ({ cls := .type "tuple", data := .seq u2.toArray } : Obj)) (u := .tup rest) hn
    have z := h _ _ (ws ++ [V.ref s.heap.objs.size]) (u1 ++ [Value.ref s.heap.objs.size]) (StX.env0_laid e0 new) un rfl (fun e s' => hCX outer s H _ _ E e s' un (fun b o q => Heap.get?_push_of_some _ q) rfl) (r1.append (.cons rfl .nil))
      (by rw [List.length_append, List.length_append, hl] <;> rfl) ⟨_, hn, rfl, rfl⟩
    rw [List.zip_append hl1.symm] at z
    exact z
  · subst ex eH
    exact hbody A outer s2 _ _ Q E hr' (hq p hp)
end
end Hw

/-! == and != of instances by the own ==, whatever it answers; also where the right one is of a subclass. -/
namespace Hw
open PySem PySem.Spec PyProof.Rows L2
open PySem.W (findIn mroIn subIn isFn notFirst InstAt Looks)
namespace FX
theorem slot_object_ne : Slot "object" "__ne__" "object.__ne__" := .of (owner := "object") (n := "__ne__") (by rw [typeLookup_type, builtinLookup_eq_fast]; kernel_rfl) (by decide +kernel) (by decide +kernel) (by decide +kernel)
  (by first | exact .inl (by decide +kernel) | exact .inr (by decide +kernel)) (by rw [isSubtype_type]; kernel_rfl)
end FX
section
variable {prog : Program} {w : World} {A : Around} {E : Value → Shared → Prop} {s : Shared} {K : PySem.W.Frag} {x y C D L f : Addr} {h₀ : Heap} {m : Str → Option Value} {ox oy : Obj} {od od' : Option Obj} {name : Str} {b tb : Value}
/-- what stands in the text of the own == of a class -/
structure EqIn (K : PySem.W.Frag) (C f : Addr) : Prop where
  eq : findIn K (.ref C) "__eq__" = some (some (.ref f))
  fn : isFn K (.ref f) = true
  ne : findIn K (.ref C) "__ne__" = some (some (.builtin "object.__ne__"))
  ob : mroIn K C (.type "object") = some true
theorem ifBound_ne {Q : Option Value → Shared → Prop} (X : K.In s.heap) (I : InstAt s.heap x ox C od) (T : EqIn K C f) (hu : A.units + 1 < cLine)
    (h : wpAny (model prog w) A.in1 (call (.ref f) [.ref x, b]) (fun v s' => ∃ c, v = .bool c ∧ Q (some (.bool (!c))) s') E s) : wpAny (model prog w) A (callSpecialIfBound? (.ref x) "__ne__" [b]) Q E s := by
  have go : wpAny (model prog w) A (call (.builtin "object.__ne__") [.ref x, b]) (fun v => Q (some v)) E s := by
    refine wpAny_call (codeAny_call_builtin FX.slot_object_ne.plain PySem.F.cmpEntry_ne (PySem.W.check_slot PySem.F.cmpKind_ne PySem.F.cmpSplit_ne (I.type.andThen (PySem.W.looks_mroIn X T.ob)) (PySem.F.cmpArgs_ne _ _) ?_))
    have hu1 : A.in1.units < cLine := hu
    unfold Builtin.«object.__ne__»
    repeat (first
      | with_reducible refine wpAny_cRoomFor hu1 ?_
      | (refine wpAny_bind (m := callSpecialIfBound? (.ref x) (Str.ofString "__eq__") [b])
          (PySem.W.ifBound_K X I T.eq T.fn (wpAny_mono h (fun r s' hr => by
            obtain ⟨c, rfl, hq⟩ := hr
            repeat (first | exact hq | exact wpAny_pure hq | exact wpAny_truthy_bool hq | (refine wpAny_bind (m := truthy (.bool _)) (wpAny_truthy_bool ?_)) | wp_step)) fun _ _ e => e)))
      | wp_step)
  simp only [callSpecialIfBound?, bindSpecialIfBound?]
  refine wpAny_holding (wpAny_bind (wpAny_bind (wpAny_bind (I.type.here ((PySem.W.looks_findIn X T.ne).here ?_)))))
  simp only [FX.slot_object_ne.bind]
  refine wpAny_bind (wpAny_askSetting (wpAny_ite ?_))
  have fin : wpAny (model prog w) A (call (.builtin "object.__ne__") ([.ref x] ++ [b]) >>= fun v => pure (some v)) Q E s :=
    wpAny_bind (wpAny_mono go (fun v s' h' => wpAny_pure h') fun _ _ h' => h')
  split
  · exact wpAny_bind (wpAny_pure (wpAny_pure fin))
  · exact wpAny_tryCatch (wpAny_bind (wpAny_pure (wpAny_pure fin)))
theorem try_eq {Q : Value → Shared → Prop} (X : K.In s.heap) (I : InstAt s.heap x ox C od) (T : EqIn K C f)
    (h : wpAny (model prog w) A (call (.ref f) [.ref x, b]) (fun v s' => ∃ c, v = .bool c ∧ Q (.bool c) s') E s) : wpAny (model prog w) A (tryCompare (.ref x) "__eq__" b) (fun r s' => ∃ v, r = some v ∧ Q v s') E s := by
  unfold tryCompare
  refine wpAny_bind (PySem.W.ifBound_K X I T.eq T.fn (wpAny_mono h (fun v s' hv => ?_) fun _ _ e => e))
  obtain ⟨c, rfl, hq⟩ := hv
  exact wpAny_pure ⟨_, rfl, hq⟩
theorem try_ne {Q : Value → Shared → Prop} (X : K.In s.heap) (I : InstAt s.heap x ox C od) (T : EqIn K C f) (hu : A.units + 1 < cLine)
    (h : wpAny (model prog w) A.in1 (call (.ref f) [.ref x, b]) (fun v s' => ∃ c, v = .bool c ∧ Q (.bool (!c)) s') E s) : wpAny (model prog w) A (tryCompare (.ref x) "__ne__" b) (fun r s' => ∃ v, r = some v ∧ Q v s') E s := by
  unfold tryCompare
  refine wpAny_bind (ifBound_ne X I T hu (wpAny_mono h (fun v s' hv => ?_) fun _ _ e => e))
  obtain ⟨c, rfl, hq⟩ := hv
  exact ⟨c, rfl, wpAny_pure ⟨_, rfl, hq⟩⟩
/-- the left one is asked -/
theorem rich_left {op : CmpOp} {nm : Str} {Q : Value → Shared → Prop} (X : K.In s.heap) (hu : A.units < cLine) (ho : (cmpInfo op).2.1 = nm ∧ (cmpInfo op).2.2 = nm) (I : InstAt s.heap x ox C od) (hb : Looks (model prog w) s.heap (typeOf b) tb) (hn : notFirst K C tb = true)
    (h1 : wpAny (model prog w) A (tryCompare (.ref x) nm b) (fun r s' => ∃ v, r = some v ∧ Q v s') E s) : wpAny (model prog w) A (richCompare op (.ref x) b) Q E s := by
  rw [← ho.1] at h1
  unfold richCompare
  simp only [oneThing_ref]
  refine wpAny_holding (wpAny_bind (wpAny_cRoomFor hu ?_))
  refine wpAny_bind (I.type.here (wpAny_bind (hb.here ?_)))
  split
  · rename_i q
    have e : subIn K tb (.ref C) = some false := by
      rcases Bool.or_eq_true_iff.mp hn with e | e
      · rw [beq_iff_eq.mp e] at q; simp at q
      · exact beq_iff_eq.mp e
    refine wpAny_bind ((PySem.W.looks_subIn X e).here ?_)
    simp only [Bool.false_eq_true, if_false]
    refine wpAny_bind (wpAny_mono h1 (fun r s' z => ?_) fun _ _ e => e)
    obtain ⟨v, rfl, hq⟩ := z
    exact wpAny_pure hq
  · refine wpAny_bind (wpAny_pure ?_)
    simp only [Bool.false_eq_true, if_false]
    refine wpAny_bind (wpAny_mono h1 (fun r s' z => ?_) fun _ _ e => e)
    obtain ⟨v, rfl, hq⟩ := z
    exact wpAny_pure hq
/-- the right one is of a subclass: it is asked -/
theorem rich_right {op : CmpOp} {nm : Str} {Q : Value → Shared → Prop} (X : K.In s.heap) (hu : A.units < cLine) (ho : (cmpInfo op).2.1 = nm ∧ (cmpInfo op).2.2 = nm) (I : InstAt s.heap x ox C od) (J : InstAt s.heap y oy D od') (ne : D ≠ C) (hs : mroIn K D (.ref C) = some true)
    (h1 : wpAny (model prog w) A (tryCompare (.ref y) nm (.ref x)) (fun r s' => ∃ v, r = some v ∧ Q v s') E s) : wpAny (model prog w) A (richCompare op (.ref x) (.ref y)) Q E s := by
  rw [← ho.2] at h1
  unfold richCompare
  simp only [oneThing_ref]
  refine wpAny_holding (wpAny_bind (wpAny_cRoomFor hu ?_))
  refine wpAny_bind (I.type.here (wpAny_bind (J.type.here ?_)))
  rw [show (Value.ref C != Value.ref D) = true from by simpa using Ne.symm ne]
  simp only [if_true]
  refine wpAny_bind ((PySem.W.looks_mroIn X hs).here ?_)
  simp only [if_true]
  refine wpAny_bind (wpAny_mono h1 (fun r s' z => ?_) fun _ _ e => e)
  obtain ⟨v, rfl, hq⟩ := z
  exact wpAny_bind (wpAny_rule (wpAny_pure hq))
end
section
variable {X : Cx} {CX : CXT} {k : Nat} {C D f : Addr} {sp : Sp} {E : XK}
theorem run_at {A : Around} {pins : List (Addr × Obj)} {σ : L2.St} {H : Hp} {s : Shared} {us : List Value} {vs : List V} {Q : VK} (F : L2.FnR X.prog X.w X.K X.mg X.base CX k f sp) (hr : Room k A) (hf : A.frames = X.A.frames) (hx : Passes CX X E) (I : L2.Inv X pins σ H s) (r : Vals vs us) (h : sp vs H Q E) :
    wpAny (model X.prog X.w) A (call (.ref f) us) (EP X pins σ Q) X.xe s := by
  have e := I.env0
  have e0 : Env0 X.prog X.w X.K X.mg X.base A X.stack s H := ⟨by rw [hf]; exact e.frames, e.mod, e.bs, e.bsz, e.funs, e.frf, e.hok, e.bare⟩
  refine wpAny_call (codeAny_mono (F A X.stack s H us vs Q E hr e0 r h) fun r s' hq => ?_)
  cases r with
  | error e => exact hx pins σ H s e s' I hq
  | ok fl =>
    cases fl with
    | ret w => exact I.after hq
    | next => exact False.elim hq
    | brk => exact False.elim hq
    | cont => exact False.elim hq
/-- x == y (neg: x != y) of instances of the classes C and D by C's own == -/
def rOwnC (neg : Bool) (C D : Addr) (sp : Sp) (E : XK) : R2 := fun x y H Q => ∃ a b dx fs dy gs, x = .ref a ∧ y = .ref b ∧ H a = some (.ins C dx fs) ∧ H b = some (.ins D dy gs) ∧ sp [.ref a, .ref b] H (fun v H' => ∃ c, v = .bl c ∧ Q (.bl (neg != c)) H') E
/-- .. by D's own ==, D a subclass -/
def rOwnD (neg : Bool) (C D : Addr) (sp : Sp) (E : XK) : R2 := fun x y H Q => ∃ a b dx fs dy gs, x = .ref a ∧ y = .ref b ∧ H a = some (.ins C dx fs) ∧ H b = some (.ins D dy gs) ∧ sp [.ref b, .ref a] H (fun v H' => ∃ c, v = .bl c ∧ Q (.bl (neg != c)) H') E
theorem inst_at {pins : List (Addr × Obj)} {σ : L2.St} {H : Hp} {s : Shared} {a C dx : Addr} {fs : List (Str × V)} (I : L2.Inv X pins σ H s) (h : H a = some (.ins C dx fs)) : ∃ ox od, InstAt s.heap a ox C od := by
  obtain ⟨mA, O, _⟩ := ins_get I.hok h
  obtain ⟨od, J, _⟩ := O.look
  exact ⟨_, _, J⟩
theorem pairV (a b : Addr) : Vals [V.ref a, V.ref b] [Value.ref a, Value.ref b] := .cons rfl (.cons rfl .nil)
theorem op_eqC (T : EqIn X.K C f) (F : L2.FnR X.prog X.w X.K X.mg X.base CX k f sp) (hn : notFirst X.K C (.ref D) = true) (hr : Room (k + 1) X.A) (hx : Passes CX X E) : OpR X (compareOp .Eq) (rOwnC false C D sp E) := by
  intro pins s σ H x y v u Q I rx ry ⟨a, b, dx, fs, dy, gs, ex, ey, ha, hb, h⟩
  subst ex ey
  cases rx
  cases ry
  obtain ⟨ox, od, J⟩ := inst_at I ha
  obtain ⟨oy, od', J'⟩ := inst_at I hb
  show wpAny (model X.prog X.w) X.A (richCompare .Eq (.ref a) (.ref b)) (EP X pins σ Q) X.xe s
  refine rich_left (nm := "__eq__") I.kIn hr.units0 ⟨rfl, rfl⟩ J J'.type hn (try_eq I.kIn J T (thn (run_at F (hr.mono (Nat.le_succ _)) rfl hx I (pairV _ _) h) fun u s1 z => ?_))
  obtain ⟨v, H1, I1, r1, c, rfl, q⟩ := z
  cases r1
  exact ⟨c, rfl, .bl c, H1, I1, rfl, by simpa using q⟩
theorem op_neC (T : EqIn X.K C f) (F : L2.FnR X.prog X.w X.K X.mg X.base CX k f sp) (hn : notFirst X.K C (.ref D) = true) (hr : Room (k + 1) X.A) (hx : Passes CX X E) : OpR X (compareOp .NotEq) (rOwnC true C D sp E) := by
  intro pins s σ H x y v u Q I rx ry ⟨a, b, dx, fs, dy, gs, ex, ey, ha, hb, h⟩
  subst ex ey
  cases rx
  cases ry
  obtain ⟨ox, od, J⟩ := inst_at I ha
  obtain ⟨oy, od', J'⟩ := inst_at I hb
  show wpAny (model X.prog X.w) X.A (richCompare .NotEq (.ref a) (.ref b)) (EP X pins σ Q) X.xe s
  refine rich_left (nm := "__ne__") I.kIn hr.units0 ⟨rfl, rfl⟩ J J'.type hn (try_ne I.kIn J T (hu_of hr) (thn (run_at F hr.in1 rfl hx I (pairV _ _) h) fun u s1 z => ?_))
  obtain ⟨v, H1, I1, r1, c, rfl, q⟩ := z
  cases r1
  exact ⟨c, rfl, .bl (!c), H1, I1, rfl, by simpa using q⟩
theorem op_eqD' (T : EqIn X.K D f) (F : L2.FnR X.prog X.w X.K X.mg X.base CX k f sp) (ne : D ≠ C) (hs : mroIn X.K D (.ref C) = some true) (hr : Room (k + 1) X.A) (hx : Passes CX X E) : OpR X (compareOp .Eq) (rOwnD false C D sp E) := by
  intro pins s σ H x y v u Q I rx ry ⟨a, b, dx, fs, dy, gs, ex, ey, ha, hb, h⟩
  subst ex ey
  cases rx
  cases ry
  obtain ⟨ox, od, J⟩ := inst_at I ha
  obtain ⟨oy, od', J'⟩ := inst_at I hb
  show wpAny (model X.prog X.w) X.A (richCompare .Eq (.ref a) (.ref b)) (EP X pins σ Q) X.xe s
  refine rich_right (nm := "__eq__") I.kIn hr.units0 ⟨rfl, rfl⟩ J J' ne hs (try_eq I.kIn J' T (thn (run_at F (hr.mono (Nat.le_succ _)) rfl hx I (pairV _ _) h) fun u s1 z => ?_))
  obtain ⟨v, H1, I1, r1, c, rfl, q⟩ := z
  cases r1
  exact ⟨c, rfl, .bl c, H1, I1, rfl, by simpa using q⟩
theorem op_neD' (T : EqIn X.K D f) (F : L2.FnR X.prog X.w X.K X.mg X.base CX k f sp) (ne : D ≠ C) (hs : mroIn X.K D (.ref C) = some true) (hr : Room (k + 1) X.A) (hx : Passes CX X E) : OpR X (compareOp .NotEq) (rOwnD true C D sp E) := by
  intro pins s σ H x y v u Q I rx ry ⟨a, b, dx, fs, dy, gs, ex, ey, ha, hb, h⟩
  subst ex ey
  cases rx
  cases ry
  obtain ⟨ox, od, J⟩ := inst_at I ha
  obtain ⟨oy, od', J'⟩ := inst_at I hb
  show wpAny (model X.prog X.w) X.A (richCompare .NotEq (.ref a) (.ref b)) (EP X pins σ Q) X.xe s
  refine rich_right (nm := "__ne__") I.kIn hr.units0 ⟨rfl, rfl⟩ J J' ne hs (try_ne I.kIn J' T (hu_of hr) (thn (run_at F hr.in1 rfl hx I (pairV _ _) h) fun u s1 z => ?_))
  obtain ⟨v, H1, I1, r1, c, rfl, q⟩ := z
  cases r1
  exact ⟨c, rfl, .bl (!c), H1, I1, rfl, by simpa using q⟩
end
end Hw

/-! Walkers of any class: what they keep (b: equal neighbours cancel), where they stand. -/
namespace Hw
open PySem PySem.Spec PyProof.Rows L2 ClX
/-! ### the steps that are kept -/
def kp (b : Bool) (ks : List Nat) (e : Nat) : List Nat := if b = true then pushR ks e else ks ++ [e]
def kps (b : Bool) (k0 ks : List Nat) : List Nat := ks.foldl (kp b) k0
theorem kps_nil (b : Bool) (k0 : List Nat) : kps b k0 [] = k0 := rfl
theorem kps_snoc (b : Bool) (k0 ks : List Nat) (e : Nat) : kps b k0 (ks ++ [e]) = kp b (kps b k0 ks) e := by unfold kps; rw [List.foldl_append]; rfl
theorem kps_app (b : Bool) (k0 ks ls : List Nat) : kps b k0 (ks ++ ls) = kps b (kps b k0 ks) ls := by unfold kps; rw [List.foldl_append]
theorem kps_f (ks : List Nat) : ∀ k0 : List Nat, kps false k0 ks = k0 ++ ks := by
  induction ks with
  | nil => intro k0; rw [kps_nil, List.append_nil]
  | cons e ks ih =>
    intro k0
    show kps false (k0 ++ [e]) ks = _
    rw [ih, List.append_assoc]
    rfl
theorem kps_t (ks : List Nat) : kps true [] ks = redF ks := rfl
theorem kp_len (b : Bool) (ks : List Nat) (e : Nat) : (kp b ks e).length ≤ ks.length + 1 := by
  unfold kp pushR
  split
  · split
    · rw [List.length_dropLast]; omega
    · rw [List.length_append, List.length_singleton]; exact Nat.le_refl _
  · rw [List.length_append, List.length_singleton]; exact Nat.le_refl _
theorem kps_len (b : Bool) (ks : List Nat) : ∀ k0 : List Nat, (kps b k0 ks).length ≤ k0.length + ks.length := by
  induction ks with
  | nil => intro k0; exact Nat.le_refl _
  | cons e ks ih =>
    intro k0
    have h1 := ih (kp b k0 e)
    have h2 := kp_len b k0 e
    show (kps b (kp b k0 e) ks).length ≤ k0.length + (ks.length + 1)
    omega
theorem stpS_twice {n : Nat} {es : List Ed} {s : Sta} {e : Nat} (i : IsS n es.length s) (he : e ∈ drs es s.1) : stpS es (stpS es s e) e = s := by
  have hl := (mem_drs.mp he).1
  have hm := (mem_drs.mp he).2
  refine Prod.ext ?_ (swp_swp (by rw [i.2.2]; omega))
  show oth (es.getD e (0, 0)) (oth (es.getD e (0, 0)) s.1) = s.1
  unfold oth
  rcases List.mem_cons.mp hm with z | z
  · rw [z, if_pos rfl]
    split
    · rename_i q; exact q
    · rfl
  · rw [List.mem_singleton] at z
    by_cases q : s.1 = (es.getD e (0, 0)).1
    · rw [if_pos q]
      split
      · rename_i q2; omega
      · exact q.symm
    · rw [if_neg q, if_pos rfl]
      exact z.symm
theorem wlk_init {es : List Ed} {p : Nat} {ks : List Nat} {e : Nat} (h : Wlk es p (ks ++ [e])) : Wlk es p ks ∧ e ∈ drs es (plcS es p ks) := by
  have := wlk_app.mp h
  exact ⟨this.1, this.2.1⟩
theorem wlk_push {es : List Ed} {p : Nat} {ks : List Nat} {e : Nat} (h : Wlk es p ks) (he : e ∈ drs es (plcS es p ks)) : Wlk es p (ks ++ [e]) := wlk_app.mpr ⟨h, he, trivial⟩
/-- one more step: a walk again, to the state after it -/
theorem kp_walk {n : Nat} {es : List Ed} {s : Sta} (ve : VE n es) (is : IsS n es.length s) (b : Bool) {ks : List Nat} {e : Nat} (w : Wlk es s.1 ks) (he : e ∈ drs es (plcS es s.1 ks)) : Wlk es s.1 (kp b ks e) ∧ runS es s (kp b ks e) = stpS es (runS es s ks) e := by
  cases b with
  | false => exact ⟨wlk_push w he, runS_snoc _ _ _ _⟩
  | true =>
    show Wlk es s.1 (pushR ks e) ∧ runS es s (pushR ks e) = _
    unfold pushR
    split
    · rename_i hl
      have hne : ks ≠ [] := fun z => by rw [z] at hl; simp at hl
      have q := List.dropLast_concat_getLast hne
      rw [List.getLast?_eq_some_getLast hne] at hl
      rw [Option.some.inj hl] at q
      generalize ks.dropLast = st at *
      rw [← q] at w he ⊢
      obtain ⟨w1, w2⟩ := wlk_init w
      refine ⟨w1, ?_⟩
      rw [runS_snoc]
      have is2 := runS_is ve is w1
      rw [← runS_fst] at w2
      exact (stpS_twice is2 w2).symm
    · exact ⟨wlk_push w he, runS_snoc _ _ _ _⟩
theorem kps_walk {n : Nat} {es : List Ed} {s : Sta} (ve : VE n es) (is : IsS n es.length s) (b : Bool) : ∀ {ks k0 : List Nat}, Wlk es s.1 k0 → Wlk es (plcS es s.1 k0) ks → Wlk es s.1 (kps b k0 ks) ∧ runS es s (kps b k0 ks) = runS es (runS es s k0) ks
  | [], k0, w, _ => ⟨w, rfl⟩
  | e :: ks, k0, w, h => by
    obtain ⟨w1, r1⟩ := kp_walk ve is b w h.1
    have e1 : plcS es s.1 (kp b k0 e) = oth (es.getD e (0, 0)) (plcS es s.1 k0) := by
      rw [← runS_fst, r1]
      show oth (es.getD e (0, 0)) (runS es s k0).1 = _
      rw [runS_fst]
    obtain ⟨w2, r2⟩ := kps_walk ve is b (ks := ks) (k0 := kp b k0 e) w1 (by rw [e1]; exact h.2)
    exact ⟨w2, by rw [show kps b k0 (e :: ks) = kps b (kp b k0 e) ks from rfl, r2, r1]; rfl⟩
theorem kps_plc {n : Nat} {es : List Ed} {s : Sta} (ve : VE n es) (is : IsS n es.length s) (b : Bool) {ks k0 : List Nat} (w : Wlk es s.1 k0) (h : Wlk es (plcS es s.1 k0) ks) : plcS es s.1 (kps b k0 ks) = plcS es (plcS es s.1 k0) ks := by
  rw [← runS_fst, (kps_walk ve is b w h).2, runS_fst, runS_fst]
/-! ### where a walker stands -/
abbrev wFields : List Str := ["_network", "_state", "_steps", "_thing", "_position", "_arrivals"]
def NoX (fs : List (Str × V)) : Prop := ∀ m : Str, m ∉ wFields → fs.lookup m = none
theorem noX_nil : NoX [] := fun _ _ => rfl
theorem noX_put {f : Str} {v : V} {fs : List (Str × V)} (hf : f ∈ wFields) (n : NoX fs) : NoX (putF f v fs) := fun m hm => by
  have ne : ¬ m = f := fun z => hm (by rw [z]; exact hf)
  rw [lookup_putF, if_neg ne]
  exact n m hm
theorem in_ne : ("_network" : Str) ∈ wFields := by decide +kernel
theorem in_st : ("_state" : Str) ∈ wFields := by decide +kernel
theorem in_sp : ("_steps" : Str) ∈ wFields := by decide +kernel
/-- what else stands in the fields (m: the number of passages) -/
abbrev Xtr := Nat → List (Str × V) → Prop
structure XtrOk (Ex : Xtr) : Prop where
  ne : ∀ {m fs v}, Ex m fs → Ex m (putF "_network" v fs)
  st : ∀ {m fs v}, Ex m fs → Ex m (putF "_state" v fs)
  sp : ∀ {m fs v}, Ex m fs → Ex m (putF "_steps" v fs)
def ExN : Xtr := fun _ _ => True
theorem exN_ok : XtrOk ExN := ⟨fun _ => trivial, fun _ => trivial, fun _ => trivial⟩
def WkO (CX C : Addr) (Ex : Xtr) (H : Hp) (x : Addr) (n : Nat) (es : List Ed) (ks : List Nat) : Prop := ∃ (dx : Addr) (fs : List (Str × V)) (y s t : Addr), H x = some (.ins CX dx fs) ∧ fs.lookup ("_network" : Str) = some (.ref y) ∧ fs.lookup ("_state" : Str) = some (.ref s) ∧ fs.lookup ("_steps" : Str) = some (.ref t) ∧
  NoX fs ∧ fs.length ≤ 10 ∧ NetAt5 C H y n es ∧ StT H s (runS es (st0 es) ks) ∧ Tp H t ks ∧ y ≠ x ∧ Ex es.length fs
theorem WkO.same {CX C : Addr} {Ex : Xtr} {H H' : Hp} {x : Addr} {n : Nat} {es : List Ed} {ks : List Nat} (h : WkO CX C Ex H x n es ks) (z : Same H H') : WkO CX C Ex H' x n es ks := by
  obtain ⟨dx, fs, y, s, t, h1, h2, h3, h4, h5, h6, h7, h8, h9, h0, h10⟩ := h
  exact ⟨dx, fs, y, s, t, z _ _ h1, h2, h3, h4, h5, h6, h7.same z, h8.same z, z _ _ h9, h0, h10⟩
/-- the class of such a walker -/
structure OwnC (K : PySem.W.Frag) (CX : Addr) : Prop where
  cl : Cls K CX
  n1 : NoAttr K CX "_network"
  n2 : NoAttr K CX "_state"
  n3 : NoAttr K CX "_steps"
/-- all of these are states -/
def AllSt (H : Hp) (m : Nat) (ys : List V) : Prop := ∀ v ∈ ys, ∃ t s, v = V.ref t ∧ StT H t s ∧ s.2.length = m + 1
theorem AllSt.same {H H' : Hp} {m : Nat} {ys : List V} (h : AllSt H m ys) (z : Same H H') : AllSt H' m ys := fun v hv => let ⟨t, s, e, a, l⟩ := h v hv; ⟨t, s, e, a.same z, l⟩
theorem AllSt.kx {CL x dx : Addr} {fs : List (Str × V)} {H H' : Hp} {m : Nat} {ys : List V} (h : AllSt H m ys) (k : Kx x H H') (hx : H x = some (.ins CL dx fs)) : AllSt H' m ys := fun v hv => let ⟨t, s, e, a, l⟩ := h v hv; ⟨t, s, e, a.kx k hx, l⟩
theorem AllSt.snoc {H : Hp} {m : Nat} {ys : List V} {t : Addr} {s : Sta} (h : AllSt H m ys) (a : StT H t s) (l : s.2.length = m + 1) : AllSt H m (ys ++ [V.ref t]) := fun v hv => by
  rcases List.mem_append.mp hv with z | z
  · exact h v z
  · rw [List.mem_singleton] at z
    exact ⟨t, s, z, a, l⟩
/-- a def of a class, at f -/
structure FunB (K : PySem.W.Frag) (m qual : Str) (st : Stmt) (ps : List Str) (f : Addr) : Prop where
  ex : ∃ fd : FuncData, Fun K m qual st f fd ∧ L2.Binds K fd ps []
section
variable {P : Program} {w : World} {K : PySem.W.Frag} {mg : Str → Option Value} {base : Heap}
theorem mc_mk {CX : CXT} {C f : Addr} {m : Str} {j k : Nat} {sp : Sp} (M : Meth K C m f) (F : L2.FnR P w K mg base CX j f sp) (h : j ≤ k := by decide) : MC P w K mg base CX C m k sp := ⟨f, M, F.mono h⟩
/-! ### _kept_after -/
def spKeptB (CX : Addr) (b : Bool) : Sp := fun vs H Q _ => ∃ (x q : Addr) (ks : List Nat) (e : Nat) (dx : Addr) (fs : List (Str × V)), vs = [.ref x, .ref q, .int (e : Int)] ∧ H x = some (.ins CX dx fs) ∧ Tp H q ks ∧ ks.length ≤ 1000 ∧ ∀ H' r, Same H H' → Tp H' r (kp b ks e) → Q (.ref r) H'
theorem fr_kept {CX f : Addr} (F : FunB K "_kept_after" "Walker._kept_after" sWkKept ["self", "kept", "step"] f) : L2.FnR P w K mg base CX0 1 f (spKeptB CX false) := by
  obtain ⟨fd, F, bd⟩ := F.ex
  refine raw0 (F.ok scKept (fun vs H Q E h => ?_) (fun cdv A outer s0 H vs Q E hr h => ?_)) bd
  · obtain ⟨x, q, ks, e, dx, fs, rfl, _⟩ := h
    rfl
  · obtain ⟨x, q, ks, e, dx, fs, rfl, hx, hq, hl, q0⟩ := h
    refine ⟨_, pss_one (ps_ret (pe_op op_catA (pv 1) (pe_tup (pa_cons (pv 2) pa_nil)))), ?_⟩
    refine ⟨_, rfl, _, rfl, by show 1 ≤ sizeLine; decide, fun p np => ?_⟩
    have s1 := same_upd (o := .tup [V.int (e : Int)]) np
    have hp1 : upd H p (.tup [V.int (e : Int)]) p = some (.tup [V.int (e : Int)]) := upd_same
    generalize upd H p (.tup [V.int (e : Int)]) = H1 at *
    refine ⟨q, p, _, _, rfl, rfl, sq_of (s1 _ _ hq), sq_of hp1, ?_, fun z => ?_, fun _ z => (nomatch z), fun _ _ r nr => ?_⟩
    · rw [NV_len]
      show ks.length + 1 ≤ sizeLine
      have : sizeLine = 16777216 := by decide
      omega
    · refine q0 _ p s1 ?_
      have : ks = [] := by
        cases ks with
        | nil => rfl
        | cons a l => cases z
      rw [this]
      exact hp1
    · refine q0 _ r (s1.trans (same_upd nr)) ?_
      show upd H1 r _ r = _
      rw [upd_same]
      show some (HO.tup (NV ks ++ [V.int (e : Int)])) = some (HO.tup (NV (ks ++ [e])))
      rw [NV_snoc]
/-! ### _ahead -/
def spAheadX (CX C : Addr) (Ex : Xtr) (b : Bool) : Sp := fun vs H Q _ => ∃ (x p : Addr) (n : Nat) (es : List Ed) (k0 ks : List Nat), vs = [.ref x, .ref p] ∧ WkO CX C Ex H x n es k0 ∧ Tp H p ks ∧ CN n es ∧ es.length ≤ 16 ∧ Wlk es 0 k0 ∧ Wlk es (plcS es 0 k0) ks ∧ k0.length + ks.length ≤ 1000 ∧
  ∀ H' r l q ys t, Same H H' → H' r = some (.tup [.ref l, .ref q]) → H' l = some (.lst ys) → AllSt H' es.length ys → ys.length = ks.length + 1 → ys[ys.length - 1]? = some (.ref t) → StT H' t (runS es (st0 es) (kps b k0 ks)) → Tp H' q (kps b k0 ks) → Q (.ref r) H'
theorem fr_ahead {CW CX C f : Addr} {Ex : Xtr} {b : Bool} {mcW : Value} (T : Txt mg) (W : WkC K mg CW mcW) (O : OwnC K CX) (M : MvS P w K mg base C) (GK : MC P w K mg base CX0 CX "_kept_after" 2 (spKeptB CX b)) (F : FunB K "_ahead" "Walker._ahead" sWkAhead ["self", "steps"] f) : L2.FnR P w K mg base CX0 5 f (spAheadX CX C Ex b) := by
  have nd := scAh.nd
  obtain ⟨fd, F, bd⟩ := F.ex
  refine raw0 (F.ok scAh (fun vs H Q E h => ?_) (fun cdv A outer s0 H vs Q E hr h => ?_)) bd
  · obtain ⟨x, p, n, es, k0, ks, rfl, _⟩ := h
    rfl
  · obtain ⟨x, p, n, es, k0, ks, rfl, wk, hp, cn, hl, w0, wl, hk, q0⟩ := h
    have hr2 := hr.mono (show 2 ≤ 4 by decide)
    have hr3 := hr.mono (show 3 ≤ 4 by decide)
    obtain ⟨um, vm⟩ := W.mx
    have st0i := st0_is n es cn.1
    refine ⟨_, pss_cons (ps_set (i := 2) nd rfl (.inl rfl) (pe_lst (pa_cons (pe_fld (pv 0) rfl) pa_nil)))
      <| pss_cons (ps_set (i := 3) nd rfl (.inl rfl) (pe_fld (pv 0) rfl))
      <| pss_cons (ps_for PassesOwn.never rfl (pi_enumT (by rfl) T.enumerate (pa_cons (pv 1) pa_nil)) (pg_tup rfl (pgs_cons (pg_name (i := 4) nd rfl (.inl rfl)) (pgs_cons (pg_name (i := 5) nd rfl (.inl rfl)) pgs_nil)))
          (pss_cons (ps_if (pt_not (pt_val (pe_cl M.iss hr3 (by rfl) (pa_cons (pe_fld (pv 0) rfl) (pa_cons (pe_ix (r := rIxT K) ix_tup (pe_ix (r := rIxL K) ix_list (pv 2) (pe_un un_neg pe_int) (fun _ _ => rfl)) pe_int (fun _ _ => rfl)) (pa_cons (pv 5) pa_nil)))))) (pss_one ps_never) pss_nil)
          <| pss_cons (ps_set (i := 3) nd rfl (.inl rfl) (pe_m GK O.cl hr2 (pv 0) (pa_cons (pv 3) (pa_cons (pv 5) pa_nil))))
          <| pss_cons (ps_if (pt_cmpR op_gt (pe_callB cr_len (by rfl) T.len PySem.boot_len (pa_cons (pv 3) pa_nil)) (pe_cval (pe_glob (by rfl) W.gC (v := .ref CW) rfl)) (nomark _)) (pss_one ps_never) pss_nil)
          <| pss_one (ps_expr (pe_bm PySem.F.plainAttrs_list PySem.F.slot_list_append PySem.F.type_list_append mt_append (pv 2) (pa_cons (pe_cl M.afs hr (by rfl) (pa_cons (pe_fld (pv 0) rfl) (pa_cons (pe_ix (r := rIxL K) ix_list (pv 2) (pe_un un_neg pe_int) (fun _ _ => rfl)) (pa_cons (pv 5) pa_nil)))) pa_nil)))))
      <| pss_one (ps_ret (pe_tup (pa_cons (pv 2) (pa_cons (pv 3) pa_nil)))), ?_⟩
    obtain ⟨dx, fs, y, s, t, h1, h2, h3, h4, h5, h6, h7, h8, h9, h0, hx0⟩ := id wk
    have is0 : IsS n es.length (runS es (st0 es) k0) := runS_is cn.2.1 st0i w0
    refine ⟨_, rfl, x, CX, dx, fs, _, rfl, h1, O.cl, O.n2, h3, by show 1 ≤ sizeLine; decide, fun l nl => ?_⟩
    have s1 := same_upd (o := .lst [V.ref s]) nl
    have hl1 : upd H l (.lst [V.ref s]) l = some (.lst [V.ref s]) := upd_same
    generalize upd H l (.lst [V.ref s]) = H1 at *
    refine ⟨_, rfl, x, CX, dx, fs, _, rfl, s1 _ _ h1, O.cl, O.n3, h4, ?_⟩
    refine ⟨_, rfl, p, NV ks, rfl, sq_of (s1 _ _ hp), for_it (walk_enumT (xs := NV ks)) (fun i σ H' => ∃ ys u q v4 v5, σ = [some (.ref x), some (.ref p), some (.ref l), some (.ref q), v4, v5] ∧ Same H H' ∧ H' l = some (.lst ys) ∧ ys.length = i + 1 ∧ ys[i]? = some (.ref u) ∧ AllSt H' es.length ys ∧ StT H' u (runS es (st0 es) (kps b k0 (ks.take i))) ∧ Tp H' q (kps b k0 (ks.take i)))
      ⟨[V.ref s], s, t, _, _, rfl, s1, hl1, rfl, rfl, (fun v hv => by rw [List.mem_singleton] at hv; exact ⟨s, _, hv, h8.same s1, is0.2.2⟩), by rw [List.take_zero]; exact h8.same s1, by rw [List.take_zero]; exact s1 _ _ h9⟩ (fun i σ H' _ ⟨_, _, _, _, _, _, sm, _⟩ => sq_of (sm _ _ hp)) ?_ ?_⟩
    · rintro i z σ H2 H3 hi ⟨ys, u, q, v4, v5, rfl, sm, hL, yl, yu, ya, hu, hq⟩ ⟨T1, a1, b1, rfl, nT, rfl, ea, eb⟩
      obtain rfl := (Option.some.inj ea).symm
      obtain ⟨e, he, rfl⟩ := NV_get' eb
      have il : i < ks.length := (List.getElem?_eq_some_iff.mp he).1
      have sT := same_upd (o := .tup [V.int ((i : Nat) : Int), V.int ((e : Nat) : Int)]) nT
      have hT : upd H2 T1 (.tup [V.int ((i : Nat) : Int), V.int ((e : Nat) : Int)]) T1 = some (.tup [V.int ((i : Nat) : Int), V.int ((e : Nat) : Int)]) := upd_same
      have sm3 := sm.trans sT
      have hL3 := sT _ _ hL
      have hu3 := hu.same sT
      have hq3 := sT _ _ hq
      have ya3 := ya.same sT
      generalize upd H2 T1 (.tup [V.int ((i : Nat) : Int), V.int ((e : Nat) : Int)]) = H3 at *
      refine ⟨T1, _, rfl, sq_of hT, rfl, _, _, rfl, _, _, rfl, rfl, ?_⟩
      have wt : Wlk es (plcS es 0 k0) (ks.take i) := by
        have := wl
        rw [← List.take_append_drop i ks, wlk_app] at this
        exact this.1
      obtain ⟨wi, ri⟩ := kps_walk cn.2.1 st0i b (k0 := k0) (ks := ks.take i) w0 wt
      have hd0 := wlk_get wl he
      have hd : e ∈ drs es (plcS es 0 (kps b k0 (ks.take i))) := by
        rw [show (0 : Nat) = (st0 es).1 from rfl, kps_plc cn.2.1 st0i b w0 wt]
        exact hd0
      have is2 : IsS n es.length (runS es (st0 es) (kps b k0 (ks.take i))) := runS_is cn.2.1 st0i wi
      have hd2 : e ∈ drs es (runS es (st0 es) (kps b k0 (ks.take i))).1 := by rw [runS_fst]; exact hd
      have lk : (kps b k0 (ks.take i)).length ≤ k0.length + i := by
        have := kps_len b (ks.take i) k0
        rw [List.length_take] at this
        omega
      have kp1 : kps b k0 (ks.take (i + 1)) = kp b (kps b k0 (ks.take i)) e := by
        rw [List.take_add_one, he]
        exact kps_snoc _ _ _ _
      have run1 : runS es (st0 es) (kps b k0 (ks.take (i + 1))) = stpS es (runS es (st0 es) (kps b k0 (ks.take i))) e := by
        rw [kp1]
        exact (kp_walk cn.2.1 st0i b wi hd).2
      have lk1 : (kps b k0 (ks.take (i + 1))).length ≤ 1000 := by
        have := kps_len b (ks.take (i + 1)) k0
        rw [List.length_take] at this
        omega
      obtain ⟨q2, hu4, _⟩ := id hu3
      have yl' : ys[ys.length - 1]? = some (V.ref u) := by rw [yl]; exact yu
      refine ⟨_, rfl, x, CX, dx, fs, _, rfl, sm3 _ _ h1, O.cl, O.n1, h2, _, rfl, _, rfl, l, _, _, _, rfl, rfl, sl_of hL3, at_last yl', u, _, _, _, rfl, rfl, sq_of hu4, rfl, _, rfl, y, n, es, _, e, rfl, h7.same sm3, hd2, hl, ?_⟩
      refine ⟨_, rfl, iteF ?_⟩
      refine ⟨_, rfl, x, dx, fs, rfl, sm3 _ _ h1, h5 _ (by decide +kernel), _, rfl, _, rfl, x, q, _, e, dx, fs, rfl, sm3 _ _ h1, hq3, by omega, fun H4 r s4 hr4 => ?_⟩
      have sm4 := sm3.trans s4
      rw [← kp1] at hr4
      refine ⟨_, rfl, r, _, rfl, .inr (sq_of hr4), CW, mcW, _, _, rfl, W.rd, vm, _, _, rfl, rfl, _, rfl, ?_⟩
      rw [NV_len, show decide (((1000 : Int) < ((kps b k0 (ks.take (i + 1))).length : Int))) = false from decide_eq_false (by omega)]
      refine iteF ?_
      have hL4 := s4 _ _ hL3
      refine ⟨_, rfl, .inl ⟨rfl, _, sl_of hL4⟩, _, rfl, x, CX, dx, fs, _, rfl, sm4 _ _ h1, O.cl, O.n1, h2, _, rfl, _, rfl, l, _, _, _, rfl, rfl, sl_of hL4, at_last yl', _, rfl, y, u, n, es, _, e, rfl, h7.same sm4, hu3.same s4, is2, hd2, hl, fun H5 v s5 nv hv5 => ?_⟩
      have hL5 := s5 _ _ hL4
      refine ⟨l, _, _, rfl, rfl, hL5, by
        rw [yl]
        have : sizeLine = 16777216 := by decide
        omega, ?_⟩
      have sm5 := sm4.trans s5
      have tl : ∀ {b : Addr} {xs : List V}, H5 b = some (.tup xs) → upd H5 l (.lst (ys ++ [V.ref v])) b = some (.tup xs) := fun hb => Kx.upd l H5 _ _ _ (ne_of hb hL5 (by intro z; cases z)) hb
      have tS : ∀ {t : Addr} {s : Sta}, StT H5 t s → StT (upd H5 l (.lst (ys ++ [V.ref v]))) t s := fun ⟨q, g1, g2⟩ => ⟨q, tl g1, tl g2⟩
      have is3 : IsS n es.length (stpS es (runS es (st0 es) (kps b k0 (ks.take i))) e) := stpS_is cn.2.1 is2 hd2
      refine ⟨ys ++ [V.ref v], v, r, _, _, rfl, same_in sm5 nl, upd_same, by rw [List.length_append, List.length_singleton, yl], by rw [List.getElem?_append_right (by omega), yl, Nat.sub_self]; rfl, ?_, ?_, tl (s5 _ _ hr4)⟩
      · exact AllSt.snoc (fun v' hv' => let ⟨t', s', e', a', l'⟩ := ((ya3.same s4).same s5) v' hv'; ⟨t', s', e', tS a', l'⟩) (tS hv5) is3.2.2
      · rw [run1]
        exact tS hv5
    · rintro σ H2 ⟨ys, u, q, v4, v5, rfl, sm, hL, yl, yu, ya, hu, hq⟩
      rw [NV_len] at yl yu
      rw [NV_len, List.take_length] at hu hq
      refine ⟨_, rfl, _, rfl, by show 2 ≤ sizeLine; decide, fun r nr => ?_⟩
      have s3 := same_upd (o := .tup [V.ref l, .ref q]) nr
      exact q0 _ r l q ys u (sm.trans s3) upd_same (s3 _ _ hL) (ya.same s3) yl (by rw [yl]; exact yu) (hu.same s3) (s3 _ _ hq)
end
end Hw

namespace Hw
open PySem PySem.Spec PyProof.Rows L2 ClX
section
variable {P : Program} {w : World} {K : PySem.W.Frag} {mg : Str → Option Value} {base : Heap}
/-! ### _go -/
def spGoX (CX C : Addr) (Ex : Xtr) : Sp := fun vs H Q _ => ∃ (x l q : Addr) (n : Nat) (es : List Ed) (k0 ks : List Nat) (ys : List V) (t : Addr), vs = [.ref x, .ref l, .ref q] ∧ WkO CX C Ex H x n es k0 ∧ H l = some (.lst ys) ∧ AllSt H es.length ys ∧ ys.length ≤ 1001 ∧ ys[ys.length - 1]? = some (.ref t) ∧ StT H t (runS es (st0 es) ks) ∧ Tp H q ks ∧
  ∀ H', Kx x H H' → WkO CX C Ex H' x n es ks → Q .non H'
theorem fr_go {CX C f : Addr} {Ex : Xtr} (O : OwnC K CX) (XO : XtrOk Ex) (F : FunB K "_go" "Walker._go" sWkGo ["self", "passed", "kept"] f) : L2.FnR P w K mg base CX0 1 f (spGoX CX C Ex) := by
  obtain ⟨fd, F, bd⟩ := F.ex
  refine raw0 (F.ok scGo (fun vs H Q E h => ?_) (fun cdv A outer s0 H vs Q E hr h => ?_)) bd
  · obtain ⟨x, l, q, n, es, k0, ks, ys, t, rfl, _⟩ := h
    rfl
  · obtain ⟨x, l, q, n, es, k0, ks, ys, t, rfl, wk, hL, ya, yz, yl, ht, hq, q0⟩ := h
    refine ⟨_, pss_cons (ps_fld (pv 0) (pe_ix (r := rIxL K) ix_list (pv 1) (pe_un un_neg pe_int) (fun _ _ => rfl)) rfl)
      <| pss_one (ps_fld (pv 0) (pv 2) rfl), ?_⟩
    obtain ⟨dx, fs, y, s, t0, h1, h2, h3, h4, h5, h6, h7, h8, h9, h0, hx0⟩ := id wk
    refine ⟨_, rfl, _, rfl, l, _, _, _, rfl, rfl, sl_of hL, at_last yl, _, rfl, x, CX, dx, _, rfl, h1, O.cl, O.n2, by omega, ?_⟩
    have k1 := Kx.upd x H (.ins CX dx (putF "_state" (.ref t) fs))
    have l1 := len_putF_old (v := .ref t) h3
    have p1 := lk_put0' (f := "_state") (v := .ref t) (fs := fs)
    have p2 := (lk_put' (f := "_state") (g := "_network") (v := .ref t) (fs := fs) f_w.1).trans h2
    have p3 := (lk_put' (f := "_state") (g := "_steps") (v := .ref t) (fs := fs) f_w.2.2.2).trans h4
    have m1 := noX_put (v := .ref t) in_st h5
    have x1 := XO.st (v := .ref t) hx0
    have hx1 : upd H x (.ins CX dx (putF "_state" (.ref t) fs)) x = some (.ins CX dx (putF "_state" (.ref t) fs)) := upd_same
    have ht1 := ht.kx k1 h1
    have hq1 := k1.tup h1 hq
    have n1 := h7.kx k1 h1 h0
    generalize putF "_state" (.ref t) fs = f1 at *
    generalize upd H x (.ins CX dx f1) = H1 at *
    refine ⟨_, rfl, _, rfl, x, CX, dx, _, rfl, hx1, O.cl, O.n3, by omega, ?_⟩
    have k2 := Kx.upd x H1 (.ins CX dx (putF "_steps" (.ref q) f1))
    have l2 := len_putF_old (v := .ref q) p3
    refine q0 _ (k1.trans k2) ⟨dx, _, y, t, q, upd_same, (lk_put' (f := "_steps") (g := "_network") (v := .ref q) (fs := f1) f_w.2.1).trans p2, (lk_put' (f := "_steps") (g := "_state") (v := .ref q) (fs := f1) f_w.2.2.1).trans p1, lk_put0', noX_put (v := .ref q) in_sp m1, by omega, n1.kx k2 hx1 h0, ht1.kx k2 hx1, k2.tup hx1 hq1, h0, XO.sp x1⟩
/-! ### walk -/
def spWalkX0 (CX C : Addr) (Ex : Xtr) (b : Bool) : Sp := fun vs H Q _ => ∃ (x p : Addr) (n : Nat) (es : List Ed) (k0 ks : List Nat), vs = [.ref x, .ref p] ∧ WkO CX C Ex H x n es k0 ∧ Tp H p ks ∧ CN n es ∧ es.length ≤ 16 ∧ Wlk es 0 k0 ∧ Wlk es (plcS es 0 k0) ks ∧ k0.length + ks.length ≤ 1000 ∧
  ∀ H', Kx x H H' → WkO CX C Ex H' x n es (kps b k0 ks) → Q .non H'
def spWalkX (CX C : Addr) (Ex : Xtr) (b : Bool) : Sp := fun vs H Q _ => ∃ (x : Addr) (n : Nat) (es : List Ed) (k0 ks : List Nat), vs = .ref x :: NV ks ∧ WkO CX C Ex H x n es k0 ∧ CN n es ∧ es.length ≤ 16 ∧ Wlk es 0 k0 ∧ Wlk es (plcS es 0 k0) ks ∧ k0.length + ks.length ≤ 1000 ∧
  ∀ H', Kx x H H' → WkO CX C Ex H' x n es (kps b k0 ks) → Q .non H'
/-- what the star parameter makes of it -/
theorem walk_star {CX C : Addr} {Ex : Xtr} {b : Bool} {vs : List V} {H : Hp} {Q : VK} {E : XK} (h : spWalkX CX C Ex b vs H Q E) :
    ∃ ws rest, vs = ws ++ rest ∧ ws.length = (["self"] : List Str).length ∧ rest.length ≤ sizeLine ∧ ∀ p, H p = Option.none → spWalkX0 CX C Ex b (ws ++ [V.ref p]) (upd H p (.tup rest)) Q E := by
  obtain ⟨x, n, es, k0, ks, rfl, wk, cn, hl, w0, wl, hk, q⟩ := h
  refine ⟨[.ref x], NV ks, rfl, rfl, ?_, fun p np => ?_⟩
  · rw [NV_len]
    have : sizeLine = 16777216 := by decide
    omega
  have z := same_upd (o := .tup (NV ks)) np
  exact ⟨x, p, n, es, k0, ks, rfl, wk.same z, upd_same, cn, hl, w0, wl, hk, fun H' k => q H' ((Kx.of z).trans k)⟩
theorem fr_walk {CX C f : Addr} {fd : FuncData} {Ex : Xtr} {b : Bool} (O : OwnC K CX) (GA : MC P w K mg base CX0 CX "_ahead" 5 (spAheadX CX C Ex b)) (GG : MC P w K mg base CX0 CX "_go" 2 (spGoX CX C Ex)) (F : Fun K "walk" "Walker.walk" sWkWalk f fd) : L2.FnR P w K mg base CX0 6 f (spWalkX CX C Ex b) := by
  obtain ⟨oc, od, kV, doc, pm, an, cdv, ct, osl, rfl, lk, hcd⟩ := F.ex
  have nd := scWk.nd
  have R := StX.fn_star (P := P) (w := w) (K := K) (mg := mg) (base := base) (CX := CX0) (k := 5) (ps := ["self"]) (pv := "steps") (sp := spWalkX0 CX C Ex b) lk hcd scWk StX.cxUp_none
    (StX.bind_star1 (B := fun l => bindArgs (PySem.W.fnOf "walk" "Walker.walk" (defArgs sWkWalk) (defBody sWkWalk) (defScope sWkWalk) .none kV doc pm an cdv ct) ⟨l, []⟩) (p1 := "self") (pv := "steps") (fun a => rfl) (fun a r rs => by kernel_rfl))
    (fun A outer s0 H vs Q E hr h => ?_)
  · exact R.imp fun vs H Q E h => walk_star h
  · obtain ⟨x, p, n, es, k0, ks, rfl, wk, hp, cn, hl, w0, wl, hk, q⟩ := h
    have hr2 := hr.mono (show 2 ≤ 5 by decide)
    refine ⟨_, pss_cons (ps_asg (pe_m GA O.cl hr (pv 0) (pa_cons (pv 1) pa_nil)) (pg_tup rfl (pgs_cons (pg_name (i := 2) nd rfl (.inl rfl)) (pgs_cons (pg_name (i := 3) nd rfl (.inl rfl)) pgs_nil))))
      <| pss_one (ps_expr (pe_m GG O.cl hr2 (pv 0) (pa_cons (pv 2) (pa_cons (pv 3) pa_nil)))), ?_⟩
    obtain ⟨dx, fs, y, s, t0, h1, h2, h3, h4, h5, h6, h7, h8, h9, h0, hx0⟩ := id wk
    refine ⟨_, rfl, x, dx, fs, rfl, h1, h5 _ (by decide +kernel), _, rfl, x, p, n, es, k0, ks, rfl, wk, hp, cn, hl, w0, wl, hk, fun H1 r l u ys t s1 hr' hL ya yz yl ht hu => ?_⟩
    refine ⟨r, _, rfl, sq_of hr', rfl, _, _, rfl, _, _, rfl, rfl, ?_⟩
    exact ⟨_, rfl, x, dx, fs, rfl, s1 _ _ h1, h5 _ (by decide +kernel), _, rfl, _, rfl, x, l, u, n, es, k0, _, ys, t, rfl, wk.same s1, hL, ya, by omega, yl, ht, hu, fun H' k' w' => q H' ((Kx.of s1).trans k') w'⟩
/-! ### __init__ -/
def spWiX0 (CX C : Addr) (Ex : Xtr) (b : Bool) : Sp := fun vs H Q _ => ∃ (x y p dx : Addr) (f0 : List (Str × V)) (n : Nat) (es : List Ed) (ks : List Nat), vs = [.ref x, .ref y, .ref p] ∧ H x = some (.ins CX dx f0) ∧ NoX f0 ∧ f0.length ≤ 5 ∧ Ex es.length f0 ∧ NetAt5 C H y n es ∧ NetX C H y n es ∧ y ≠ x ∧ Tp H p ks ∧ CN n es ∧ es.length ≤ 16 ∧ Wlk es 0 ks ∧ ks.length ≤ 1000 ∧
  ∀ H', Kx x H H' → WkO CX C Ex H' x n es (kps b [] ks) → Q .non H'
def spWiX (CX C : Addr) (Ex : Xtr) (b : Bool) : Sp := fun vs H Q _ => ∃ (x y dx : Addr) (f0 : List (Str × V)) (n : Nat) (es : List Ed) (ks : List Nat), vs = .ref x :: .ref y :: NV ks ∧ H x = some (.ins CX dx f0) ∧ NoX f0 ∧ f0.length ≤ 5 ∧ Ex es.length f0 ∧ NetAt5 C H y n es ∧ NetX C H y n es ∧ y ≠ x ∧ CN n es ∧ es.length ≤ 16 ∧ Wlk es 0 ks ∧ ks.length ≤ 1000 ∧
  ∀ H', Kx x H H' → WkO CX C Ex H' x n es (kps b [] ks) → Q .non H'
theorem fr_init {CW CX C f : Addr} {fd : FuncData} {Ex : Xtr} {b : Bool} {mcW : Value} (T : Txt mg) (W : WkC K mg CW mcW) (O : OwnC K CX) (XO : XtrOk Ex) (cl : Cls K C) (GS : PrG P w K mg base C "start" "_start") (GW : MS P w K mg base CX "walk" 7 (spWalkX CX C Ex b)) (F : Fun K "__init__" "Walker.__init__" sWkInit f fd) : L2.FnR P w K mg base CX0 8 f (spWiX CX C Ex b) := by
  obtain ⟨oc, od, kV, doc, pm, an, cdv, ct, osl, rfl, lk, hcd⟩ := F.ex
  have nd := scWi.nd
  have R := StX.fn_star (P := P) (w := w) (K := K) (mg := mg) (base := base) (CX := CX0) (k := 7) (ps := ["self", "network"]) (pv := "steps") (sp := spWiX0 CX C Ex b) lk hcd scWi StX.cxUp_none
    (StX.bind_star2 (B := fun l => bindArgs (PySem.W.fnOf "__init__" "Walker.__init__" (defArgs sWkInit) (defBody sWkInit) (defScope sWkInit) .none kV doc pm an cdv ct) ⟨l, []⟩) (p1 := "self") (p2 := "network") (pv := "steps") (fun a b => rfl) (fun a b r rs => by kernel_rfl))
    (fun A outer s0 H vs Q E hr h => ?_)
  · refine R.imp ?_
    rintro vs H Q E ⟨x, y, dx, f0, n, es, ks, rfl, hx, m0, z0, e0, net, nx, yx, cn, hl, wl, hk, q⟩
    refine ⟨[.ref x, .ref y], NV ks, rfl, rfl, ?_, fun p np => ?_⟩
    · rw [NV_len]
      have : sizeLine = 16777216 := by decide
      omega
    have z := same_upd (o := .tup (NV ks)) np
    exact ⟨x, y, p, dx, f0, n, es, ks, rfl, z _ _ hx, m0, z0, e0, net.same z, nx.same z, yx, upd_same, cn, hl, wl, hk, fun H' k => q H' ((Kx.of z).trans k)⟩
  · obtain ⟨x, y, p, dx, f0, n, es, ks, rfl, hx, m0, z0, e0, net, nx, yx, hp, cn, hl, wl, hk, q⟩ := h
    have hr2 := hr.mono (show 2 ≤ 7 by decide)
    obtain ⟨um, vm⟩ := W.mx
    obtain ⟨g, _, bm, FW⟩ := GW.ex
    refine ⟨_, pss_cons (ps_if (pt_cmpR op_gt (pe_callB cr_len (by rfl) T.len PySem.boot_len (pa_cons (pv 2) pa_nil)) (pe_cval (pe_glob (by rfl) W.gC (v := .ref CW) rfl)) (nomark _)) (pss_one ps_never) pss_nil)
      <| pss_cons (ps_fld (pv 0) (pv 1) rfl)
      <| pss_cons (ps_fld (pv 0) (pe_prp GS cl hr2 (pv 1)) rfl)
      <| pss_cons (ps_fld (pv 0) (pe_tup pa_nil) rfl)
      <| pss_one (ps_expr (pe_methS1 (pv 0) O.cl bm FW hr pass0 (pv 2))), ?_⟩
    refine ⟨_, rfl, p, _, rfl, .inr (sq_of hp), CW, mcW, _, _, rfl, W.rd, vm, _, _, rfl, rfl, _, rfl, ?_⟩
    rw [NV_len, show decide (((1000 : Int) < (ks.length : Int))) = false from decide_eq_false (by omega)]
    refine iteF ⟨_, rfl, _, rfl, x, CX, dx, _, rfl, hx, O.cl, O.n1, by omega, ?_⟩
    have k1 := Kx.upd x H (.ins CX dx (putF "_network" (.ref y) f0))
    have l1 := len_putF "_network" (V.ref y) f0
    have p1 := lk_put0' (f := "_network") (v := .ref y) (fs := f0)
    have m1 := noX_put (v := .ref y) in_ne m0
    have e1 := XO.ne (v := .ref y) e0
    have hx1 : upd H x (.ins CX dx (putF "_network" (.ref y) f0)) x = some (.ins CX dx (putF "_network" (.ref y) f0)) := upd_same
    have net1 := net.kx k1 hx yx
    have nx1 := nx.kx k1 hx yx
    have hp1 := k1.tup hx hp
    generalize putF "_network" (.ref y) f0 = f1 at *
    generalize upd H x (.ins CX dx f1) = H1 at *
    obtain ⟨dy, fy, s, u, b', c, i1, i2, i3, i4, i5, i6, i7, i8⟩ := id nx1
    have st1 : StT H1 s (st0 es) := ⟨u, i5, i6⟩
    refine ⟨_, rfl, y, dy, fy, _, rfl, i1, i2, _, rfl, x, CX, dx, _, rfl, hx1, O.cl, O.n2, by omega, ?_⟩
    have k2 := Kx.upd x H1 (.ins CX dx (putF "_state" (.ref s) f1))
    have l2 := len_putF "_state" (V.ref s) f1
    have p2 := lk_put0' (f := "_state") (v := .ref s) (fs := f1)
    have p21 := (lk_put' (f := "_state") (g := "_network") (v := .ref s) (fs := f1) f_w.1).trans p1
    have m2 := noX_put (v := .ref s) in_st m1
    have e2 := XO.st (v := .ref s) e1
    have hx2 : upd H1 x (.ins CX dx (putF "_state" (.ref s) f1)) x = some (.ins CX dx (putF "_state" (.ref s) f1)) := upd_same
    have net2 := net1.kx k2 hx1 yx
    have hp2 := k2.tup hx1 hp1
    have st2 := st1.kx k2 hx1
    clear i1 i2 i3 i4 i5 i6 i7 i8 nx1
    generalize putF "_state" (.ref s) f1 = f2 at *
    generalize upd H1 x (.ins CX dx f2) = H2 at *
    refine ⟨Nat.zero_le _, fun e ne => ?_⟩
    have s3 := same_upd (o := .tup []) ne
    have he3 : upd H2 e (.tup []) e = some (.tup []) := upd_same
    generalize upd H2 e (.tup []) = H3 at *
    have hx3 := s3 _ _ hx2
    refine ⟨_, rfl, x, CX, dx, _, rfl, hx3, O.cl, O.n3, by omega, ?_⟩
    have k4 := Kx.upd x H3 (.ins CX dx (putF "_steps" (.ref e) f2))
    have l4 := len_putF "_steps" (V.ref e) f2
    have p4 := lk_put0' (f := "_steps") (v := .ref e) (fs := f2)
    have p41 := (lk_put' (f := "_steps") (g := "_network") (v := .ref e) (fs := f2) f_w.2.1).trans p21
    have p42 := (lk_put' (f := "_steps") (g := "_state") (v := .ref e) (fs := f2) f_w.2.2.1).trans p2
    have m4 := noX_put (v := .ref e) in_sp m2
    have e4 := XO.sp (v := .ref e) e2
    have hx4 : upd H3 x (.ins CX dx (putF "_steps" (.ref e) f2)) x = some (.ins CX dx (putF "_steps" (.ref e) f2)) := upd_same
    have net4 := (net2.same s3).kx k4 hx3 yx
    have hp4 := k4.tup hx3 (s3 _ _ hp2)
    have st4 := (st2.same s3).kx k4 hx3
    have he4 := k4.tup hx3 he3
    have kx4 := (k1.trans k2).trans ((Kx.of s3).trans k4)
    generalize putF "_steps" (.ref e) f2 = f4 at *
    generalize upd H3 x (.ins CX dx f4) = H4 at *
    have wk : WkO CX C Ex H4 x n es [] := ⟨dx, f4, y, s, e, hx4, p41, p42, p4, m4, by omega, net4, st4, he4, yx, e4⟩
    refine ⟨_, rfl, x, dx, f4, rfl, hx4, m4 _ (by decide +kernel), fun qb nq => ?_⟩
    have s5 := same_upd (o := .met g x) nq
    refine ⟨_, rfl, p, _, rfl, .inl (sq_of (s5 _ _ hp4)), upd_same, ?_⟩
    exact ⟨x, n, es, [], ks, rfl, wk.same s5, cn, hl, trivial, wl, by simp; omega, fun H' k' w' => q _ (kx4.trans ((Kx.of s5).trans k')) w'⟩
/-! ### step -/
def spStepX (CX C : Addr) (Ex : Xtr) (b : Bool) : Sp := fun vs H Q _ => ∃ (x : Addr) (n : Nat) (es : List Ed) (k0 : List Nat) (e : Nat), vs = [.ref x, .int (e : Int)] ∧ WkO CX C Ex H x n es k0 ∧ CN n es ∧ es.length ≤ 16 ∧ Wlk es 0 k0 ∧ e ∈ drs es (plcS es 0 k0) ∧ k0.length < 1000 ∧
  ∀ H', Kx x H H' → WkO CX C Ex H' x n es (kp b k0 e) → Q .non H'
theorem fr_step {CX C f : Addr} {Ex : Xtr} {b : Bool} (T : Txt mg) (O : OwnC K CX) (M : MvS P w K mg base C) (GW : MS P w K mg base CX "walk" 7 (spWalkX CX C Ex b)) (F : FunB K "step" "Walker.step" sWkStep ["self", "passage"] f) : L2.FnR P w K mg base CX0 8 f (spStepX CX C Ex b) := by
  obtain ⟨fd, F, bd⟩ := F.ex
  refine raw0 (F.ok scWstep (fun vs H Q E h => ?_) (fun cdv A outer s0 H vs Q E hr h => ?_)) bd
  · obtain ⟨x, n, es, k0, e, rfl, _⟩ := h
    rfl
  · obtain ⟨x, n, es, k0, e, rfl, wk, cn, hl, w0, hd0, hk, q⟩ := h
    have hr3 := hr.mono (show 3 ≤ 7 by decide)
    refine ⟨_, pss_cons (ps_if (pt_not (pt_val (pe_cl M.iss hr3 (by rfl) (pa_cons (pe_fld (pv 0) rfl) (pa_cons (pe_ix (r := rIxT K) ix_tup (pe_fld (pv 0) rfl) pe_int (fun _ _ => rfl)) (pa_cons (pv 1) pa_nil)))))) (pss_one ps_never) pss_nil)
      <| pss_one (ps_expr (pe_m GW.mc O.cl hr (pv 0) (pa_cons (pv 1) pa_nil))), ?_⟩
    obtain ⟨dx, fs, y, s, t0, h1, h2, h3, h4, h5, h6, h7, h8, h9, h0, hx0⟩ := id wk
    obtain ⟨q1, g1, g2⟩ := id h8
    have hd : e ∈ drs es (runS es (st0 es) k0).1 := by rw [runS_fst]; exact hd0
    refine ⟨_, rfl, x, CX, dx, fs, _, rfl, h1, O.cl, O.n1, h2, _, rfl, x, CX, dx, fs, _, rfl, h1, O.cl, O.n2, h3, s, _, _, _, rfl, rfl, sq_of g1, rfl, _, rfl, y, n, es, _, e, rfl, h7, hd, hl, ?_⟩
    refine ⟨_, rfl, iteF ?_⟩
    exact ⟨_, rfl, x, dx, fs, rfl, h1, h5 _ (by decide +kernel), _, rfl, x, n, es, k0, [e], rfl, wk, cn, hl, w0, ⟨hd0, trivial⟩, by rw [List.length_singleton]; omega, fun H' k w' => q H' k w'⟩
end
end Hw

namespace Hw
open PySem PySem.Spec PyProof.Rows L2 ClX
abbrev sSrStep : Stmt := inClass sStroller 0
abbrev sSrWalk : Stmt := inClass sStroller 1
abbrev sSrKept : Stmt := inClass sStroller 3
theorem cut_init (xs : List V) : cutV xs none (some (-1)) = xs.dropLast := by
  have e : HT.sIx xs.length xs.length (some (-1)) = xs.length - 1 := by
    show (if (-1 : Int) < 0 then ((-1 : Int) + (xs.length : Int)).toNat else min (-1 : Int).toNat xs.length) = _
    rw [if_pos (by decide)]
    omega
  unfold cutV
  rw [show HT.sIx xs.length 0 none = 0 from HT.sIx_none _ _, List.drop_zero, Nat.sub_zero, e, List.dropLast_eq_take]
theorem NV_init (p : List Nat) : (NV p).dropLast = NV p.dropLast := by unfold NV; rw [List.map_dropLast]
theorem NV_last {p : List Nat} {x : Nat} (h : p.getLast? = some x) : (NV p)[(NV p).length - 1]? = some (.int (x : Int)) := by
  rw [NV_len]
  refine NV_get ?_
  rw [← List.getLast?_eq_getElem?]
  exact h
/-- a def that says super().sm(..), where g stands -/
structure SupD (P : Program) (K : PySem.W.Frag) (mg : Str → Option Value) (C D f : Addr) (m qual : Str) (st : Stmt) (sm : Str) (g : Addr) : Prop where
  ex : ∃ (oc : Value) (od an : Option Addr) (osl : Array (Option Value)) (kV doc pm ct : Value) (cda cc : Addr), K.lookup f = some ⟨oc, od, .func (PySem.W.ksFn m qual (defArgs st) (defBody st) (defScope st) .none kV doc pm an (.ref cda) ct cc), osl⟩ ∧ PySem.W.codeIn K (.ref cda) qual = true ∧
    SupT P K mg C D f (PySem.W.ksFn m qual (defArgs st) (defBody st) (defScope st) .none kV doc pm an (.ref cda) ct cc) cda cc sm g
theorem SupT.cl {P : Program} {K : PySem.W.Frag} {mg : Str → Option Value} {C D f cda cc g : Addr} {fd : FuncData} {m : Str} (F : SupT P K mg C D f fd cda cc m g) : ∃ cl cld csl v, K.lookup cc = some ⟨cl, cld, .cell v, csl⟩ := by
  obtain ⟨a, b, c, h⟩ := F.cell
  exact ⟨a, b, c, _, h⟩
section
variable {P : Program} {w : World} {K : PySem.W.Frag} {mg : Str → Option Value} {base : Heap}
theorem spsKept : SpS ["self", "kept", "step"] ["self", "kept", "step"] (defScope sSrKept) := ⟨rfl, rfl, rfl, by decide +kernel, rfl, by decide +kernel, by decide +kernel, rfl, rfl, by decide +kernel, ⟨rfl, .inl rfl⟩⟩
theorem fr_srKept {CS f g : Addr} (T : Txt mg) (S : SupD P K mg CS CS f "_kept_after" "Stroller._kept_after" sSrKept "_kept_after" g) (G : L2.FnR P w K mg base CX0 1 g (spKeptB CS false)) : L2.FnR P w K mg base CX0 2 f (spKeptB CS true) := by
  obtain ⟨oc, od, an, osl, kV, doc, pm, ct, cda, cc, lk, hcd, F⟩ := S.ex
  refine fn_sup (N := ["self", "kept", "step"]) (ps := ["self", "kept", "step"]) lk hcd F.cl spsKept (fun us hl => match us, hl with | [_, _, _], _ => rfl) (fun vs H Q E h => ?_) (fun A outer s0 H vs Q E hr h => ?_)
  · obtain ⟨x, q, ks, e, dx, fs, rfl, _⟩ := h
    rfl
  · obtain ⟨x, q, ks, e, dx, fs, rfl, hx, hq, hl, q0⟩ := h
    refine ⟨_, pbs_cons (ps_if (PW.pt (pw_and (pt_truth (pv 1) (by intro _; rfl)) (pw_and1 (pt_cmpR op_eq (pe_ix (r := rIxT K) ix_tup (pv 1) (pe_un un_neg pe_int) (fun _ _ => rfl)) (pv 2) (nomark _)))))
        (pss_one (ps_ret (pe_slice sl_tupA (pv 1) po_none (po_some (pe_un un_neg pe_int))))) pss_nil)
      (pbs_ret (peb_super spsKept F G hr (E2 := E0) pass0 (pa_cons (pv 1) (pa_cons (pv 2) pa_nil)))), ?_⟩
    refine ⟨_, rfl, !(NV ks).isEmpty, .inr (.inl ⟨_, sq_of hq, rfl⟩), ?_⟩
    have last : ∀ (z : kp true ks e = ks ++ [e]) , tRet (tSup CS (spKeptB CS false) E0 (tCons (tVar 1) (tCons (tVar 2) tNil))) { nx := fun _ H' => Q .non H', rt := Q } (L2.start ["self", "kept", "step"] [.ref x, .ref q, .int (e : Int)]) H := fun z =>
      ⟨x, dx, fs, rfl, hx, _, rfl, _, rfl, x, q, ks, e, dx, fs, rfl, hx, hq, hl, fun H' r s' h' => q0 H' r s' (by rw [z]; exact h')⟩
    cases hg : ks.getLast? with
    | none =>
      have e0 : ks = [] := List.getLast?_eq_none_iff.mp hg
      subst e0
      exact iteF (iteF (last rfl))
    | some z =>
      have ne : ks ≠ [] := fun e => by rw [e] at hg; simp at hg
      have e1 : (!(NV ks).isEmpty) = true := by
        cases ks with
        | nil => exact absurd rfl ne
        | cons a b => rfl
      rw [e1]
      refine iteT ⟨_, rfl, 1, rfl, q, _, _, _, rfl, rfl, sq_of hq, at_last (NV_last hg), _, rfl, rfl, _, rfl, ite2 (fun c => ?_) (fun c => ?_)⟩
      · have zx : z = e := by
          have := of_decide_eq_true c
          have : (z : Int) = (e : Int) := by simpa using this
          omega
        subst zx
        have ek : kp true ks z = ks.dropLast := by
          show pushR ks z = _
          unfold pushR
          rw [if_pos hg]
        have lp : 0 < ks.length := List.length_pos_iff.mpr ne
        refine ⟨_, rfl, 1, rfl, _, rfl, q, _, rfl, sq_of hq, fun hw => ?_, fun _ p np => q0 _ p (same_upd np) ?_⟩
        · exfalso
          have h2 : ((-1 : Int) + ((NV ks).length : Int)).toNat = (NV ks).length := hw.2
          rw [NV_len] at h2
          omega
        · show upd H p _ p = _
          rw [upd_same, show (-(1 : Int)) = -1 from rfl, cut_init, NV_init, ek]
      · have nz : ¬ z = e := fun q => c (by rw [q]; exact decide_eq_true rfl)
        refine last ?_
        show pushR ks e = _
        unfold pushR
        rw [if_neg (by rw [hg]; exact fun q => nz (Option.some.inj q))]
theorem spsSrStep : SpS ["self", "passage"] ["self", "passage"] (defScope sSrStep) := ⟨rfl, rfl, rfl, by decide +kernel, rfl, by decide +kernel, by decide +kernel, rfl, rfl, by decide +kernel, ⟨rfl, .inl rfl⟩⟩
theorem fr_srStep {CS C f g : Addr} {Ex : Xtr} {b : Bool} (S : SupD P K mg CS CS f "step" "Stroller.step" sSrStep "step" g) (G : L2.FnR P w K mg base CX0 8 g (spStepX CS C Ex b)) : L2.FnR P w K mg base CX0 9 f (spStepX CS C Ex b) := by
  obtain ⟨oc, od, an, osl, kV, doc, pm, ct, cda, cc, lk, hcd, F⟩ := S.ex
  refine fn_sup (N := ["self", "passage"]) (ps := ["self", "passage"]) lk hcd F.cl spsSrStep (fun us hl => match us, hl with | [_, _], _ => rfl) (fun vs H Q E h => ?_) (fun A outer s0 H vs Q E hr h => ?_)
  · obtain ⟨x, n, es, k0, e, rfl, _⟩ := h
    rfl
  · obtain ⟨x, n, es, k0, e, rfl, wk, h⟩ := h
    refine ⟨_, pbs_expr (peb_super spsSrStep F G hr (E2 := E0) pass0 (pa_cons (pv 1) pa_nil)), ?_⟩
    obtain ⟨dx, fs, y, s, t0, h1, _⟩ := id wk
    exact ⟨x, dx, fs, rfl, h1, _, rfl, x, n, es, k0, e, rfl, wk, h⟩
theorem spsSrWalk : SpS ["self", "steps"] (([("self" : Str)] : List Str) ++ [("steps" : Str)]) (defScope sSrWalk) := ⟨rfl, rfl, rfl, by decide +kernel, rfl, by decide +kernel, by decide +kernel, rfl, rfl, by decide +kernel, ⟨rfl, .inl rfl⟩⟩
theorem fr_srWalk {CS C f g : Addr} {Ex : Xtr} {b : Bool} (S : SupD P K mg CS CS f "walk" "Stroller.walk" sSrWalk "walk" g) (G : L2.FnR P w K mg base CX0 6 g (spWalkX CS C Ex b)) : L2.FnR P w K mg base CX0 7 f (spWalkX CS C Ex b) := by
  obtain ⟨oc, od, an, osl, kV, doc, pm, ct, cda, cc, lk, hcd, F⟩ := S.ex
  have R := fn_supStar (P := P) (w := w) (mg := mg) (base := base) (CX := CX0) (k := 6) (N := ["self", "steps"]) (ps := ["self"]) (pv := "steps") (sp := spWalkX0 CS C Ex b) lk hcd F.cl spsSrWalk StX.cxUp_none
    (StX.bind_star1 (B := fun l => bindArgs (PySem.W.ksFn "walk" "Stroller.walk" (defArgs sSrWalk) (defBody sSrWalk) (defScope sSrWalk) .none kV doc pm an (.ref cda) ct cc) ⟨l, []⟩) (p1 := "self") (pv := "steps") (fun a => rfl) (fun a r rs => by kernel_rfl))
    (fun A outer s0 H vs Q E hr h => ?_)
  · exact R.imp fun vs H Q E h => walk_star h
  · obtain ⟨x, p, n, es, k0, ks, rfl, wk, hp, h⟩ := h
    refine ⟨_, pbs_expr (peb_superS1 spsSrWalk F G hr (E2 := E0) pass0 (pv 1)), ?_⟩
    obtain ⟨dx, fs, y, s, t0, h1, _⟩ := id wk
    exact ⟨x, dx, fs, rfl, h1, _, rfl, p, NV ks, rfl, .inl (sq_of hp), x, n, es, k0, ks, rfl, wk, h⟩
end
end Hw

namespace Hw
open PySem PySem.Spec PyProof.Rows L2 ClX
abbrev sCaInit : Stmt := inClass sCarrier 0
abbrev sCaGo : Stmt := inClass sCarrier 10
/-- a loop over zip of two lists, the second one not longer -/
theorem for_zipS {K : PySem.W.Frag} {a b : Addr} {xs ys : List V} {g : TG} {tb : TS} {D : Ends} {σ : L2.St} {H : Hp} (hl : ys.length ≤ xs.length) (Pv : Nat → L2.St → Hp → Prop) (h0 : Pv 0 σ H) (hq : ∀ i σ H, Pv i σ H → SqL K H a xs ∧ SqL K H b ys)
    (hs : ∀ (i : Nat) (x y : V) (T : Addr) (σ : L2.St) (H : Hp), xs[i]? = some x → ys[i]? = some y → Pv i σ H → H T = none → g (.ref T) σ (upd H T (.tup [x, y])) fun σ2 H2 => tb { D with nx := Pv (i + 1), ct := Pv (i + 1), bk := D.nx } σ2 H2) (hd : ∀ σ H, Pv ys.length σ H → D.nx σ H) :
    ∃ W : Nat → Nat → L2.St → Hp → Prop, (∃ m, W 0 m σ H) ∧ ∀ i m σ H, W i m σ H →
      ((L2.Itz K a b).stop i H ∧ D.nx σ H) ∨ ((L2.Itz K a b).go i H ∧ ∃ N : L2.St → Hp → Prop, (∀ σ' H', N σ' H' → ∃ m', m' < m ∧ W (i + 1) m' σ' H') ∧ ∀ v H', (L2.Itz K a b).yld i H v H' → g v σ H' fun σ2 H2 => tb { D with nx := N, ct := N, bk := D.nx } σ2 H2) := by
  refine ⟨fun i m σ H => m = ys.length - i ∧ i ≤ ys.length ∧ Pv i σ H, ⟨ys.length, rfl, Nat.zero_le _, h0⟩, ?_⟩
  rintro i m σ H ⟨rfl, hi, p⟩
  obtain ⟨qx, qy⟩ := hq i σ H p
  by_cases hlt : i < ys.length
  · have hx : xs[i]? = some xs[i] := List.getElem?_eq_getElem (by omega)
    have hy : ys[i]? = some ys[i] := List.getElem?_eq_getElem hlt
    refine .inr ⟨⟨xs, ys, _, _, qx, qy, hx, hy⟩, Pv (i + 1), fun σ' H' p' => ⟨ys.length - (i + 1), by omega, rfl, hlt, p'⟩, fun v H' y => ?_⟩
    obtain ⟨T, x', y', rfl, hT, rfl, f1, f2⟩ := y
    exact hs i x' y' T σ H (f1 xs qx) (f2 ys qy) p hT
  · have e : i = ys.length := by omega
    subst e
    exact .inl ⟨⟨xs, ys, qx, qy, Or.inr (Nat.le_refl _)⟩, hd σ H p⟩
theorem ps_nox {X : Cx} {st : Stmt} {t : TS} (h : PS X.nox st t) : PS X st t := ⟨fun pins s σ H D I hw =>
  wpAny_mono (h.run pins s σ H D (I.wish _) hw) (fun _ _ q => q.unwish) fun _ _ z => False.elim z⟩
/-- a carrier's fields -/
def ExC : Xtr := fun m fs => ∃ (th : Int) (p : Nat) (a : Int), fs.lookup ("_thing" : Str) = some (.int th) ∧ fs.lookup ("_position" : Str) = some (.int (p : Int)) ∧ p ≤ m ∧ fs.lookup ("_arrivals" : Str) = some (.int a)
theorem f_c : (¬ (("_thing" : Str) = "_network") ∧ ¬ (("_thing" : Str) = "_state") ∧ ¬ (("_thing" : Str) = "_steps") ∧ ¬ (("_thing" : Str) = "_arrivals") ∧ ¬ (("_thing" : Str) = "_position")) ∧
    (¬ (("_position" : Str) = "_network") ∧ ¬ (("_position" : Str) = "_state") ∧ ¬ (("_position" : Str) = "_steps") ∧ ¬ (("_position" : Str) = "_arrivals")) ∧
    (¬ (("_arrivals" : Str) = "_network") ∧ ¬ (("_arrivals" : Str) = "_state") ∧ ¬ (("_arrivals" : Str) = "_steps")) ∧
    (¬ (("_network" : Str) = "_arrivals") ∧ ¬ (("_state" : Str) = "_arrivals") ∧ ¬ (("_steps" : Str) = "_arrivals")) := by decide +kernel
theorem exC_put {f : Str} {m : Nat} {fs : List (Str × V)} {v : V} (h1 : ¬ ("_thing" : Str) = f) (h2 : ¬ ("_position" : Str) = f) (h3 : ¬ ("_arrivals" : Str) = f) (h : ExC m fs) : ExC m (putF f v fs) := by
  obtain ⟨th, p, a, e1, e2, hp, e3⟩ := h
  exact ⟨th, p, a, (lk_put' h1).trans e1, (lk_put' h2).trans e2, hp, (lk_put' h3).trans e3⟩
theorem exC_ok : XtrOk ExC := ⟨fun h => exC_put f_c.1.1 f_c.2.1.1 f_c.2.2.1.1 h, fun h => exC_put f_c.1.2.1 f_c.2.1.2.1 f_c.2.2.1.2.1 h, fun h => exC_put f_c.1.2.2.1 f_c.2.1.2.2.1 f_c.2.2.1.2.2 h⟩
theorem in_ar : ("_arrivals" : Str) ∈ wFields := by decide +kernel
theorem in_th : ("_thing" : Str) ∈ wFields := by decide +kernel
theorem in_po : ("_position" : Str) ∈ wFields := by decide +kernel
/-- truth values -/
def BV (bs : List Bool) : List V := bs.map V.bl
theorem BV_len (bs : List Bool) : (BV bs).length = bs.length := by unfold BV; rw [List.length_map]
theorem BV_snoc (bs : List Bool) (b : Bool) : BV bs ++ [V.bl b] = BV (bs ++ [b]) := by unfold BV; rw [List.map_append]; rfl
theorem BV_get {bs : List Bool} {i : Nat} {v : V} (h : (BV bs)[i]? = some v) : ∃ b, v = .bl b := by
  unfold BV at h
  rw [List.getElem?_map] at h
  cases e : bs[i]? with
  | none => rw [e] at h; cases h
  | some x => rw [e] at h; exact ⟨x, (Option.some.inj h).symm⟩
structure OwnT (K : PySem.W.Frag) (CX : Addr) : Prop where
  o : OwnC K CX
  t1 : NoAttr K CX "_thing"
  t2 : NoAttr K CX "_position"
  t3 : NoAttr K CX "_arrivals"
section
variable {P : Program} {w : World} {K : PySem.W.Frag} {mg : Str → Option Value} {base : Heap}
/-- one more arrival -/
theorem WkO.arrive {CX C : Addr} {H : Hp} {x dx : Addr} {fs : List (Str × V)} {n : Nat} {es : List Ed} {ks : List Nat} {z : Int} (h : WkO CX C ExC H x n es ks) (hx : H x = some (.ins CX dx fs)) : WkO CX C ExC (upd H x (.ins CX dx (putF "_arrivals" (.int z) fs))) x n es ks := by
  obtain ⟨dx', fs', y, s, t, h1, h2, h3, h4, h5, h6, h7, h8, h9, h0, h10⟩ := h
  rw [hx] at h1
  cases h1
  obtain ⟨th, p, a, e1, e2, hp, e3⟩ := h10
  have k := Kx.upd x H (.ins CX dx (putF "_arrivals" (.int z) fs))
  have l := len_putF_old (v := .int z) e3
  exact ⟨dx, _, y, s, t, upd_same, (lk_put' f_c.2.2.2.1).trans h2, (lk_put' f_c.2.2.2.2.1).trans h3, (lk_put' f_c.2.2.2.2.2).trans h4, noX_put in_ar h5, by omega, h7.kx k hx h0, h8.kx k hx, k.tup hx h9, h0, th, p, z, (lk_put' f_c.1.2.2.2.1).trans e1, (lk_put' f_c.2.1.2.2.2).trans e2, hp, lk_put0'⟩
abbrev nCg : List Str := ["self", "passed", "kept", "there", "before", "now", "_", "things"]
theorem spsCg : SpS nCg ["self", "passed", "kept"] (defScope sCaGo) := ⟨rfl, rfl, rfl, by decide +kernel, rfl, by decide +kernel, by decide +kernel, rfl, rfl, by decide +kernel, ⟨rfl, .inr rfl⟩⟩
theorem fr_caGo {CC C f g : Addr} (T : Txt mg) (O : OwnT K CC) (S : SupD P K mg CC CC f "_go" "Carrier._go" sCaGo "_go" g) (G : L2.FnR P w K mg base CX0 1 g (spGoX CC C ExC)) : L2.FnR P w K mg base CX0 2 f (spGoX CC C ExC) := by
  obtain ⟨oc, od, an, osl, kV, doc, pm, ct, cda, cc, lk, hcd, F⟩ := S.ex
  have nd := spsCg.nd
  refine fn_sup (N := nCg) (ps := ["self", "passed", "kept"]) lk hcd F.cl spsCg (fun us hl => match us, hl with | [_, _, _], _ => rfl) (fun vs H Q E h => ?_) (fun A outer s0 H vs Q E hr h => ?_)
  · obtain ⟨x, l, q, n, es, k0, ks, ys, t, rfl, _⟩ := h
    rfl
  · obtain ⟨x, l, q, n, es, k0, ks, ys, t, rfl, wk, hL, ya, yz, yl, ht, hq, q0⟩ := h
    refine ⟨_, pbs_cons (ps_setLc (i := 3) (own := [("_", 6), ("things", 7)]) (g := gTup K 2 (gCons (gName 6) (gCons (gName 7) gNil))) (te := tOp rEq (tOp (rIxT K) (tVar 7) (tFld K (tVar 0) "_position")) (tFld K (tVar 0) "_thing")) (by rfl) nd rfl rfl (sw_true rfl rfl rfl (by decide +kernel)) (pi_list (pv 1))
          (blkOk_by (own := [("_", 6), ("things", 7)]) (N := nCg) (sc := defScope sCaGo) (by decide +kernel)) (fun _ _ _ _ _ => pg_tup rfl (pgs_cons (pg_name (i := 6) nd rfl (.inl rfl)) (pgs_cons (pg_name (i := 7) nd rfl (.inl rfl)) pgs_nil))) (fun _ _ _ _ _ => pts_nil)
          (fun _ _ _ _ _ => pe_cmpR op_eq (pe_ix (r := rIxT K) ix_tup (pv 7) (pe_fld (pv 0) rfl) (fun _ _ => rfl)) (pe_fld (pv 0) rfl) (nomark _)))
      <| pbs_cons (ps_nox (ps_for PassesOwn.never rfl (RZ.pi_zipA (by rfl) T.zip (pa_cons (pv 3) (pa_cons (pe_slice sl_list (pv 3) (po_some pe_int) po_none) pa_nil))) (pg_tup rfl (pgs_cons (pg_name (i := 4) nd rfl (.inl rfl)) (pgs_cons (pg_name (i := 5) nd rfl (.inl rfl)) pgs_nil)))
          (pss_one (ps_if (PW.pt (pw_and (pt_val (pv 5)) (pw_and1 (pt_not (pt_val (pv 4)))))) (pss_one (ps_fldaug (pv 0) pe_int in_add)) pss_nil))))
      <| pbs_expr (peb_super spsCg F G hr (E2 := E0) pass0 (pa_cons (pv 1) (pa_cons (pv 2) pa_nil))), ?_⟩
    obtain ⟨dx, fs, y, s, t0, h1, h2, h3, h4, h5, h6, h7, h8, h9, h0, th, po, ar, e1, e2, hp, e3⟩ := id wk
    refine ⟨_, rfl, l, rfl, ⟨_, sl_of hL⟩, fun Dl nD => ?_⟩
    refine lc_it (walk_list (xs := ys)) (fun i H' => Same H H' ∧ ∃ bs, bs.length = i ∧ H' Dl = some (.lst (BV bs))) ⟨same_upd nD, [], rfl, by rw [upd_same]; rfl⟩ (fun i H' _ ⟨sm, _⟩ => sl_of (sm _ _ hL)) ?_ ?_
    · rintro i v _ H2 hi ⟨sm, bs, bl, hD⟩ ⟨rfl, hy⟩
      obtain ⟨u, su, rfl, ⟨qu, g1, g2⟩, lu⟩ := ya v (List.mem_of_getElem? hy)
      have t1 := sm _ _ g1
      have t2 := sm _ _ g2
      have hx2 := sm _ _ h1
      have lp : po < su.2.length := by omega
      refine ⟨u, _, rfl, sq_of t1, rfl, _, _, rfl, _, _, rfl, rfl, rfl, _, rfl, _, rfl, x, CC, dx, fs, _, rfl, hx2, O.o.cl, O.t2, e2, qu, _, _, _, rfl, rfl, sq_of t2, atI_nat (NV_ap lp), ?_⟩
      refine ⟨_, rfl, x, CC, dx, fs, _, rfl, hx2, O.o.cl, O.t1, e1, rfl, _, hD, ?_, fun b o eb => ?_, bs ++ [decide (V.int ((ap su.2 po : Nat) : Int) = V.int th)], by rw [List.length_append, List.length_singleton, bl], ?_⟩
      · rw [BV_len, bl]
        exact small1000 (by omega)
      · rw [upd_ne (ne_of_none eb nD)]
        exact sm _ _ eb
      · rw [upd_same, ← BV_snoc]
    · rintro H2 ⟨sm, bs, bl, hD⟩
      have wk2 := wk.same sm
      have hx2 := sm _ _ h1
      have hL2 := sm _ _ hL
      have ya2 := ya.same sm
      have ht2 := ht.same sm
      have hq2 := sm _ _ hq
      clear h1 h2 h3 h4 h5 h6 h7 h8 h9 h0 e1 e2 hp e3
      refine ⟨_, rfl, _, rfl, 1, rfl, Dl, BV bs, rfl, sl_of hD, fun z1 nz => ?_⟩
      have ec : cutV (BV bs) (some 1) none = BV (bs.drop 1) := by
        rw [show cutV (BV bs) (some 1) none = (BV bs).drop 1 from cut_from (BV bs) 1]
        unfold BV
        rw [List.map_drop]
      rw [ec]
      have sz := same_upd (o := .lst (BV (bs.drop 1))) nz
      have hz : upd H2 z1 (.lst (BV (bs.drop 1))) z1 = some (.lst (BV (bs.drop 1))) := upd_same
      have hD3 := sz _ _ hD
      have wk3 := wk2.same sz
      have hx3 := sz _ _ hx2
      have hL3 := sz _ _ hL2
      have ya3 := ya2.same sz
      have ht3 := ht2.same sz
      have hq3 := sz _ _ hq2
      have sm3 := sm.trans sz
      generalize upd H2 z1 (.lst (BV (bs.drop 1))) = H3 at *
      have nlx : ∀ {b : Addr} {us : List V}, H3 b = some (.lst us) → b ≠ x := fun e => ne_of e hx3 (by intro q; cases q)
      refine ⟨Dl, z1, BV bs, BV (bs.drop 1), rfl, .inl ⟨sl_of hD3, sl_of hz, for_zipS (by rw [BV_len, BV_len, List.length_drop]; exact Nat.sub_le _ _)
        (fun i σ H' => ∃ v4 v5 fs', σ = [some (.ref x), some (.ref l), some (.ref q), some (.ref Dl), v4, v5, none, none] ∧ Kx x H3 H' ∧ WkO CC C ExC H' x n es k0 ∧ H' x = some (.ins CC dx fs'))
        ⟨_, _, fs, rfl, fun b o _ e => e, wk3, hx3⟩ (fun i σ H' ⟨_, _, _, _, k, _, _⟩ => ⟨sl_of (k _ _ (nlx hD3) hD3), sl_of (k _ _ (nlx hz) hz)⟩) ?_ ?_⟩⟩
      · rintro i a b T1 σ H' ha hb ⟨v4, v5, fs', rfl, k, wk', hx'⟩ nT
        obtain ⟨a', rfl⟩ := BV_get ha
        obtain ⟨b', rfl⟩ := BV_get hb
        have sT := same_upd (o := .tup [V.bl a', V.bl b']) nT
        have hT : upd H' T1 (.tup [V.bl a', V.bl b']) T1 = some (.tup [V.bl a', V.bl b']) := upd_same
        have k' := k.trans (Kx.of sT)
        have wkT := wk'.same sT
        have hxT := sT _ _ hx'
        generalize upd H' T1 (.tup [V.bl a', V.bl b']) = H4 at *
        refine ⟨T1, _, rfl, .inl (.inl hT), rfl, _, _, rfl, _, _, rfl, rfl, ?_⟩
        refine ⟨_, rfl, b', rfl, ?_⟩
        have stay : ∃ v4 v5 fs', [some (V.ref x), some (.ref l), some (.ref q), some (.ref Dl), some (.bl a'), some (.bl b'), none, none] = [some (V.ref x), some (.ref l), some (.ref q), some (.ref Dl), v4, v5, none, none] ∧ Kx x H3 H4 ∧ WkO CC C ExC H4 x n es k0 ∧ H4 x = some (.ins CC dx fs') := ⟨_, _, fs', rfl, k', wkT, hxT⟩
        cases b' with
        | false => exact iteF (iteF stay)
        | true =>
          refine iteT ⟨_, rfl, a', rfl, ?_⟩
          cases a' with
          | true => exact iteF stay
          | false =>
            obtain ⟨dx9, f9, y9, s9, t9, g1, g2, g3, g4, g5, g6, g7, g8, g9, g0, th9, p9, a9, c1, c2, cp, c3⟩ := id wkT
            rw [hxT] at g1
            cases g1
            refine iteT ⟨_, rfl, x, CC, dx, fs', _, rfl, hxT, O.o.cl, O.t3, c3, a9, 1, rfl, rfl, dx, fs', hxT, by omega, ?_⟩
            exact ⟨_, _, _, rfl, k'.trans (Kx.upd x H4 _), wkT.arrive hxT, upd_same⟩
      · rintro σ H' ⟨v4, v5, fs', rfl, k, wk', hx'⟩
        refine ⟨x, dx, fs', rfl, hx', _, rfl, _, rfl, x, l, q, n, es, k0, ks, ys, t, rfl, wk', k _ _ (nlx hL3) hL3, ya3.kx k hx3, yz, yl, ht3.kx k hx3, k.tup hx3 hq3, fun H9 k9 w9 => q0 H9 (((Kx.of sm3).trans k).trans k9) w9⟩
end
end Hw

namespace Hw
open PySem PySem.Spec PyProof.Rows L2 ClX
/-! ### a def with *v and keyword-only parameters -/
/-- a promise by positional values and keywords -/
def FnKW (P : Program) (w : World) (K : PySem.W.Frag) (mg : Str → Option Value) (base : Heap) (CX : CXT) (k : Nat) (f : Addr) (ks : List Str) (sp : List V → Sp) : Prop :=
  ∀ (A : Around) (outer : List Env) (s : Shared) (H : Hp) (us ws : List Value) (vs zs : List V) (Q : VK) (E : XK), Room k A → Env0 P w K mg base A outer s H → Vals vs us → Vals zs ws → zs.length = ks.length → sp zs vs H Q E →
    codeAny (model P w) A (.call (.ref f) ⟨us, ks.zip ws⟩) (CR CX outer P w H s Q E) s
section
variable {CX : CXT} {P : Program} {w : World} {K : PySem.W.Frag} {mg : Str → Option Value} {base : Heap} {k : Nat} {f cc : Addr} {name qual : Str} {params : Arguments} {body : List Stmt} {scope : Scope} {dV kV doc pm cdv ct oc : Value} {an od : Option Addr}
  {osl : Array (Option Value)} {N ps ks : List Str} {sp : Sp}
theorem fn_supStarK {pv : Str} (lk : K.lookup f = some ⟨oc, od, .func (PySem.W.ksFn name qual params body scope dV kV doc pm an cdv ct cc), osl⟩) (hcd : PySem.W.codeIn K cdv qual = true) (hcell : ∃ cl cld csl v, K.lookup cc = some ⟨cl, cld, .cell v, csl⟩) (S : SpS N (ps ++ ks ++ [pv]) scope) (hCX : StX.CXUp CX)
    (hb : ∀ us rest ws : List Value, us.length = ps.length → ws.length = ks.length → bindArgs (PySem.W.ksFn name qual params body scope dV kV doc pm an cdv ct cc) ⟨us ++ rest, ks.zip ws⟩ = (newTuple rest >>= fun t => pure ((ps ++ ks).zip (us ++ ws) ++ [(pv, t)])))
    (hbody : ∀ (A : Around) (outer : List Env) (s : Shared) (H : Hp) (vs : List V) (Q : VK) (E : XK), Room k (A.deeper (envS qual scope s.heap.objs.size f cdv cc)) → sp vs H Q E →
      ∃ t, PBs (cxS CX P w K mg base N qual scope f cdv cc A outer s H E) body body t ∧ t { nx := fun _ H' => Q .non H', rt := Q } (L2.start N vs) H) :
    FnKW P w K mg base CX (k + 1) f ks (fun zs vs H Q E => ∃ xs rest, vs = xs ++ rest ∧ xs.length = ps.length ∧ rest.length ≤ sizeLine ∧ ∀ p, H p = Option.none → sp (xs ++ zs ++ [V.ref p]) (upd H p (.tup rest)) Q E) := by
  intro A outer s H us ws vs zs Q E hr e0 r rz hzl hsp
  obtain ⟨xs, rest, ev, hl, hz, hq⟩ := hsp
  subst ev
  obtain ⟨u1, u2, eu, r1, r2⟩ := StX.vals_split r
  subst eu
  have hn : H s.heap.objs.size = Option.none := e0.hok.fresh (Nat.le_refl _)
  have hl1 : u1.length = ps.length := by rw [← r1.length]; exact hl
  have hl2 : u2.length ≤ sizeLine := by rw [← r2.length]; exact hz
  have hl3 : ws.length = ks.length := by rw [← rz.length]; exact hzl
  refine run_bndS lk hcd hcell S hr e0 (G := fun ys H2 => ∃ p, H p = Option.none ∧ ys = xs ++ zs ++ [V.ref p] ∧ H2 = upd H p (.tup rest)) (fun A' Ex Q' h => ?_) fun s2 H2 ys ⟨p, hp, ex, eH⟩ hr' => ?_
  · rw [hb u1 u2 ws hl1 hl3]
    refine wpAny_bind (wpAny_newTuple (wpAny_pure ?_) hl2)
    have new : ObjOk P w (upd H s.heap.objs.size (.tup rest)) (s.heap.push ({ cls := .type "tuple", data := .seq u2.toArray } : Obj)) s.heap.objs.size (.tup rest) := ⟨hz, u2, r2, ⟨_, Heap.get?_push_size _ rfl, rfl, _, rfl⟩⟩
    have un := StX.un_laid (fs := frs outer) (s := s) (o := ({ cls := .type "tuple", data := .seq u2.toArray } : Obj)) (u := .tup rest) hn
    have z := h _ _ (xs ++ zs ++ [V.ref s.heap.objs.size]) (u1 ++ ws ++ [Value.ref s.heap.objs.size]) (StX.env0_laid e0 new) un rfl (fun e s' => hCX outer s H _ _ E e s' un (fun b o q => Heap.get?_push_of_some _ q) rfl) ((r1.append rz).append (.cons rfl .nil))
      (by rw [List.length_append, List.length_append, List.length_append, List.length_append, hl, hzl] <;> rfl) ⟨_, hn, rfl, rfl⟩
    rw [List.zip_append (by rw [List.length_append, List.length_append, hl1, hl3])] at z
    exact z
  · subst ex eH
    exact hbody A outer s2 _ _ Q E hr' (hq p hp)
end
section
variable {X : Cx} {CX : CXT} {k n : Nat} {f C : Addr} {ks : List Str} {sp : List V → Sp} {E : XK} {x : Str} {p pos : Pos} {e : Expr} {es : List Expr} {kws : List Keyword} {t tk : TA}
/-- C(.., k = v, ..): a new instance and its dict, then __init__ -/
def tMakeKW (C : Addr) (m : Nat) (sp : List V → Sp) (E : XK) (t tk : TA) : TE := fun σ H Q => t σ H fun vs H1 => tk σ H1 fun zs H2 => zs.length = m ∧ ∀ x dx, H2 x = none → H2 dx = none → dx ≠ x →
  sp zs (.ref x :: vs) (upd (upd H2 dx (.own x)) x (.ins C dx [])) (fun v H3 => v = .non ∧ Q (.ref x) H3) E
theorem run_makeKW {pins : List (Addr × Obj)} {σ : L2.St} {H : Hp} {s : Shared} {Q : VK} {us ws : List Value} {vs zs : List V} (M : Mk X.K C f) (F : FnKW X.prog X.w X.K X.mg X.base CX k f ks sp) (hr : Room (k + 1) X.A) (hx : Passes CX X E)
    (I : L2.Inv X pins σ H s) (r : Vals vs us) (rz : Vals zs ws) (l2 : zs.length = ks.length)
    (h : ∀ x dx, H x = none → H dx = none → dx ≠ x → sp zs (.ref x :: vs) (upd (upd H dx (.own x)) x (.ins C dx [])) (fun v H2 => v = .non ∧ Q (.ref x) H2) E) :
    wpAny (model X.prog X.w) X.A (call (.ref C) us (ks.zip ws)) (EP X pins σ Q) X.xe s := by
  have hq := h (s.heap.objs.size + 1) s.heap.objs.size (I.hok.fresh (Nat.le_succ _)) (I.hok.fresh (Nat.le_refl _)) (Nat.ne_of_lt (Nat.lt_succ_self _))
  have I2 := Inv.made (C := C) I
  have r1 : Vals (V.ref (s.heap.objs.size + 1) :: vs) (Value.ref (s.heap.objs.size + 1) :: us) := .cons rfl r
  refine wpAny_call (make_map (f := f) I.kIn M.makes M.init (beq_iff_eq.mp M.fn) (codeAny_mono (F _ X.stack _ _ (Value.ref (s.heap.objs.size + 1) :: us) ws _ zs _ _ (hr.make C us (ks.zip ws))
    (I2.env0.make C us (ks.zip ws)) r1 rz l2 hq) fun r s' hq' => ?_))
  cases r with
  | error e => exact hx pins σ _ _ e s' I2 hq'
  | ok fl =>
    cases fl with
    | ret u =>
      obtain ⟨v, H', I3, rv, ev, q3⟩ := I2.after hq'
      subst ev
      exact ⟨rv, ⟨V.ref (s.heap.objs.size + 1), H', I3, rfl, q3⟩⟩
    | next => exact False.elim hq'
    | brk => exact False.elim hq'
    | cont => exact False.elim hq'
/-- C(e, .., k = v, ..) -/
theorem pe_makeKW (M : Mk X.K C f) (F : FnKW X.prog X.w X.K X.mg X.base CX k f ks sp) (hr : Room (k + 1) X.A) (hg : Gl X x) (hm : X.mg x = some (.ref C)) (hx : Passes CX X E) (ha : PA X (e :: es) t) (hkw : PK X kws tk)
    (hall : (backToKw pos (keywordEach kws X.env)).all (·.1.isSome) = true := by rfl) (hks : (backToKw pos (keywordEach kws X.env)).filterMap (·.1) = ks := by rfl) (hdb : (x == ("__debug__" : Str)) = false := by decide)
    (he : starEach (e :: es) X.env = (false, eval e X.env) :: starEach es X.env := by rfl) (hpl : ((backTo pos (starEach (e :: es) X.env)).any (·.1) || (backToKw pos (keywordEach kws X.env)).any (·.1.isNone)) = false := by rfl) :
    PE X (.Call (.Name x p) (e :: es) kws pos) (tMakeKW C ks.length sp E t tk) := by
  refine ⟨fun pins s σ H Q I h => ?_⟩
  refine wpAny_Call_Name_kw (ld_glob I hg hm ?_ hdb)
  refine PySem.W.callWith_KW (h₀ := X.base) I.ok.mod.kin M.kp hall (thn (ha.run pos pins s σ H _ I h) fun us s1 ⟨vs, H1, I1, r, q⟩ => ?_) hpl he
  refine thn (hkw.run pos pins s1 σ H1 _ I1 q) fun ws s2 ⟨zs, H2, I2, rz, l2, q2⟩ => ⟨I2.kIn, ?_⟩
  rw [hks]
  exact run_makeKW M F hr hx I2 r rz l2 q2
end
section
variable {P : Program} {w : World} {K : PySem.W.Frag} {mg : Str → Option Value} {base : Heap}
/-! ### check_thing, check_position: of what is right -/
def spChk (C : Addr) : Sp := fun vs H Q _ => ∃ (x : Addr) (n : Nat) (es : List Ed) (p : Nat), vs = [.ref x, .int (p : Int)] ∧ NetAt5 C H x n es ∧ es.length ≤ 16 ∧ p ≤ es.length ∧ Q .non H
theorem scChkT : FnScope ["network", "value"] ["network", "value"] (defScope sCheckThing) := ⟨rfl, rfl, rfl, by decide +kernel, rfl, by decide +kernel, by decide +kernel⟩
theorem scChkP : FnScope ["network", "value"] ["network", "value"] (defScope sCheckPosition) := ⟨rfl, rfl, rfl, by decide +kernel, rfl, by decide +kernel, by decide +kernel⟩
theorem cal_chkT {C : Addr} (T : Txt mg) (G : MvC P w K mg base C) (D : Df K mg "check_thing" sCheckThing ["network", "value"]) : Cal P w K mg base "check_thing" 3 (spChk C) := by
  refine cal_of D scChkT (fun vs H Q E h => ?_) (fun f cdv A outer s0 H vs Q E hr h => ?_)
  · obtain ⟨x, n, es, p, rfl, _⟩ := h
    rfl
  · obtain ⟨x, n, es, p, rfl, net, hm, hp, q⟩ := h
    refine ⟨_, pss_one (ps_if (pt_not (pt_val (pe_cl G.index hr (by rfl) (pa_cons (pv 1) (pa_cons (pe_op op_add (pe_callB (cr_lenN G.len hr) (by rfl) T.len PySem.boot_len (pa_cons (pv 0) pa_nil)) pe_int) pa_nil))))) (pss_one ps_never) pss_nil), ?_⟩
    obtain ⟨dx, fs, a, e, h1, _⟩ := id net
    refine ⟨_, rfl, _, rfl, x, dx, fs, rfl, h1, x, n, es, rfl, net, es.length, rfl, by omega, _, _, rfl, rfl, _, _, rfl, ?_⟩
    refine ⟨_, rfl, ?_⟩
    rw [show decide ((0 : Int) ≤ (p : Int) ∧ (p : Int) < (es.length : Int) + 1) = true from decide_eq_true ⟨by omega, by omega⟩]
    exact iteF q
theorem cal_chkP {C : Addr} (T : Txt mg) (G : MvC P w K mg base C) (D : Df K mg "check_position" sCheckPosition ["network", "value"]) : Cal P w K mg base "check_position" 3 (spChk C) := by
  refine cal_of D scChkP (fun vs H Q E h => ?_) (fun f cdv A outer s0 H vs Q E hr h => ?_)
  · obtain ⟨x, n, es, p, rfl, _⟩ := h
    rfl
  · obtain ⟨x, n, es, p, rfl, net, hm, hp, q⟩ := h
    refine ⟨_, pss_one (ps_if (pt_not (pt_val (pe_cl G.index hr (by rfl) (pa_cons (pv 1) (pa_cons (pe_op op_add (pe_callB (cr_lenN G.len hr) (by rfl) T.len PySem.boot_len (pa_cons (pv 0) pa_nil)) pe_int) pa_nil))))) (pss_one ps_never) pss_nil), ?_⟩
    obtain ⟨dx, fs, a, e, h1, _⟩ := id net
    refine ⟨_, rfl, _, rfl, x, dx, fs, rfl, h1, x, n, es, rfl, net, es.length, rfl, by omega, _, _, rfl, rfl, _, _, rfl, ?_⟩
    refine ⟨_, rfl, ?_⟩
    rw [show decide ((0 : Int) ≤ (p : Int) ∧ (p : Int) < (es.length : Int) + 1) = true from decide_eq_true ⟨by omega, by omega⟩]
    exact iteF q
/-! ### Carrier.__init__ -/
abbrev nCi : List Str := ["self", "network", "thing", "position", "steps"]
theorem spsCi : SpS nCi (([("self" : Str), "network"] : List Str) ++ ([("thing" : Str), "position"] : List Str) ++ [("steps" : Str)]) (defScope sCaInit) := ⟨rfl, rfl, rfl, by decide +kernel, rfl, by decide +kernel, by decide +kernel, rfl, rfl, by decide +kernel, ⟨rfl, .inl rfl⟩⟩
def spCi0 (CC C : Addr) : Sp := fun vs H Q _ => ∃ (x y p dx : Addr) (th po : Nat) (n : Nat) (es : List Ed) (ks : List Nat), vs = [.ref x, .ref y, .int (th : Int), .int (po : Int), .ref p] ∧ H x = some (.ins CC dx []) ∧ th ≤ es.length ∧ po ≤ es.length ∧ NetAt5 C H y n es ∧ NetX C H y n es ∧ y ≠ x ∧ Tp H p ks ∧ CN n es ∧ es.length ≤ 16 ∧ Wlk es 0 ks ∧ ks.length ≤ 1000 ∧
  ∀ H', Kx x H H' → WkO CC C ExC H' x n es ks → Q .non H'
def spCi (CC C : Addr) : List V → Sp := fun zs vs H Q _ => ∃ (x y dx : Addr) (th po : Nat) (n : Nat) (es : List Ed) (ks : List Nat), zs = [.int (th : Int), .int (po : Int)] ∧ vs = .ref x :: .ref y :: NV ks ∧ H x = some (.ins CC dx []) ∧ th ≤ es.length ∧ po ≤ es.length ∧ NetAt5 C H y n es ∧ NetX C H y n es ∧ y ≠ x ∧ CN n es ∧ es.length ≤ 16 ∧ Wlk es 0 ks ∧ ks.length ≤ 1000 ∧
  ∀ H', Kx x H H' → WkO CC C ExC H' x n es ks → Q .non H'
theorem fr_caInit {CC C f g : Addr} (T : Txt mg) (O : OwnT K CC) (CT : Cal P w K mg base "check_thing" 3 (spChk C)) (CP : Cal P w K mg base "check_position" 3 (spChk C)) (S : SupD P K mg CC CC f "__init__" "Carrier.__init__" sCaInit "__init__" g) (G : L2.FnR P w K mg base CX0 8 g (spWiX CC C ExC false)) :
    FnKW P w K mg base CX0 9 f ["thing", "position"] (spCi CC C) := by
  obtain ⟨oc, od, an, osl, kV, doc, pm, ct, cda, cc, lk, hcd, F⟩ := S.ex
  have nd := spsCi.nd
  have R := fn_supStarK (P := P) (w := w) (mg := mg) (base := base) (CX := CX0) (k := 8) (N := nCi) (ps := ["self", "network"]) (ks := ["thing", "position"]) (pv := "steps") (sp := spCi0 CC C) lk hcd F.cl spsCi StX.cxUp_none
    (fun us rest ws h1 h2 => match us, rest, ws, h1, h2 with | [a, b], [], [c, d], _, _ => rfl | [a, b], r :: rs, [c, d], _, _ => by kernel_rfl)
    (fun A outer s0 H vs Q E hr h => ?_)
  · intro A outer s H us ws vs zs Q E hr e0 r rz hz h
    refine R A outer s H us ws vs zs Q E hr e0 r rz hz ?_
    obtain ⟨x, y, dx, th, po, n, es, ks, rfl, rfl, hx, ht, hp, net, nx, yx, cn, hl, wl, hk, q⟩ := h
    refine ⟨[.ref x, .ref y], NV ks, rfl, rfl, ?_, fun p np => ?_⟩
    · rw [NV_len]
      have : sizeLine = 16777216 := by decide
      omega
    have z := same_upd (o := .tup (NV ks)) np
    exact ⟨x, y, p, dx, th, po, n, es, ks, rfl, z _ _ hx, ht, hp, net.same z, nx.same z, yx, upd_same, cn, hl, wl, hk, fun H' k => q H' ((Kx.of z).trans k)⟩
  · obtain ⟨x, y, p, dx, th, po, n, es, ks, rfl, hx, ht, hpo, net, nx, yx, hp, cn, hl, wl, hk, q⟩ := h
    have hr3 := hr.mono (show 3 ≤ 8 by decide)
    refine ⟨_, pbs_cons (ps_expr (pe_cl CT hr3 (by rfl) (pa_cons (pv 1) (pa_cons (pv 2) pa_nil))))
      <| pbs_cons (ps_expr (pe_cl CP hr3 (by rfl) (pa_cons (pv 1) (pa_cons (pv 3) pa_nil))))
      <| pbs_cons (ps_fld (pv 0) (pv 2) rfl)
      <| pbs_cons (ps_fld (pv 0) (pv 3) rfl)
      <| pbs_cons (ps_fld (pv 0) pe_int rfl)
      <| pbs_expr (peb_superS spsCi F G hr (E2 := E0) pass0 (pv 1) (pv 4)), ?_⟩
    refine ⟨_, rfl, _, rfl, y, n, es, th, rfl, net, hl, ht, ?_⟩
    refine ⟨_, rfl, _, rfl, y, n, es, po, rfl, net, hl, hpo, ?_⟩
    refine ⟨_, rfl, _, rfl, x, CC, dx, _, rfl, hx, O.o.cl, O.t1, by decide, ?_⟩
    have k1 := Kx.upd x H (.ins CC dx (putF "_thing" (.int (th : Int)) []))
    have l1 := len_putF "_thing" (V.int (th : Int)) []
    have a1 := lk_put0' (f := "_thing") (v := .int (th : Int)) (fs := [])
    have m1 := noX_put (v := .int (th : Int)) in_th noX_nil
    have hx1 : upd H x (.ins CC dx (putF "_thing" (.int (th : Int)) [])) x = some (.ins CC dx (putF "_thing" (.int (th : Int)) [])) := upd_same
    have net1 := net.kx k1 hx yx
    have nx1 := nx.kx k1 hx yx
    have hp1 := k1.tup hx hp
    generalize putF "_thing" (.int (th : Int)) [] = f1 at *
    generalize upd H x (.ins CC dx f1) = H1 at *
    refine ⟨_, rfl, _, rfl, x, CC, dx, _, rfl, hx1, O.o.cl, O.t2, by simp at l1; omega, ?_⟩
    have k2 := Kx.upd x H1 (.ins CC dx (putF "_position" (.int (po : Int)) f1))
    have l2 := len_putF "_position" (V.int (po : Int)) f1
    have b2 := lk_put0' (f := "_position") (v := .int (po : Int)) (fs := f1)
    have a2 := (lk_put' (f := "_position") (g := "_thing") (v := .int (po : Int)) (fs := f1) f_c.1.2.2.2.2).trans a1
    have m2 := noX_put (v := .int (po : Int)) in_po m1
    have hx2 : upd H1 x (.ins CC dx (putF "_position" (.int (po : Int)) f1)) x = some (.ins CC dx (putF "_position" (.int (po : Int)) f1)) := upd_same
    have net2 := net1.kx k2 hx1 yx
    have nx2 := nx1.kx k2 hx1 yx
    have hp2 := k2.tup hx1 hp1
    generalize putF "_position" (.int (po : Int)) f1 = f2 at *
    generalize upd H1 x (.ins CC dx f2) = H2 at *
    refine ⟨_, rfl, x, CC, dx, _, rfl, hx2, O.o.cl, O.t3, by simp at l1; omega, ?_⟩
    have k3 := Kx.upd x H2 (.ins CC dx (putF "_arrivals" (.int 0) f2))
    have l3 := len_putF "_arrivals" (V.int 0) f2
    have c3 := lk_put0' (f := "_arrivals") (v := .int 0) (fs := f2)
    have a3 := (lk_put' (f := "_arrivals") (g := "_thing") (v := .int 0) (fs := f2) f_c.1.2.2.2.1).trans a2
    have b3 := (lk_put' (f := "_arrivals") (g := "_position") (v := .int 0) (fs := f2) f_c.2.1.2.2.2).trans b2
    have m3 := noX_put (v := .int 0) in_ar m2
    have hx3 : upd H2 x (.ins CC dx (putF "_arrivals" (.int 0) f2)) x = some (.ins CC dx (putF "_arrivals" (.int 0) f2)) := upd_same
    have net3 := net2.kx k3 hx2 yx
    have nx3 := nx2.kx k3 hx2 yx
    have hp3 := k3.tup hx2 hp2
    generalize putF "_arrivals" (.int 0) f2 = f3 at *
    generalize upd H2 x (.ins CC dx f3) = H3 at *
    refine ⟨x, dx, f3, rfl, hx3, _, rfl, _, rfl, p, NV ks, rfl, .inl (sq_of hp3), x, y, dx, f3, n, es, ks, rfl, hx3, m3, by simp at l1; omega, ⟨_, po, _, a3, b3, hpo, c3⟩, net3, nx3, yx, cn, hl, wl, hk, fun H' k w' => q H' (((k1.trans k2).trans k3).trans k) (by rw [kps_f, List.nil_append] at w'; exact w')⟩
end
end Hw

namespace Hw
open PySem PySem.Spec PyProof.Rows L2 ClX
structure PrD (K : PySem.W.Frag) (C : Addr) (f q : Str) (st : Stmt) : Prop where
  ex : ∃ (p g : Addr) (fd : FuncData), PropOf K C f p g ∧ Fun K f q st g fd ∧ L2.Binds K fd ["self"] []
theorem empty_app (s : Str) : Str.empty ++ s = s := tl_inj (by rw [TL.tl_append]; rfl)
abbrev sWkText : Stmt := inClass sWalker 19
abbrev sGetNw : Stmt := inClass sWalker 2
abbrev sGetSta : Stmt := inClass sWalker 3
abbrev sGetPlc : Stmt := inClass sWalker 4
abbrev sGetSteps : Stmt := inClass sWalker 7
abbrev sGetPl : Stmt := inClass sNetwork 5
section
variable {P : Program} {w : World} {K : PySem.W.Frag} {mg : Str → Option Value} {base : Heap}
/-! ### properties -/
theorem ok_getPl {C : Addr} (cl : Cls K C) (n : NoAttr K C "_places") (D : PrD K C "places" "Network.places" sGetPl) : PrG P w K mg base C "places" "_places" := by
  obtain ⟨p, g, fd, hp, F, b⟩ := D.ex
  refine ⟨p, g, fd, hp, F.ok (N := ["self"]) ⟨rfl, rfl, rfl, by decide +kernel, rfl, by decide +kernel, by decide +kernel⟩ (fun vs H Q E h => ?_) (fun cdv A outer s0 H vs Q E hr h => ?_), b⟩
  · obtain ⟨a, dx, fs, v, rfl, _⟩ := h
    rfl
  · obtain ⟨a, dx, fs, v, rfl, h1, h2, q⟩ := h
    exact ⟨_, pss_one (ps_ret (pe_fld (pv 0) rfl)), _, rfl, a, C, dx, fs, v, rfl, h1, cl, n, h2, q⟩
theorem ok_getNw {CX : Addr} (O : OwnC K CX) (D : PrD K CX "network" "Walker.network" sGetNw) : PrG P w K mg base CX "network" "_network" := by
  obtain ⟨p, g, fd, hp, F, b⟩ := D.ex
  refine ⟨p, g, fd, hp, F.ok (N := ["self"]) ⟨rfl, rfl, rfl, by decide +kernel, rfl, by decide +kernel, by decide +kernel⟩ (fun vs H Q E h => ?_) (fun cdv A outer s0 H vs Q E hr h => ?_), b⟩
  · obtain ⟨a, dx, fs, v, rfl, _⟩ := h
    rfl
  · obtain ⟨a, dx, fs, v, rfl, h1, h2, q⟩ := h
    exact ⟨_, pss_one (ps_ret (pe_fld (pv 0) rfl)), _, rfl, a, CX, dx, fs, v, rfl, h1, O.cl, O.n1, h2, q⟩
theorem ok_getSta {CX : Addr} (O : OwnC K CX) (D : PrD K CX "state" "Walker.state" sGetSta) : PrG P w K mg base CX "state" "_state" := by
  obtain ⟨p, g, fd, hp, F, b⟩ := D.ex
  refine ⟨p, g, fd, hp, F.ok (N := ["self"]) ⟨rfl, rfl, rfl, by decide +kernel, rfl, by decide +kernel, by decide +kernel⟩ (fun vs H Q E h => ?_) (fun cdv A outer s0 H vs Q E hr h => ?_), b⟩
  · obtain ⟨a, dx, fs, v, rfl, _⟩ := h
    rfl
  · obtain ⟨a, dx, fs, v, rfl, h1, h2, q⟩ := h
    exact ⟨_, pss_one (ps_ret (pe_fld (pv 0) rfl)), _, rfl, a, CX, dx, fs, v, rfl, h1, O.cl, O.n2, h2, q⟩
theorem ok_getSteps {CX : Addr} (O : OwnC K CX) (D : PrD K CX "steps" "Walker.steps" sGetSteps) : PrG P w K mg base CX "steps" "_steps" := by
  obtain ⟨p, g, fd, hp, F, b⟩ := D.ex
  refine ⟨p, g, fd, hp, F.ok (N := ["self"]) ⟨rfl, rfl, rfl, by decide +kernel, rfl, by decide +kernel, by decide +kernel⟩ (fun vs H Q E h => ?_) (fun cdv A outer s0 H vs Q E hr h => ?_), b⟩
  · obtain ⟨a, dx, fs, v, rfl, _⟩ := h
    rfl
  · obtain ⟨a, dx, fs, v, rfl, h1, h2, q⟩ := h
    exact ⟨_, pss_one (ps_ret (pe_fld (pv 0) rfl)), _, rfl, a, CX, dx, fs, v, rfl, h1, O.cl, O.n3, h2, q⟩
/-- a property with a promise of its own -/
structure PrS (P : Program) (w : World) (K : PySem.W.Frag) (mg : Str → Option Value) (base : Heap) (C : Addr) (f : Str) (k : Nat) (sp : Sp) : Prop where
  ex : ∃ (p g : Addr) (fd : FuncData), PropOf K C f p g ∧ FnOk P w K mg base CX0 k g fd ["self"] sp ∧ L2.Binds K fd ["self"] []
def tPrS (C : Addr) (sp : Sp) (ta : TE) : TE := fun σ H Q => ta σ H fun v H1 => ∃ (x dx : Addr) (fs : List (Str × V)), v = .ref x ∧ H1 x = some (.ins C dx fs) ∧ sp [.ref x] H1 Q E0
theorem pe_prS {X : Cx} {C : Addr} {f : Str} {k : Nat} {sp : Sp} {e : Expr} {ta : TE} {pos : Pos} (G : PrS X.prog X.w X.K X.mg X.base C f k sp) (c : Cls X.K C) (hr : Room (k + 1) X.A) (he : PE X e ta) (hab : attributeBase e f X.env (eval e X.env) = eval e X.env := by rfl) : PE X (.Attribute e f pos) (tPrS C sp ta) := by
  obtain ⟨p, g, fd, hp, F, b⟩ := G.ex
  refine ⟨fun pins s σ H Q I h => attr_of hab (thn (he.run pins s σ H _ I h) fun u s1 ⟨v, H1, I1, rx, x, dx, fs, ex, h1, q⟩ => ?_)⟩
  subst ex
  obtain rfl : u = Value.ref x := rx
  exact getprop_ok (CX := CX0) (E := E0) (dvs := []) I1 h1 c hp F hr b .nil pass0 q
def spPlc (CX C : Addr) (Ex : Xtr) : Sp := fun vs H Q _ => ∃ (x : Addr) (n : Nat) (es : List Ed) (ks : List Nat), vs = [.ref x] ∧ WkO CX C Ex H x n es ks ∧ Q (.int ((plcS es 0 ks : Nat) : Int)) H
theorem ok_getPlc {CX C : Addr} {Ex : Xtr} (O : OwnC K CX) (D : PrD K CX "place" "Walker.place" sGetPlc) : PrS P w K mg base CX "place" 1 (spPlc CX C Ex) := by
  obtain ⟨p, g, fd, hp, F, b⟩ := D.ex
  refine ⟨p, g, fd, hp, F.ok (N := ["self"]) ⟨rfl, rfl, rfl, by decide +kernel, rfl, by decide +kernel, by decide +kernel⟩ (fun vs H Q E h => ?_) (fun cdv A outer s0 H vs Q E hr h => ?_), b⟩
  · obtain ⟨a, n, es, ks, rfl, _⟩ := h
    rfl
  · obtain ⟨x, n, es, ks, rfl, wk, q⟩ := h
    obtain ⟨dx, fs, y, s, t, h1, h2, h3, h4, h5, h6, h7, ⟨u, g1, g2⟩, h9, h0, hx⟩ := id wk
    refine ⟨_, pss_one (ps_ret (pe_ix (r := rIxT K) ix_tup (pe_fld (pv 0) rfl) pe_int (fun _ _ => rfl))), _, rfl, x, CX, dx, fs, _, rfl, h1, O.cl, O.n2, h3, s, _, _, _, rfl, rfl, sq_of g1, rfl, ?_⟩
    rw [show (runS es (st0 es) ks).1 = plcS es 0 ks from runS_fst es ks (st0 es)]
    exact q
/-! ### written -/
def spWritten (C : Addr) : Sp := fun vs H Q _ => ∃ (x p : Addr) (n : Nat) (es : List Ed) (ks : List Nat), vs = [.ref x, .ref p] ∧ NetAt5 C H x n es ∧ VE n es ∧ n ≤ 12 ∧ es.length ≤ 16 ∧ Tp H p ks ∧ ks.length ≤ 900 ∧ (∀ e ∈ ks, e ≤ 16) ∧ ∀ H', Same H H' → Q (.str (txtOf n es ks)) H'
abbrev nWr2 : List Str := ["network", "steps", "lines", "u", "v", "step"]
theorem scWr2 : FnScope nWr2 ["network", "steps"] (defScope sWrittenP) := ⟨rfl, rfl, rfl, by decide +kernel, rfl, by decide +kernel, by decide +kernel⟩
theorem cal_written {C : Addr} (T : Txt mg) (cl : Cls K C) (GPl : PrG P w K mg base C "places" "_places") (GPa : PrG P w K mg base C "passages" "_passages") (D : Df K mg "written" sWrittenP ["network", "steps"]) : Cal P w K mg base "written" 3 (spWritten C) := by
  have nd := scWr2.nd
  refine cal_of D scWr2 (fun vs H Q E h => ?_) (fun f cdv A outer s0 H vs Q E hr h => ?_)
  · obtain ⟨x, p, n, es, ks, rfl, _⟩ := h
    rfl
  · obtain ⟨x, p, n, es, ks, rfl, net, ve, hn, hl, hp, hk, he, q⟩ := h
    refine ⟨_, pss_cons (ps_set (i := 2) nd rfl (.inl rfl) (pe_lst (pa_cons (pe_joined (.cons pe_str (.cons (pe_fmt (pe_prp GPl cl hr (pv 0))) .nil))) pa_nil)))
      <| pss_cons (ps_for PassesOwn.never rfl (pi_tup (pe_prp GPa cl hr (pv 0))) (pg_tup rfl (pgs_cons (pg_name (i := 3) nd rfl (.inl rfl)) (pgs_cons (pg_name (i := 4) nd rfl (.inl rfl)) pgs_nil)))
          (pss_one (ps_expr (pe_bm PySem.F.plainAttrs_list PySem.F.slot_list_append PySem.F.type_list_append mt_append (pv 2) (pa_cons (pe_joined (.cons pe_str (.cons (pe_fmt (pv 3)) (.cons pe_str (.cons (pe_fmt (pv 4)) .nil))))) pa_nil)))))
      <| pss_cons (ps_expr (pe_bm PySem.F.plainAttrs_list PySem.F.slot_list_append PySem.F.type_list_append mt_append (pv 2) (pa_cons (pe_join pe_str (pe_op op_cat (pe_lst (pa_cons pe_str pa_nil))
          (pe_lc (own := [("step", 5)]) (g := gName 5) (tt := tYes) (by rfl) nd (pi_tup (pv 1)) (blkOk_by (own := [("step", 5)]) (N := nWr2) (sc := defScope sWrittenP) (by decide +kernel)) (fun _ _ _ _ _ => pg_name (i := 5) nd rfl (.inl rfl)) (fun _ _ _ _ _ => pts_nil)
            (fun _ _ _ _ _ => pe_callTy call_str_int (by rfl) T.str (by decide +kernel) (pa_cons (pv 5) pa_nil))))) pa_nil)))
      <| pss_one (ps_ret (pe_join pe_str (pv 2))), ?_⟩
    have sz : sizeLine = 16777216 := by decide
    have len_nS : ∀ m ≤ 16, (nS m).length ≤ 2 := fun m hm => bd_len (bdNS hm)
    have l8 : (Str.ofString "network ").length = 8 := by decide +kernel
    have l8p : (Str.ofString "passage ").length = 8 := by decide +kernel
    have l1 : (Str.ofString " ").length = 1 := by decide +kernel
    have he16 : ∀ e ∈ es, e.1 ≤ 16 ∧ e.2 ≤ 16 := fun e m => by have := ve e m; omega
    obtain ⟨dx, fs, a, ee, h1, h2, h3, h4, h5, ed, h7⟩ := id net
    refine ⟨_, rfl, by rw [empty_app]; omega, _, rfl, x, dx, fs, _, rfl, h1, h2, .inr ⟨_, rfl, small_log2 (show n ≤ 16 by omega), _, rfl, ?_, by show 1 ≤ sizeLine; omega, fun l0 n0 => ?_⟩⟩
    · rw [empty_app]
      exact Nat.le_trans (bd_len (bd_net.app (bdNS (show n ≤ 16 by omega)))) (by omega)
    rw [show (Str.empty ++ Str.ofString "network ") ++ ((toString (n : Int) : String) : Str) = lnNet n from by rw [empty_app]; rfl]
    have s1 := same_upd (o := .lst [V.str (lnNet n)]) n0
    have hl1 : upd H l0 (.lst [V.str (lnNet n)]) l0 = some (.lst (SV [lnNet n])) := upd_same
    generalize upd H l0 (.lst [V.str (lnNet n)]) = H1 at *
    obtain ⟨js, k1, k2, k3⟩ := id ed
    have kl := ed_len k2
    refine ⟨_, rfl, x, dx, fs, _, rfl, s1 _ _ h1, h3, a, rfl, ⟨_, sq_of (s1 _ _ k1)⟩, ?_⟩
    refine for_it (walk_tup (xs := js.map fun k => V.ref k.1)) (fun i σ H' => ∃ v3 v4 v5, σ = [some (.ref x), some (.ref p), some (.ref l0), v3, v4, v5] ∧ (∀ b o, b ≠ l0 → H1 b = some o → H' b = some o) ∧ H' l0 = some (.lst (SV ([lnNet n] ++ (es.take i).map lnPas))))
      ⟨_, _, _, rfl, fun _ _ _ e => e, hl1⟩ (fun i σ H' _ ⟨_, _, _, _, k, _⟩ => sq_of (k _ _ (ne_of (s1 _ _ k1) hl1 (by intro z; cases z)) (s1 _ _ k1))) ?_ ?_
    · rintro i y σ _ H2 hi ⟨v3, v4, v5, rfl, k, hL⟩ ⟨rfl, hy⟩
      obtain ⟨kk, hki, rfl⟩ := refs_get hy
      obtain ⟨e, hei, ek⟩ := ed_get k2 hki
      have tk1 := s1 _ _ (k3 kk (List.mem_of_getElem? hki))
      have tk := k _ _ (ne_of tk1 hl1 (by intro z; cases z)) tk1
      rw [ek] at tk
      have vb := he16 e (List.mem_of_getElem? hei)
      rw [nv_len, kl] at hi
      have u1 := len_nS e.1 vb.1
      have u2 := len_nS e.2 vb.2
      have n1 : ((Str.ofString "passage ") ++ nS e.1).length ≤ 10 := bd_len (bd_pas.app (bdNS vb.1))
      have n2 : (((Str.ofString "passage ") ++ nS e.1) ++ (Str.ofString " ")).length ≤ 11 := bd_len ((bd_pas.app (bdNS vb.1)).app bd_spc)
      have n3 : (lnPas e).length ≤ 13 := bd_len (bd_lnPas vb)
      refine ⟨kk.1, _, rfl, sq_of tk, rfl, _, _, rfl, _, _, rfl, rfl, ?_⟩
      refine ⟨_, rfl, .inl ⟨rfl, _, sl_of hL⟩, ?_⟩
      refine ⟨_, rfl, by rw [empty_app]; omega, _, rfl, .inr ⟨_, rfl, small_log2 vb.1, _, rfl, by rw [empty_app]; exact Nat.le_trans n1 (by omega), _, rfl, by rw [empty_app]; exact Nat.le_trans n2 (by omega), _, rfl, .inr ⟨_, rfl, small_log2 vb.2, _, rfl, by rw [empty_app]; exact Nat.le_trans n3 (by omega), ?_⟩⟩⟩
      rw [show (((Str.empty ++ Str.ofString "passage ") ++ ((toString (e.1 : Int) : String) : Str)) ++ Str.ofString " ") ++ ((toString (e.2 : Int) : String) : Str) = lnPas e from by rw [empty_app]; rfl]
      refine ⟨l0, _, _, rfl, rfl, hL, by rw [SV_len, List.length_append, List.length_map, List.length_take, List.length_singleton]; omega, _, _, _, rfl, fun b o nb eb => ?_, ?_⟩
      · rw [upd_ne nb]
        exact k b o nb eb
      · rw [upd_same, List.take_add_one, hei, List.map_append, ← List.append_assoc]
        exact congrArg (fun z => some (HO.lst z)) (SV_snoc _ _)
    · rintro σ H2 ⟨v3, v4, v5, rfl, k, hL⟩
      rw [nv_len, kl, List.take_length] at hL
      have hp2 : H2 p = some (.tup (NV ks)) := k _ _ (ne_of (s1 _ _ hp) hl1 (by intro z; cases z)) (s1 _ _ hp)
      have sm2 : Same H H2 := fun b o eb => k b o (ne_of_none eb n0) (s1 _ _ eb)
      refine ⟨_, rfl, .inl ⟨rfl, _, sl_of hL⟩, ⟨_, rfl⟩, by show 1 ≤ sizeLine; omega, fun l2 nl2 => ?_⟩
      have s4 := same_upd (o := .lst [V.str (Str.ofString "walk")]) nl2
      have h4 : upd H2 l2 (.lst [V.str (Str.ofString "walk")]) l2 = some (.lst (SV [Str.ofString "walk"])) := upd_same
      have sm4 := sm2.trans s4
      have hL4 := s4 _ _ hL
      have hp4 := s4 _ _ hp2
      generalize upd H2 l2 (.lst [V.str (Str.ofString "walk")]) = H4 at *
      refine ⟨_, rfl, p, rfl, ⟨_, sq_of hp4⟩, fun D2 nD2 => ?_⟩
      refine lc_it (walk_tup (xs := NV ks)) (fun i H' => Same H4 H' ∧ H' D2 = some (.lst (SV ((ks.take i).map nS)))) ⟨same_upd nD2, by rw [upd_same]; rfl⟩ (fun i H' _ ⟨sm, _⟩ => sq_of (sm _ _ hp4)) ?_ ?_
      · rintro i y _ H5 hi ⟨sm, hD⟩ ⟨rfl, hy⟩
        obtain ⟨m, hm1, rfl⟩ := NV_get' hy
        have hm2 := he m (List.mem_of_getElem? hm1)
        rw [NV_len] at hi
        refine ⟨rfl, _, rfl, _, rfl, small_log2 hm2, _, hD, by rw [SV_len, List.length_map, List.length_take]; omega, fun b o eb => ?_, ?_⟩
        · rw [upd_ne (ne_of_none eb nD2)]
          exact sm _ _ eb
        · rw [upd_same, List.take_add_one, hm1, List.map_append]
          exact congrArg (fun z => some (HO.lst z)) (SV_snoc _ _)
      · rintro H5 ⟨sm, hD⟩
        rw [NV_len, List.take_length] at hD
        have h45 := sm _ _ h4
        have hL5 := sm _ _ hL4
        have sm5 := sm4.trans sm
        refine ⟨l2, D2, _, _, rfl, rfl, h45, hD, ?_, fun l3 nl3 => ?_⟩
        · rw [SV_len, SV_len, List.length_map]
          show 1 + ks.length ≤ sizeLine
          omega
        rw [SV_app]
        have s6 := same_upd (o := .lst (SV (wdWalk ks))) nl3
        have h6 : upd H5 l3 (.lst (SV (wdWalk ks))) l3 = some (.lst (SV (wdWalk ks))) := upd_same
        have sm6 := sm5.trans s6
        have hL6 := s6 _ _ hL5
        rw [show [Str.ofString "walk"] ++ ks.map nS = wdWalk ks from rfl]
        generalize upd H5 l3 (.lst (SV (wdWalk ks))) = H6 at *
        have lw : (wdWalk ks).length = ks.length + 1 := by unfold wdWalk; rw [List.length_append, List.length_map, List.length_singleton]; omega
        refine ⟨_, l3, wdWalk ks, rfl, rfl, .inl (sl_of h6), jn_fit (bdl_walk he) (by omega) (by omega) (by omega), ?_⟩
        refine ⟨l0, _, _, rfl, rfl, hL6, by rw [SV_len, List.length_append, List.length_map, List.length_singleton]; omega, ?_⟩
        have e9 : SV ([lnNet n] ++ es.map lnPas) ++ [V.str (Txt.join (Str.ofString " ") (wdWalk ks))] = SV (lnsOf n es ks) := SV_snoc _ _
        rw [e9]
        refine ⟨⟨_, rfl⟩, _, rfl, _, l0, lnsOf n es ks, rfl, rfl, .inl (sl_of upd_same), jn_fit (bdl_lns (by omega) he16 he) (by omega) (by rw [lns_len]; omega) (by decide +kernel), ?_⟩
        refine q _ fun b o eb => ?_
        rw [upd_ne (ne_of_none eb n0)]
        exact sm6 _ _ eb
/-! ### text -/
def spText (CX C : Addr) (Ex : Xtr) : Sp := fun vs H Q _ => ∃ (x : Addr) (n : Nat) (es : List Ed) (ks : List Nat), vs = [.ref x] ∧ WkO CX C Ex H x n es ks ∧ VE n es ∧ n ≤ 12 ∧ es.length ≤ 16 ∧ ks.length ≤ 900 ∧ (∀ e ∈ ks, e ≤ 16) ∧ ∀ H', Same H H' → Q (.str (txtOf n es ks)) H'
theorem fr_text {CX C f : Addr} {Ex : Xtr} (O : OwnC K CX) (G : Cal P w K mg base "written" 3 (spWritten C)) (F : FunB K "text" "Walker.text" sWkText ["self"] f) : L2.FnR P w K mg base CX0 4 f (spText CX C Ex) := by
  obtain ⟨fd, F, bd⟩ := F.ex
  refine raw0 (F.ok (N := ["self"]) ⟨rfl, rfl, rfl, by decide +kernel, rfl, by decide +kernel, by decide +kernel⟩ (fun vs H Q E h => ?_) (fun cdv A outer s0 H vs Q E hr h => ?_)) bd
  · obtain ⟨x, n, es, ks, rfl, _⟩ := h
    rfl
  · obtain ⟨x, n, es, ks, rfl, wk, ve, hn, hl, hk, he, q⟩ := h
    refine ⟨_, pss_one (ps_ret (pe_cl G hr (by rfl) (pa_cons (pe_fld (pv 0) rfl) (pa_cons (pe_fld (pv 0) rfl) pa_nil)))), ?_⟩
    obtain ⟨dx, fs, y, s, t, h1, h2, h3, h4, h5, h6, h7, h8, h9, h0, hx⟩ := id wk
    exact ⟨_, rfl, x, CX, dx, fs, _, rfl, h1, O.cl, O.n1, h2, _, rfl, x, CX, dx, fs, _, rfl, h1, O.cl, O.n3, h4, y, t, n, es, ks, rfl, h7, ve, hn, hl, h9, hk, he, q⟩
end
end Hw

namespace Hw
open PySem PySem.Spec PyProof.Rows L2 ClX
theorem passE {X : Cx} {P : Program} {w : World} : Passes (L2.CX P w) X E0 := fun _ _ _ _ _ _ _ ⟨_, _, _, _, _, _, _, _, _, _, _, _, h⟩ => h.elim
section
variable {P : Program} {w : World} {K : PySem.W.Frag} {mg : Str → Option Value} {base : Heap}
/-! ### read, is_text, on any of the classes -/
def spReadX (CX C : Addr) (Ex : Xtr) (b : Bool) : Sp := fun vs H Q E => ∃ (z : Str) (n : Nat) (es : List Ed) (ks : List Nat), vs = [.ref CX, .str z] ∧ Fits z ∧ rdAll (Txt.split z "\n") = .inr (n, es, ks) ∧ ∀ H' x, Same H H' → H x = none → WkO CX C Ex H' x n es (kps b [] ks) → Q (.ref x) H'
/-- a class, made by a walker's __init__ -/
structure WkMX (P : Program) (w : World) (K : PySem.W.Frag) (mg : Str → Option Value) (base : Heap) (CX C : Addr) (Ex : Xtr) (b : Bool) : Prop where
  ex : ∃ f : Addr, Mk K CX f ∧ L2.FnR P w K mg base CX0 8 f (spWiX CX C Ex b)
theorem wkMadeX {CX C : Addr} {Ex : Xtr} {b : Bool} {H : Hp} {y : Addr} {n : Nat} {es : List Ed} {ks : List Nat} {Q : Addr → Hp → Prop} {E : XK} (ex0 : Ex es.length []) (net : NetAt5 C H y n es) (nx : NetX C H y n es) (cn : CN n es) (hl : es.length ≤ 16) (wl : Wlk es 0 ks) (hk : ks.length ≤ 1000) (q : ∀ H' x, Same H H' → H x = none → WkO CX C Ex H' x n es (kps b [] ks) → Q x H') :
    ∀ x dx, H x = none → H dx = none → dx ≠ x → spWiX CX C Ex b (.ref x :: .ref y :: NV ks) (upd (upd H dx (.own x)) x (.ins CX dx [])) (fun v H2 => v = .non ∧ Q x H2) E := fun x dx nx' nd ne => by
  have s0 : Same H (upd (upd H dx (.own x)) x (.ins CX dx [])) := fun b o e => by
    rw [upd_ne (ne_of_none e nx'), upd_ne (ne_of_none e nd)]
    exact e
  have yx : y ≠ x := fun z => by
    obtain ⟨_, _, _, _, h, _⟩ := net
    rw [z, nx'] at h
    cases h
  exact ⟨x, y, dx, [], n, es, ks, rfl, upd_same, noX_nil, Nat.zero_le _, ex0, net.same s0, nx.same s0, yx, cn, hl, wl, hk, fun H' k w' => ⟨rfl, q H' x (kx_same s0 nx' k) nx' w'⟩⟩
theorem cc_readX {CW CX C CE : Addr} {Ex : Xtr} {b : Bool} {mcW mcX : Value} (ex0 : ∀ m, Ex m []) (W : WkC K mg CW mcW) (WM : WkMX P w K mg base CX C Ex b) (GP : CalE P w K mg base "parsed" 9 ["text", "most_steps"] (spParsed K C CE)) (D : Dc K CX mcX "read" "Walker.read" sWkRead ["cls", "text"]) : CC P w K mg base (L2.CX P w) CX mcX "read" 10 (spReadX CX C Ex b) := by
  obtain ⟨p, f, fd, F, bd, cm⟩ := D.ex
  have nd := scWr.nd
  refine ⟨p, f, cm, raw0 (F.okX scWr (fun vs H Q E h => ?_) (fun cdv A outer s0 H vs Q E hr h => ?_)) bd⟩
  · obtain ⟨z, n, es, ks, rfl, _⟩ := h
    rfl
  · obtain ⟨z, n, es, ks, rfl, ft, er, q⟩ := h
    have tk : Takes (cxOf (L2.CX P w) P w K mg base nWr "Walker.read" (defScope sWkRead) f cdv A outer s0 H E) (fun cls d _ H => E cls d H) := takes_of rfl rfl rfl rfl
    have hW : ∀ (cls : Value) (d : Option Addr) (σ : L2.St) (H : Hp), E cls d H → (fun (cls : Value) (d : Option Addr) (_ : L2.St) (H : Hp) => E cls d H) cls d σ H := fun _ _ _ _ z => z
    obtain ⟨um, vm⟩ := W.mx
    obtain ⟨fi, M, FI⟩ := WM.ex
    refine ⟨_, pss_cons (ps_asg (pe_clE (E := E) GP hr tk hW (by rfl) (pa_cons (pv 1) (pa_cons (pe_cval (pe_glob (by rfl) W.gC (v := .ref CW) rfl)) pa_nil))) (pg_tup rfl (pgs_cons (pg_name (i := 2) nd rfl (.inl rfl)) (pgs_cons (pg_name (i := 3) nd rfl (.inl rfl)) pgs_nil))))
      <| pss_one (ps_ret (pe_makeVS (i := 0) (E := E0) M FI hr rfl (.inl rfl) pass0 (pa_cons (pv 2) (StX.pa_star (pv 3) pa_nil)))), ?_⟩
    refine ⟨_, rfl, CW, mcW, _, _, rfl, W.rd, vm, .str z, rfl, ?_⟩
    refine .inr ⟨z, rfl, ft, fun n' es' ks' er' H1 r y t s1 hr' nr net nx ht cn hn hl wl hk => ?_, fun l w' er' => by rw [er] at er'; cases er'⟩
    rw [er] at er'
    cases er'
    refine ⟨r, _, rfl, sq_of hr', rfl, _, _, rfl, _, _, rfl, rfl, ?_⟩
    refine ⟨rfl, _, rfl, _, rfl, t, NV ks, rfl, .inl (sq_of ht), ?_⟩
    show ∀ x dx, _
    rw [List.append_nil]
    exact wkMadeX (ex0 _) net nx cn hl wl hk fun H' x s' nx' wk => q H' x (s1.trans s') (s1.free nx') wk
theorem sc_isTextX {CW CX C CE : Addr} {mcW mcX : Value} (W : WkC K mg CW mcW) (XE : Xc2 P w K mg base "ParseError" CE "line" "word") (GP : CalE P w K mg base "parsed" 9 ["text", "most_steps"] (spParsed K C CE)) (D : Ds K CX mcX "is_text" "Walker.is_text" sWkIsText ["value"]) : SC P w K mg base CX0 CX mcX "is_text" 10 (spIsText K) := by
  obtain ⟨p, f, fd, F, b, sm⟩ := D.ex
  refine ⟨p, f, sm, raw0 (F.ok scWt (fun vs H Q E h => ?_) (fun cdv A outer s0 H vs Q E hr h => ?_)) b⟩
  · obtain ⟨v, rfl, _⟩ := h
    rfl
  · obtain ⟨v, rfl, h⟩ := h
    obtain ⟨um, vm⟩ := W.mx
    refine ⟨_, pss_cons (ps_try_only (c := .ref CE) (Wout := fun _ _ _ _ => False) (tb := fun W => tDrop (tCallS (spParsed K C CE) (L2.WE W) (tCons (tVar 0) (tCons (tCVal K (tC (.ref CW)) "MAX_STEPS") tNil)))) (ts := fun _ _ _ => tRet (tC (.bl false))) rfl rfl ⟨rfl, by decide, .inl XE.gC⟩ (fun u s' ⟨_, _, _, _, _, _, _, _, _, _, _, _, _, _, _, _, w⟩ => w.elim)
        (fun W' pn xe tk _ => pss_one (ps_expr (by exact (pe_clS GP hr tk (by rfl) (pa_cons (pv 0) (pa_cons (pe_cval (pe_glob (by rfl) W.gC (v := .ref CW) rfl)) pa_nil))))))
        (fun a oe cls d pn hz hf => pss_one (ps_ret (by exact pe_bl))))
      <| pss_one (ps_ret pe_bl), ?_⟩
    have err : ∀ l w, (∀ H', Same H H' → Q (.bl false) H') → PErS CE (L2.WE (wOnly K (.ref CE) (fun _ _ _ => tRet (tC (.bl false))) (fun _ _ _ _ => False) { nx := fun σ' H' => Q (.bl true) H', rt := Q }) [some v]) H l w := fun l w q H' d s h => ⟨true, XE.te, fun _ a na => q H' s, fun z => nomatch z⟩
    refine ⟨_, rfl, CW, mcW, _, _, rfl, W.rd, vm, v, rfl, ?_⟩
    rcases h with ⟨ns, q⟩ | ⟨z, rfl, ft, q1, q2⟩
    · exact .inl ⟨ns, err 0 0 q⟩
    · refine .inr ⟨z, rfl, ft, fun n es ks er H1 r y t s1 _ _ _ _ _ _ _ _ _ _ => q1 _ er H1 s1, fun l w er => err l w (q2 _ er)⟩
/-! ### == -/
def spEqW (C1 C2 C : Addr) : Sp := fun vs H Q _ => ∃ (a b : Addr) (n : Nat) (es : List Ed) (ks ls : List Nat) (Ex1 Ex2 : Xtr), vs = [.ref a, .ref b] ∧ WkO C1 C Ex1 H a n es ks ∧ WkO C2 C Ex2 H b n es ls ∧ ∀ H', Ext H H' → Q (.bl (decide (C1 = C2) && decide (ks = ls))) H'
theorem fr_wkEq {C1 C2 C f : Addr} (T : Txt mg) (hT : mg "type" = none) (O1 : OwnC K C1) (O2 : OwnC K C2) (m1 : PySem.W.makesIn K C1 = true) (m2 : PySem.W.makesIn K C2 = true) (N : MF P w K mg base CX0 C "__eq__" "Network.__eq__" sNetEq ["self", "other"] 1 (spEq (RNet C))) (F : FunB K "__eq__" "Walker.__eq__" sWkEq ["self", "other"] f) :
    L2.FnR P w K mg base CX0 2 f (spEqW C1 C2 C) := by
  obtain ⟨fd, F, bd⟩ := F.ex
  refine raw0 (F.ok scWkEq (fun vs H Q E h => ?_) (fun cdv A outer s0 H vs Q E hr h => ?_)) bd
  · obtain ⟨a, b, n, es, ks, ls, _, _, rfl, _⟩ := h
    rfl
  · obtain ⟨x, y, n, es, ks, ls, E1, E2, rfl, w1, w2, q⟩ := h
    have hu := hr.units
    refine ⟨_, pss_one (ps_ret (pe_and (pe_cmpR op_is_cls (pe_callTy cr_type (by rfl) hT (by decide +kernel) (pa_cons (pv 0) pa_nil)) (pe_callTy cr_type (by rfl) hT (by decide +kernel) (pa_cons (pv 1) pa_nil)) (nomark _))
      (pe_and (pe_cmpR (op_eqG (rc_net N) hr) (pe_fld (pv 0) rfl) (pe_fld (pv 1) rfl) (nomark _)) (pe_one (pe_cmpR (op_eqD hu) (pe_fld (pv 0) rfl) (pe_fld (pv 1) rfl) (nomark _)))))), ?_⟩
    obtain ⟨dx, fs, y1, s1, t1, h1, h2, h3, h4, h5, h6, h7, h8, h9, h0, hx⟩ := id w1
    obtain ⟨ex, gs, y2, s2, t2, g1, g2, g3, g4, g5, g6, g7, g8, g9, g0, gx⟩ := id w2
    obtain ⟨_, _, _, _, i1, _⟩ := id h7
    obtain ⟨_, _, _, _, j1, _⟩ := id g7
    refine ⟨_, rfl, x, C1, dx, fs, rfl, h1, _, rfl, y, C2, ex, gs, rfl, g1, C1, C2, rfl, rfl, .inr ⟨m1, m2⟩, ?_⟩
    refine ⟨_, rfl, ?_⟩
    by_cases ec : C1 = C2
    · rw [decide_eq_true ec]
      refine iteT ⟨_, rfl, x, C1, dx, fs, _, rfl, h1, O1.cl, O1.n1, h2, _, rfl, y, C2, ex, gs, _, rfl, g1, O2.cl, O2.n1, g2, ⟨y1, y2, _, _, _, _, rfl, rfl, i1, j1, n, es, h7, g7⟩, fun H1 e1 => ?_⟩
      refine ⟨_, rfl, iteT ?_⟩
      refine ⟨_, rfl, x, C1, dx, fs, _, rfl, e1 _ _ h1, O1.cl, O1.n3, h4, _, rfl, y, C2, ex, gs, _, rfl, e1 _ _ g1, O2.cl, O2.n3, g4, ?_⟩
      refine ⟨_, _, dp_tp (e1 _ _ h9), dp_tp (e1 _ _ g9), shaped_ti _, shaped_ti _, ?_⟩
      rw [eqv_tp]
      have := q _ e1
      rw [decide_eq_true ec, Bool.true_and] at this
      exact this
    · rw [decide_eq_false ec]
      have := q _ Ext.rfl'
      rw [decide_eq_false ec, Bool.false_and] at this
      exact iteF this
/-! ### led -/
abbrev nLed : List Str := ["_law_box", "_law_road_here", "_law_at"]
theorem scLed : FnScope nLed ["_law_box", "_law_road_here"] (defScope sLed) := ⟨rfl, rfl, rfl, by decide +kernel, rfl, by decide +kernel, by decide +kernel⟩
def spLed (CX C : Addr) (Ex : Xtr) (b : Bool) : Sp := fun vs H Q _ => ∃ (x r : Addr) (n : Nat) (es : List Ed) (k0 ks : List Nat), vs = [.ref x, .ref r] ∧ WkO CX C Ex H x n es k0 ∧ H r = some (.lst (NV ks)) ∧ CN n es ∧ es.length ≤ 16 ∧ Wlk es 0 k0 ∧ Wlk es (plcS es 0 k0) ks ∧ k0.length + ks.length ≤ 1000 ∧
  ∀ H', Kx x H H' → WkO CX C Ex H' x n es (kps b k0 ks) → Q (.ref x) H'
theorem cal_led {CX C : Addr} {Ex : Xtr} {b : Bool} (O : OwnC K CX) (GS : MC P w K mg base CX0 CX "step" 9 (spStepX CX C Ex b)) (D : Df K mg "_law_led" sLed ["_law_box", "_law_road_here"]) : Cal P w K mg base "_law_led" 10 (spLed CX C Ex b) := by
  have nd := scLed.nd
  refine cal_of D scLed (fun vs H Q E h => ?_) (fun f cdv A outer s0 H vs Q E hr h => ?_)
  · obtain ⟨x, r, n, es, k0, ks, rfl, _⟩ := h
    rfl
  · obtain ⟨x, r, n, es, k0, ks, rfl, wk, hr0, cn, hl, w0, wl, hk, q⟩ := h
    refine ⟨_, pss_cons (ps_for PassesOwn.never rfl (pi_list (pv 1)) (pg_name (i := 2) nd rfl (.inl rfl)) (pss_one (ps_expr (pe_m GS O.cl hr (pv 0) (pa_cons (pv 2) pa_nil)))))
      <| pss_one (ps_ret (pv 0)), ?_⟩
    have st0i := st0_is n es cn.1
    obtain ⟨dx0, f0, y0, s0', t0, hx0, _⟩ := id wk
    have nr : r ≠ x := ne_of hr0 hx0 (by intro z; cases z)
    refine ⟨_, rfl, r, rfl, ⟨_, sl_of hr0⟩, for_it (walk_list (xs := NV ks)) (fun i σ H' => ∃ v2, σ = [some (.ref x), some (.ref r), v2] ∧ Kx x H H' ∧ WkO CX C Ex H' x n es (kps b k0 (ks.take i))) ⟨_, rfl, fun b o _ e => e, wk⟩ (fun i σ H' _ ⟨_, _, k, _⟩ => sl_of (k _ _ nr hr0)) ?_ ?_⟩
    · rintro i y σ _ H2 hi ⟨v2, rfl, k, wk2⟩ ⟨rfl, hy⟩
      obtain ⟨e, he, rfl⟩ := NV_get' hy
      have il := (List.getElem?_eq_some_iff.mp he).1
      have wt : Wlk es (plcS es 0 k0) (ks.take i) := by
        have := wl
        rw [← List.take_append_drop i ks, wlk_app] at this
        exact this.1
      obtain ⟨wi, ri⟩ := kps_walk cn.2.1 st0i b (k0 := k0) (ks := ks.take i) w0 wt
      have hd : e ∈ drs es (plcS es 0 (kps b k0 (ks.take i))) := by
        rw [show (0 : Nat) = (st0 es).1 from rfl, kps_plc cn.2.1 st0i b w0 wt]
        exact wlk_get wl he
      have lk : (kps b k0 (ks.take i)).length ≤ k0.length + i := by
        have := kps_len b (ks.take i) k0
        rw [List.length_take] at this
        omega
      obtain ⟨dx, fs, yy, s, t, g1, g2, g3, g4, g5, _⟩ := id wk2
      refine ⟨_, rfl, x, dx, fs, rfl, g1, g5 _ (by decide +kernel), _, rfl, x, n, es, _, e, rfl, wk2, cn, hl, wi, hd, by omega, fun H3 k3 w3 => ?_⟩
      refine ⟨_, rfl, k.trans k3, ?_⟩
      rw [List.take_add_one, he]
      show WkO CX C Ex H3 x n es (kps b k0 (ks.take i ++ [e]))
      rw [kps_snoc]
      exact w3
    · rintro σ H2 ⟨v2, rfl, k, wk2⟩
      rw [NV_len, List.take_length] at wk2
      exact ⟨_, rfl, q H2 k wk2⟩
end
end Hw

namespace Hw
open PySem PySem.Spec PyProof.Rows L2 ClX
abbrev nSrt : List Str := ["_law_taken", "_law_found", "_law_at"]
theorem scSrt : FnScope nSrt ["_law_taken"] (defScope sShortened) := ⟨rfl, rfl, rfl, by decide +kernel, rfl, by decide +kernel, by decide +kernel⟩
def spShort : Sp := fun vs H Q _ => ∃ (r : Addr) (ks : List Nat), vs = [.ref r] ∧ H r = some (.lst (NV ks)) ∧ ks.length ≤ 900 ∧ ∀ H' t, Same H H' → Tp H' t (redF ks) → Q (.ref t) H'
section
variable {P : Program} {w : World} {K : PySem.W.Frag} {mg : Str → Option Value} {base : Heap}
theorem cal_short (D : Df K mg "_law_shortened" sShortened ["_law_taken"]) : Cal P w K mg base "_law_shortened" 1 spShort := by
  have nd := scSrt.nd
  refine cal_of D scSrt (fun vs H Q E h => ?_) (fun f cdv A outer s0 H vs Q E hr h => ?_)
  · obtain ⟨r, ks, rfl, _⟩ := h
    rfl
  · obtain ⟨r, ks, rfl, hr0, hk, q⟩ := h
    have hu := hr.units
    refine ⟨_, pss_cons (ps_set (i := 1) nd rfl (.inl rfl) (pe_tup pa_nil))
      <| pss_cons (ps_for PassesOwn.never rfl (pi_list (pv 0)) (pg_name (i := 2) nd rfl (.inl rfl))
          (pss_one (ps_set (i := 1) nd rfl (.inl rfl) (pe_ifExp (PW.pt (pw_and (pt_cmpR (op_neD hu) (pv 1) (pe_tup pa_nil) (nomark _)) (pw_and1 (pt_cmpR op_eq (pe_ix (r := rIxT K) ix_tup (pv 1) (pe_un un_neg pe_int) (fun _ _ => rfl)) (pv 2) (nomark _)))))
            (pe_slice sl_tupA (pv 1) po_none (po_some (pe_un un_neg pe_int))) (pe_op op_catA (pv 1) (pe_tup (pa_cons (pv 2) pa_nil)))))))
      <| pss_one (ps_ret (pv 1)), ?_⟩
    refine ⟨Nat.zero_le _, fun t0 nt0 => ?_⟩
    have s1 := same_upd (o := .tup []) nt0
    have ht0 : upd H t0 (.tup []) t0 = some (.tup (NV (redF (ks.take 0)))) := upd_same
    generalize upd H t0 (.tup []) = H1 at *
    refine ⟨_, rfl, r, rfl, ⟨_, sl_of (s1 _ _ hr0)⟩, for_it (walk_list (xs := NV ks)) (fun i σ H' => ∃ t v2, σ = [some (.ref r), some (.ref t), v2] ∧ Same H1 H' ∧ Tp H' t (redF (ks.take i))) ⟨t0, _, rfl, fun _ _ e => e, ht0⟩ (fun i σ H' _ ⟨_, _, _, sm, _⟩ => sl_of (sm _ _ (s1 _ _ hr0))) ?_ ?_⟩
    · rintro i y σ _ H2 hi ⟨t, v2, rfl, sm, ht⟩ ⟨rfl, hy⟩
      obtain ⟨e, he, rfl⟩ := NV_get' hy
      have rl : (redF (ks.take i)).length ≤ 900 := by
        have := kps_len true (ks.take i) []
        rw [kps_t] at this
        rw [List.length_take, List.length_nil] at this
        omega
      have nx : redF (ks.take (i + 1)) = pushR (redF (ks.take i)) e := by
        rw [List.take_add_one, he]
        exact redF_snoc _ _
      generalize redF (ks.take i) = rd at *
      refine ⟨_, rfl, Nat.zero_le _, fun t1 nt1 => ?_⟩
      have s2 := same_upd (o := .tup []) nt1
      have ht1 : upd H2 t1 (.tup []) t1 = some (.tup (NV [])) := upd_same
      have ht2 := s2 _ _ ht
      have sm2 := sm.trans s2
      generalize upd H2 t1 (.tup []) = H3 at *
      refine ⟨_, _, dp_tp ht2, dp_tp ht1, shaped_ti _, shaped_ti _, ?_⟩
      rw [eqv_tp]
      have cat : pushR rd e = rd ++ [e] → (tOp (rCatA K) (tVar 1) (tTup (tCons (tVar 2) tNil))) [some (.ref r), some (.ref t), some (.int (e : Int))] H3 (fun v H' => ∃ t' v2', [some (.ref r), some v, some (.int (e : Int))] = [some (.ref r), some (.ref t'), v2'] ∧ Same H1 H' ∧ Tp H' t' (redF (ks.take (i + 1)))) := fun z => by
        refine ⟨_, rfl, _, rfl, by show 1 ≤ sizeLine; decide, fun p np => ?_⟩
        have s3 := same_upd (o := .tup [V.int (e : Int)]) np
        have hp1 : upd H3 p (.tup [V.int (e : Int)]) p = some (.tup [V.int (e : Int)]) := upd_same
        generalize upd H3 p (.tup [V.int (e : Int)]) = H4 at *
        refine ⟨t, p, _, _, rfl, rfl, sq_of (s3 _ _ ht2), sq_of hp1, ?_, fun z0 => ?_, fun _ z => (nomatch z), fun _ _ r nr => ?_⟩
        · rw [NV_len]
          show rd.length + 1 ≤ sizeLine
          have : sizeLine = 16777216 := by decide
          omega
        · refine ⟨p, _, rfl, sm2.trans s3, ?_⟩
          have : rd = [] := by
            cases rd with
            | nil => rfl
            | cons a l => cases z0
          rw [nx, z, this]
          exact hp1
        · refine ⟨r, _, rfl, sm2.trans (s3.trans (same_upd nr)), ?_⟩
          show upd H4 r _ r = _
          rw [upd_same, nx, z]
          show some (HO.tup (NV rd ++ [V.int (e : Int)])) = some (HO.tup (NV (rd ++ [e])))
          rw [NV_snoc]
      cases hg : rd.getLast? with
      | none =>
        have e0 : rd = [] := List.getLast?_eq_none_iff.mp hg
        subst e0
        rw [decide_eq_true rfl]
        refine ⟨_, rfl, iteF (iteF ?_)⟩
        exact cat rfl
      | some z =>
        have ne : rd ≠ [] := fun e => by rw [e] at hg; simp at hg
        rw [decide_eq_false ne]
        refine ⟨_, rfl, iteT ⟨_, rfl, 1, rfl, t, _, _, _, rfl, rfl, sq_of ht2, at_last (NV_last hg), _, rfl, rfl, _, rfl, ite2 (fun c => ?_) (fun c => ?_)⟩⟩
        · have zx : z = e := by
            have := of_decide_eq_true c
            have : (z : Int) = (e : Int) := by simpa using this
            omega
          subst zx
          have ek : pushR rd z = rd.dropLast := by
            unfold pushR
            rw [if_pos hg]
          have lp : 0 < rd.length := List.length_pos_iff.mpr ne
          refine ⟨_, rfl, 1, rfl, _, rfl, t, _, rfl, sq_of ht2, fun hw => ?_, fun _ p np => ⟨p, _, rfl, sm2.trans (same_upd np), ?_⟩⟩
          · exfalso
            have h2 : ((-1 : Int) + ((NV rd).length : Int)).toNat = (NV rd).length := hw.2
            rw [NV_len] at h2
            omega
          · show upd H3 p _ p = _
            rw [upd_same, show (-(1 : Int)) = -1 from rfl, cut_init, NV_init, nx, ek]
        · have nz : ¬ z = e := fun q => c (by rw [q]; exact decide_eq_true rfl)
          refine cat ?_
          unfold pushR
          rw [if_neg (by rw [hg]; exact fun q => nz (Option.some.inj q))]
    · rintro σ H2 ⟨t, v2, rfl, sm, ht⟩
      rw [NV_len, List.take_length] at ht
      exact ⟨_, rfl, q H2 t (s1.trans sm) ht⟩
end
end Hw

namespace Hw
open PySem PySem.Spec PyProof.Rows L2 ClX
/-- o.m(), a promise of the raw kind -/
def tM0 (C : Addr) (m : Str) (sp : Sp) (ta : TE) : TE := fun σ H Q => ta σ H fun x H1 => ∃ a dx fs, x = .ref a ∧ H1 a = some (.ins C dx fs) ∧ fs.lookup m = none ∧ sp [.ref a] H1 Q E0
theorem pe_mR0 {X : Cx} {k : Nat} {C : Addr} {m : Str} {sp : Sp} {o : Expr} {ta : TE} {apos pos : Pos} {pl : Sem Bool} (M : MC X.prog X.w X.K X.mg X.base CX0 C m k sp) (c : Cls X.K C) (hr : Room k X.A) (he : PE X o ta)
    (ht : eval (.Call (.Attribute o m apos) [] [] pos) X.env = (do let ov ← eval o X.env; standAt apos.atName; let (f, first) ← holding [ov] (getMethod ov m pl); callWith pos f first (backTo pos (starEach [] X.env)) (backToKw pos (keywordEach [] X.env))) := by rfl) :
    PE X (.Call (.Attribute o m apos) [] [] pos) (tM0 C m sp ta) := by
  obtain ⟨f, hm, F⟩ := M.ex
  refine ⟨fun pins s σ H Q I h => ?_⟩
  refine PySem.W.methodCall_KW (pl := pl) (thn (he.run pins s σ H _ I h) fun u s1 ⟨x, H1, I1, rx, a, dx, fs, ex, ea, l, q⟩ => ?_) ht
  subst ex
  obtain rfl : u = Value.ref a := rx
  refine getmeth_ok I1 ea c hm l ?_
  exact PySem.W.callWith_K0 (first := [.ref a]) I1.kIn hm.kp (run_at (us := [.ref a]) (vs := [.ref a]) F hr rfl pass0 I1 (.cons rfl .nil) q)
theorem pe_mkR {X : Cx} {x : Str} {f C : Addr} {k : Nat} {sp : Sp} {e : Expr} {es : List Expr} {t : TA} {p pos : Pos} (M : Mk X.K C f) (F : L2.FnR X.prog X.w X.K X.mg X.base CX0 k f sp) (hr : Room (k + 1) X.A) (hg : Gl X x) (hm : X.mg x = some (.ref C)) (ha : PA X (e :: es) t) (hdb : (x == ("__debug__" : Str)) = false := by decide)
    (he : starEach (e :: es) X.env = (false, eval e X.env) :: starEach es X.env := by rfl) (hpl : (backTo pos (starEach es X.env)).any (·.1) = false := by rfl) : PE X (.Call (.Name x p) (e :: es) [] pos) (StX.tMakeR C sp E0 t) := by
  refine ⟨fun pins s σ H Q I h => ?_⟩
  refine wpAny_Call_Name_kw (ld_glob I hg hm ?_ hdb)
  refine PySem.W.callWith_K (h₀ := X.base) I.ok.mod.kin M.kp (thn (ha.run pos pins s σ H _ I h) fun us s1 ⟨vs, H1, I1, r, q⟩ => ⟨I1.kIn, ?_⟩) he hpl
  exact StX.run_makeR M F hr pass0 I1 r q
theorem NetX.kp {C m lg lc x : Addr} {H H' : Hp} {s n : Nat} {es : List Ed} (h : NetX C H x n es) (k : Kp m lg H H') (M : MOk H m lg lc s) : NetX C H' x n es := by
  obtain ⟨dx, fs, s, t, b, c, h1, h2, h3, h4, h5, h6, h7, ks, a1, b1, c1⟩ := h
  obtain ⟨cs, gs, m1, m2, m3, _⟩ := id M
  exact ⟨dx, fs, s, t, b, c, k x _ (ne_of h1 m1 (by intro q; cases q)) (ne_of h1 m3 (by intro q; cases q)) h1, h2, h3, h4, k.tup M h5, k.tup M h6, k.tup M h7, ks, k.tup M a1, b1, fun y hy => k.tup M (c1 y hy)⟩
theorem NetAt5.kp {C m lg lc x : Addr} {H H' : Hp} {s n : Nat} {es : List Ed} (h : NetAt5 C H x n es) (k : Kp m lg H H') (M : MOk H m lg lc s) : NetAt5 C H' x n es := by
  obtain ⟨dx, fs, a, e, h1, h2, h3, h4, h5, h6, ks, a1, b1, c1⟩ := h
  obtain ⟨cs, gs, m1, m2, m3, _⟩ := id M
  exact ⟨dx, fs, a, e, k x _ (ne_of h1 m1 (by intro q; cases q)) (ne_of h1 m3 (by intro q; cases q)) h1, h2, h3, h4, h5, h6.kp k M, ks, k.tup M a1, b1, fun y hy => k.tup M (c1 y hy)⟩
theorem WkO.kp {CX C m lg lc x : Addr} {Ex : Xtr} {H H' : Hp} {s n : Nat} {es : List Ed} {ks : List Nat} (h : WkO CX C Ex H x n es ks) (k : Kp m lg H H') (M : MOk H m lg lc s) : WkO CX C Ex H' x n es ks := by
  obtain ⟨dx, fs, y, s, t, h1, h2, h3, h4, h5, h6, h7, ⟨q, g1, g2⟩, h9, h0, h10⟩ := h
  obtain ⟨cs, gs, m1, m2, m3, _⟩ := id M
  exact ⟨dx, fs, y, s, t, k x _ (ne_of h1 m1 (by intro q; cases q)) (ne_of h1 m3 (by intro q; cases q)) h1, h2, h3, h4, h5, h6, h7.kp k M, ⟨q, k.tup M g1, k.tup M g2⟩, k.tup M h9, h0, h10⟩
/-- another walker goes: this one stays -/
theorem WkO.kx {CX CZ C x z : Addr} {Ex : Xtr} {H H' : Hp} {dz : Addr} {gs : List (Str × V)} {n : Nat} {es : List Ed} {ks : List Nat} (h : WkO CX C Ex H x n es ks) (k : Kx z H H') (hz : H z = some (.ins CZ dz gs)) (ne : x ≠ z) (nc : CZ ≠ C) : WkO CX C Ex H' x n es ks := by
  obtain ⟨dx, fs, y, s, t, h1, h2, h3, h4, h5, h6, h7, h8, h9, h0, h10⟩ := h
  have yz : y ≠ z := fun e => by
    obtain ⟨_, _, _, _, g1, _⟩ := h7
    rw [e, hz] at g1
    injection g1 with g2
    injection g2 with g3
    exact nc g3
  exact ⟨dx, fs, y, s, t, k x _ ne h1, h2, h3, h4, h5, h6, h7.kx k hz yz, h8.kx k hz, k.tup hz h9, h0, h10⟩
theorem WkO.ins {CX C x : Addr} {Ex : Xtr} {H : Hp} {n : Nat} {es : List Ed} {ks : List Nat} (h : WkO CX C Ex H x n es ks) : ∃ dx fs, H x = some (.ins CX dx fs) ∧ NoX fs := by
  obtain ⟨dx, fs, y, s, t, h1, h2, h3, h4, h5, _⟩ := h
  exact ⟨dx, fs, h1, h5⟩
theorem MOk.kx {m lg lc z CZ dz : Addr} {gs : List (Str × V)} {H H' : Hp} {s : Nat} (M : MOk H m lg lc s) (k : Kx z H H') (hz : H z = some (.ins CZ dz gs)) : MOk H' m lg lc s := by
  obtain ⟨cs, g, m1, m2, m3, r⟩ := M
  exact ⟨cs, g, k _ _ (ne_of m1 hz (by intro q; cases q)) m1, k _ _ (ne_of m2 hz (by intro q; cases q)) m2, k _ _ (ne_of m3 hz (by intro q; cases q)) m3, r⟩
/-- what the law holds besides its walkers -/
structure LB (C : Addr) (H : Hp) (m lg lc : Addr) (s : Nat) (rr yn ro : Addr) (n : Nat) (es : List Ed) (ks : List Nat) : Prop where
  M : MOk H m lg lc s
  ed : EdT H rr es
  net : NetAt5 C H yn n es
  nx : NetX C H yn n es
  ro : H ro = some (.lst (NV ks))
section
variable {C m lg lc rr yn ro : Addr} {H H' : Hp} {s n : Nat} {es : List Ed} {ks : List Nat}
theorem LB.same (L : LB C H m lg lc s rr yn ro n es ks) (z : Same H H') : LB C H' m lg lc s rr yn ro n es ks := ⟨L.M.same z, L.ed.same z, L.net.same z, L.nx.same z, z _ _ L.ro⟩
theorem LB.ne (L : LB C H m lg lc s rr yn ro n es ks) {x : Addr} (h : H x = none) : yn ≠ x := fun z => by
  obtain ⟨_, _, _, _, h1, _⟩ := L.net
  rw [z, h] at h1
  cases h1
theorem LB.nei (L : LB C H m lg lc s rr yn ro n es ks) {x CZ dz : Addr} {gs : List (Str × V)} (h : H x = some (.ins CZ dz gs)) (nc : CZ ≠ C) : yn ≠ x := fun z => by
  obtain ⟨_, _, _, _, h1, _⟩ := L.net
  rw [z, h] at h1
  injection h1 with g2
  injection g2 with g3
  exact nc g3
theorem LB.kx (L : LB C H m lg lc s rr yn ro n es ks) {x CZ dz : Addr} {gs : List (Str × V)} (k : Kx x H H') (h : H x = some (.ins CZ dz gs)) (nc : CZ ≠ C) : LB C H' m lg lc s rr yn ro n es ks :=
  ⟨L.M.kx k h, L.ed.kx k h, L.net.kx k h (L.nei h nc), L.nx.kx k h (L.nei h nc), k _ _ (ne_of L.ro h (by intro z; cases z)) L.ro⟩
theorem LB.kp (L : LB C H m lg lc s rr yn ro n es ks) {s2 : Nat} (k : Kp m lg H H') (g : ro ≠ lg) (M : MOk H' m lg lc s2) : LB C H' m lg lc s2 rr yn ro n es ks :=
  ⟨M, L.ed.kp k L.M, L.net.kp k L.M, L.nx.kp k L.M, k.lst L.M g L.ro⟩
end
abbrev dSt (s : Sta) : PyData := .tuple [.int (s.1 : Int), .tuple ((NI s.2).map PyData.int)]
theorem dp_st {K : PySem.W.Frag} {H : Hp} {t : Addr} {s : Sta} (h : StT H t s) : Dp K H (.ref t) (dSt s) := by
  obtain ⟨q, h1, h2⟩ := h
  exact .tup (sq_of h1) (.cons (dpa_ints (K := K) (H := H) [(s.1 : Int)] |> fun z => by cases z with | cons a _ => exact a) (.cons (dp_tp h2) (dpa_ints (K := K) (H := H) [])))
theorem lay_st (s : Sta) : (dSt s).canLay0 = true := by
  show (PyData.canLay0 (.int (s.1 : Int)) && (PyData.canLayAll0 ((NI s.2).map PyData.int) && true)) = true
  rw [lay_ints]
  rfl
theorem shaped_st (s : Sta) : SeqAt.shaped (dSt s) = true := by
  unfold SeqAt.shaped
  have d : (dSt s).depth ≤ 64 := by
    show max (PyData.depth (.int (s.1 : Int))) (max (PyData.depthAll ((NI s.2).map PyData.int) + 1) 0) + 1 ≤ 64
    rw [depth_ints]
    show max 0 (max (0 + 1) 0) + 1 ≤ 64
    decide
  rw [lay_st, decide_eq_true d]
  rfl
theorem eqv_st (s : Sta) : PyData.eqv (dSt s) (dSt s) = true := SeqAt.eqv_refl _ (lay_st s)
theorem eqW_t {C : Addr} (a : List Nat) : (true != (decide (C = C) && decide (a = a))) = false := by simp
theorem eqW_ne {C D : Addr} (h : C ≠ D) (a b : List Nat) : (false != (decide (C = D) && decide (a = b))) = false := by simp [h]
theorem eqW_two {C : Addr} (a b : List Nat) : (!decide (V.bl (false != (decide (C = C) && decide (a = b))) = V.bl (decide (a = b)))) = false := by simp
theorem eqW_f {C : Addr} {a b : List Nat} (h : a ≠ b) : (false != (decide (C = C) && decide (a = b))) = false := by simp [h]
theorem ne_self {x : V} {H : Hp} {Q : VK} (h : scal x x = true) (q : Q (.bl false) H) : rNe x x H Q := ⟨h, by rw [decide_eq_true rfl]; exact q⟩
theorem same_mk {H : Hp} {CX x dx : Addr} (nx : H x = none) (nd : H dx = none) : Same H (upd (upd H dx (.own x)) x (.ins CX dx [])) := fun b o e => by
  rw [upd_ne (ne_of_none e nx), upd_ne (ne_of_none e nd)]
  exact e
theorem ne_ins {H : Hp} {x z CX dx : Addr} {fs : List (Str × V)} (h : H x = some (.ins CX dx fs)) (n : H z = none) : x ≠ z := ne_of_none h n
section
variable {P : Program} {w : World} {K : PySem.W.Frag} {mg : Str → Option Value} {base : Heap}
structure LawH (P : Program) (w : World) (K : PySem.W.Frag) (mg : Str → Option Value) (base : Heap) (CW CS CA C : Addr) (mcW : Value) : Prop where
  begun : Cal P w K mg base "_law_begun" 2 (spBegun K)
  draw : Cal P w K mg base "_law_draw" 2 spDraw
  ties : Cal P w K mg base "_law_ties" 5 spTies
  road : Cal P w K mg base "_law_road" 3 spRoad
  doors : Cal P w K mg base "_law_doors" 1 spDoors
  textL : Cal P w K mg base "_law_text_of" 1 spTextOfL
  textT : Cal P w K mg base "_law_text_of" 1 spTextOfT
  short : Cal P w K mg base "_law_shortened" 1 spShort
  NM : NetM P w K mg base C
  cW : mg "Walker" = some (.ref CW)
  cS : mg "Stroller" = some (.ref CS)
  cC : mg "Carrier" = some (.ref CA)
  WM : WkMX P w K mg base CW C ExN false
  SM : WkMX P w K mg base CS C ExN true
  CM : ∃ f, Mk K CA f ∧ FnKW P w K mg base CX0 9 f ["thing", "position"] (spCi CA C)
  OW : OwnC K CW
  OS : OwnC K CS
  OC : OwnC K CA
  ledW : Cal P w K mg base "_law_led" 10 (spLed CW C ExN false)
  ledS : Cal P w K mg base "_law_led" 10 (spLed CS C ExN true)
  ledC : Cal P w K mg base "_law_led" 10 (spLed CA C ExC false)
  tW : MC P w K mg base CX0 CW "text" 4 (spText CW C ExN)
  tS : MC P w K mg base CX0 CS "text" 4 (spText CS C ExN)
  tC : MC P w K mg base CX0 CA "text" 4 (spText CA C ExC)
  stW : MC P w K mg base CX0 CW "step" 9 (spStepX CW C ExN false)
  rW : CC P w K mg base (L2.CX P w) CW mcW "read" 10 (spReadX CW C ExN false)
  rS : CC P w K mg base (L2.CX P w) CS mcW "read" 10 (spReadX CS C ExN true)
  iW : SC P w K mg base CX0 CW mcW "is_text" 10 (spIsText K)
  iS : SC P w K mg base CX0 CS mcW "is_text" 10 (spIsText K)
  crW : CRead K CW mcW
  crS : CRead K CS mcW
  eq : ∃ f, EqIn K CW f ∧ EqIn K CS f ∧ L2.FnR P w K mg base CX0 2 f (spEqW CW CW C) ∧ L2.FnR P w K mg base CX0 2 f (spEqW CS CS C) ∧ L2.FnR P w K mg base CX0 2 f (spEqW CS CW C)
  eqN : ∃ f, EqIn K C f ∧ L2.FnR P w K mg base CX0 1 f (spEq (RNet C))
  nfW : PySem.W.notFirst K CW (.ref CW) = true
  nfS : PySem.W.notFirst K CS (.ref CS) = true
  nfN : PySem.W.notFirst K C (.ref C) = true
  sub : PySem.W.mroIn K CS (.ref CW) = some true
  ne : CS ≠ CW
  nW : CW ≠ C
  nS : CS ≠ C
  nC : CA ≠ C
  pNw : PrG P w K mg base CW "network" "_network"
  pStW : PrG P w K mg base CW "state" "_state"
  pStS : PrG P w K mg base CS "state" "_state"
  pSpW : PrG P w K mg base CW "steps" "_steps"
  pSpS : PrG P w K mg base CS "steps" "_steps"
  pPl : PrS P w K mg base CW "place" 1 (spPlc CW C ExN)
abbrev nLaw : List Str := ["_law_script", "_law_m", "_law_again", "_law_many", "_law_ties_here", "_law_net", "_law_top_here", "_law_road_here", "_law_box", "_law_far", "_law_short", "_law_due", "_law_due_short", "_law_task", "_law_twin", "_law_near", "_law_some"]
theorem scLaw : FnScope nLaw ["_law_script"] (defScope sLaw) := ⟨rfl, rfl, rfl, by decide +kernel, rfl, by decide +kernel, by decide +kernel⟩
def spLaw (K : PySem.W.Frag) : Sp := fun vs H Q _ => ∃ (a : Addr) (ns : List Int), vs = [.ref a] ∧ SqL K H a (ns.map V.int) ∧ ns.length ≤ 63 ∧ ∀ H', Q (.bl true) H'
theorem ok_law {CW CS CA C : Addr} {mcW : Value} {f0 : Addr} {fd0 : FuncData} (T : Txt mg) (G : LawH P w K mg base CW CS CA C mcW) (F0 : Fun K "law" "law" sLaw f0 fd0) : FnOk P w K mg base CX0 11 f0 fd0 ["_law_script"] (spLaw K) := by
  have nd := scLaw.nd
  refine F0.ok scLaw (fun vs H Q E h => ?_) (fun cdv A outer s0 H vs Q E hr h => ?_)
  · obtain ⟨a, ns, rfl, _⟩ := h
    rfl
  · obtain ⟨a, ns, rfl, ha, hl, q⟩ := h
    have hr1 := hr.mono (show 1 ≤ 10 by decide)
    have hr2 := hr.mono (show 2 ≤ 10 by decide)
    have hr3 := hr.mono (show 3 ≤ 10 by decide)
    have hr4 := hr.mono (show 4 ≤ 10 by decide)
    have hr5 := hr.mono (show 5 ≤ 10 by decide)
    have hr7 := hr.mono (show 7 ≤ 10 by decide)
    have hr9 := hr.mono (show 9 ≤ 10 by decide)
    have hu := hr.units
    obtain ⟨fW, MW, FW⟩ := G.WM.ex
    obtain ⟨fS, MS_, FS⟩ := G.SM.ex
    obtain ⟨fC, MC_, FC⟩ := G.CM
    obtain ⟨fe, eW, eS, qWW, qSS, qSW⟩ := G.eq
    obtain ⟨fn, eN, qN⟩ := G.eqN
    obtain ⟨prW, fdW, cmW, frW⟩ := G.rW.ex
    obtain ⟨prS, fdS, cmS, frS⟩ := G.rS.ex
    refine ⟨_, pss_cons (ps_set (i := 1) nd rfl (.inl rfl) (pe_cl G.begun hr2 (by rfl) (pa_cons (pv 0) pa_nil)))
      <| pss_cons (ps_for PassesOwn.never rfl (pi_range1 (by rfl) T.range (pa_cons pe_int pa_nil)) (pg_name (i := 2) nd rfl (.inl rfl))
          (pss_cons (ps_asg (pe_cl G.ties hr5 (by rfl) (pa_cons (pv 1) (pa_cons (pe_op op_add pe_int (pe_cl G.draw hr2 (by rfl) (pa_cons (pv 1) (pa_cons pe_int pa_nil)))) (pa_cons (pe_cl G.draw hr2 (by rfl) (pa_cons (pv 1) (pa_cons pe_int pa_nil))) (pa_cons (pe_cl G.draw hr2 (by rfl) (pa_cons (pv 1) (pa_cons pe_int pa_nil))) pa_nil)))))
              (pg_tup rfl (pgs_cons (pg_name (i := 3) nd rfl (.inl rfl)) (pgs_cons (pg_name (i := 4) nd rfl (.inl rfl)) pgs_nil))))
          <| pss_cons (ps_par (i := 5) (j := 6) (by rfl) nd rfl rfl (by decide) rfl rfl (pa_cons (pe_netM G.NM hr7 (by rfl) (pa_cons (pv 3) (pa_cons (pv 4) pa_nil))) (pa_cons (pe_op op_add (pe_callB cr_len (by rfl) T.len PySem.boot_len (pa_cons (pv 4) pa_nil)) pe_int) pa_nil)) (by rfl))
          <| pss_cons (ps_set (i := 7) nd rfl (.inl rfl) (pe_cl G.road hr3 (by rfl) (pa_cons (pv 1) (pa_cons (pv 4) (pa_cons pe_int (pa_cons (pe_ix (r := rIxL K) ix_list (pe_lst (pa_cons pe_int (pa_cons pe_int (pa_cons pe_int (pa_cons pe_int pa_nil))))) (pe_cl G.draw hr2 (by rfl) (pa_cons (pv 1) (pa_cons pe_int pa_nil))) (fun _ _ => rfl)) pa_nil))))))
          <| pss_cons (ps_par (i := 8) (j := 9) (by rfl) nd rfl rfl (by decide) rfl rfl (pa_cons (pe_cl G.ledW hr (by rfl) (pa_cons (pe_mkR MW FW hr9 (by rfl) G.cW (pa_cons (pv 5) pa_nil)) (pa_cons (pv 7) pa_nil))) (pa_cons (pe_cl G.ledS hr (by rfl) (pa_cons (pe_mkR MS_ FS hr9 (by rfl) G.cS (pa_cons (pv 5) pa_nil)) (pa_cons (pv 7) pa_nil))) pa_nil)) (by rfl))
          <| pss_cons (ps_set (i := 10) nd rfl (.inl rfl) (pe_cl G.short hr1 (by rfl) (pa_cons (pv 7) pa_nil)))
          <| pss_cons (ps_par (i := 11) (j := 12) (by rfl) nd rfl rfl (by decide) rfl rfl (pa_cons (pe_cl G.textL hr1 (by rfl) (pa_cons (pv 3) (pa_cons (pv 4) (pa_cons (pv 7) pa_nil)))) (pa_cons (pe_cl G.textT hr1 (by rfl) (pa_cons (pv 3) (pa_cons (pv 4) (pa_cons (pv 10) pa_nil)))) pa_nil)) (by rfl))
          <| pss_cons (ps_if (PW.pt (pw_or (pt_cmpR op_ne (pe_mR0 G.tW G.OW.cl hr4 (pv 8)) (pv 11) (nomark _)) (pw_or1 (pt_cmpR op_ne (pe_mR0 G.tS G.OS.cl hr4 (pv 9)) (pv 12) (nomark _))))) (pss_one ps_never) pss_nil)
          <| pss_cons (ps_set (i := 13) nd rfl (.inl rfl) (pe_makeKW MC_ FC hr (by rfl) G.cC pass0 (pa_cons (pv 5) pa_nil) (pk_cons (pe_cl G.draw hr2 (by rfl) (pa_cons (pv 1) (pa_cons (pv 6) pa_nil))) (pk_cons (pe_cl G.draw hr2 (by rfl) (pa_cons (pv 1) (pa_cons (pv 6) pa_nil))) pk_nil))))
          <| pss_cons (ps_if (PW.pt (pw_or (pt_cmpR op_ne (pe_mR0 G.tC G.OC.cl hr4 (pe_cl G.ledC hr (by rfl) (pa_cons (pv 13) (pa_cons (pv 7) pa_nil)))) (pv 11) (nomark _)) (pw_or (pt_cmpR op_isnot_bl (pe_scl G.iW G.crW hr (pe_glob (by rfl) G.cW (v := .ref CW) rfl) (pa_cons (pv 11) pa_nil)) pe_bl (nomark _))
              (pw_or1 (pt_cmpR op_isnot_bl (pe_scl G.iS G.crS hr (pe_glob (by rfl) G.cS (v := .ref CS) rfl) (pa_cons (pv 11) pa_nil)) pe_bl (nomark _)))))) (pss_one ps_never) pss_nil)
          <| pss_cons (ps_par (i := 14) (j := 15) (by rfl) nd rfl rfl (by decide) rfl rfl (pa_cons (pe_cmeth (E := E0) (pe_glob (by rfl) G.cW (v := .ref CW) rfl) G.crW cmW frW hr passE (pa_cons (pv 11) pa_nil)) (pa_cons (pe_cmeth (E := E0) (pe_glob (by rfl) G.cS (v := .ref CS) rfl) G.crS cmS frS hr passE (pa_cons (pv 11) pa_nil)) pa_nil)) (by rfl))
          <| pss_cons (ps_if (PW.pt (pw_or (pt_cmpR (op_neC eW qWW G.nfW hr3 pass0) (pv 14) (pv 8) (nomark _)) (pw_or (pt_cmpR (op_neC eS qSS G.nfS hr3 pass0) (pv 15) (pv 9) (nomark _))
              (pw_or (pt_cmpR op_ne (pe_mR0 G.tW G.OW.cl hr4 (pv 14)) (pv 11) (nomark _)) (pw_or (pt_cmpR op_ne (pe_mR0 G.tS G.OS.cl hr4 (pv 15)) (pv 12) (nomark _)) (pw_or1 (pt_cmpR (op_eqD' eS qSW G.ne G.sub hr3 pass0) (pv 14) (pv 15) (nomark _)))))))) (pss_one ps_never) pss_nil)
          <| pss_cons (ps_if (PW.pt (pw_or (pt_cmpR (op_neC eN qN G.nfN hr2 pass0) (pe_prp G.pNw G.OW.cl hr2 (pv 14)) (pv 5) (nomark _)) (pw_or (pt_cmpR (op_neD hu) (pe_prp G.pStW G.OW.cl hr2 (pv 14)) (pe_prp G.pStW G.OW.cl hr2 (pv 8)) (nomark _))
              (pw_or (pt_cmpR (op_neD hu) (pe_prp G.pStS G.OS.cl hr2 (pv 15)) (pe_prp G.pStW G.OW.cl hr2 (pv 8)) (nomark _)) (pw_or1 (pt_cmpR (op_neD hu) (pe_prp G.pSpS G.OS.cl hr2 (pv 15)) (pv 10) (nomark _))))))) (pss_one ps_never) pss_nil)
          <| pss_cons (ps_if (pt_cmpR op_ne (pe_cmpR (op_eqC eW qWW G.nfW hr3 pass0) (pe_cmeth (E := E0) (pe_glob (by rfl) G.cW (v := .ref CW) rfl) G.crW cmW frW hr passE (pa_cons (pv 12) pa_nil)) (pv 8) (nomark _))
              (pe_cmpR (op_eqD hu) (pv 10) (pe_callTy call_tuple_of (by rfl) T.tuple (by decide +kernel) (pa_cons (pv 7) pa_nil)) (nomark _)) (nomark _)) (pss_one ps_never) pss_nil)
          <| pss_cons (ps_if (PW.pt (pw_or (pt_cmpR (op_neD hu) (pe_prp G.pSpW G.OW.cl hr2 (pe_cmeth (E := E0) (pe_glob (by rfl) G.cW (v := .ref CW) rfl) G.crW cmW frW hr passE (pa_cons (pv 12) pa_nil))) (pv 10) (nomark _))
              (pw_or1 (pt_cmpR (op_neC eS qSS G.nfS hr3 pass0) (pe_cmeth (E := E0) (pe_glob (by rfl) G.cS (v := .ref CS) rfl) G.crS cmS frS hr passE (pa_cons (pv 12) pa_nil)) (pv 9) (nomark _))))) (pss_one ps_never) pss_nil)
          <| pss_cons (ps_set (i := 16) nd rfl (.inl rfl) (pe_cl G.doors hr1 (by rfl) (pa_cons (pv 4) (pa_cons (pe_prS G.pPl G.OW.cl hr2 (pv 8)) pa_nil))))
          <| pss_one (ps_if (pt_cmpR (op_neD hu) (pv 16) (pe_lst pa_nil) (nomark _))
              (pss_cons (ps_expr (pe_m G.stW G.OW.cl hr9 (pv 14) (pa_cons (pe_ix (r := rIxL K) ix_list (pv 16) pe_int (fun _ _ => rfl)) pa_nil)))
              <| pss_one (ps_if (PW.pt (pw_or (pt_cmpR (op_eqC eW qWW G.nfW hr3 pass0) (pv 14) (pv 8) (nomark _)) (pw_or (pt_cmpR op_ne (pe_mR0 G.tW G.OW.cl hr4 (pv 14)) (pe_cl G.textL hr1 (by rfl) (pa_cons (pv 3) (pa_cons (pv 4) (pa_cons (pe_op op_cat (pv 7) (pe_lst (pa_cons (pe_ix (r := rIxL K) ix_list (pv 16) pe_int (fun _ _ => rfl)) pa_nil))) pa_nil)))) (nomark _))
                  (pw_or1 (pt_cmpR op_ne (pe_mR0 G.tW G.OW.cl hr4 (pv 8)) (pv 11) (nomark _)))))) (pss_one ps_never) pss_nil)) pss_nil)))
      <| pss_one (ps_ret pe_bl), ?_⟩
    have sz : sizeLine = 16777216 := by decide
    refine ⟨_, rfl, a, ns, rfl, ha, hl, fun H1 m lg lc s1 M1 => ?_⟩
    refine ⟨3, rfl, by decide, by decide, ?_⟩
    refine for_it (walk_rg0 (n := 3)) (fun i σ H' => ∃ v2 v3 v4 v5 v6 v7 v8 v9 v10 v11 v12 v13 v14 v15 v16 s, σ = [some (.ref a), some (.ref m), v2, v3, v4, v5, v6, v7, v8, v9, v10, v11, v12, v13, v14, v15, v16] ∧ MOk H' m lg lc s ∧ s ≤ 1000 * i) ⟨_, _, _, _, _, _, _, _, _, _, _, _, _, _, _, 0, rfl, M1, by omega⟩ (fun _ _ _ _ _ => trivial) ?_ ?_
    · rintro i y σ _ H2 hi ⟨v2, v3, v4, v5, v6, v7, v8, v9, v10, v11, v12, v13, v14, v15, v16, s, rfl, M2, hs⟩ ⟨rfl, rfl⟩
      refine ⟨_, rfl, _, rfl, m, lg, lc, s, 3, rfl, M2, by omega, by omega, by omega, fun H3 d1 hd1 kp3 M3 => ?_⟩
      refine ⟨_, _, rfl, rfl, _, rfl, m, lg, lc, s + 1, 4, rfl, M3, by omega, by omega, by omega, fun H4 d2 hd2 kp4 M4 => ?_⟩
      refine ⟨_, rfl, m, lg, lc, s + 2, 3, rfl, M4, by omega, by omega, by omega, fun H5 d3 hd3 kp5 M5 => ?_⟩
      have e1 : (1 : Int) + (d1 : Int) = ((1 + d1 : Nat) : Int) := by omega
      dsimp only
      rw [e1]
      refine ⟨m, lg, lc, s + 3, 1 + d1, d2, d3, rfl, M5, by omega, by omega, by omega, by omega, by omega, fun H6 t rr n es s' cn hn hl' kp6 nt nrr ht ed hs' M6 => ?_⟩
      clear M2 M3 M4 M5 kp3 kp4 kp5 kp6 e1 hd1 hd2 hd3 nt nrr
      refine ⟨t, _, rfl, sq_of ht, rfl, _, _, rfl, _, _, rfl, rfl, ?_⟩
      clear ht
      refine ⟨_, rfl, _, rfl, rr, n, es, rfl, ed, cn, hn, hl', fun H7 yn s7 ny net nx => ?_⟩
      have M7 := M6.same s7
      have ed7 := ed.same s7
      clear M6 ed ny s7
      obtain ⟨kse, ek1, ek2, ek3⟩ := id ed7
      have kl := ed_len ek2
      refine ⟨_, rfl, rr, _, rfl, .inr (sq_of ek1), _, _, rfl, rfl, _, _, rfl, ?_⟩
      have etop : (((kse.map fun k => V.ref k.1).length : Nat) : Int) + 1 = ((es.length + 1 : Nat) : Int) := by
        rw [List.length_map]
        omega
      dsimp only
      rw [etop]
      clear etop ek1 ek2 ek3 kl
      -- the road
      refine ⟨_, rfl, _, rfl, by show 4 ≤ sizeLine; omega, fun l4 n4 => ?_⟩
      have s8 := same_upd (o := .lst [V.int 0, .int 3, .int 9, .int 30]) n4
      have x4 : upd H7 l4 (.lst [V.int 0, .int 3, .int 9, .int 30]) l4 = some (.lst [V.int 0, .int 3, .int 9, .int 30]) := upd_same
      have nl4 := (M7.new n4).1
      generalize upd H7 l4 (.lst [V.int 0, .int 3, .int 9, .int 30]) = H8 at *
      refine ⟨_, rfl, m, lg, lc, s', 4, rfl, M7.same s8, by omega, by omega, by omega, fun H9 d hd kp9 M9 => ?_⟩
      have M8 := M7.same s8
      have ed9 := (ed7.same s8).kp kp9 M8
      have net9 := (net.same s8).kp kp9 M8
      have nx9 := (nx.same s8).kp kp9 M8
      have x9 := kp9.lst M8 nl4 x4
      obtain ⟨k, hk, atk⟩ : ∃ k : Nat, k ≤ 30 ∧ atI [V.int 0, .int 3, .int 9, .int 30] ((d : Nat) : Int) = some (.int (k : Int)) := by
        have : d = 0 ∨ d = 1 ∨ d = 2 ∨ d = 3 := by omega
        rcases this with rfl | rfl | rfl | rfl
        · exact ⟨0, by decide, rfl⟩
        · exact ⟨3, by decide, rfl⟩
        · exact ⟨9, by decide, rfl⟩
        · exact ⟨30, by decide, rfl⟩
      refine ⟨l4, _, _, _, rfl, rfl, sl_of x9, atk, ?_⟩
      refine ⟨m, lg, lc, rr, s' + 1, n, 0, k, es, rfl, M9, by omega, ed9, cn, cn.1, hl', by omega, fun HA ro ks s2 nro gro kpA hro wl kll hs2 MA => ?_⟩
      have edA := ed9.kp kpA M9
      have netA := net9.kp kpA M9
      have nxA := nx9.kp kpA M9
      have k30 : ks.length ≤ 30 := by
        rcases kll with e | ⟨_, e⟩
        · omega
        · rw [e]; decide
      have k16 : ∀ e ∈ ks, e ≤ 16 := fun e he => by
        obtain ⟨j, hj⟩ := List.mem_iff_getElem?.mp he
        have := (mem_drs.mp (wlk_get wl hj)).1
        omega
      clear M7 ed7 net nx s8 x4 nl4 M8 ed9 net9 nx9 x9 n4 kp9 kpA M9 nro kll atk hd
      dsimp only [List.set]
      -- two walkers
      have L0 : LB C HA m lg lc s2 rr yn ro n es ks := ⟨MA, edA, netA, nxA, hro⟩
      clear MA edA netA nxA hro
      have ve := cn.2.1
      have i0 := st0_is n es cn.1
      have wr : Wlk es 0 (redF ks) := (kps_walk ve i0 true (k0 := []) trivial wl).1
      have rr0 : runS es (st0 es) (redF ks) = runS es (st0 es) ks := (kps_walk ve i0 true (k0 := []) trivial wl).2
      have r30 : (redF ks).length ≤ 30 := by
        have := kps_len true ks []
        rw [kps_t, List.length_nil] at this
        omega
      have r16 : ∀ e ∈ redF ks, e ≤ 16 := fun e he => by
        obtain ⟨j, hj⟩ := List.mem_iff_getElem?.mp he
        have := (mem_drs.mp (wlk_get wr hj)).1
        omega
      have e16 : ∀ e ∈ es, e.1 ≤ 16 ∧ e.2 ≤ 16 := fun e m => by have := ve e m; omega
      refine ⟨_, rfl, wkMadeX (ks := []) (b := false) trivial L0.net L0.nx cn hl' trivial (by decide) fun HB x1 sB nB w1 => ?_⟩
      have LB1 := L0.same sB
      obtain ⟨dB, fB, hB, -⟩ := w1.ins
      refine ⟨_, rfl, x1, ro, n, es, [], ks, rfl, w1, LB1.ro, cn, hl', trivial, wl, by rw [List.length_nil]; omega, fun HC kC wC => ?_⟩
      rw [kps_f, List.nil_append] at wC
      have LC := LB1.kx kC hB G.nW
      clear LB1 L0 sB nB w1 hB kC
      refine ⟨_, rfl, wkMadeX (ks := []) (b := true) trivial LC.net LC.nx cn hl' trivial (by decide) fun HD x2 sD nD w2 => ?_⟩
      have LD := LC.same sD
      have wD := wC.same sD
      obtain ⟨dC, fC', hC, -⟩ := wC.ins
      obtain ⟨dD, fD, hD, -⟩ := w2.ins
      have n12 : x1 ≠ x2 := ne_ins hC nD
      refine ⟨_, rfl, x2, ro, n, es, [], ks, rfl, w2, LD.ro, cn, hl', trivial, wl, by rw [List.length_nil]; omega, fun HE kE wE => ?_⟩
      have LE := LD.kx kE hD G.nS
      have w1E := wD.kx kE hD n12 G.nS
      have w2E : WkO CS C ExN HE x2 n es (redF ks) := wE
      clear LC LD wC wD w2 wE hC hD nD sD kE
      refine ⟨_, _, rfl, ?_⟩
      -- the short road, the texts
      refine ⟨_, rfl, ro, ks, rfl, LE.ro, by omega, fun HF tS sF hS => ?_⟩
      have LF := LE.same sF
      have w1F := w1E.same sF
      have w2F := w2E.same sF
      clear LE w1E w2E sF
      refine ⟨_, rfl, _, rfl, _, rfl, rr, ro, n, es, ks, rfl, LF.ed, ve, hn, hl', LF.ro, by omega, k16, fun HG sG => ?_⟩
      have LG := LF.same sG
      have w1G := w1F.same sG
      have w2G := w2F.same sG
      have hSG := sG _ _ hS
      clear LF w1F w2F sG hS
      refine ⟨_, rfl, _, rfl, _, rfl, rr, tS, n, es, redF ks, rfl, LG.ed, ve, hn, hl', hSG, by omega, r16, fun HH sH => ?_⟩
      have LH := LG.same sH
      have w1H := w1G.same sH
      have w2H := w2G.same sH
      have hSH := sH _ _ hSG
      clear LG w1G w2G sH hSG
      refine ⟨_, _, rfl, ?_⟩
      dsimp only [List.set]
      -- text()
      obtain ⟨d1, f1, g1, o1⟩ := w1H.ins
      refine ⟨_, rfl, x1, d1, f1, rfl, g1, o1 _ (by decide +kernel), x1, n, es, ks, rfl, w1H, ve, hn, hl', by omega, k16, fun HI sI => ⟨_, rfl, ne_self rfl ⟨_, rfl, iteF ?_⟩⟩⟩
      have LI := LH.same sI
      have w1I := w1H.same sI
      have w2I := w2H.same sI
      have hSI := sI _ _ hSH
      clear LH w1H w2H sI hSH g1 o1 d1 f1
      obtain ⟨d2, f2, g2, o2⟩ := w2I.ins
      refine ⟨_, rfl, x2, d2, f2, rfl, g2, o2 _ (by decide +kernel), x2, n, es, redF ks, rfl, w2I, ve, hn, hl', by omega, r16, fun HJ sJ => ⟨_, rfl, ne_self rfl ⟨_, rfl, iteF ?_⟩⟩⟩
      have LJ := LI.same sJ
      have w1J := w1I.same sJ
      have w2J := w2I.same sJ
      have hSJ := sJ _ _ hSI
      clear LI w1I w2I sJ hSI g2 o2 d2 f2
      -- the carrier
      refine ⟨_, rfl, _, rfl, _, rfl, m, lg, lc, s2, es.length + 1, rfl, LJ.M, by omega, by omega, by omega, fun HK th hth kpK MK => ?_⟩
      have LK := LJ.kp kpK gro MK
      have w1K := w1J.kp kpK LJ.M
      have w2K := w2J.kp kpK LJ.M
      have hSK := kpK.tup LJ.M hSJ
      clear LJ w1J w2J hSJ kpK MK
      refine ⟨_, rfl, _, rfl, m, lg, lc, s2 + 1, es.length + 1, rfl, LK.M, by omega, by omega, by omega, fun HL po hpo kpL ML => ⟨rfl, fun x3 dx nx3 nd nxd => ?_⟩⟩
      have LL := LK.kp kpL gro ML
      have w1L := w1K.kp kpL LK.M
      have w2L := w2K.kp kpL LK.M
      have hSL := kpL.tup LK.M hSK
      clear LK w1K w2K hSK kpL ML
      have s0' := same_mk (CX := CA) nx3 nd
      refine ⟨x3, yn, dx, th, po, n, es, [], rfl, rfl, upd_same, by omega, by omega, LL.net.same s0', LL.nx.same s0', LL.ne nx3, cn, hl', trivial, by decide, fun HM kM w3 => ⟨rfl, ?_⟩⟩
      have sM := kx_same s0' nx3 kM
      have LM := LL.same sM
      have w1M := w1L.same sM
      have w2M := w2L.same sM
      have hSM := sM _ _ hSL
      have n13 : x1 ≠ x3 := by
        obtain ⟨_, _, z, -⟩ := w1L.ins
        exact ne_ins z nx3
      have n23 : x2 ≠ x3 := by
        obtain ⟨_, _, z, -⟩ := w2L.ins
        exact ne_ins z nx3
      clear LL w1L w2L hSL kM sM s0' nx3 nd nxd hth hpo
      obtain ⟨d3, f3, g3, o3⟩ := w3.ins
      refine ⟨_, rfl, _, rfl, x3, ro, n, es, [], ks, rfl, w3, LM.ro, cn, hl', trivial, wl, by rw [List.length_nil]; omega, fun HN kN wN => ?_⟩
      rw [kps_f, List.nil_append] at wN
      have LN := LM.kx kN g3 G.nC
      have w1N := w1M.kx kN g3 n13 G.nC
      have w2N := w2M.kx kN g3 n23 G.nC
      have hSN := kN.tup g3 hSM
      clear LM w1M w2M hSM kN g3 o3 w3 d3 f3
      obtain ⟨d3, f3, g3, o3⟩ := wN.ins
      refine ⟨x3, d3, f3, rfl, g3, o3 _ (by decide +kernel), x3, n, es, ks, rfl, wN, ve, hn, hl', by omega, k16, fun HO sO => ⟨_, rfl, ne_self rfl ⟨_, rfl, iteF ?_⟩⟩⟩
      have LO := LN.same sO
      have w1O := w1N.same sO
      have w2O := w2N.same sO
      have hSO := sO _ _ hSN
      clear LN w1N w2N hSN sO g3 o3 wN d3 f3 n13 n23
      -- is_text
      have zr := rd_txt cn hn hl' wl
      have zf : Fits (txtOf n es ks) := fits_txt (by omega) hl' e16 k16 (by omega)
      have yr := rd_txt cn hn hl' wr
      have yf : Fits (txtOf n es (redF ks)) := fits_txt (by omega) hl' e16 r16 (by omega)
      refine ⟨rfl, _, rfl, .str _, rfl, .inr ⟨_, rfl, zf, fun e er HP sP => ?_, fun e er => by rw [zr] at er; cases er⟩⟩
      have LP := LO.same sP
      have w1P := w1O.same sP
      have w2P := w2O.same sP
      have hSP := sP _ _ hSO
      clear LO w1O w2O hSO sP er e
      refine ⟨_, _, rfl, rfl, _, rfl, iteF ?_⟩
      refine ⟨rfl, _, rfl, .str _, rfl, .inr ⟨_, rfl, zf, fun e er HQ sQ => ?_, fun e er => by rw [zr] at er; cases er⟩⟩
      have LQ := LP.same sQ
      have w1Q := w1P.same sQ
      have w2Q := w2P.same sQ
      have hSQ := sQ _ _ hSP
      clear LP w1P w2P hSP sQ er e
      refine ⟨_, _, rfl, rfl, _, rfl, iteF ?_⟩
      -- read
      refine ⟨rfl, _, rfl, _, n, es, ks, rfl, zf, zr, fun HR x4 sR n4 w4 => ?_⟩
      rw [kps_f, List.nil_append] at w4
      have LR := LQ.same sR
      have w1R := w1Q.same sR
      have w2R := w2Q.same sR
      have hSR := sR _ _ hSQ
      have n41 : x4 ≠ x1 := by
        obtain ⟨_, _, z, -⟩ := w1Q.ins
        exact (ne_ins z n4).symm
      clear LQ w1Q w2Q hSQ sR n4
      refine ⟨rfl, _, rfl, _, n, es, ks, rfl, zf, zr, fun HS x5 sS n5 w5' => ?_⟩
      have w5 : WkO CS C ExN HS x5 n es (redF ks) := w5'
      have LS := LR.same sS
      have w1S := w1R.same sS
      have w2S := w2R.same sS
      have w4S := w4.same sS
      have hSS := sS _ _ hSR
      clear LR w1R w2R hSR w4 sS n5 w5'
      refine ⟨_, _, rfl, ?_⟩
      dsimp only [List.set]
      -- they are alike
      obtain ⟨d1, f1, g1, -⟩ := w1S.ins
      obtain ⟨d4, f4, g4, -⟩ := w4S.ins
      refine ⟨_, rfl, _, rfl, x4, x1, d4, f4, d1, f1, rfl, rfl, g4, g1, x4, x1, n, es, ks, ks, ExN, ExN, rfl, w4S, w1S, fun HT sT => ⟨_, rfl, ?_⟩⟩
      rw [eqW_t]
      refine ⟨_, rfl, iteF ?_⟩
      have LT := LS.same sT
      have w1T := w1S.same sT
      have w2T := w2S.same sT
      have w4T := w4S.same sT
      have w5T := w5.same sT
      have hST := sT _ _ hSS
      clear LS w1S w2S w4S w5 hSS sT d1 f1 g1 d4 f4 g4
      obtain ⟨d2, f2, g2, -⟩ := w2T.ins
      obtain ⟨d5, f5, g5, -⟩ := w5T.ins
      refine ⟨_, rfl, _, rfl, x5, x2, d5, f5, d2, f2, rfl, rfl, g5, g2, x5, x2, n, es, redF ks, redF ks, ExN, ExN, rfl, w5T, w2T, fun HU sU => ⟨_, rfl, ?_⟩⟩
      rw [eqW_t]
      refine ⟨_, rfl, iteF ?_⟩
      have LU := LT.same sU
      have w1U := w1T.same sU
      have w2U := w2T.same sU
      have w4U := w4T.same sU
      have w5U := w5T.same sU
      have hSU := sU _ _ hST
      clear LT w1T w2T w4T w5T hST sU d2 f2 g2 d5 f5 g5
      obtain ⟨d4, f4, g4, o4⟩ := w4U.ins
      refine ⟨_, rfl, x4, d4, f4, rfl, g4, o4 _ (by decide +kernel), x4, n, es, ks, rfl, w4U, ve, hn, hl', by omega, k16, fun HV sV => ⟨_, rfl, ne_self rfl ⟨_, rfl, iteF ?_⟩⟩⟩
      have LV := LU.same sV
      have w1V := w1U.same sV
      have w2V := w2U.same sV
      have w4V := w4U.same sV
      have w5V := w5U.same sV
      have hSV := sV _ _ hSU
      clear LU w1U w2U w4U w5U hSU sV d4 f4 g4 o4
      obtain ⟨d5, f5, g5, o5⟩ := w5V.ins
      refine ⟨_, rfl, x5, d5, f5, rfl, g5, o5 _ (by decide +kernel), x5, n, es, redF ks, rfl, w5V, ve, hn, hl', by omega, r16, fun HW sW => ⟨_, rfl, ne_self rfl ⟨_, rfl, iteF ?_⟩⟩⟩
      have LW := LV.same sW
      have w1W := w1V.same sW
      have w2W := w2V.same sW
      have w4W := w4V.same sW
      have w5W := w5V.same sW
      have hSW := sW _ _ hSV
      clear LV w1V w2V w4V w5V hSV sW d5 f5 g5 o5
      obtain ⟨d4, f4, g4, -⟩ := w4W.ins
      obtain ⟨d5, f5, g5, -⟩ := w5W.ins
      refine ⟨_, rfl, _, rfl, x4, x5, d4, f4, d5, f5, rfl, rfl, g4, g5, x5, x4, n, es, redF ks, ks, ExN, ExN, rfl, w5W, w4W, fun HX sX => ⟨_, rfl, ?_⟩⟩
      rw [eqW_ne G.ne]
      refine ⟨_, rfl, iteF ?_⟩
      have LX := LW.same sX
      have w1X := w1W.same sX
      have w2X := w2W.same sX
      have w4X := w4W.same sX
      have w5X := w5W.same sX
      have hSX := sX _ _ hSW
      clear LW w1W w2W w4W w5W hSW sX d4 f4 g4 d5 f5 g5
      -- network, state, steps
      obtain ⟨d4, f4, y4, s4, t4, a1, a2, a3, a4, -, -, a7, -⟩ := id w4X
      obtain ⟨dy, fy, -, -, b1, -⟩ := id a7
      obtain ⟨dn, fn', -, -, c1, -⟩ := id LX.net
      refine ⟨_, rfl, x4, d4, f4, _, rfl, a1, a2, _, rfl, y4, yn, dy, fy, dn, fn', rfl, rfl, b1, c1, y4, yn, rfl, ⟨n, es, a7, LX.net⟩, fun HY sY => ⟨true, rfl, false, rfl, iteF ?_⟩⟩
      have LY := LX.same sY
      have w1Y := w1X.same sY
      have w2Y := w2X.same sY
      have w4Y := w4X.same sY
      have w5Y := w5X.same sY
      have hSY := sY _ _ hSX
      clear LX w1X w2X w4X w5X hSX sY d4 f4 y4 s4 t4 a1 a2 a3 a4 a7 dy fy b1 dn fn' c1
      obtain ⟨d4, f4, y4, s4, t4, a1, a2, a3, a4, -, -, a7, a8, a9, -⟩ := id w4Y
      obtain ⟨d1, f1, y1, s1', t1, b1, b2, b3, b4, -, -, b7, b8, b9, -⟩ := id w1Y
      obtain ⟨d5, f5, y5, s5, t5, c1, c2, c3, c4, -, -, c7, c8, c9, -⟩ := id w5Y
      rw [rr0] at c8
      refine ⟨_, rfl, x4, d4, f4, _, rfl, a1, a3, _, rfl, x1, d1, f1, _, rfl, b1, b3, _, _, dp_st a8, dp_st b8, shaped_st _, shaped_st _, ?_⟩
      rw [eqv_st]
      refine ⟨false, rfl, iteF ?_⟩
      refine ⟨_, rfl, x5, d5, f5, _, rfl, c1, c3, _, rfl, x1, d1, f1, _, rfl, b1, b3, _, _, dp_st c8, dp_st b8, shaped_st _, shaped_st _, ?_⟩
      rw [eqv_st]
      refine ⟨false, rfl, iteF ?_⟩
      refine ⟨_, rfl, x5, d5, f5, _, rfl, c1, c4, _, rfl, _, _, dp_tp c9, dp_tp hSY, shaped_ti _, shaped_ti _, ?_⟩
      rw [eqv_tp, decide_eq_true rfl]
      refine ⟨false, rfl, iteF ?_⟩
      clear d4 f4 y4 s4 t4 a1 a2 a3 a4 a7 a8 a9 d1 f1 y1 s1' t1 b1 b2 b3 b4 b7 b8 b9 d5 f5 y5 s5 t5 c1 c2 c3 c4 c7 c8 c9
      -- the short text, read
      refine ⟨rfl, _, rfl, _, n, es, redF ks, rfl, yf, yr, fun HZ x6 sZ n6 w6' => ?_⟩
      rw [kps_f, List.nil_append] at w6'
      have LZ := LY.same sZ
      have w1Z := w1Y.same sZ
      have w2Z := w2Y.same sZ
      have w4Z := w4Y.same sZ
      have hSZ := sZ _ _ hSY
      clear LY w1Y w2Y w4Y w5Y hSY sZ n6
      obtain ⟨d1, f1, g1, -⟩ := w1Z.ins
      obtain ⟨d6, f6, g6, -⟩ := w6'.ins
      refine ⟨_, rfl, x6, x1, d6, f6, d1, f1, rfl, rfl, g6, g1, x6, x1, n, es, redF ks, ks, ExN, ExN, rfl, w6', w1Z, fun Ha sa => ⟨_, rfl, ?_⟩⟩
      have La := LZ.same sa
      have w1a := w1Z.same sa
      have w2a := w2Z.same sa
      have w4a := w4Z.same sa
      have hSa := sa _ _ hSZ
      clear LZ w1Z w2Z w4Z hSZ sa w6' d1 f1 g1 d6 f6 g6
      refine ⟨_, rfl, _, rfl, ro, NV ks, rfl, .inl ⟨sl_of La.ro, fun tt ntt => ?_⟩⟩
      have sb := same_upd (o := .tup (NV ks)) ntt
      have hb : Tp (upd Ha tt (.tup (NV ks))) tt ks := upd_same
      have Lb := La.same sb
      have w1b := w1a.same sb
      have w2b := w2a.same sb
      have w4b := w4a.same sb
      have hSb := sb _ _ hSa
      generalize upd Ha tt (.tup (NV ks)) = Hb at *
      clear La w1a w2a w4a hSa sb ntt
      refine ⟨_, _, dp_tp hSb, dp_tp hb, shaped_ti _, shaped_ti _, ?_⟩
      rw [eqv_tp]
      refine ⟨rfl, ?_⟩
      rw [eqW_two]
      refine ⟨_, rfl, iteF ?_⟩
      clear hb
      refine ⟨rfl, _, rfl, _, n, es, redF ks, rfl, yf, yr, fun Hc x7 sc n7 w7 => ?_⟩
      rw [kps_f, List.nil_append] at w7
      have Lc := Lb.same sc
      have w1c := w1b.same sc
      have w2c := w2b.same sc
      have w4c := w4b.same sc
      have hSc := sc _ _ hSb
      clear Lb w1b w2b w4b hSb sc n7
      obtain ⟨d7, f7, y7, s7, t7, c1, -, -, c4, -, -, -, -, c9, -⟩ := id w7
      refine ⟨x7, d7, f7, _, rfl, c1, c4, _, rfl, _, _, dp_tp c9, dp_tp hSc, shaped_ti _, shaped_ti _, ?_⟩
      rw [eqv_tp, decide_eq_true rfl]
      refine ⟨false, rfl, iteF ?_⟩
      clear d7 f7 y7 s7 t7 c1 c4 c9 w7
      refine ⟨rfl, _, rfl, _, n, es, redF ks, rfl, yf, yr, fun Hd x8 sd n8 w8' => ?_⟩
      have w8 : WkO CS C ExN Hd x8 n es (redF ks) := by
        have z := w8'
        rw [kps_t, redF_id (noEq_redF ks)] at z
        exact z
      have Ld := Lc.same sd
      have w1d := w1c.same sd
      have w2d := w2c.same sd
      have w4d := w4c.same sd
      clear Lc w1c w2c w4c hSc sd n8 w8'
      obtain ⟨d8, f8, g8, -⟩ := w8.ins
      obtain ⟨d2, f2, g2, -⟩ := w2d.ins
      refine ⟨_, rfl, x8, x2, d8, f8, d2, f2, rfl, rfl, g8, g2, x8, x2, n, es, redF ks, redF ks, ExN, ExN, rfl, w8, w2d, fun He se => ⟨_, rfl, ?_⟩⟩
      rw [eqW_t]
      refine ⟨_, rfl, iteF ?_⟩
      have Le := Ld.same se
      have w1e := w1d.same se
      have w4e := w4d.same se
      clear Ld w1d w2d w4d se w8 d8 f8 g8 d2 f2 g2
      -- one more step
      obtain ⟨d1, f1, g1, -⟩ := w1e.ins
      refine ⟨_, rfl, _, rfl, x1, d1, f1, rfl, g1, x1, n, es, ks, rfl, w1e, rr, es, plcS es 0 ks, rfl, Le.ed, by omega, fun Hf rd sf nrd hrd => ?_⟩
      have Lf := Le.same sf
      have w1f := w1e.same sf
      have w4f := w4e.same sf
      clear Le w1e w4e sf nrd d1 f1 g1
      refine ⟨_, rfl, Nat.zero_le _, fun l0 nl0 => ?_⟩
      have sg := same_upd (o := .lst []) nl0
      have hg0 : upd Hf l0 (.lst []) l0 = some (.lst []) := upd_same
      have Lg := Lf.same sg
      have w1g := w1f.same sg
      have w4g := w4f.same sg
      have hrg := sg _ _ hrd
      generalize upd Hf l0 (.lst []) = Hg at *
      clear Lf w1f w4f hrd sg nl0
      refine ⟨_, _, dp_li (ns := NI (drs es (plcS es 0 ks))) (sl_of (by rw [← NV_NI]; exact hrg)), dp_li (ns := []) (sl_of hg0), shaped_li _, shaped_li _, ?_⟩
      rw [eqv_li]
      clear hg0
      cases hdr : drs es (plcS es 0 ks) with
      | nil =>
        refine ⟨false, rfl, iteF ?_⟩
        exact ⟨_, _, _, _, _, _, _, _, _, _, _, _, _, _, _, s2 + 1 + 1, rfl, Lg.M, by omega⟩
      | cons e0 rest =>
        rw [hdr] at hrg
        have he0 : e0 ∈ drs es (plcS es 0 ks) := by rw [hdr]; exact List.mem_cons_self
        have le0 : e0 ≤ 16 := by
          have := (mem_drs.mp he0).1
          omega
        have at0 : atI (NV (e0 :: rest)) ((0 : Nat) : Int) = some (.int (e0 : Int)) := atI_nat rfl
        refine ⟨true, rfl, iteT ?_⟩
        obtain ⟨d4, f4, g4, o4⟩ := w4g.ins
        refine ⟨_, rfl, x4, d4, f4, rfl, g4, o4 _ (by decide +kernel), _, rfl, rd, _, _, _, rfl, rfl, sl_of hrg, at0, x4, n, es, ks, e0, rfl, w4g, cn, hl', wl, he0, by omega, fun Hh kh w4h' => ?_⟩
        have w4h : WkO CW C ExN Hh x4 n es (ks ++ [e0]) := w4h'
        have Lh := Lg.kx kh g4 G.nW
        have w1h := w1g.kx kh g4 n41.symm G.nW
        have hrh := kh _ _ (ne_of hrg g4 (by intro z; cases z)) hrg
        clear Lg w1g w4g hrg kh g4 o4 d4 f4 w4h'
        have kne : ks ++ [e0] ≠ ks := fun z => by
          have := congrArg List.length z
          rw [List.length_append, List.length_singleton] at this
          omega
        have k17 : ∀ e ∈ ks ++ [e0], e ≤ 16 := fun e he => by
          rcases List.mem_append.mp he with z | z
          · exact k16 e z
          · rw [List.mem_singleton.mp z]; exact le0
        have k31 : (ks ++ [e0]).length ≤ 31 := by rw [List.length_append, List.length_singleton]; omega
        obtain ⟨d1, f1, g1, -⟩ := w1h.ins
        obtain ⟨d4, f4, g4, -⟩ := w4h.ins
        refine ⟨_, rfl, _, rfl, x4, x1, d4, f4, d1, f1, rfl, rfl, g4, g1, x4, x1, n, es, ks ++ [e0], ks, ExN, ExN, rfl, w4h, w1h, fun Hi si => ⟨_, rfl, ?_⟩⟩
        rw [eqW_f kne]
        refine ⟨_, rfl, iteF ?_⟩
        have Li := Lh.same si
        have w1i := w1h.same si
        have w4i := w4h.same si
        have hri := si _ _ hrh
        clear Lh w1h w4h hrh si d1 f1 g1 d4 f4 g4
        obtain ⟨d4, f4, g4, o4⟩ := w4i.ins
        refine ⟨_, rfl, x4, d4, f4, rfl, g4, o4 _ (by decide +kernel), x4, n, es, ks ++ [e0], rfl, w4i, ve, hn, hl', by omega, k17, fun Hj sj => ?_⟩
        have Lj := Li.same sj
        have w1j := w1i.same sj
        have hrj := sj _ _ hri
        clear Li w1i w4i hri sj d4 f4 g4 o4
        refine ⟨_, rfl, _, rfl, _, rfl, _, rfl, rd, _, _, _, rfl, rfl, sl_of hrj, at0, by show 1 ≤ sizeLine; omega, fun l9 n9 => ?_⟩
        have sk := same_upd (o := .lst [V.int (e0 : Int)]) n9
        have h9 : upd Hj l9 (.lst [V.int (e0 : Int)]) l9 = some (.lst [V.int (e0 : Int)]) := upd_same
        have Lk := Lj.same sk
        have w1k := w1j.same sk
        generalize upd Hj l9 (.lst [V.int (e0 : Int)]) = Hk at *
        clear Lj w1j hrj sk n9
        refine ⟨ro, l9, _, _, rfl, rfl, Lk.ro, h9, by rw [NV_len]; show ks.length + 1 ≤ sizeLine; omega, fun pp npp => ?_⟩
        have sl := same_upd (o := .lst (NV ks ++ [V.int (e0 : Int)])) npp
        have hpp : upd Hk pp (.lst (NV ks ++ [V.int (e0 : Int)])) pp = some (.lst (NV (ks ++ [e0]))) := by rw [upd_same, NV_snoc]
        have Ll := Lk.same sl
        have w1l := w1k.same sl
        generalize upd Hk pp (.lst (NV ks ++ [V.int (e0 : Int)])) = Hl at *
        clear Lk w1k h9 sl npp
        refine ⟨rr, pp, n, es, ks ++ [e0], rfl, Ll.ed, ve, hn, hl', hpp, by omega, k17, fun Hm sm => ne_self rfl ⟨_, rfl, iteF ?_⟩⟩
        have Lm := Ll.same sm
        have w1m := w1l.same sm
        clear Ll w1l hpp sm
        obtain ⟨d1, f1, g1, o1⟩ := w1m.ins
        refine ⟨_, rfl, x1, d1, f1, rfl, g1, o1 _ (by decide +kernel), x1, n, es, ks, rfl, w1m, ve, hn, hl', by omega, k16, fun Hn sn => ⟨_, rfl, ne_self rfl ⟨_, rfl, iteF ?_⟩⟩⟩
        exact ⟨_, _, _, _, _, _, _, _, _, _, _, _, _, _, _, s2 + 1 + 1, rfl, Lm.M.same sn, by omega⟩
    · rintro σ H2 ⟨v2, v3, v4, v5, v6, v7, v8, v9, v10, v11, v12, v13, v14, v15, v16, s, rfl, M2, hs⟩
      exact q _
end
end Hw

/-! The law's end for a promise that is kept where no repr is under way. -/
namespace Hw
open PySem PySem.Spec PyProof.Rows L2
section
variable {P : Program} {w : World} {K : PySem.W.Frag} {mg mb : Str → Option Value} {k : Nat} {fa a : Addr} {fd : FuncData} {x : Str} {sp : Sp} {st : Shared} {vs : List Value} {ns : List Int}
/-- what the law's call must end with -/
def EndOk (P : Program) (w : World) (fa a : Addr) (st : Shared) : Prop :=
  codeAny (model P w) callerA (.call (.ref fa) ⟨[.ref a], []⟩) (fun r s2 => r = .ok (.ret (.bool true)) ∧ OldK st.heap s2.heap ∧ s2.os = st.os ∧ AllBare s2.gens) st
theorem callerA_g : NoG callerA := rfl
/-- with a heap in which at most the script is told -/
theorem end_core (KX : K.In st.heap) (nsM : st.heap.Ns mainGlobals mg) (nsB : st.heap.Ns builtinsNs mb) (blt : ∀ y : Str, y ≠ "__name__" → mb y = bootBuiltins y) (lim : st.heap.NoLimit) (gen0 : st.gens = #[])
    (at_ : st.heap.get? a = some { cls := .type "list", data := .seq vs.toArray }) (rm : Room k callerA) (F : ∀ base : Heap, K.In base → base.Ns mainGlobals mg → FnG P w K mg base k fa fd [x] sp)
    (bnd : ∀ (s : Shared) (u : Value), BindsTo s fd ⟨[u], []⟩ [(x, u)]) {H : Hp} (only : Only H) (prom : sp [.ref a] H (fun v _ => v = .bl true) fun _ _ _ => False) (hok : HOk P w H st.heap)
    (one : ∀ b, H b ≠ none → b = a) (own : H a ≠ none → K.lookup a = none) : EndOk P w fa a st := by
  have free : ∀ b, b ≠ a → H b = none := fun b n => Classical.byContradiction fun q => n (one b q)
  have dictFree : ∀ (b : Addr) (o : Obj) (es : Array DictEntry) (ep : Nat), st.heap.get? b = some o → o.data = .dict es ep → H b = none := by
    intro b o es ep e d
    refine free b fun q => ?_
    subst q
    rw [at_] at e
    obtain rfl := Option.some.inj e
    exact nomatch d
  have nsT : ∀ (b : Addr) (m : Str → Option Value), st.heap.Ns b m → (hidT st.heap H).Ns b m := by
    rintro b m ⟨o, es, ep, e, d, r⟩
    exact ⟨o, es, ep, hidT_get e (dictFree b o es ep e d), d, r⟩
  have KT : K.In (hidT st.heap H) := by
    intro b o e
    refine hidT_get (KX b o e) (Classical.byContradiction fun q => ?_)
    obtain rfl := one b q
    rw [own q] at e
    cases e
  obtain ⟨mc, l1, l2⟩ := lim
  have md : Mod K mg (hidT st.heap H) := ⟨KT, nsT _ _ nsM, ⟨mb, nsT _ _ nsB, blt⟩, ⟨mc, nsT _ _ l1, l2⟩⟩
  have noFr : ∀ b : Addr, b ∉ frs ([] : List Env) := fun b z => by
    have z' : b ∈ ([] : List Addr) := z
    cases z'
  have e0 : Env0 P w K mg (hidT st.heap H) callerA [] st H :=
    { frames := rfl, mod := md, bs := fun b o e => of_hidT e, bsz := Nat.le_of_eq (hidT_size _ _), funs := trivial, frf := fun b z => absurd z (noFr b), hok := hok, bare := .of_eq gen0 }
  have go := F _ KT (nsT _ _ nsM) callerA callerA_g rm [] st H ⟨[.ref a], []⟩ [.ref a] [.ref a] _ _ e0 (bnd st (.ref a)) (.cons rfl .nil) prom
  refine codeAny_mono go fun r s2 h => ?_
  match r, h with
  | .error _, h => exact (h : False).elim
  | .ok .next, h => exact (h : False).elim
  | .ok .brk, h => exact (h : False).elim
  | .ok .cont, h => exact (h : False).elim
  | .ok (.ret u), h =>
    obtain ⟨v, H2, os, bare, un, hok2, rv, q⟩ := h
    obtain rfl : v = .bl true := q
    obtain rfl : u = Value.bool true := rv
    refine ⟨rfl, OldK.of_keep fun b o e => ?_, os, bare⟩
    rcases only b with z | ⟨ob, xs, z⟩
    · exact un.keep b o e z (noFr b) (by simp)
    · have e2 := (hok b _ z).1
      rw [e] at e2
      cases e2
      exact (hok2 b _ (un.frzs b _ _ z)).1
theorem end_call (KX : K.In st.heap) (nsM : st.heap.Ns mainGlobals mg) (nsB : st.heap.Ns builtinsNs mb) (blt : ∀ y : Str, y ≠ "__name__" → mb y = bootBuiltins y) (lim : st.heap.NoLimit) (gen0 : st.gens = #[])
    (at_ : st.heap.get? a = some { cls := .type "list", data := .seq vs.toArray }) (iA : IntsAre vs ns) (len : ns.length ≤ sizeLine) (rm : Room k callerA) (F : ∀ base : Heap, K.In base → base.Ns mainGlobals mg → FnG P w K mg base k fa fd [x] sp)
    (bnd : ∀ (s : Shared) (u : Value), BindsTo s fd ⟨[u], []⟩ [(x, u)]) (prom : ∀ H : Hp, Only H → SqL K H a (ns.map V.int) → sp [.ref a] H (fun v _ => v = .bl true) fun _ _ _ => False) : EndOk P w fa a st := by
  have rv := vals_ints iA
  cases hk : K.lookup a with
  | some o =>
    have e := KX a o hk
    rw [at_] at e
    obtain rfl := Option.some.inj e
    have em : Only (fun _ => none) := fun _ => .inl rfl
    have sq : SqL K (fun _ => none) a (ns.map V.int) := .inr ⟨_, vs.toArray, _, hk, rfl, rfl, rfl, by rw [List.size_toArray, iA.length]; exact len, by simpa using rv⟩
    exact end_core KX nsM nsB blt lim gen0 at_ rm F bnd em (prom _ em sq) (fun b u z => nomatch (show (none : Option HO) = some u from z)) (fun b z => absurd rfl z) fun z => absurd rfl z
  | none =>
    let H : Hp := fun b => if b = a then some (.frz { cls := .type "list", data := .seq vs.toArray } (.lst (ns.map V.int))) else none
    have Ha : H a = some (.frz { cls := .type "list", data := .seq vs.toArray } (.lst (ns.map V.int))) := if_pos rfl
    have Hn : ∀ b, b ≠ a → H b = none := fun b n => if_neg n
    have em : Only H := fun b => by
      by_cases z : b = a
      · subst z
        exact .inr ⟨_, _, Ha⟩
      · exact .inl (Hn b z)
    refine end_core KX nsM nsB blt lim gen0 at_ rm F bnd em (prom H em (.inl (.inr ⟨_, Ha⟩))) (fun b u z => ?_) (fun b z => Classical.byContradiction fun q => z (Hn b q)) fun _ => hk
    by_cases hb : b = a
    · subst hb
      rw [Ha] at z
      obtain rfl := Option.some.inj z
      exact ⟨at_, by rw [List.length_map]; exact len, vs, _, rv, at_⟩
    · rw [Hn b hb] at z
      cases z
end
theorem walk_G {l : PySem.W.OpenLaw} {n k : Nat} {q : Program} {loose : List Str} {XP : (Str → Option Value) → Heap → Prop} {YP : World → Heap → Prop} {d : DefRec} {K : Params → PySem.W.Frag} {sp : World → Sp} {x : Str}
    (most : l.most = some n) (le : n ≤ sizeLine) (df0 : d.params.defaults = []) (rm : Room k callerA) (hY : ∀ (w : World) (h : Heap), YP w h → (K w.params).In h)
    (F : ∀ (w : World) (mg : Str → Option Value) (fa : Addr) (h : Heap), (K w.params).In h → h.Ns mainGlobals mg → mg d.name = some (.ref fa) →
      ∃ fd : FuncData, (∀ (s : Shared) (u : Value), BindsTo s fd ⟨[u], []⟩ [(x, u)]) ∧ ∀ base : Heap, (K w.params).In base → base.Ns mainGlobals mg → FnG l.prog w (K w.params) mg base k fa fd [x] (sp w))
    (prom : ∀ (w : World) (H : Hp) (a : Addr) (ns : List Int), ns.length ≤ n → Only H → SqL (K w.params) H a (ns.map V.int) → sp w [.ref a] H (fun v _ => v = .bl true) fun _ _ _ => False) :
    PySem.W.WalkO q loose XP YP l.row.toRowW d [] (fun f vs => PySem.call f vs) :=
  Att.attach_call most df0 fun w _ s₁ mg _ fa _ _ _ _ a _ ns G Y _ _ _ hmg obj iA len g0 =>
    let ⟨_, bnd, hF⟩ := F w mg fa _ (hY w _ Y) G.T.g hmg
    end_call (hY w _ Y) G.T.g G.T.b G.T.builtins G.T.nolimit g0 obj iA (Nat.le_trans len le) rm hF bnd fun H hO hS => prom w H a ns len hO hS
end Hw

/-! The law's end for a promise that is kept where no repr is under way, with tables of code objects. -/
namespace Hw
open PySem PySem.Spec PyProof.Rows L2 LamX
/-- a table without rows -/
abbrev bareTab : Obj := { cls := .none, data := .fields #[] }
section
variable {P : Program} {w : World} {K : PySem.W.Frag} {mg mb : Str → Option Value} {k : Nat} {fa a : Addr} {fd : FuncData} {x : Str} {sp : Sp} {st : Shared} {vs : List Value} {ns : List Int} {cs : List (Addr × Addr)}
/-- what is known of the tables at the law's start -/
structure TabsAt (K : PySem.W.Frag) (h : Heap) (cs : List (Addr × Addr)) : Prop where
  bare : ∀ p ∈ cs, h.get? p.2 = some bareTab
  off : ∀ p ∈ cs, K.lookup p.2 = none
  code : ∀ p ∈ cs, PySem.W.CodeHd h p.1 p.2
/-- the main module as an object -/
def MainObj (mg : Str → Option Value) (h : Heap) : Prop := ∃ (bm : Addr) (ob : Obj), mg "__builtins__" = some (.ref bm) ∧ bm ≠ builtinsNs ∧ h.get? bm = some ob ∧ ob.cls = .type "module" ∧ ob.dict = some builtinsNs ∧ ob.data = .plain
theorem end_coreT (KX : K.In st.heap) (nsM : st.heap.Ns mainGlobals mg) (nsB : st.heap.Ns builtinsNs mb) (blt : ∀ y : Str, y ≠ "__name__" → mb y = bootBuiltins y) (lim : st.heap.NoLimit) (gen0 : st.gens = #[])
    (ta : TabsAt K st.heap cs) (mo : MainObj mg st.heap) (at_ : st.heap.get? a = some { cls := .type "list", data := .seq vs.toArray }) (rm : Room k callerA)
    (F : ∀ base : Heap, K.In base → base.Ns mainGlobals mg → (∀ p ∈ cs, TabB base mg p.1 p.2) → FnG P w K mg base k fa fd [x] sp)
    (bnd : ∀ (s : Shared) (u : Value), BindsTo s fd ⟨[u], []⟩ [(x, u)]) {H : Hp} (told : ∀ b, H b = none ∨ (∃ p ∈ cs, p.2 = b) ∨ ∃ ob xs, H b = some (.frz ob (.lst xs))) (tabs : ∀ p ∈ cs, H p.2 = some (.tbl #[]))
    (prom : sp [.ref a] H (fun v _ => v = .bl true) fun _ _ _ => False) (hok : HOk P w H st.heap) (one : ∀ b, H b ≠ none → b = a ∨ ∃ p ∈ cs, p.2 = b) (own : H a ≠ none → K.lookup a = none) : EndOk P w fa a st := by
  -- what is neither the script nor a table is not told
  have quiet : ∀ {b : Addr} {o : Obj}, st.heap.get? b = some o → (∀ us n, o.data ≠ .seq us n) → o.data ≠ .fields #[] → H b = none := by
    intro b o e n1 n2
    refine Classical.byContradiction fun q => ?_
    rcases one b q with rfl | ⟨p, hp, rfl⟩
    · rw [at_] at e
      obtain rfl := Option.some.inj e
      exact n1 _ _ rfl
    · rw [ta.bare p hp] at e
      obtain rfl := Option.some.inj e
      exact n2 rfl
  have quietD : ∀ {b : Addr} {o : Obj} {es : Array DictEntry} {ep : Nat}, st.heap.get? b = some o → o.data = .dict es ep → H b = none := by
    intro b o es ep e d
    exact quiet e (fun us n z => by rw [d] at z; exact nomatch z) (fun z => by rw [d] at z; exact nomatch z)
  have seen : ∀ {b : Addr} {o : Obj}, st.heap.get? b = some o → H b = none → (hidT st.heap H).get? b = some o := fun e n => hidT_get e n
  have nsT : ∀ (b : Addr) (m : Str → Option Value), st.heap.Ns b m → (hidT st.heap H).Ns b m := by
    rintro b m ⟨o, es, ep, e, d, r⟩
    exact ⟨o, es, ep, seen e (quietD e d), d, r⟩
  have KT : K.In (hidT st.heap H) := by
    intro b o e
    refine seen (KX b o e) (Classical.byContradiction fun q => ?_)
    rcases one b q with rfl | ⟨p, hp, rfl⟩
    · rw [own q] at e
      cases e
    · rw [ta.off p hp] at e
      cases e
  obtain ⟨mc, l1, l2⟩ := lim
  have md : Mod K mg (hidT st.heap H) := ⟨KT, nsT _ _ nsM, ⟨mb, nsT _ _ nsB, blt⟩, ⟨mc, nsT _ _ l1, l2⟩⟩
  have dictM : ∀ {b : Addr} {o : Obj}, st.heap.get? b = some o → o.data = .plain ∨ (∃ us, o.data = .fields us) → b ≠ mainGlobals := by
    intro b o e d z
    obtain ⟨om, es, ep, em, dm, _⟩ := nsM
    rw [z, em] at e
    obtain rfl := Option.some.inj e
    rcases d with d | ⟨us, d⟩
    · rw [dm] at d; cases d
    · rw [dm] at d; cases d
  have TB : ∀ p ∈ cs, TabB (hidT st.heap H) mg p.1 p.2 := by
    intro p hp
    have tp := ta.bare p hp
    refine ⟨?_, ?_, fun z => dictM tp (.inr ⟨_, rfl⟩) z.symm⟩
    · have cd := ta.code p hp
      obtain ⟨o, us, file, tf, flags, tg, inF, text, tt, e1, e2, e3, more⟩ := cd
      refine ⟨o, us, file, tf, flags, tg, inF, text, tt, seen e1 (quiet e1 (fun vs n z => ?_) fun z => ?_), e2, e3, more⟩
      · first
          | (rw [e2] at z; cases z)
          | (rw [e3] at z; cases z)
      · first
          | (rw [e2] at z; cases z; simp at e3)
          | (rw [e3] at z; cases z; obtain ⟨m1, _⟩ := more; simp at m1)
    · obtain ⟨bm, ob, b1, b2, b3, b4, b5, b6⟩ := mo
      refine ⟨bm, ob, b1, b2, dictM b3 (.inl b6), fun z => ?_, seen b3 (quiet b3 (fun us n z => by rw [b6] at z; exact nomatch z) fun z => by rw [b6] at z; exact nomatch z), b4, b5, b6⟩
      rw [z, tp] at b3
      obtain rfl := Option.some.inj b3
      cases b6
  have noFr : ∀ b : Addr, b ∉ frs ([] : List Env) := fun b z => by
    have z' : b ∈ ([] : List Addr) := z
    cases z'
  have e0 : Env0 P w K mg (hidT st.heap H) callerA [] st H :=
    { frames := rfl, mod := md, bs := fun b o e => of_hidT e, bsz := Nat.le_of_eq (hidT_size _ _), funs := trivial, frf := fun b z => absurd z (noFr b), hok := hok, bare := .of_eq gen0 }
  have go := F _ KT (nsT _ _ nsM) TB callerA callerA_g rm [] st H ⟨[.ref a], []⟩ [.ref a] [.ref a] _ _ e0 (bnd st (.ref a)) (.cons rfl .nil) prom
  refine codeAny_mono go fun r s2 h => ?_
  match r, h with
  | .error _, h => exact (h : False).elim
  | .ok .next, h => exact (h : False).elim
  | .ok .brk, h => exact (h : False).elim
  | .ok .cont, h => exact (h : False).elim
  | .ok (.ret u), h =>
    obtain ⟨v, H2, os, bare, un, hok2, rv, q⟩ := h
    obtain rfl : v = .bl true := q
    obtain rfl : u = Value.bool true := rv
    have same : ∀ b o, (¬ ∃ p ∈ cs, p.2 = b) → st.heap.get? b = some o → s2.heap.get? b = some o := by
      intro b o nt e
      rcases told b with z | z | ⟨ob, xs, z⟩
      · exact un.keep b o e z (noFr b) (by simp)
      · exact absurd z nt
      · have e2 := (hok b _ z).1
        rw [e] at e2
        cases e2
        exact (hok2 b _ (un.frzs b _ _ z)).1
    have grown : ∀ p ∈ cs, ∃ more : Array Value, s2.heap.get? p.2 = some { cls := .none, data := .fields more } := by
      intro p hp
      obtain ⟨more, z⟩ := un.tbls p.2 #[] (tabs p hp)
      exact ⟨_, hok2 p.2 _ z⟩
    refine ⟨rfl, ⟨fun b o e => ?_, fun b o e => ?_⟩, os, bare⟩
    · by_cases t : ∃ p ∈ cs, p.2 = b
      · obtain ⟨p, hp, rfl⟩ := t
        obtain ⟨more, hm⟩ := grown p hp
        have tp := ta.bare p hp
        rw [tp] at e
        obtain rfl := Option.some.inj e
        exact .inr (.inl ⟨((ta.code p hp).tab tp).isCodeTable, rfl, #[], more, rfl, by rw [Array.empty_append]; exact hm⟩)
      · exact .inl (same b o t e)
    · by_cases t : ∃ p ∈ cs, p.2 = b
      · obtain ⟨p, hp, rfl⟩ := t
        obtain ⟨more, hm⟩ := grown p hp
        exact ⟨_, hm⟩
      · exact ⟨o, same b o t e⟩
theorem end_callT (KX : K.In st.heap) (nsM : st.heap.Ns mainGlobals mg) (nsB : st.heap.Ns builtinsNs mb) (blt : ∀ y : Str, y ≠ "__name__" → mb y = bootBuiltins y) (lim : st.heap.NoLimit) (gen0 : st.gens = #[])
    (ta : TabsAt K st.heap cs) (mo : MainObj mg st.heap) (at_ : st.heap.get? a = some { cls := .type "list", data := .seq vs.toArray }) (iA : IntsAre vs ns) (len : ns.length ≤ sizeLine) (rm : Room k callerA)
    (F : ∀ base : Heap, K.In base → base.Ns mainGlobals mg → (∀ p ∈ cs, TabB base mg p.1 p.2) → FnG P w K mg base k fa fd [x] sp)
    (bnd : ∀ (s : Shared) (u : Value), BindsTo s fd ⟨[u], []⟩ [(x, u)]) (prom : ∀ H : Hp, (∀ p ∈ cs, H p.2 = some (.tbl #[])) → SqL K H a (ns.map V.int) → sp [.ref a] H (fun v _ => v = .bl true) fun _ _ _ => False) : EndOk P w fa a st := by
  have rv := vals_ints iA
  have notTab : ∀ p ∈ cs, p.2 ≠ a := fun p hp z => by
    have t := ta.bare p hp
    rw [z, at_] at t
    have t' : Data.seq vs.toArray _ = Data.fields #[] := congrArg Obj.data (Option.some.inj t)
    cases t'
  have mem : ∀ b, b ∈ cs.map (·.2) ↔ ∃ p ∈ cs, p.2 = b := fun b => List.mem_map
  let R : Hp := fun b => if b ∈ cs.map (·.2) then some (.tbl #[]) else none
  have Rt : ∀ b, b ∈ cs.map (·.2) → R b = some (.tbl #[]) := fun b z => if_pos z
  have Rn : ∀ b, b ∉ cs.map (·.2) → R b = none := fun b z => if_neg z
  have aR : a ∉ cs.map (·.2) := fun z => by
    obtain ⟨p, hp, e⟩ := (mem a).mp z
    exact notTab p hp e
  have okT : ∀ (H : Hp) b, b ∈ cs.map (·.2) → ObjOk P w H st.heap b (.tbl #[]) := fun H b z => by
    obtain ⟨p, hp, rfl⟩ := (mem b).mp z
    exact ta.bare p hp
  cases hk : K.lookup a with
  | some o =>
    have e := KX a o hk
    rw [at_] at e
    obtain rfl := Option.some.inj e
    have sq : SqL K R a (ns.map V.int) := .inr ⟨_, vs.toArray, _, hk, rfl, rfl, rfl, by rw [List.size_toArray, iA.length]; exact len, by simpa using rv⟩
    have tabs : ∀ p ∈ cs, R p.2 = some (.tbl #[]) := fun p hp => Rt _ ((mem _).mpr ⟨p, hp, rfl⟩)
    refine end_coreT KX nsM nsB blt lim gen0 ta mo at_ rm F bnd (H := R) (fun b => ?_) tabs (prom R tabs sq) (fun b u z => ?_) (fun b z => ?_) fun z => absurd (Rn a aR) z
    · by_cases t : b ∈ cs.map (·.2)
      · exact .inr (.inl ((mem b).mp t))
      · exact .inl (Rn b t)
    · by_cases t : b ∈ cs.map (·.2)
      · rw [Rt b t] at z
        obtain rfl := Option.some.inj z
        exact okT R b t
      · rw [Rn b t] at z
        cases z
    · by_cases t : b ∈ cs.map (·.2)
      · exact .inr ((mem b).mp t)
      · exact absurd (Rn b t) z
  | none =>
    let H : Hp := fun b => if b = a then some (.frz { cls := .type "list", data := .seq vs.toArray } (.lst (ns.map V.int))) else R b
    have Ha : H a = some (.frz { cls := .type "list", data := .seq vs.toArray } (.lst (ns.map V.int))) := if_pos rfl
    have Hn : ∀ b, b ≠ a → H b = R b := fun b n => if_neg n
    have tabs : ∀ p ∈ cs, H p.2 = some (.tbl #[]) := fun p hp => by
      rw [Hn _ (notTab p hp)]
      exact Rt _ ((mem _).mpr ⟨p, hp, rfl⟩)
    refine end_coreT KX nsM nsB blt lim gen0 ta mo at_ rm F bnd (H := H) (fun b => ?_) tabs (prom H tabs (.inl (.inr ⟨_, Ha⟩))) (fun b u z => ?_) (fun b z => ?_) fun _ => hk
    · by_cases n : b = a
      · subst n
        exact .inr (.inr ⟨_, _, Ha⟩)
      · by_cases t : b ∈ cs.map (·.2)
        · exact .inr (.inl ((mem b).mp t))
        · exact .inl ((Hn b n).trans (Rn b t))
    · by_cases n : b = a
      · subst n
        rw [Ha] at z
        obtain rfl := Option.some.inj z
        exact ⟨at_, by rw [List.length_map]; exact len, vs, _, rv, at_⟩
      · rw [Hn b n] at z
        by_cases t : b ∈ cs.map (·.2)
        · rw [Rt b t] at z
          obtain rfl := Option.some.inj z
          exact okT H b t
        · rw [Rn b t] at z
          cases z
    · by_cases n : b = a
      · exact .inl n
      · by_cases t : b ∈ cs.map (·.2)
        · exact .inr ((mem b).mp t)
        · exact absurd ((Hn b n).trans (Rn b t)) z
end
/-- of each def of the program: its code object, and that its table is bare -/
def TabTell (q : Program) (K : PySem.W.Frag) (h : Heap) : Prop := ∀ (y : Str) (c p : Addr), ((recsOf q).any fun e => e.name == y) = true → PySem.W.tabIn K y = some (c, p) → PySem.W.CodeHd h c p ∧ h.get? p = some bareTab
/-- what the head tells of the law's promise, with tables -/
def LawT (l : PySem.W.OpenLaw) (w : World) (K : PySem.W.Frag) (k n : Nat) (x : Str) (mg : Str → Option Value) (fa : Addr) (h : Heap) : Prop :=
  ∃ (fd : FuncData) (cs : List (Addr × Addr)) (sp : Sp), TabsAt K h cs ∧ (∀ (s : Shared) (u : Value), BindsTo s fd ⟨[u], []⟩ [(x, u)]) ∧
    (∀ (H : Hp) (a : Addr) (ns : List Int), ns.length ≤ n → (∀ p ∈ cs, H p.2 = some (.tbl #[])) → SqL K H a (ns.map V.int) → sp [.ref a] H (fun v _ => v = .bl true) fun _ _ _ => False) ∧
    ∀ base : Heap, K.In base → base.Ns mainGlobals mg → (∀ p ∈ cs, TabB base mg p.1 p.2) → FnG l.prog w K mg base k fa fd [x] sp
theorem walk_GT {l : PySem.W.OpenLaw} {n k : Nat} {q : Program} {loose : List Str} {XP : (Str → Option Value) → Heap → Prop} {YP : World → Heap → Prop} {d : DefRec} {K : Params → PySem.W.Frag} {x : Str}
    (most : l.most = some n) (le : n ≤ sizeLine) (df0 : d.params.defaults = []) (rm : Room k callerA) (hY : ∀ (w : World) (h : Heap), YP w h → (K w.params).In h)
    (F : ∀ (w : World) (mg : Str → Option Value) (fa : Addr) (h : Heap), YP w h → (K w.params).In h → h.Ns mainGlobals mg → mg d.name = some (.ref fa) → TabTell q (K w.params) h → LawT l w (K w.params) k n x mg fa h) :
    PySem.W.WalkO q loose XP YP l.row.toRowW d [] (fun f vs => PySem.call f vs) := by
  refine Att.attach_callB most df0 fun w s₀ s₁ mg mb fa o pm cd doc a vs ns G Y ho hd hcd hmg hobj hints hlen hbits hg => ?_
  have KX := hY w _ Y
  have tell : TabTell q (K w.params) s₁.heap := fun y c p an ti => by
    obtain ⟨r, mr, er⟩ := List.any_eq_true.mp an
    cases fnd : (recsOf q).find? fun e => e.name == y with
    | none => exact absurd er (by have := List.find?_eq_none.mp fnd r mr; simpa using this)
    | some r2 => exact PySem.W.tab_of G.T KX fnd ti
  obtain ⟨fd, cs, sp, ta, hb, hsp, hF⟩ := F w mg fa _ Y KX G.T.g hmg tell
  exact end_callT KX G.T.g G.T.b G.T.builtins G.T.nolimit hg ta G.T.bmain hobj hints (Nat.le_trans hlen le) rm hF hb fun H hH hS => hsp H a ns hlen hH hS
end Hw

namespace Hw
open PySem PySem.Spec PyProof.Rows L2
open He (ga ma ba eqO eqO_ok frT tabsB cT emptyTab frT_in frT_none Defn)
/-! the head by one run in the kernel, its facts told by Booleans -/
structure FnX where
  at_ : PySem.W.Frag → Addr
  name : Str
  qual : Str
  st : Stmt
  sup : Bool := false
  ck : PySem.W.Frag → Bool := fun _ => true
abbrev FnT : Type := Option (Str × Str × Arguments × FuncBody × Scope × Addr × List Str × Addr)
def fnT (K : PySem.W.Frag) (a : Addr) : FnT := match K.lookup a with
  | some ⟨_, _, .func fd, _⟩ => some (fd.name, fd.qualname, fd.params, fd.body, fd.scope, fd.globals, fd.closure.map (·.1), fd.builtins)
  | _ => none
def FnX.val (d : FnX) : FnT := some (d.name, d.qual, defArgs d.st, .stmts (defBody d.st), defScope d.st, mainGlobals, (match d.sup with | true => ["__class__"] | false => []), builtinsNs)
def FnX.ok (K : PySem.W.Frag) (d : FnX) : Bool := d.ck K && (PySem.W.keepIn K (.ref (d.at_ K)) && (match K.lookup (d.at_ K) with
  | some ⟨_, _, .func fd, _⟩ => PySem.W.codeIn K fd.code d.qual && decide (fd.defaults = .none)
  | _ => false))
theorem FnX.good {K : PySem.W.Frag} {d : FnX} (hs : d.sup = false) (e : fnT K (d.at_ K) = d.val) (c : d.ok K = true) :
    ∃ oc od osl kV doc pm an cdv ct, K.lookup (d.at_ K) = some ⟨oc, od, .func (PySem.W.fnOf d.name d.qual (defArgs d.st) (defBody d.st) (defScope d.st) .none kV doc pm an cdv ct), osl⟩ ∧ PySem.W.codeIn K cdv d.qual = true ∧ PySem.W.keepIn K (.ref (d.at_ K)) = true ∧ d.ck K = true := by
  obtain ⟨ck, c1⟩ := ba c
  obtain ⟨kp, c2⟩ := ba c1
  unfold fnT at e
  cases q : K.lookup (d.at_ K) with
  | none =>
    rw [q] at c2
    cases c2
  | some o =>
    obtain ⟨oc, od, dt, osl⟩ := o
    rw [q] at c2 e
    cases dt with
    | func fd =>
      obtain ⟨n1, n2, n3, n4, n5, n6, n7, n8, n9, n10, n11, n12, n13, n14, n15⟩ := fd
      have e2 : (some (n1, n2, n3, n4, n5, n6, n7.map (·.1), n15) : FnT) = some (d.name, d.qual, defArgs d.st, .stmts (defBody d.st), defScope d.st, mainGlobals, (match d.sup with | true => ["__class__"] | false => []), builtinsNs) := e
      rw [hs] at e2
      simp only [Option.some.injEq, Prod.mk.injEq, List.map_eq_nil_iff] at e2
      obtain ⟨h1, h2, h3, h4, h5, h6, h7, h8⟩ := e2
      subst h1 h2 h3 h4 h5 h6 h7 h8
      obtain ⟨k1, k2⟩ := ba (show (PySem.W.codeIn K n13 d.qual && decide (n8 = Value.none)) = true from c2)
      have k3 := of_decide_eq_true k2
      subst k3
      exact ⟨oc, od, osl, n9, n10, n11, n12, n13, n14, rfl, k1, kp, ck⟩
    | _ => cases c2
theorem FnX.goodS {K : PySem.W.Frag} {d : FnX} (hs : d.sup = true) (e : fnT K (d.at_ K) = d.val) (c : d.ok K = true) :
    ∃ oc od osl kV doc pm an cda ct cc, K.lookup (d.at_ K) = some ⟨oc, od, .func (PySem.W.ksFn d.name d.qual (defArgs d.st) (defBody d.st) (defScope d.st) .none kV doc pm an (.ref cda) ct cc), osl⟩ ∧ PySem.W.codeIn K (.ref cda) d.qual = true ∧ PySem.W.keepIn K (.ref (d.at_ K)) = true ∧ d.ck K = true := by
  obtain ⟨ck, c1⟩ := ba c
  obtain ⟨kp, c2⟩ := ba c1
  unfold fnT at e
  cases q : K.lookup (d.at_ K) with
  | none =>
    rw [q] at c2
    cases c2
  | some o =>
    obtain ⟨oc, od, dt, osl⟩ := o
    rw [q] at c2 e
    cases dt with
    | func fd =>
      obtain ⟨n1, n2, n3, n4, n5, n6, n7, n8, n9, n10, n11, n12, n13, n14, n15⟩ := fd
      have e2 : (some (n1, n2, n3, n4, n5, n6, n7.map (·.1), n15) : FnT) = some (d.name, d.qual, defArgs d.st, .stmts (defBody d.st), defScope d.st, mainGlobals, (match d.sup with | true => ["__class__"] | false => []), builtinsNs) := e
      rw [hs] at e2
      simp only [Option.some.injEq, Prod.mk.injEq] at e2
      obtain ⟨h1, h2, h3, h4, h5, h6, h7, h8⟩ := e2
      obtain ⟨k1, k2⟩ := ba (show (PySem.W.codeIn K n13 d.qual && decide (n8 = Value.none)) = true from c2)
      have k3 := of_decide_eq_true k2
      obtain ⟨cda, hc⟩ := He.codeIn_ref k1
      have h7' : ∃ cc : Addr, n7 = [(("__class__" : Str), cc)] := by
        match n7, h7 with
        | [(x, cc)], h =>
          have hx : x = ("__class__" : Str) := (List.cons.inj h).1
          exact ⟨cc, by rw [hx]⟩
      obtain ⟨cc, h7'⟩ := h7'
      subst h1 h2 h3 h4 h5 h6 h7' h8 k3 hc
      exact ⟨oc, od, osl, n9, n10, n11, n12, cda, n14, cc, rfl, k1, kp, ck⟩
    | _ => cases c2
/-! the Hook -/
structure SaysF (fn : List FnX) (tf : List Defn) (ex : PySem.W.Frag → Bool) (h : Heap) (K : PySem.W.Frag) : Prop where
  more : ex K = true
  ok : ∀ d ∈ fn, d.ok K = true
  eq : (fn.map fun d => fnT K (d.at_ K)) = fn.map FnX.val
  hd : ∀ p ∈ tf, PySem.W.codeHdIn K (cT K p).1 (cT K p).2 = true
  out : ∀ p ∈ tf, K.lookup (cT K p).2 = none
  empty : ∀ p ∈ tf, h.get? (cT K p).2 = some { cls := .none, data := .fields #[] }
abbrev AlF : Type := Bool × List FnT
def obsK (fn : List FnX) (tf : List Defn) (ex : PySem.W.Frag → Bool) (g : Addr → Option Obj) (K : PySem.W.Frag) : AlF := (ex K && ((fn.all fun d => d.ok K) && tabsB g tf K), fn.map fun d => fnT K (d.at_ K))
def obsF (fn : List FnX) (tf : List Defn) (ex : PySem.W.Frag → Bool) (g : Addr → Option Obj) (n : Nat) : AlF := obsK fn tf ex g (frT g (List.range n))
def valF (fn : List FnX) : AlF := (true, fn.map FnX.val)
theorem saysF_of {n : Nat} {fn : List FnX} {tf : List Defn} {ex : PySem.W.Frag → Bool} {h : Heap} (e : obsF fn tf ex h.get? n = valF fn) : SaysF fn tf ex h (frT h.get? (List.range n)) := by
  have e1 : (ex (frT h.get? (List.range n)) && ((fn.all fun d => d.ok (frT h.get? (List.range n))) && tabsB h.get? tf (frT h.get? (List.range n)))) = true := congrArg (fun z : AlF => z.1) e
  have e2 : (fn.map fun d => fnT (frT h.get? (List.range n)) (d.at_ (frT h.get? (List.range n)))) = fn.map FnX.val := congrArg (fun z : AlF => z.2) e
  obtain ⟨h1, e3⟩ := ba e1
  obtain ⟨h2, h3⟩ := ba e3
  have key : ∀ p ∈ tf, PySem.W.codeHdIn (frT h.get? (List.range n)) (cT (frT h.get? (List.range n)) p).1 (cT (frT h.get? (List.range n)) p).2 = true ∧ ∃ o, h.get? (cT (frT h.get? (List.range n)) p).2 = some o ∧ emptyTab o = true := fun p hp => by
    obtain ⟨h4, h5⟩ := ba (List.all_eq_true.mp h3 p hp)
    refine ⟨h4, ?_⟩
    cases q : h.get? (cT (frT h.get? (List.range n)) p).2 with
    | none =>
      rw [q] at h5
      cases h5
    | some o =>
      rw [q] at h5
      exact ⟨o, rfl, h5⟩
  exact ⟨h1, List.all_eq_true.mp h2, e2, fun p hp => (key p hp).1, fun p hp => by
    obtain ⟨_, o, q, z⟩ := key p hp
    exact frT_none q z, fun p hp => by
    obtain ⟨_, o, q, z⟩ := key p hp
    rw [q, He.emptyTab_eq z]⟩
def hookF (fn : List FnX) (tf : List Defn) (ex : PySem.W.Frag → Bool) : PySem.W.Hook where
  α := AlF
  obs := fun s => obsF fn tf ex s.heap.get? s.heap.objs.size
  val := fun _ => valF fn
  says := fun _ h => ∃ K : PySem.W.Frag, K.In h ∧ SaysF fn tf ex h K
  of := fun _ _ e => ⟨_, frT_in, saysF_of e⟩
  keeps := fun _ _ _ ⟨K, hK, c⟩ k => ⟨K, PySem.W.Frag.In.keeps hK k, ⟨c.more, c.ok, c.eq, c.hd, c.out, fun p hp => k _ _ (c.empty p hp)⟩⟩
/-- off the tree -/
def obF (fn : List FnX) (tf : List Defn) (ex : PySem.W.Frag → Bool) (s : PySem.W.SharedT) : AlF := obsF fn tf ex (HandSHeadRun.getT s) s.n
theorem obF_eq {fn : List FnX} {tf : List Defn} {ex : PySem.W.Frag → Bool} (s : PySem.W.SharedT) : obF fn tf ex s = (hookF fn tf ex).obs s.abs := by
  have e : HandSHeadRun.getT s = s.abs.heap.get? := funext (HandSHeadRun.getT_eq s)
  show obsF fn tf ex (HandSHeadRun.getT s) s.n = obsF fn tf ex s.abs.heap.get? s.abs.heap.objs.size
  rw [e, show s.abs.heap.objs.size = s.n from PySem.W.absHeap_size s.tree s.n s.life]
/-- two runs make one -/
theorem run_two {r : PySem.W.OpenRow} {q : Program} {fn1 fn2 : List FnX} {tf1 tf2 : List Defn} {ex1 ex2 : PySem.W.Frag → Bool} {M : Nat} {loose : List Str} {w : World}
    (h1 : HandSHeadRun.RunEq r q (hookF fn1 tf1 ex1) (obF fn1 tf1 ex1) M loose w) (h2 : HandSHeadRun.RunEq r q (hookF fn2 tf2 ex2) (obF fn2 tf2 ex2) M loose w) :
    HandSHeadRun.RunEq r q (hookF (fn1 ++ fn2) (tf1 ++ tf2) (fun K => ex1 K && ex2 K)) (obF (fn1 ++ fn2) (tf1 ++ tf2) (fun K => ex1 K && ex2 K)) M loose w := by
  intro os
  obtain ⟨s, e1, v1⟩ := Option.map_eq_some_iff.mp (h1 os)
  obtain ⟨s2, e2, v2⟩ := Option.map_eq_some_iff.mp (h2 os)
  have es : s = s2 := Option.some.inj (e1.symm.trans e2)
  subst es
  rw [e1]
  obtain ⟨a1, a23⟩ := Prod.mk.inj v1
  obtain ⟨a2, a3⟩ := Prod.mk.inj a23
  obtain ⟨_, b23⟩ := Prod.mk.inj v2
  obtain ⟨_, b3⟩ := Prod.mk.inj b23
  have o1 : obF fn1 tf1 ex1 s = valF fn1 := a3
  have o2 : obF fn2 tf2 ex2 s = valF fn2 := b3
  have o : obF (fn1 ++ fn2) (tf1 ++ tf2) (fun K => ex1 K && ex2 K) s = valF (fn1 ++ fn2) := by
    have x1 : (ex1 (frT (HandSHeadRun.getT s) (List.range s.n)) && ((fn1.all fun d => d.ok (frT (HandSHeadRun.getT s) (List.range s.n))) && tabsB (HandSHeadRun.getT s) tf1 (frT (HandSHeadRun.getT s) (List.range s.n)))) = true := congrArg (fun z : AlF => z.1) o1
    have y1 : (fn1.map fun d => fnT (frT (HandSHeadRun.getT s) (List.range s.n)) (d.at_ (frT (HandSHeadRun.getT s) (List.range s.n)))) = fn1.map FnX.val := congrArg (fun z : AlF => z.2) o1
    have x2 : (ex2 (frT (HandSHeadRun.getT s) (List.range s.n)) && ((fn2.all fun d => d.ok (frT (HandSHeadRun.getT s) (List.range s.n))) && tabsB (HandSHeadRun.getT s) tf2 (frT (HandSHeadRun.getT s) (List.range s.n)))) = true := congrArg (fun z : AlF => z.1) o2
    have y2 : (fn2.map fun d => fnT (frT (HandSHeadRun.getT s) (List.range s.n)) (d.at_ (frT (HandSHeadRun.getT s) (List.range s.n)))) = fn2.map FnX.val := congrArg (fun z : AlF => z.2) o2
    obtain ⟨p1, p⟩ := ba x1
    obtain ⟨p2, p3⟩ := ba p
    obtain ⟨q1, q⟩ := ba x2
    obtain ⟨q2, q3⟩ := ba q
    refine Prod.ext ?_ ?_
    · show ((ex1 (frT (HandSHeadRun.getT s) (List.range s.n)) && ex2 (frT (HandSHeadRun.getT s) (List.range s.n))) && (((fn1 ++ fn2).all fun d => d.ok (frT (HandSHeadRun.getT s) (List.range s.n))) && tabsB (HandSHeadRun.getT s) (tf1 ++ tf2) (frT (HandSHeadRun.getT s) (List.range s.n)))) = true
      rw [p1, q1, List.all_append, p2, q2]
      unfold tabsB at p3 q3 ⊢
      rw [List.all_append, p3, q3]
      rfl
    · show ((fn1 ++ fn2).map fun d => fnT (frT (HandSHeadRun.getT s) (List.range s.n)) (d.at_ (frT (HandSHeadRun.getT s) (List.range s.n)))) = (fn1 ++ fn2).map FnX.val
      rw [List.map_append, List.map_append, y1, y2]
  show some (_, _, obF (fn1 ++ fn2) (tf1 ++ tf2) (fun K => ex1 K && ex2 K) s) = some (true, _, valF (fn1 ++ fn2))
  rw [o, a1, a2]
theorem SaysF.fn_ {fn : List FnX} {tf : List Defn} {ex : PySem.W.Frag → Bool} {h : Heap} {K : PySem.W.Frag} (c : SaysF fn tf ex h K) (i : Nat) {d : FnX} (hd : fn[i]? = some d) : fnT K (d.at_ K) = d.val ∧ d.ok K = true := by
  have e2 : (fn.map fun d => fnT K (d.at_ K))[i]? = (fn.map FnX.val)[i]? := by rw [c.eq]
  rw [List.getElem?_map, List.getElem?_map, hd] at e2
  exact ⟨Option.some.inj e2, c.ok d (List.mem_of_getElem? hd)⟩
/-- the law's end, over such a head -/
theorem walk_GE {l : PySem.W.OpenLaw} {n k : Nat} {q : Program} {loose : List Str} {XP : (Str → Option Value) → Heap → Prop} {YP : World → Heap → Prop} {d : DefRec} {x : Str}
    (most : l.most = some n) (le : n ≤ sizeLine) (df0 : d.params.defaults = []) (rm : Room k callerA)
    (F : ∀ (w : World) (mg : Str → Option Value) (fa : Addr) (h : Heap), YP w h → h.Ns mainGlobals mg → mg d.name = some (.ref fa) → ∃ K : PySem.W.Frag, K.In h ∧ LawT l w K k n x mg fa h) :
    PySem.W.WalkO q loose XP YP l.row.toRowW d [] (fun f vs => PySem.call f vs) := by
  refine Att.attach_callB most df0 fun w s₀ s₁ mg mb fa o pm cd doc a vs ns G Y ho hd hcd hmg hobj hints hlen hbits hg => ?_
  obtain ⟨K, KX, fd, cs, sp, ta, hb, hsp, hF⟩ := F w mg fa _ Y G.T.g hmg
  exact end_callT KX G.T.g G.T.b G.T.builtins G.T.nolimit hg ta G.T.bmain hobj hints (Nat.le_trans hlen le) rm hF hb fun H hH hS => hsp H a ns hlen hH hS
/-! ### Booleans -/
def gloB (K : PySem.W.Frag) (x : Str) : Bool := eqO (PySem.W.nsIn K mainGlobals x) (some (some (.ref (ga K x))))
def freeB (K : PySem.W.Frag) (x : Str) : Bool := eqO (PySem.W.nsIn K mainGlobals x) (some none)
def noatB (K : PySem.W.Frag) (C : Addr) (f : Str) : Bool := eqO (PySem.W.findIn K (.ref C) f) (some none)
def attB (K : PySem.W.Frag) (C : Addr) (f : Str) (v : Value) : Bool := eqO (PySem.W.findIn K (.ref C) f) (some (some v))
def clsB (K : PySem.W.Frag) (C : Addr) : Bool := PySem.W.plainGet K C Str.empty && (PySem.W.hasDictIn K C && (PySem.W.plainOver K C && attB K C "__setattr__" (.builtin "object.__setattr__")))
def someB (a : Option Bool) (b : Bool) : Bool := decide (a = some b)
theorem someB_ok {a : Option Bool} {b : Bool} (h : someB a b = true) : a = some b := of_decide_eq_true h
theorem frees_ok {K : PySem.W.Frag} {h : Heap} {mg : Str → Option Value} (X : K.In h) (G : h.Ns mainGlobals mg) {l : List Str} (c : (l.all (freeB K)) = true) (i : Nat) {x : Str} (hi : l[i]? = some x) : mg x = none := PySem.W.mg_none_of X G (eqO_ok (List.all_eq_true.mp c x (List.mem_of_getElem? hi)))
/-- a constant of a class, an integer -/
def intC (K : PySem.W.Frag) (C : Addr) (f : Str) (i : Int) : Bool := match PySem.W.findCls K (.ref C) (.type "type") f with
  | some (.val (.int j _)) => decide (j = i)
  | _ => false
theorem intC_ok {K : PySem.W.Frag} {C : Addr} {f : Str} {i : Int} (h : intC K C f i = true) : ∃ t, PySem.W.findCls K (.ref C) (.type "type") f = some (.val (.int i t)) := by
  unfold intC at h
  split at h
  · rename_i j t q
    have e : j = i := of_decide_eq_true h
    subst e
    exact ⟨t, q⟩
  · cases h
def metaB (K : PySem.W.Frag) (C : Addr) : Bool := PySem.W.readsIn K C (.type "type") && eqO (PySem.W.specialIn K (.ref C) "__getattribute__") (some (some (.builtin "type.__getattribute__")))
/-- what stands behind a class's static | class method -/
def dsP (K : PySem.W.Frag) (C : Addr) (m : Str) : Addr := match PySem.W.findCls K (.ref C) (.type "type") m with
  | some (.get _ (.ref p) _ _) => p
  | _ => 0
def recF (K : PySem.W.Frag) (p : Addr) (T : String) : Addr := match PySem.W.recIn K p T with
  | some (.ref f :: _) => f
  | _ => 0
def recB (K : PySem.W.Frag) (p : Addr) (T : String) : Bool := match PySem.W.recIn K p T with
  | some (.ref _ :: _) => true
  | _ => false
theorem recB_ok {K : PySem.W.Frag} {p : Addr} {T : String} (h : recB K p T = true) : ∃ r, PySem.W.recIn K p T = some (.ref (recF K p T) :: r) := by
  unfold recB at h
  unfold recF
  split at h
  · rename_i f r q
    rw [q]
    exact ⟨r, rfl⟩
  · cases h
def getB (K : PySem.W.Frag) (C : Addr) (m : Str) (g : String) : Bool := match PySem.W.findCls K (.ref C) (.type "type") m with
  | some (.get (.builtin g') (.ref _) .none (.ref C')) => decide (g' = g) && decide (C' = C)
  | _ => false
theorem getB_ok {K : PySem.W.Frag} {C : Addr} {m : Str} {g : String} (h : getB K C m g = true) : PySem.W.findCls K (.ref C) (.type "type") m = some (.get (.builtin g) (.ref (dsP K C m)) .none (.ref C)) := by
  unfold getB at h
  unfold dsP
  split at h
  · rename_i g' p C' q
    obtain ⟨h1, h2⟩ := ba h
    have e1 := of_decide_eq_true h1
    have e2 := of_decide_eq_true h2
    subst e1 e2
    rw [q]
  · cases h
def newB : List (Option Value) → Bool
  | [_, _, _, _, some (.builtin n), _] => decide (n = "ValueError.__new__")
  | _ => false
theorem newB_ok {sl : List (Option Value)} (h : newB sl = true) : ∃ k0 k1 k2 k3 k5, sl = [k0, k1, k2, k3, some (.builtin "ValueError.__new__"), k5] := by
  unfold newB at h
  split at h
  · rename_i k0 k1 k2 k3 n k5
    have e3 := of_decide_eq_true h
    subst e3
    exact ⟨k0, k1, k2, k3, k5, rfl⟩
  · cases h
/-- a class of ValueError's kin -/
def veB (K : PySem.W.Frag) (C : Addr) : Bool := match K.lookup C with
  | some ⟨.type t, _, .cls cd, sl⟩ => decide (t = "type") && ((match cd.mro with | .ref c :: bm => decide (c = C) && PySem.HandSPX.refsVE bm | _ => false) && (cd.hasDict && (!cd.hasDel && newB sl.toList)))
  | _ => false
theorem veB_ok {K : PySem.W.Frag} {C : Addr} (h : veB K C = true) : ∃ nm q N bs bm sn sub ab col dd k0 k1 k2 k3 k5, K.lookup C = some (excClassObj nm q C N bs bm true sn sub ab col dd k0 k1 k2 k3 k5 "ValueError.__new__") ∧ PySem.HandSPX.refsVE bm = true := by
  unfold veB at h
  split at h
  · rename_i t dd cd sl q
    obtain ⟨h1, h⟩ := ba h
    obtain ⟨h2, h⟩ := ba h
    obtain ⟨h3, h⟩ := ba h
    obtain ⟨h4, h5⟩ := ba h
    have e1 := of_decide_eq_true h1
    subst e1
    obtain ⟨nm, bs, mro, ns, qn, hd, sn, sub, ab, col, hdel⟩ := cd
    obtain rfl : hd = true := h3
    obtain rfl : hdel = false := by
      cases hdel with
      | false => rfl
      | true => cases h4
    obtain ⟨sl⟩ := sl
    cases mro with
    | nil => cases h2
    | cons v bm =>
      cases v with
      | ref c =>
        obtain ⟨h6, h7⟩ := ba (show (decide (c = C) && PySem.HandSPX.refsVE bm) = true from h2)
        have e2 := of_decide_eq_true h6
        subst e2
        obtain ⟨k0, k1, k2, k3, k5, e3⟩ := newB_ok (show newB sl = true from h5)
        subst e3
        exact ⟨_, _, _, _, _, _, _, _, _, _, _, _, _, _, _, q, h7⟩
      | _ => cases h2
  · cases h
end Hw

namespace Hw
open PySem PySem.Spec PyProof.Rows L2 ClX
open He (ga ma ba eqO eqO_ok cT Defn codeIn_ref)
abbrev sGetPa : Stmt := inClass sNetwork 6
abbrev sGetSt : Stmt := inClass sNetwork 7
structure NAll (K : PySem.W.Frag) (mg : Str → Option Value) (C : Addr) (mc : Value) : Prop where
  N : NetC K mg C mc
  IC : IsC K C
  init : ∃ (f : Addr) (fd : FuncData), Mk K C f ∧ Fun K "__init__" "Network.__init__" sInit f fd ∧ L2.Binds K fd ["self", "places", "passages"] []
  valid : Ds K C mc "is_valid" "Network.is_valid" sIsValid ["places", "passages"]
  gpl : PrD K C "places" "Network.places" sGetPl
  gpa : PrD K C "passages" "Network.passages" sGetPa
  gst : PrD K C "start" "Network.start" sGetSt
  across : Dm K C "_across" "Network._across" sAcross ["self", "passage", "place"]
  check : Dm K C "_check_place" "Network._check_place" sCheck ["self", "value"]
  far : Dm K C "far_end" "Network.far_end" sFarEnd ["self", "passage", "place"]
  pa : Dm K C "passages_at" "Network.passages_at" sPaAt ["self", "place"]
  len : Dm K C "__len__" "Network.__len__" sLenP ["self"]
  eq : Dm K C "__eq__" "Network.__eq__" sNetEq ["self", "other"]
structure LAll (K : PySem.W.Frag) (mg : Str → Option Value) (CL : Addr) : Prop where
  n : LnC K mg CL
  init : ∃ (f : Addr) (fd : FuncData), Mk K CL f ∧ Fun K "__init__" "Line.__init__" sLnInit f fd ∧ L2.Binds K fd ["self", "lines", "number"] []
  more : Dm K CL "has_more" "Line.has_more" sHasMore ["self"]
  word : Dm K CL "next_word" "Line.next_word" sNextWord ["self", "allowed"]
  int : Dm K CL "next_integer" "Line.next_integer" sNextInt ["self", "allowed"]
  fin : Dm K CL "check_end" "Line.check_end" sCheckEnd ["self"]
section
variable {P : Program} {w : World} {K : PySem.W.Frag} {mg : Str → Option Value} {base : Heap}
theorem ok_getPa {C : Addr} (cl : Cls K C) (n : NoAttr K C "_passages") (D : PrD K C "passages" "Network.passages" sGetPa) : PrG P w K mg base C "passages" "_passages" := by
  obtain ⟨p, g, fd, hp, F, b⟩ := D.ex
  refine ⟨p, g, fd, hp, F.ok (N := ["self"]) ⟨rfl, rfl, rfl, by decide +kernel, rfl, by decide +kernel, by decide +kernel⟩ (fun vs H Q E h => ?_) (fun cdv A outer s0 H vs Q E hr h => ?_), b⟩
  · obtain ⟨a, dx, fs, v, rfl, _⟩ := h
    rfl
  · obtain ⟨a, dx, fs, v, rfl, h1, h2, q⟩ := h
    exact ⟨_, pss_one (ps_ret (pe_fld (pv 0) rfl)), _, rfl, a, C, dx, fs, v, rfl, h1, cl, n, h2, q⟩
theorem ok_getSt {C : Addr} (cl : Cls K C) (n : NoAttr K C "_start") (D : PrD K C "start" "Network.start" sGetSt) : PrG P w K mg base C "start" "_start" := by
  obtain ⟨p, g, fd, hp, F, b⟩ := D.ex
  refine ⟨p, g, fd, hp, F.ok (N := ["self"]) ⟨rfl, rfl, rfl, by decide +kernel, rfl, by decide +kernel, by decide +kernel⟩ (fun vs H Q E h => ?_) (fun cdv A outer s0 H vs Q E hr h => ?_), b⟩
  · obtain ⟨a, dx, fs, v, rfl, _⟩ := h
    rfl
  · obtain ⟨a, dx, fs, v, rfl, h1, h2, q⟩ := h
    exact ⟨_, pss_one (ps_ret (pe_fld (pv 0) rfl)), _, rfl, a, C, dx, fs, v, rfl, h1, cl, n, h2, q⟩
end
abbrev sInitPE : Stmt := inClass sParseError 0
theorem xs_parse : XiS ["self", "line", "word"] ["self", "line", "word"] (defScope sInitPE) :=
  ⟨rfl, rfl, rfl, by decide +kernel, rfl, by decide +kernel, by decide +kernel, by decide +kernel, rfl, rfl, ⟨rfl, rfl, by decide⟩⟩
abbrev sInitP : Stmt := inClass sPlaceE 0
theorem xs_place : XiS ["self", "value"] ["self", "value"] (defScope sInitP) :=
  ⟨rfl, rfl, rfl, by decide +kernel, rfl, by decide +kernel, by decide +kernel, by decide +kernel, rfl, rfl, ⟨rfl, rfl, by decide⟩⟩
section
variable {P : Program} {w : World} {K : PySem.W.Frag} {mg : Str → Option Value} {base : Heap}
theorem ok_place {C f cda cc : Addr} {fd : FuncData} (F : XiF P K mg C f fd "InvalidPlace.__init__" (defScope sInitP) (defBody sInitP) cda cc) (hno : PySem.W.findIn K (.ref C) "value" = some none) : FnOk P w K mg base CX0 1 f fd ["self", "value"] (spXi C "value") := by
  refine fn_super (k := 0) (ta := tCons (tC (.str "this is not such a place")) tNil) (pl := _) F xs_place (fun vs H Q E h => ?_) (fun A outer st H vs Q E hr h => ?_) (fun L => rfl) (fun L => rfl) (fun L => rfl) (fun L => rfl)
  · obtain ⟨a, v, rfl, _⟩ := h
    rfl
  · obtain ⟨a, v, rfl, hexo, q⟩ := h
    exact ⟨a, _, rfl, hexo, pa_cons pe_str pa_nil, ⟨rfl, by show 1 ≤ 1000; decide⟩, pss_one (ps_ost (pv 0) (pv 1)), _, rfl, _, rfl, a, C, rfl, F.low, hno, .inl ⟨hexo, fun dx ndx ne => q dx ndx ne⟩⟩
theorem ok_parse {C f cda cc : Addr} {fd : FuncData} (F : XiF P K mg C f fd "ParseError.__init__" (defScope sInitPE) (defBody sInitPE) cda cc) (noL : PySem.W.findIn K (.ref C) "line" = some none) (noW : PySem.W.findIn K (.ref C) "word" = some none) : FnOk P w K mg base CX0 1 f fd ["self", "line", "word"] (spXi2 C "line" "word") := by
  refine fn_super (k := 0) (ta := tCons (tC (.str "this is not the text of a walker")) tNil) (pl := _) F xs_parse (fun vs H Q E h => ?_) (fun A outer st H vs Q E hr h => ?_) (fun L => rfl) (fun L => rfl) (fun L => rfl) (fun L => rfl)
  · obtain ⟨a, v, w', rfl, _⟩ := h
    rfl
  · obtain ⟨a, v, w', rfl, hexo, q⟩ := h
    refine ⟨a, _, rfl, hexo, pa_cons pe_str pa_nil, ⟨rfl, by show 1 ≤ 1000; decide⟩, pss_cons (ps_ost (pv 0) (pv 1)) (pss_one (ps_ost (pv 0) (pv 2))), ?_⟩
    refine ⟨_, rfl, _, rfl, a, C, rfl, F.low, noL, .inl ⟨hexo, fun dx ndx ne => ?_⟩⟩
    have hd : upd (upd H dx (exd dx [("line", v)])) a (exo a C (some dx)) dx = some (exd dx [("line", v)]) := by rw [upd_ne ne, upd_same]
    refine ⟨_, rfl, _, rfl, a, C, rfl, F.low, noW, .inr ⟨dx, _, upd_same, hd, by show 1 ≤ 900; decide, ?_⟩⟩
    refine q dx _ ndx ne (by rw [upd_ne (Ne.symm ne), upd_same]) upd_same fun b h1 h2 => ?_
    rw [upd_ne h2, upd_ne h1, upd_ne h2]
end
theorem df_mk {K : PySem.W.Frag} {h : Heap} {mg : Str → Option Value} (X : K.In h) (G : h.Ns mainGlobals mg) {x : Str} {st : Stmt} {ps : List Str} {f : Addr} {oc : Value} {od an : Option Addr} {osl : Array (Option Value)} {kV doc pm cdv ct : Value}
    (a : PySem.W.nsIn K mainGlobals x = some (some (.ref f))) (l : K.lookup f = some ⟨oc, od, .func (PySem.W.fnOf x x (defArgs st) (defBody st) (defScope st) .none kV doc pm an cdv ct), osl⟩) (c : PySem.W.codeIn K cdv x = true) (k : PySem.W.keepIn K (.ref f) = true)
    (hb : ∀ (kV doc pm : Value) (an : Option Addr) (cdv ct : Value) (us : List Value), us.length = ps.length → bindArgs (PySem.W.fnOf x x (defArgs st) (defBody st) (defScope st) .none kV doc pm an cdv ct) ⟨us, []⟩ = pure (ps.zip us)) : Df K mg x st ps := by
  have F := fun_mk (st := st) l c k
  exact ⟨f, _, F, F.binds hb, PySem.W.mg_of X G a⟩
theorem dm_mk {K : PySem.W.Frag} {C f : Addr} {m qual : Str} {st : Stmt} {ps : List Str} {oc : Value} {od an : Option Addr} {osl : Array (Option Value)} {kV doc pm cdv ct : Value}
    (a : PySem.W.findIn K (.ref C) m = some (some (.ref f))) (i : PySem.W.isFn K (.ref f) = true) (l : K.lookup f = some ⟨oc, od, .func (PySem.W.fnOf m qual (defArgs st) (defBody st) (defScope st) .none kV doc pm an cdv ct), osl⟩) (c : PySem.W.codeIn K cdv qual = true) (k : PySem.W.keepIn K (.ref f) = true)
    (hb : ∀ (kV doc pm : Value) (an : Option Addr) (cdv ct : Value) (us : List Value), us.length = ps.length → bindArgs (PySem.W.fnOf m qual (defArgs st) (defBody st) (defScope st) .none kV doc pm an cdv ct) ⟨us, []⟩ = pure (ps.zip us)) : Dm K C m qual st ps := by
  have F := fun_mk (st := st) l c k
  exact ⟨f, _, F, F.binds hb, ⟨a, i, k⟩⟩
/-- a static method -/
theorem ds_mk {K : PySem.W.Frag} {C p f : Addr} {mc : Value} {m qual : Str} {st : Stmt} {ps : List Str} {rest : List Value} {oc : Value} {od an : Option Addr} {osl : Array (Option Value)} {kV doc pm cdv ct : Value}
    (a : PySem.W.findCls K (.ref C) mc m = some (.get (.builtin "staticmethod.__get__") (.ref p) .none (.ref C))) (r : PySem.W.recIn K p "staticmethod" = some (.ref f :: rest)) (hd : PySem.W.handedIn (.ref f) = true)
    (l : K.lookup f = some ⟨oc, od, .func (PySem.W.fnOf m qual (defArgs st) (defBody st) (defScope st) .none kV doc pm an cdv ct), osl⟩) (c : PySem.W.codeIn K cdv qual = true) (k : PySem.W.keepIn K (.ref f) = true)
    (hb : ∀ (kV doc pm : Value) (an : Option Addr) (cdv ct : Value) (us : List Value), us.length = ps.length → bindArgs (PySem.W.fnOf m qual (defArgs st) (defBody st) (defScope st) .none kV doc pm an cdv ct) ⟨us, []⟩ = pure (ps.zip us)) : Ds K C mc m qual st ps := by
  have F := fun_mk (st := st) l c k
  exact ⟨p, f, _, F, F.binds hb, ⟨a, ⟨_, r⟩, hd, k⟩⟩
theorem prd_mk {K : PySem.W.Frag} {C pB gB : Addr} {f q : Str} {st : Stmt} {rB : List Value} {oc : Value} {od an : Option Addr} {osl : Array (Option Value)} {kV doc pm cdv ct : Value}
    (b1 : PySem.W.findIn K (.ref C) f = some (some (.ref pB))) (b2 : PySem.W.specialIn K (.ref pB) "__get__" = some (some (.builtin "property.__get__"))) (b3 : PySem.W.takesIn K (.ref pB) = some true) (b4 : PySem.W.recIn K pB "property" = some (.ref gB :: rB))
    (l : K.lookup gB = some ⟨oc, od, .func (PySem.W.fnOf f q (defArgs st) (defBody st) (defScope st) .none kV doc pm an cdv ct), osl⟩) (c : PySem.W.codeIn K cdv q = true) (k : PySem.W.keepIn K (.ref gB) = true)
    (hb : ∀ (kV doc pm : Value) (an : Option Addr) (cdv ct : Value) (us : List Value), us.length = 1 → bindArgs (PySem.W.fnOf f q (defArgs st) (defBody st) (defScope st) .none kV doc pm an cdv ct) ⟨us, []⟩ = pure (([("self" : Str)] : List Str).zip us)) : PrD K C f q st := by
  have F := fun_mk (st := st) l c k
  exact ⟨pB, gB, _, ⟨b1, b2, b3, ⟨rB, b4⟩⟩, F, F.binds hb⟩
/-- a class method -/
theorem dc_mk {K : PySem.W.Frag} {C p f : Addr} {mc : Value} {m qual : Str} {st : Stmt} {ps : List Str} {rest : List Value} {oc : Value} {od an : Option Addr} {osl : Array (Option Value)} {kV doc pm cdv ct : Value}
    (a : PySem.W.findCls K (.ref C) mc m = some (.get (.builtin "classmethod.__get__") (.ref p) .none (.ref C))) (r : PySem.W.recIn K p "classmethod" = some (.ref f :: rest)) (fi : PySem.W.fnIn K f = true)
    (l : K.lookup f = some ⟨oc, od, .func (PySem.W.fnOf m qual (defArgs st) (defBody st) (defScope st) .none kV doc pm an cdv ct), osl⟩) (c : PySem.W.codeIn K cdv qual = true) (k : PySem.W.keepIn K (.ref f) = true)
    (hb : ∀ (kV doc pm : Value) (an : Option Addr) (cdv ct : Value) (us : List Value), us.length = ps.length → bindArgs (PySem.W.fnOf m qual (defArgs st) (defBody st) (defScope st) .none kV doc pm an cdv ct) ⟨us, []⟩ = pure (ps.zip us)) : Dc K C mc m qual st ps := by
  have F := fun_mk (st := st) l c k
  exact ⟨p, f, _, F, F.binds hb, ⟨a, ⟨_, r⟩, fi⟩⟩
/-- a method with a star -/
theorem dms_mk {K : PySem.W.Frag} {C f : Addr} {m qual : Str} {st : Stmt} {oc : Value} {od an : Option Addr} {osl : Array (Option Value)} {kV doc pm cdv ct : Value}
    (a : PySem.W.findIn K (.ref C) m = some (some (.ref f))) (i : PySem.W.isFn K (.ref f) = true) (l : K.lookup f = some ⟨oc, od, .func (PySem.W.fnOf m qual (defArgs st) (defBody st) (defScope st) .none kV doc pm an cdv ct), osl⟩) (c : PySem.W.codeIn K cdv qual = true) (k : PySem.W.keepIn K (.ref f) = true)
    (gf : PySem.W.specialIn K (.ref f) "__get__" = some (some (.builtin "function.__get__"))) (tk : PySem.W.takesIn K (.ref f) = some false) (cp : PySem.W.copiedNames.contains m = false) (fi : PySem.W.fnIn K f = true) : DmS K C m qual st :=
  ⟨f, _, fun_mk (st := st) l c k, ⟨a, i, k⟩, ⟨⟨a, i, k⟩, gf, tk, cp, fi⟩⟩
/-- the class Line -/
theorem lnc_mk {K : PySem.W.Frag} {h : Heap} {mg : Str → Option Value} (X : K.In h) (G : h.Ns mainGlobals mg) {C : Addr} (a : PySem.W.nsIn K mainGlobals "Line" = some (some (.ref C)))
    (pg : PySem.W.plainGet K C Str.empty = true) (hd : PySem.W.hasDictIn K C = true) (po : PySem.W.plainOver K C = true) (sa : PySem.W.findIn K (.ref C) "__setattr__" = some (some (.builtin "object.__setattr__")))
    (n1 : PySem.W.findIn K (.ref C) "_number" = some none) (n2 : PySem.W.findIn K (.ref C) "_words" = some none) (n3 : PySem.W.findIn K (.ref C) "_count" = some none) : LnC K mg C :=
  ⟨PySem.W.mg_of X G a, ⟨pg, hd, po, sa⟩, n1, n2, n3⟩
/-- the class Walker -/
theorem wkc_mk {K : PySem.W.Frag} {h : Heap} {mg : Str → Option Value} (X : K.In h) (G : h.Ns mainGlobals mg) {C : Addr} {t1 : Tok} (a : PySem.W.nsIn K mainGlobals "Walker" = some (some (.ref C)))
    (rd : PySem.W.readsIn K C (.type "type") = true) (ga : PySem.W.specialIn K (.ref C) "__getattribute__" = some (some (.builtin "type.__getattribute__")))
    (mp : PySem.W.findCls K (.ref C) (.type "type") "MAX_STEPS" = some (.val (.int 1000 t1)))
    (pg : PySem.W.plainGet K C Str.empty = true) (hd : PySem.W.hasDictIn K C = true) (po : PySem.W.plainOver K C = true) (sa : PySem.W.findIn K (.ref C) "__setattr__" = some (some (.builtin "object.__setattr__")))
    (n1 : PySem.W.findIn K (.ref C) "_network" = some none) (n2 : PySem.W.findIn K (.ref C) "_state" = some none) (n3 : PySem.W.findIn K (.ref C) "_steps" = some none) : WkC K mg C (.type "type") :=
  ⟨PySem.W.mg_of X G a, ⟨rd, ga⟩, ⟨_, mp, ⟨_, rfl⟩⟩, ⟨pg, hd, po, sa⟩, n1, n2, n3⟩
/-- a class that is made, and its __init__ -/
theorem mk_mk {K : PySem.W.Frag} {C f : Addr} {qual : Str} {st : Stmt} {oc : Value} {od an : Option Addr} {osl : Array (Option Value)} {kV doc pm cdv ct : Value}
    (m1 : PySem.W.makesIn K C = true) (m2 : PySem.W.findIn K (.ref C) "__init__" = some (some (.ref f))) (m3 : PySem.W.isFn K (.ref f) = true) (m4 : PySem.W.keepIn K (.ref C) = true)
    (l1 : K.lookup f = some ⟨oc, od, .func (PySem.W.fnOf "__init__" qual (defArgs st) (defBody st) (defScope st) .none kV doc pm an cdv ct), osl⟩) (c1 : PySem.W.codeIn K cdv qual = true) (k1 : PySem.W.keepIn K (.ref f) = true) : ∃ (f : Addr) (fd : FuncData), Mk K C f ∧ Fun K "__init__" qual st f fd :=
  ⟨f, _, ⟨m1, m2, m3, m4⟩, fun_mk (st := st) l1 c1 k1⟩
theorem mk_mkB {K : PySem.W.Frag} {C f : Addr} {qual : Str} {st : Stmt} {ps : List Str} {oc : Value} {od an : Option Addr} {osl : Array (Option Value)} {kV doc pm cdv ct : Value}
    (m1 : PySem.W.makesIn K C = true) (m2 : PySem.W.findIn K (.ref C) "__init__" = some (some (.ref f))) (m3 : PySem.W.isFn K (.ref f) = true) (m4 : PySem.W.keepIn K (.ref C) = true)
    (l1 : K.lookup f = some ⟨oc, od, .func (PySem.W.fnOf "__init__" qual (defArgs st) (defBody st) (defScope st) .none kV doc pm an cdv ct), osl⟩) (c1 : PySem.W.codeIn K cdv qual = true) (k1 : PySem.W.keepIn K (.ref f) = true)
    (hb : ∀ (kV doc pm : Value) (an : Option Addr) (cdv ct : Value) (us : List Value), us.length = ps.length → bindArgs (PySem.W.fnOf "__init__" qual (defArgs st) (defBody st) (defScope st) .none kV doc pm an cdv ct) ⟨us, []⟩ = pure (ps.zip us)) : ∃ (f : Addr) (fd : FuncData), Mk K C f ∧ Fun K "__init__" qual st f fd ∧ L2.Binds K fd ps [] := by
  have F := fun_mk (st := st) l1 c1 k1
  exact ⟨f, _, ⟨m1, m2, m3, m4⟩, F, F.binds hb⟩
/-- what the text says of an own exception -/
structure XeD (P : Program) (K : PySem.W.Frag) (mg : Str → Option Value) (x qual : Str) (st : Stmt) (ps : List Str) (C : Addr) : Prop where
  gC : mg x = some (.ref C)
  ex : ∃ (f cda cc : Addr) (fd : FuncData), PySem.W.findIn K (.ref C) "__init__" = some (some (.ref f)) ∧ PySem.W.typeIn K (.ref f) = some (.type "function") ∧ XiF P K mg C f fd qual (defScope st) (defBody st) cda cc ∧ L2.Binds K fd ps []
  xf : XfC K C
  te : PySem.W.exmOne K (.ref C) (.ref C) = some true
section
variable {P : Program} {w : World} {K : PySem.W.Frag} {mg : Str → Option Value} {base : Heap}
theorem XeD.place {C : Addr} (x : XeD P K mg "InvalidPlace" "InvalidPlace.__init__" sInitP ["self", "value"] C) (n : PySem.W.findIn K (.ref C) "value" = some none) : Xc1 P w K mg base "InvalidPlace" C "value" := by
  obtain ⟨f, cda, cc, fd, h1, h2, F, b⟩ := x.ex
  exact ⟨x.gC, F.low, ⟨f, fd, _, h1, h2, ok_place F n, b⟩, x.xf, n, x.te⟩
theorem XeD.parse {C : Addr} (x : XeD P K mg "ParseError" "ParseError.__init__" sInitPE ["self", "line", "word"] C) (n : PySem.W.findIn K (.ref C) "line" = some none) (m : PySem.W.findIn K (.ref C) "word" = some none) : Xc2 P w K mg base "ParseError" C "line" "word" := by
  obtain ⟨f, cda, cc, fd, h1, h2, F, b⟩ := x.ex
  exact ⟨x.gC, F.low, ⟨f, fd, _, h1, h2, ok_parse F n m, b⟩, x.xf, n, m, x.te⟩
end
theorem exm_own {K : PySem.W.Frag} {C : Addr} (h1 : PySem.W.subIn K (.ref C) (.type "BaseException") = some true) (h2 : PySem.W.isClsIn K C = true) (h3 : PySem.W.typeIn K (.ref C) = some (.type "type")) (h4 : PySem.W.subIn K (.ref C) (.ref C) = some true) : PySem.W.exmOne K (.ref C) (.ref C) = some true := by
  have x1 : (PySem.W.subIn K (.ref C) (.type "BaseException") == some true) = true := beq_iff_eq.mpr h1
  have c : (PySem.W.clsIn K C).isSome = true := h2
  have x2 : ((PySem.W.clsIn K C).isSome && PySem.W.typeIn K (.ref C) == some (.type "type")) = true := by
    rw [c, Bool.true_and]
    exact beq_iff_eq.mpr h3
  have x3 : PySem.W.kitCls K (.ref C) (.ref C) = some true := by
    unfold PySem.W.kitCls
    simp only [x2, if_true]
    exact h4
  unfold PySem.W.exmOne
  simp only [x1, if_true]
  exact x3
theorem xe_mk {P : Program} {x qual : Str} {st : Stmt} {ps : List Str} {K : PySem.W.Frag} {h : Heap} {mg : Str → Option Value} (X : K.In h) (G : h.Ns mainGlobals mg) {C f cda cc N0 : Addr} {nm q : Str} {bs bm : List Value} {sn : List Str} {sub : List Value} {ab : Bool} {col : Option Bool} {dd : Option Addr} {m0 m1 m2 m3 m5 : Option Value}
    {oc : Value} {od an : Option Addr} {osl : Array (Option Value)} {kV doc pm ct : Value} {ccl : Value} {cdd : Option Addr} {fv : Array Value} {ccs : Array (Option Value)} {file : Str} {tf : Tok} {ecl : Value} {eld : Option Addr} {esl : Array (Option Value)}
    (a : PySem.W.nsIn K mainGlobals x = some (some (.ref C)))
    (xL : K.lookup C = some (excClassObj nm q C N0 bs bm true sn sub ab col dd m0 m1 m2 m3 m5 "ValueError.__new__")) (vE : PySem.HandSPX.refsVE bm = true)
    (sa : PySem.W.findIn K (.ref C) "__setattr__" = some (some (.builtin "object.__setattr__"))) (ex : PySem.W.subIn K (.ref C) (.type "BaseException") = some true) (ty : PySem.W.typeIn K (.ref C) = some (.type "type")) (kC : PySem.W.keepIn K (.ref C) = true)
    (ini : PySem.W.findIn K (.ref C) "__init__" = some (some (.ref f))) (ti : PySem.W.typeIn K (.ref f) = some (.type "function"))
    (lk : K.lookup f = some ⟨oc, od, .func (PySem.W.ksFn "__init__" qual (defArgs st) (defBody st) (defScope st) .none kV doc pm an (.ref cda) ct cc), osl⟩) (cd : PySem.W.codeIn K (.ref cda) qual = true)
    (fi : K.lookup cda = some ⟨ccl, cdd, .fields fv, ccs⟩) (fv2 : fv[2]? = some (.str file tf)) (ff : ((P.main.file : Str) == file) = true)
    (cl : K.lookup cc = some ⟨ecl, eld, .cell (some (.ref C)), esl⟩) (su : PySem.W.mroIn K C (.ref C) = some true) (op : PySem.W.nsIn K PySem.cStatics "thirdparty.any" = some none)
    (sp : PySem.W.ks_superIn K C C "__init__" = some (some (.builtin "ValueError.__init__"))) (isV : PySem.W.subIn K (.ref C) (.type "ValueError") = some true) (noS : mg "super" = none) (tp : (P.main.scope.names.lookup ("super" : Str)).isSome = false)
    (ga : PySem.W.findIn K (.ref C) "__getattribute__" = some (some (.builtin "BaseException.__getattribute__"))) (gg : PySem.W.findIn K (.ref C) "__getattr__" = some none) (hdC : PySem.W.hasDictIn K C = true) (hb : ∀ (kV doc pm : Value) (an : Option Addr) (ct : Value) (us : List Value), us.length = ps.length → bindArgs (PySem.W.ksFn "__init__" qual (defArgs st) (defBody st) (defScope st) .none kV doc pm an (.ref cda) ct cc) ⟨us, []⟩ = pure (ps.zip us)) (hh : ∃ ar, ((defArgs st).posonlyargs ++ (defArgs st).args).head? = some ar ∧ ar.arg = "self")
    (se : PySem.W.subIn K (.ref C) (.ref C) = some true) (ic : PySem.W.isClsIn K C = true) : XeD P K mg x qual st ps C := by
  obtain ⟨ar, h1, h2⟩ := hh
  refine ⟨PySem.W.mg_of X G a, ⟨f, cda, cc, _, ini, ti, ⟨⟨⟨nm, q, N0, bs, bm, sn, sub, ab, col, dd, m0, m1, m2, m3, m5, xL, vE⟩, sa, ex, ty, kC⟩, ⟨defArgs st, .none, kV, doc, pm, an, ct, ar, rfl, h1, h2⟩, ⟨oc, od, osl, lk⟩, cd, ⟨ccl, cdd, fv, ccs, file, tf, fi, fv2, ff⟩, ⟨ecl, eld, esl, cl⟩, su, op, sp, isV, noS, tp⟩, ?_⟩, ⟨ga, gg, ex, hdC⟩, exm_own ex ic ty se⟩
  exact L2.Binds.all fun us hl => hb _ _ _ _ _ us hl
theorem netc_mk {K : PySem.W.Frag} {h : Heap} {mg : Str → Option Value} (X : K.In h) (G : h.Ns mainGlobals mg) {C : Addr} {t1 t2 : Tok} (a : PySem.W.nsIn K mainGlobals "Network" = some (some (.ref C)))
    (rd : PySem.W.readsIn K C (.type "type") = true) (ga : PySem.W.specialIn K (.ref C) "__getattribute__" = some (some (.builtin "type.__getattribute__")))
    (mp : PySem.W.findCls K (.ref C) (.type "type") "MAX_PLACES" = some (.val (.int 12 t1))) (ms : PySem.W.findCls K (.ref C) (.type "type") "MAX_PASSAGES" = some (.val (.int 16 t2)))
    (pg : PySem.W.plainGet K C Str.empty = true) (hd : PySem.W.hasDictIn K C = true) (po : PySem.W.plainOver K C = true) (sa : PySem.W.findIn K (.ref C) "__setattr__" = some (some (.builtin "object.__setattr__")))
    (n1 : PySem.W.findIn K (.ref C) "_places" = some none) (n2 : PySem.W.findIn K (.ref C) "_passages" = some none) (n3 : PySem.W.findIn K (.ref C) "_start" = some none)
    (n4 : PySem.W.findIn K (.ref C) "_bridges" = some none) (n5 : PySem.W.findIn K (.ref C) "_cells" = some none) (n6 : PySem.W.findIn K (.ref C) "_exits" = some none) : NetC K mg C (.type "type") :=
  ⟨PySem.W.mg_of X G a, ⟨rd, ga⟩, ⟨_, mp, ⟨_, rfl⟩⟩, ⟨_, ms, ⟨_, rfl⟩⟩, ⟨pg, hd, po, sa⟩, n1, n2, n3, n4, n5, n6⟩
theorem kit_own {K : PySem.W.Frag} (C : Addr) : PySem.W.kitOne K (.ref C) (.ref C) = some true := if_pos (beq_self_eq_true _)
theorem isc_mk {K : PySem.W.Frag} {C : Addr} (pg : PySem.W.plainGet K C Str.empty = true) (hd : PySem.W.hasDictIn K C = true) (po : PySem.W.plainOver K C = true) (sa : PySem.W.findIn K (.ref C) "__setattr__" = some (some (.builtin "object.__setattr__")))
    (ha : PySem.W.findIn K (.ref C) "__class__" = some (some (.builtin "object.__class__"))) (hn : PySem.W.specialIn K (.builtin "object.__class__") "__get__" = some (some (.builtin "getset_descriptor.__get__"))) (ht : PySem.W.takesIn K (.builtin "object.__class__") = some true)
    (hm : PySem.W.mroIn K C (.type "object") = some true) : IsC K C := ⟨⟨pg, hd, po, sa⟩, ha, hn, ht, hm, kit_own C⟩
def fnDf (x : Str) (st : Stmt) : FnX := ⟨fun K => ga K x, x, x, st, false, fun K => gloB K x⟩
def fnDm (C m qual : Str) (st : Stmt) : FnX := ⟨fun K => ma K (ga K C) m, m, qual, st, false, fun K => attB K (ga K C) m (.ref (ma K (ga K C) m)) && PySem.W.isFn K (.ref (ma K (ga K C) m))⟩
def fnDs (C m qual : Str) (st : Stmt) : FnX := ⟨fun K => recF K (dsP K (ga K C) m) "staticmethod", m, qual, st, false, fun K => getB K (ga K C) m "staticmethod.__get__" && (recB K (dsP K (ga K C) m) "staticmethod" && PySem.W.handedIn (.ref (recF K (dsP K (ga K C) m) "staticmethod")))⟩
def fnDc (C m qual : Str) (st : Stmt) : FnX := ⟨fun K => recF K (dsP K (ga K C) m) "classmethod", m, qual, st, false, fun K => getB K (ga K C) m "classmethod.__get__" && (recB K (dsP K (ga K C) m) "classmethod" && PySem.W.fnIn K (recF K (dsP K (ga K C) m) "classmethod"))⟩
def fnPr (C f qual : Str) (st : Stmt) : FnX := ⟨fun K => recF K (ma K (ga K C) f) "property", f, qual, st, false, fun K => attB K (ga K C) f (.ref (ma K (ga K C) f)) && (eqO (PySem.W.specialIn K (.ref (ma K (ga K C) f)) "__get__") (some (some (.builtin "property.__get__"))) && (someB (PySem.W.takesIn K (.ref (ma K (ga K C) f))) true && recB K (ma K (ga K C) f) "property"))⟩
def fnMk (C qual : Str) (st : Stmt) : FnX := ⟨fun K => ma K (ga K C) "__init__", "__init__", qual, st, false, fun K => PySem.W.makesIn K (ga K C) && (attB K (ga K C) "__init__" (.ref (ma K (ga K C) "__init__")) && (PySem.W.isFn K (.ref (ma K (ga K C) "__init__")) && PySem.W.keepIn K (.ref (ga K C))))⟩
def fnDt (C m qual : Str) (st : Stmt) : FnX := ⟨fun K => ma K (ga K C) m, m, qual, st, false, fun K => attB K (ga K C) m (.ref (ma K (ga K C) m)) && (PySem.W.isFn K (.ref (ma K (ga K C) m)) && (eqO (PySem.W.specialIn K (.ref (ma K (ga K C) m)) "__get__") (some (some (.builtin "function.__get__"))) && (someB (PySem.W.takesIn K (.ref (ma K (ga K C) m))) false && (!PySem.W.copiedNames.contains m && PySem.W.fnIn K (ma K (ga K C) m)))))⟩
def cellB (K : PySem.W.Frag) (f C : Addr) : Bool := match K.lookup f with
  | some ⟨_, _, .func fd, _⟩ => (match fd.closure with
    | [(_, cc)] => (match K.lookup cc with
      | some ⟨_, _, .cell (some (.ref C')), _⟩ => decide (C' = C)
      | _ => false)
    | _ => false)
  | _ => false
def fileB (K : PySem.W.Frag) (f : Addr) (z : Str) : Bool := match K.lookup f with
  | some ⟨_, _, .func fd, _⟩ => (match fd.code with
    | .ref cda => (match K.lookup cda with
      | some ⟨_, _, .fields vs, _⟩ => (match (vs[2]? : Option Value) with
        | some (.str file _) => z == file
        | _ => false)
      | _ => false)
    | _ => false)
  | _ => false
def xeB (z x : Str) (K : PySem.W.Frag) : Bool :=
  let C := ga K x
  let f := ma K C "__init__"
  gloB K x && (veB K C && (attB K C "__setattr__" (.builtin "object.__setattr__") && (someB (PySem.W.subIn K (.ref C) (.type "BaseException")) true && (eqO ((PySem.W.typeIn K (.ref C)).map some) (some (some (.type "type"))) && (PySem.W.keepIn K (.ref C) &&
    (attB K C "__init__" (.ref f) && (eqO ((PySem.W.typeIn K (.ref f)).map some) (some (some (.type "function"))) && (fileB K f z && (cellB K f C && (someB (PySem.W.mroIn K C (.ref C)) true && (eqO (PySem.W.nsIn K PySem.cStatics "thirdparty.any") (some none) &&
    (eqO (PySem.W.ks_superIn K C C "__init__") (some (some (.builtin "ValueError.__init__"))) && (someB (PySem.W.subIn K (.ref C) (.type "ValueError")) true && (freeB K "super" && (attB K C "__getattribute__" (.builtin "BaseException.__getattribute__") &&
    (noatB K C "__getattr__" && (PySem.W.hasDictIn K C && (someB (PySem.W.subIn K (.ref C) (.ref C)) true && PySem.W.isClsIn K C))))))))))))))))))
def fnXe (z x qual : Str) (st : Stmt) : FnX := ⟨fun K => ma K (ga K x) "__init__", "__init__", qual, st, true, xeB z x⟩
theorem clsB_ok {K : PySem.W.Frag} {C : Addr} (h : clsB K C = true) : PySem.W.plainGet K C Str.empty = true ∧ PySem.W.hasDictIn K C = true ∧ PySem.W.plainOver K C = true ∧ PySem.W.findIn K (.ref C) "__setattr__" = some (some (.builtin "object.__setattr__")) := by
  obtain ⟨h1, h⟩ := ba h
  obtain ⟨h2, h⟩ := ba h
  obtain ⟨h3, h4⟩ := ba h
  exact ⟨h1, h2, h3, eqO_ok h4⟩
section
variable {fn : List FnX} {tf : List Defn} {ex : PySem.W.Frag → Bool} {h : Heap} {K : PySem.W.Frag} {mg : Str → Option Value}
theorem df_at (X : K.In h) (G : h.Ns mainGlobals mg) (c : SaysF fn tf ex h K) (i : Nat) {x : Str} {st : Stmt} {ps : List Str} (hi : fn[i]? = some (fnDf x st))
    (hb : ∀ (kV doc pm : Value) (an : Option Addr) (cdv ct : Value) (us : List Value), us.length = ps.length → bindArgs (PySem.W.fnOf x x (defArgs st) (defBody st) (defScope st) .none kV doc pm an cdv ct) ⟨us, []⟩ = pure (ps.zip us)) : Df K mg x st ps := by
  obtain ⟨e, o⟩ := c.fn_ i hi
  obtain ⟨oc, od, osl, kV, doc, pm, an, cdv, ct, lk, cd, kp, ck⟩ := FnX.good (by rfl) e o
  exact df_mk X G (eqO_ok ck) lk cd kp hb
theorem dm_at (c : SaysF fn tf ex h K) (i : Nat) {C m qual : Str} {st : Stmt} {ps : List Str} (hi : fn[i]? = some (fnDm C m qual st))
    (hb : ∀ (kV doc pm : Value) (an : Option Addr) (cdv ct : Value) (us : List Value), us.length = ps.length → bindArgs (PySem.W.fnOf m qual (defArgs st) (defBody st) (defScope st) .none kV doc pm an cdv ct) ⟨us, []⟩ = pure (ps.zip us)) : Dm K (ga K C) m qual st ps := by
  obtain ⟨e, o⟩ := c.fn_ i hi
  obtain ⟨oc, od, osl, kV, doc, pm, an, cdv, ct, lk, cd, kp, ck⟩ := FnX.good (by rfl) e o
  obtain ⟨k1, k2⟩ := ba ck
  exact dm_mk (eqO_ok k1) k2 lk cd kp hb
theorem ds_at (c : SaysF fn tf ex h K) (i : Nat) {C m qual : Str} {st : Stmt} {ps : List Str} (hi : fn[i]? = some (fnDs C m qual st))
    (hb : ∀ (kV doc pm : Value) (an : Option Addr) (cdv ct : Value) (us : List Value), us.length = ps.length → bindArgs (PySem.W.fnOf m qual (defArgs st) (defBody st) (defScope st) .none kV doc pm an cdv ct) ⟨us, []⟩ = pure (ps.zip us)) : Ds K (ga K C) (.type "type") m qual st ps := by
  obtain ⟨e, o⟩ := c.fn_ i hi
  obtain ⟨oc, od, osl, kV, doc, pm, an, cdv, ct, lk, cd, kp, ck⟩ := FnX.good (by rfl) e o
  obtain ⟨k1, ck⟩ := ba ck
  obtain ⟨k2, k3⟩ := ba ck
  obtain ⟨r, k4⟩ := recB_ok k2
  exact ds_mk (getB_ok k1) k4 k3 lk cd kp hb
theorem dc_at (c : SaysF fn tf ex h K) (i : Nat) {C m qual : Str} {st : Stmt} {ps : List Str} (hi : fn[i]? = some (fnDc C m qual st))
    (hb : ∀ (kV doc pm : Value) (an : Option Addr) (cdv ct : Value) (us : List Value), us.length = ps.length → bindArgs (PySem.W.fnOf m qual (defArgs st) (defBody st) (defScope st) .none kV doc pm an cdv ct) ⟨us, []⟩ = pure (ps.zip us)) : Dc K (ga K C) (.type "type") m qual st ps := by
  obtain ⟨e, o⟩ := c.fn_ i hi
  obtain ⟨oc, od, osl, kV, doc, pm, an, cdv, ct, lk, cd, kp, ck⟩ := FnX.good (by rfl) e o
  obtain ⟨k1, ck⟩ := ba ck
  obtain ⟨k2, k3⟩ := ba ck
  obtain ⟨r, k4⟩ := recB_ok k2
  exact dc_mk (getB_ok k1) k4 k3 lk cd kp hb
theorem prd_at (c : SaysF fn tf ex h K) (i : Nat) {C f q : Str} {st : Stmt} (hi : fn[i]? = some (fnPr C f q st))
    (hb : ∀ (kV doc pm : Value) (an : Option Addr) (cdv ct : Value) (us : List Value), us.length = 1 → bindArgs (PySem.W.fnOf f q (defArgs st) (defBody st) (defScope st) .none kV doc pm an cdv ct) ⟨us, []⟩ = pure (([("self" : Str)] : List Str).zip us)) : PrD K (ga K C) f q st := by
  obtain ⟨e, o⟩ := c.fn_ i hi
  obtain ⟨oc, od, osl, kV, doc, pm, an, cdv, ct, lk, cd, kp, ck⟩ := FnX.good (by rfl) e o
  obtain ⟨k1, ck⟩ := ba ck
  obtain ⟨k2, ck⟩ := ba ck
  obtain ⟨k3, k4⟩ := ba ck
  obtain ⟨r, k5⟩ := recB_ok k4
  exact prd_mk (eqO_ok k1) (eqO_ok k2) (someB_ok k3) k5 lk cd kp hb
theorem mk_at (c : SaysF fn tf ex h K) (i : Nat) {C qual : Str} {st : Stmt} (hi : fn[i]? = some (fnMk C qual st)) : ∃ (f : Addr) (fd : FuncData), Mk K (ga K C) f ∧ Fun K "__init__" qual st f fd := by
  obtain ⟨e, o⟩ := c.fn_ i hi
  obtain ⟨oc, od, osl, kV, doc, pm, an, cdv, ct, lk, cd, kp, ck⟩ := FnX.good (by rfl) e o
  obtain ⟨k1, ck⟩ := ba ck
  obtain ⟨k2, ck⟩ := ba ck
  obtain ⟨k3, k4⟩ := ba ck
  exact mk_mk k1 (eqO_ok k2) k3 k4 lk cd kp
theorem mk_atB (c : SaysF fn tf ex h K) (i : Nat) {C qual : Str} {st : Stmt} {ps : List Str} (hi : fn[i]? = some (fnMk C qual st))
    (hb : ∀ (kV doc pm : Value) (an : Option Addr) (cdv ct : Value) (us : List Value), us.length = ps.length → bindArgs (PySem.W.fnOf "__init__" qual (defArgs st) (defBody st) (defScope st) .none kV doc pm an cdv ct) ⟨us, []⟩ = pure (ps.zip us)) : ∃ (f : Addr) (fd : FuncData), Mk K (ga K C) f ∧ Fun K "__init__" qual st f fd ∧ L2.Binds K fd ps [] := by
  obtain ⟨e, o⟩ := c.fn_ i hi
  obtain ⟨oc, od, osl, kV, doc, pm, an, cdv, ct, lk, cd, kp, ck⟩ := FnX.good (by rfl) e o
  obtain ⟨k1, ck⟩ := ba ck
  obtain ⟨k2, ck⟩ := ba ck
  obtain ⟨k3, k4⟩ := ba ck
  exact mk_mkB k1 (eqO_ok k2) k3 k4 lk cd kp hb
theorem dms_at (c : SaysF fn tf ex h K) (i : Nat) {C m qual : Str} {st : Stmt} (hi : fn[i]? = some (fnDt C m qual st)) : DmS K (ga K C) m qual st := by
  obtain ⟨e, o⟩ := c.fn_ i hi
  obtain ⟨oc, od, osl, kV, doc, pm, an, cdv, ct, lk, cd, kp, ck⟩ := FnX.good (by rfl) e o
  obtain ⟨k1, ck⟩ := ba ck
  obtain ⟨k2, ck⟩ := ba ck
  obtain ⟨k3, ck⟩ := ba ck
  obtain ⟨k4, ck⟩ := ba ck
  obtain ⟨k5, k6⟩ := ba ck
  exact dms_mk (eqO_ok k1) k2 lk cd kp (eqO_ok k3) (someB_ok k4) (Bool.not_eq_true' _ |>.mp k5) k6
theorem map_some {a : Option Value} {v : Value} (h : eqO (a.map some) (some (some v)) = true) : a = some v := by
  have e := eqO_ok h
  cases a with
  | none => cases e
  | some u =>
    have e2 : some (some u) = some (some v) := e
    exact Option.some.inj e2
theorem xe_at {P : Program} {x qual z : Str} {st : Stmt} {ps : List Str} (X : K.In h) (G : h.Ns mainGlobals mg) (c : SaysF fn tf ex h K) (i : Nat) (hi : fn[i]? = some (fnXe z x qual st)) (hz : P.main.file = z) (tp : (P.main.scope.names.lookup ("super" : Str)).isSome = false)
    (hb : ∀ (kV doc pm : Value) (an : Option Addr) (cda : Addr) (ct : Value) (cc : Addr) (us : List Value), us.length = ps.length → bindArgs (PySem.W.ksFn "__init__" qual (defArgs st) (defBody st) (defScope st) .none kV doc pm an (.ref cda) ct cc) ⟨us, []⟩ = pure (ps.zip us))
    (hh : ∃ ar, ((defArgs st).posonlyargs ++ (defArgs st).args).head? = some ar ∧ ar.arg = "self") : XeD P K mg x qual st ps (ga K x) := by
  obtain ⟨e, o⟩ := c.fn_ i hi
  obtain ⟨oc, od, osl, kV, doc, pm, an, cda, ct, cc, lk, cd, kp, ck⟩ := FnX.goodS (by rfl) e o
  obtain ⟨k1, ck⟩ := ba ck
  obtain ⟨k2, ck⟩ := ba ck
  obtain ⟨k3, ck⟩ := ba ck
  obtain ⟨k4, ck⟩ := ba ck
  obtain ⟨k5, ck⟩ := ba ck
  obtain ⟨k6, ck⟩ := ba ck
  obtain ⟨k7, ck⟩ := ba ck
  obtain ⟨k8, ck⟩ := ba ck
  obtain ⟨k9, ck⟩ := ba ck
  obtain ⟨k10, ck⟩ := ba ck
  obtain ⟨k11, ck⟩ := ba ck
  obtain ⟨k12, ck⟩ := ba ck
  obtain ⟨k13, ck⟩ := ba ck
  obtain ⟨k14, ck⟩ := ba ck
  obtain ⟨k15, ck⟩ := ba ck
  obtain ⟨k16, ck⟩ := ba ck
  obtain ⟨k17, ck⟩ := ba ck
  obtain ⟨k18, ck⟩ := ba ck
  obtain ⟨k19, k20⟩ := ba ck
  have lk' : K.lookup (ma K (ga K x) "__init__") = some ⟨oc, od, .func (PySem.W.ksFn "__init__" qual (defArgs st) (defBody st) (defScope st) .none kV doc pm an (.ref cda) ct cc), osl⟩ := lk
  obtain ⟨nm, q, N, bs, bm, sn, sub, ab, col, dd, m0, m1, m2, m3, m5, xL, vE⟩ := veB_ok k2
  have f1 : ∃ ccl cdd fv ccs file tk, K.lookup cda = some ⟨ccl, cdd, .fields fv, ccs⟩ ∧ fv[2]? = some (.str file tk) ∧ ((P.main.file : Str) == file) = true := by
    unfold fileB at k9
    rw [lk'] at k9
    dsimp only at k9
    split at k9
    · rename_i _ ccl cdd fv ccs q1
      split at k9
      · rename_i file tk q2
        exact ⟨ccl, cdd, fv, ccs, file, tk, q1, q2, by rw [hz]; exact k9⟩
      · cases k9
    · cases k9
  obtain ⟨ccl, cdd, fv, ccs, file, tk, q1, q2, q3⟩ := f1
  have f2 : ∃ ecl eld esl, K.lookup cc = some ⟨ecl, eld, .cell (some (.ref (ga K x))), esl⟩ := by
    unfold cellB at k10
    rw [lk'] at k10
    dsimp only at k10
    split at k10
    · rename_i _ ecl eld C' esl q1
      have e1 := of_decide_eq_true k10
      subst e1
      exact ⟨ecl, eld, esl, q1⟩
    · cases k10
  obtain ⟨ecl, eld, esl, q4⟩ := f2
  exact xe_mk X G (eqO_ok k1) xL vE (eqO_ok k3) (someB_ok k4) (map_some k5) k6 (eqO_ok k7) (map_some k8) lk' cd q1 q2 q3 q4 (someB_ok k11) (eqO_ok k12) (eqO_ok k13) (someB_ok k14) (PySem.W.mg_none_of X G (eqO_ok k15)) tp (eqO_ok k16) (eqO_ok k17) k18 (fun kV doc pm an ct us hl => hb kV doc pm an cda ct cc us hl) hh (someB_ok k19) k20
end
/-! the classes -/
def netcB (K : PySem.W.Frag) : Bool :=
  let C := ga K "Network"
  gloB K "Network" && (metaB K C && (intC K C "MAX_PLACES" 12 && (intC K C "MAX_PASSAGES" 16 && (clsB K C && (["_places", "_passages", "_start", "_bridges", "_cells", "_exits"] : List Str).all (noatB K C)))))
def lncB (K : PySem.W.Frag) : Bool :=
  let C := ga K "Line"
  gloB K "Line" && (clsB K C && (["_number", "_words", "_count"] : List Str).all (noatB K C))
def wkcB (K : PySem.W.Frag) : Bool :=
  let C := ga K "Walker"
  gloB K "Walker" && (metaB K C && (intC K C "MAX_STEPS" 1000 && (clsB K C && (["_network", "_state", "_steps"] : List Str).all (noatB K C))))
def iscB (K : PySem.W.Frag) (C : Addr) : Bool := clsB K C && (attB K C "__class__" (.builtin "object.__class__") && (eqO (PySem.W.specialIn K (.builtin "object.__class__") "__get__") (some (some (.builtin "getset_descriptor.__get__"))) && (someB (PySem.W.takesIn K (.builtin "object.__class__")) true && someB (PySem.W.mroIn K C (.type "object")) true)))
section
variable {h : Heap} {K : PySem.W.Frag} {mg : Str → Option Value}
theorem noats {C : Addr} {l : List Str} (c : l.all (noatB K C) = true) (i : Nat) {x : Str} (hi : l[i]? = some x) : PySem.W.findIn K (.ref C) x = some none := eqO_ok (List.all_eq_true.mp c x (List.mem_of_getElem? hi))
theorem netc_at (X : K.In h) (G : h.Ns mainGlobals mg) (c : netcB K = true) : NetC K mg (ga K "Network") (.type "type") := by
  obtain ⟨k1, c⟩ := ba c
  obtain ⟨k2, c⟩ := ba c
  obtain ⟨k3, c⟩ := ba c
  obtain ⟨k4, c⟩ := ba c
  obtain ⟨k5, k6⟩ := ba c
  obtain ⟨r1, r2⟩ := ba k2
  obtain ⟨t1, i1⟩ := intC_ok k3
  obtain ⟨t2, i2⟩ := intC_ok k4
  obtain ⟨c1, c2, c3, c4⟩ := clsB_ok k5
  exact netc_mk X G (eqO_ok k1) r1 (eqO_ok r2) i1 i2 c1 c2 c3 c4 (noats k6 0 rfl) (noats k6 1 rfl) (noats k6 2 rfl) (noats k6 3 rfl) (noats k6 4 rfl) (noats k6 5 rfl)
theorem lnc_at (X : K.In h) (G : h.Ns mainGlobals mg) (c : lncB K = true) : LnC K mg (ga K "Line") := by
  obtain ⟨k1, c⟩ := ba c
  obtain ⟨k5, k6⟩ := ba c
  obtain ⟨c1, c2, c3, c4⟩ := clsB_ok k5
  exact lnc_mk X G (eqO_ok k1) c1 c2 c3 c4 (noats k6 0 rfl) (noats k6 1 rfl) (noats k6 2 rfl)
theorem wkc_at (X : K.In h) (G : h.Ns mainGlobals mg) (c : wkcB K = true) : WkC K mg (ga K "Walker") (.type "type") := by
  obtain ⟨k1, c⟩ := ba c
  obtain ⟨k2, c⟩ := ba c
  obtain ⟨k3, c⟩ := ba c
  obtain ⟨k5, k6⟩ := ba c
  obtain ⟨r1, r2⟩ := ba k2
  obtain ⟨t1, i1⟩ := intC_ok k3
  obtain ⟨c1, c2, c3, c4⟩ := clsB_ok k5
  exact wkc_mk X G (eqO_ok k1) r1 (eqO_ok r2) i1 c1 c2 c3 c4 (noats k6 0 rfl) (noats k6 1 rfl) (noats k6 2 rfl)
theorem isc_at {C : Addr} (c : iscB K C = true) : IsC K C := by
  obtain ⟨k1, c⟩ := ba c
  obtain ⟨k2, c⟩ := ba c
  obtain ⟨k3, c⟩ := ba c
  obtain ⟨k4, k5⟩ := ba c
  obtain ⟨c1, c2, c3, c4⟩ := clsB_ok k1
  exact isc_mk c1 c2 c3 c4 (eqO_ok k2) (eqO_ok k3) (someB_ok k4) (someB_ok k5)
end
end Hw

namespace Hw
open PySem PySem.Spec PyProof.Rows L2 ClX
open He (ga ma ba eqO eqO_ok cT Defn codeIn_ref)
structure DAll (K : PySem.W.Frag) (mg : Str → Option Value) : Prop where
  whole : Df K mg "is_whole" sWhole ["value"]
  index : Df K mg "is_index" sIndex ["value", "count"]
  isStep : Df K mg "is_step" sIsStepP ["network", "place", "value"]
  afS : Df K mg "after_step" sAfterStepP ["network", "state", "step"]
  isPassage : Df K mg "_is_passage" sIsPassage ["value", "places"]
  firstWrong : Df K mg "_first_wrong" sFirstWrong ["values", "places"]
  least : Df K mg "_least_joined" sLeast ["places", "passages"]
  conn : Df K mg "_is_connected" sConn ["places", "passages"]
  fault : Df K mg "_fault" sFault ["places", "passages"]
  bridges : Df K mg "_find_bridges" sBridges ["places", "passages"]
  cells : Df K mg "_find_cells" sCells ["places", "passages", "bridges"]
  exits : Df K mg "_find_exits" sExits ["places", "passages"]
  written : Df K mg "written" sWrittenP ["network", "steps"]
  parsed : Df K mg "parsed" sParsedP ["text", "most_steps"]
  readPlaces : Df K mg "_read_places" sReadPlaces ["lines"]
  readPassages : Df K mg "_read_passages" sReadPassages ["lines", "places"]
  firstWords : Df K mg "_first_words" sFirstWords ["places", "passages"]
  readSteps : Df K mg "_read_steps" sReadSteps ["line", "network", "most_steps"]
  chkT : Df K mg "check_thing" sCheckThing ["network", "value"]
  chkP : Df K mg "check_position" sCheckPosition ["network", "value"]
  mixed : Df K mg "_law_mixed" sMixed ["_law_cell", "_law_n"]
  folded : Df K mg "_law_folded" sFolded ["_law_script"]
  draw : Df K mg "_law_draw" sDraw ["_law_m", "_law_top_here"]
  begun : Df K mg "_law_begun" sBegun ["_law_script"]
  mixedUp : Df K mg "_law_mixed_up" sMixedUp ["_law_m", "_law_things"]
  tie : Df K mg "_law_tie" sTie ["_law_one", "_law_far"]
  tree : Df K mg "_law_tree" sTree ["_law_m", "_law_many", "_law_low"]
  ring : Df K mg "_law_ring" sRing ["_law_spots"]
  core : Df K mg "_law_core" sCore ["_law_m"]
  shifted : Df K mg "_law_shifted" sShifted ["_law_ties_here", "_law_low", "_law_hinge"]
  top : Df K mg "_law_top" sTop ["_law_ties_here"]
  renamed : Df K mg "_law_renamed" sRenamed ["_law_m", "_law_many", "_law_ties_here"]
  ties : Df K mg "_law_ties" sTies ["_law_m", "_law_cores", "_law_tails", "_law_more"]
  doors : Df K mg "_law_doors" sDoors ["_law_ties_here", "_law_here"]
  road : Df K mg "_law_road" sRoad ["_law_m", "_law_ties_here", "_law_here", "_law_many"]
  textOf : Df K mg "_law_text_of" sTextOf ["_law_many", "_law_ties_here", "_law_road_here"]
  short : Df K mg "_law_shortened" sShortened ["_law_taken"]
  led : Df K mg "_law_led" sLed ["_law_box", "_law_road_here"]
/-- the walkers' classes -/
structure WkAll (P : Program) (K : PySem.W.Frag) (mg : Str → Option Value) (CW CS CA C : Addr) (mc : Value) (fk fa fw fg fst ft fi fe gk gw gs hi hg : Addr) : Prop where
  W : WkC K mg CW mc
  cS : mg "Stroller" = some (.ref CS)
  cA : mg "Carrier" = some (.ref CA)
  crS : CRead K CS mc
  OS : OwnC K CS
  OA : OwnT K CA
  Fk : FunB K "_kept_after" "Walker._kept_after" sWkKept ["self", "kept", "step"] fk
  Fa : FunB K "_ahead" "Walker._ahead" sWkAhead ["self", "steps"] fa
  Fg : FunB K "_go" "Walker._go" sWkGo ["self", "passed", "kept"] fg
  Fs : FunB K "step" "Walker.step" sWkStep ["self", "passage"] fst
  Ft : FunB K "text" "Walker.text" sWkText ["self"] ft
  Fe : FunB K "__eq__" "Walker.__eq__" sWkEq ["self", "other"] fe
  Fw : ∃ fd, Fun K "walk" "Walker.walk" sWkWalk fw fd
  Fi : ∃ fd, Fun K "__init__" "Walker.__init__" sWkInit fi fd
  Sk : SupD P K mg CS CS gk "_kept_after" "Stroller._kept_after" sSrKept "_kept_after" fk
  Sw : SupD P K mg CS CS gw "walk" "Stroller.walk" sSrWalk "walk" fw
  Ss : SupD P K mg CS CS gs "step" "Stroller.step" sSrStep "step" fst
  Ai : SupD P K mg CA CA hi "__init__" "Carrier.__init__" sCaInit "__init__" fi
  Ag : SupD P K mg CA CA hg "_go" "Carrier._go" sCaGo "_go" fg
  Wk : Meth K CW "_kept_after" fk
  Wa : Meth K CW "_ahead" fa
  Ww : BMeth K CW "walk" fw
  Wg : Meth K CW "_go" fg
  Ws : Meth K CW "step" fst
  Wt : Meth K CW "text" ft
  Kk : Meth K CS "_kept_after" gk
  Ka : Meth K CS "_ahead" fa
  Kw : BMeth K CS "walk" gw
  Kg : Meth K CS "_go" fg
  Ks : Meth K CS "step" gs
  Kt : Meth K CS "text" ft
  Ck : Meth K CA "_kept_after" fk
  Ca : Meth K CA "_ahead" fa
  Cw : BMeth K CA "walk" fw
  Cg : Meth K CA "_go" hg
  Cs : Meth K CA "step" fst
  Ct : Meth K CA "text" ft
  MW : Mk K CW fi
  MS_ : Mk K CS fi
  MA : Mk K CA hi
  eW : EqIn K CW fe
  eS : EqIn K CS fe
  rW : Dc K CW mc "read" "Walker.read" sWkRead ["cls", "text"]
  rS : Dc K CS mc "read" "Walker.read" sWkRead ["cls", "text"]
  iW : Ds K CW mc "is_text" "Walker.is_text" sWkIsText ["value"]
  iS : Ds K CS mc "is_text" "Walker.is_text" sWkIsText ["value"]
  pNw : PrD K CW "network" "Walker.network" sGetNw
  pSt : PrD K CW "state" "Walker.state" sGetSta
  pStS : PrD K CS "state" "Walker.state" sGetSta
  pSp : PrD K CW "steps" "Walker.steps" sGetSteps
  pSpS : PrD K CS "steps" "Walker.steps" sGetSteps
  pPl : PrD K CW "place" "Walker.place" sGetPlc
  nfW : PySem.W.notFirst K CW (.ref CW) = true
  nfS : PySem.W.notFirst K CS (.ref CS) = true
  nfN : PySem.W.notFirst K C (.ref C) = true
  sub : PySem.W.mroIn K CS (.ref CW) = some true
  ne : CS ≠ CW
  nW : CW ≠ C
  nS : CS ≠ C
  nA : CA ≠ C
  nne : PySem.W.findIn K (.ref C) "__ne__" = some (some (.builtin "object.__ne__"))
  nob : PySem.W.mroIn K C (.type "object") = some true
section
variable {P : Program} {w : World} {K : PySem.W.Frag} {mg : Str → Option Value} {base : Heap}
theorem lawH_of {CW CS CA C CL CE CP : Addr} {mc : Value} {fk fa fw fg fst ft fi fe gk gw gs hi hg : Addr} (T : Txt mg) (hT : mg "type" = none)
    (D : DAll K mg) (N : NAll K mg C mc) (L : LAll K mg CL) (W : WkAll P K mg CW CS CA C mc fk fa fw fg fst ft fi fe gk gw gs hi hg) (XE : Xc2 P w K mg base "ParseError" CE "line" "word") (XP : Xc1 P w K mg base "InvalidPlace" CP "value") : LawH P w K mg base CW CS CA C mc := by
  have c1 : Cal P w K mg base "is_whole" 1 spWhole := cal_whole T D.whole
  have c2 : Cal P w K mg base "is_index" 2 spIndex := cal_index T c1 D.index
  have c1' : Cal P w K mg base "is_whole" 1 (spWhole5 K) := cal_whole5 T D.whole
  have c2' : Cal P w K mg base "is_index" 2 (spIndex5 K) := cal_index5 T c1' D.index
  have c3 := cal_isPassage T c2 D.isPassage (P := P) (w := w) (base := base)
  have c4 := cal_firstWrong T c3 D.firstWrong
  have c5 : Cal P w K mg base "_least_joined" 1 spLeast := cal_least T D.least
  have c6 := cal_conn T c5 D.conn
  have c7 := cal_fault T N.N c1 c4 c6 D.fault
  have c7v := cal_faultV T N.N c1 c4 c6 D.fault
  have c8 := cal_bridges T c6 D.bridges
  have c9 := cal_cells T c5 D.cells
  have c10 : Cal P w K mg base "_find_exits" 1 spExits5 := cal_exits5 T D.exits
  have NF : NetF P w K mg base := ⟨c7, c8, c9, c10⟩
  obtain ⟨f, fd, Mk1, F, b⟩ := N.init
  have NM : NetM P w K mg base C := ⟨N.N.cl, N.N.gC, ⟨f, fd, Mk1, ok_init5 T N.N NF F, b⟩⟩
  have ma : MC P w K mg base CX0 C "_across" 1 (spAcross C) := mc_across T N.N N.across
  have mf : MC P w K mg base CX0 C "far_end" 3 (spFar C) := mc_far T N.N c2 c1 ma N.far
  have mck := mc_check T N.N XP c2' N.check
  have mpa := mf_paAt T N.N mck N.pa
  have mln : MC P w K mg base CX0 C "__len__" 1 (spLenM C) := mc_len T N.N N.len
  have meq : MF P w K mg base CX0 C "__eq__" "Network.__eq__" sNetEq ["self", "other"] 1 (spEq (RNet C)) := mf_netEq T N.N N.IC N.eq
  have iv := sc_isValid c7v N.valid
  have MV : MvC P w K mg base C := ⟨N.N.cl, ok_getPa N.N.cl N.N.n2 N.gpa, mln, mf, c2⟩
  have MS' : MvS P w K mg base C := ⟨cal_isStep T MV D.isStep, cal_afS T MV D.afS⟩
  have gst : PrG P w K mg base C "start" "_start" := ok_getSt N.N.cl N.N.n3 N.gst
  -- lines and texts
  obtain ⟨fl, fdl, Mkl, Fl, bl⟩ := L.init
  have lmore : MF P w K mg base CX0 CL "has_more" "Line.has_more" sHasMore ["self"] 1 (spHasMore CL) := mf_hasMore T L.n L.more
  have lword := mf_nextWord L.n XE lmore L.word
  have LF : LnF P w K mg base CL CE := ⟨L.n, ⟨fl, fdl, Mkl, ok_lnInit T L.n XE Fl, bl⟩, lmore, lword, mf_nextIntL T L.n lword L.int, mf_nextIntT T L.n lword L.int, mf_checkEnd L.n XE lmore L.fin⟩
  have e1 := calE_of D.readPlaces (fun f fd F => ok_rp T N.N LF F)
  have e2 := calE_of D.readPassages (fun f fd F => ok_rps T LF (cal_fw T N.N iv D.firstWords) F)
  have e3 := calE_of D.readSteps (fun f fd F => ok_rst T N.N LF mpa mf F)
  have e4 := calE_of D.parsed (fun f fd F => ok_parsed T LF XE NM e1 e2 e3 F)
  have OW : OwnC K CW := ⟨W.W.cl, W.W.n1, W.W.n2, W.W.n3⟩
  have OC : OwnC K CA := W.OA.o
  obtain ⟨fdw, Fw⟩ := W.Fw
  obtain ⟨fdi, Fi⟩ := W.Fi
  -- a walker
  have wk : MC P w K mg base CX0 CW "_kept_after" 2 (spKeptB CW false) := mc_mk W.Wk (fr_kept W.Fk)
  have wa : MC P w K mg base CX0 CW "_ahead" 5 (spAheadX CW C ExN false) := mc_mk W.Wa (fr_ahead T W.W OW MS' wk W.Fa)
  have wg : MC P w K mg base CX0 CW "_go" 2 (spGoX CW C ExN) := mc_mk W.Wg (fr_go OW exN_ok W.Fg)
  have ww : MS P w K mg base CW "walk" 7 (spWalkX CW C ExN false) := ⟨fw, W.Ww.mt, W.Ww, (fr_walk OW wa wg Fw).mono (by decide)⟩
  have wi : L2.FnR P w K mg base CX0 8 fi (spWiX CW C ExN false) := fr_init T W.W OW exN_ok N.N.cl gst ww Fi
  have ws : MC P w K mg base CX0 CW "step" 9 (spStepX CW C ExN false) := mc_mk W.Ws (fr_step T OW MS' ww W.Fs)
  -- a stroller
  have kk : MC P w K mg base CX0 CS "_kept_after" 2 (spKeptB CS true) := mc_mk W.Kk (fr_srKept T W.Sk (fr_kept W.Fk))
  have ka : MC P w K mg base CX0 CS "_ahead" 5 (spAheadX CS C ExN true) := mc_mk W.Ka (fr_ahead T W.W W.OS MS' kk W.Fa)
  have kg : MC P w K mg base CX0 CS "_go" 2 (spGoX CS C ExN) := mc_mk W.Kg (fr_go W.OS exN_ok W.Fg)
  have kw : MS P w K mg base CS "walk" 7 (spWalkX CS C ExN true) := ⟨gw, W.Kw.mt, W.Kw, fr_srWalk W.Sw (fr_walk W.OS ka kg Fw)⟩
  have ki : L2.FnR P w K mg base CX0 8 fi (spWiX CS C ExN true) := fr_init T W.W W.OS exN_ok N.N.cl gst kw Fi
  have ks : MC P w K mg base CX0 CS "step" 9 (spStepX CS C ExN true) := mc_mk W.Ks (fr_srStep W.Ss (fr_step T W.OS MS' kw W.Fs))
  -- a carrier
  have ck : MC P w K mg base CX0 CA "_kept_after" 2 (spKeptB CA false) := mc_mk W.Ck (fr_kept W.Fk)
  have ca : MC P w K mg base CX0 CA "_ahead" 5 (spAheadX CA C ExC false) := mc_mk W.Ca (fr_ahead T W.W OC MS' ck W.Fa)
  have cg : MC P w K mg base CX0 CA "_go" 2 (spGoX CA C ExC) := mc_mk W.Cg (fr_caGo T W.OA W.Ag (fr_go OC exC_ok W.Fg))
  have cw : MS P w K mg base CA "walk" 7 (spWalkX CA C ExC false) := ⟨fw, W.Cw.mt, W.Cw, (fr_walk OC ca cg Fw).mono (by decide)⟩
  have ci : L2.FnR P w K mg base CX0 8 fi (spWiX CA C ExC false) := fr_init T W.W OC exC_ok N.N.cl gst cw Fi
  have cs : MC P w K mg base CX0 CA "step" 9 (spStepX CA C ExC false) := mc_mk W.Cs (fr_step T OC MS' cw W.Fs)
  have ct := cal_chkT T MV D.chkT
  have cp := cal_chkP T MV D.chkP
  have ch := fr_caInit T W.OA ct cp W.Ai ci
  -- texts
  have wr := cal_written T N.N.cl (ok_getPl N.N.cl N.N.n1 N.gpl) MV.pa D.written
  have tW : MC P w K mg base CX0 CW "text" 4 (spText CW C ExN) := mc_mk W.Wt (fr_text OW wr W.Ft)
  have tS : MC P w K mg base CX0 CS "text" 4 (spText CS C ExN) := mc_mk W.Kt (fr_text W.OS wr W.Ft)
  have tC : MC P w K mg base CX0 CA "text" 4 (spText CA C ExC) := mc_mk W.Ct (fr_text OC wr W.Ft)
  have WM : WkMX P w K mg base CW C ExN false := ⟨fi, W.MW, wi⟩
  have SM : WkMX P w K mg base CS C ExN true := ⟨fi, W.MS_, ki⟩
  have rW := cc_readX (Ex := ExN) (b := false) (fun _ => trivial) W.W WM e4 W.rW
  have rS := cc_readX (Ex := ExN) (b := true) (fun _ => trivial) W.W SM e4 W.rS
  have iW := sc_isTextX (C := C) W.W XE e4 W.iW
  have iS := sc_isTextX (C := C) W.W XE e4 W.iS
  obtain ⟨fn, fdn, Fn, bn, men, okn⟩ := id meq.ex
  -- the law's own
  have mx : Cal P w K mg base "_law_mixed" 1 spMixed := cal_mixed D.mixed
  have fo : Cal P w K mg base "_law_folded" 1 (spFolded K) := cal_folded T D.folded
  have dr : Cal P w K mg base "_law_draw" 2 spDraw := cal_draw T mx D.draw
  have bg := cal_begun T fo D.begun
  have mu := cal_mixedUp T dr D.mixedUp
  have ti : Cal P w K mg base "_law_tie" 1 spTie := cal_tie T D.tie
  have tr := cal_tree T ti dr D.tree
  have ri := cal_ring T ti D.ring
  have co := cal_core T dr ri D.core
  have sh := cal_shifted T ti D.shifted
  have tp : Cal P w K mg base "_law_top" 1 spTop := cal_top T D.top
  have rn := cal_renamed T ti mu D.renamed
  have ts := cal_ties T ⟨ti, dr, tp, co, sh, tr, rn⟩ D.ties
  have ds : Cal P w K mg base "_law_doors" 1 spDoors := cal_doors T D.doors
  have ro := cal_road T ds dr D.road
  exact {
    begun := bg, draw := dr, ties := ts, road := ro, doors := ds, textL := cal_textOfL T D.textOf, textT := cal_textOfT T D.textOf, short := cal_short D.short, NM := NM
    cW := W.W.gC, cS := W.cS, cC := W.cA, WM := WM, SM := SM, CM := ⟨hi, W.MA, ch⟩, OW := OW, OS := W.OS, OC := OC
    ledW := cal_led OW ws D.led, ledS := cal_led W.OS ks D.led, ledC := cal_led OC cs D.led
    tW := tW, tS := tS, tC := tC, stW := ws, rW := rW, rS := rS, iW := iW, iS := iS, crW := W.W.rd, crS := W.crS
    eq := ⟨fe, W.eW, W.eS, fr_wkEq T hT OW OW W.MW.makes W.MW.makes meq W.Fe, fr_wkEq T hT W.OS W.OS W.MS_.makes W.MS_.makes meq W.Fe, fr_wkEq T hT W.OS OW W.MS_.makes W.MW.makes meq W.Fe⟩
    eqN := ⟨fn, ⟨men.at_, men.fn, W.nne, W.nob⟩, raw0 okn bn⟩
    nfW := W.nfW, nfS := W.nfS, nfN := W.nfN, sub := W.sub, ne := W.ne, nW := W.nW, nS := W.nS, nC := W.nA
    pNw := ok_getNw OW W.pNw, pStW := ok_getSta OW W.pSt, pStS := ok_getSta W.OS W.pStS, pSpW := ok_getSteps OW W.pSp, pSpS := ok_getSteps W.OS W.pSpS, pPl := ok_getPlc OW W.pPl }
end
end Hw

namespace Hw
open PySem PySem.Spec PyProof.Rows L2 ClX
open He (ga ma ba eqO eqO_ok cT Defn codeIn_ref)
theorem allL {l : List Bool} (h : l.all id = true) (i : Nat) {b : Bool} (hi : l[i]? = some b) : b = true := List.all_eq_true.mp h b (List.mem_of_getElem? hi)
def methB (K : PySem.W.Frag) (C : Addr) (m : Str) (f : Addr) : Bool := attB K C m (.ref f) && (PySem.W.isFn K (.ref f) && PySem.W.keepIn K (.ref f))
theorem meth_ok {K : PySem.W.Frag} {C : Addr} {m : Str} {f : Addr} (h : methB K C m f = true) : Meth K C m f := by
  obtain ⟨h1, h⟩ := ba h
  obtain ⟨h2, h3⟩ := ba h
  exact ⟨eqO_ok h1, h2, h3⟩
def bmB (K : PySem.W.Frag) (C : Addr) (m : Str) (f : Addr) : Bool := methB K C m f && (eqO (PySem.W.specialIn K (.ref f) "__get__") (some (some (.builtin "function.__get__"))) && (someB (PySem.W.takesIn K (.ref f)) false && PySem.W.fnIn K f))
theorem bm_ok {K : PySem.W.Frag} {C : Addr} {m : Str} {f : Addr} (h : bmB K C m f = true) (hc : PySem.W.copiedNames.contains m = false) : BMeth K C m f := by
  obtain ⟨h1, h⟩ := ba h
  obtain ⟨h2, h⟩ := ba h
  obtain ⟨h3, h4⟩ := ba h
  exact ⟨meth_ok h1, eqO_ok h2, someB_ok h3, hc, h4⟩
def mkB (K : PySem.W.Frag) (C f : Addr) : Bool := PySem.W.makesIn K C && (attB K C "__init__" (.ref f) && (PySem.W.isFn K (.ref f) && PySem.W.keepIn K (.ref C)))
theorem mk_ok {K : PySem.W.Frag} {C f : Addr} (h : mkB K C f = true) : Mk K C f := by
  obtain ⟨h1, h⟩ := ba h
  obtain ⟨h2, h⟩ := ba h
  obtain ⟨h3, h4⟩ := ba h
  exact ⟨h1, eqO_ok h2, h3, h4⟩
def eqB (K : PySem.W.Frag) (C f : Addr) : Bool := attB K C "__eq__" (.ref f) && (PySem.W.isFn K (.ref f) && (attB K C "__ne__" (.builtin "object.__ne__") && someB (PySem.W.mroIn K C (.type "object")) true))
theorem eq_ok {K : PySem.W.Frag} {C f : Addr} (h : eqB K C f = true) : EqIn K C f := by
  obtain ⟨h1, h⟩ := ba h
  obtain ⟨h2, h⟩ := ba h
  obtain ⟨h3, h4⟩ := ba h
  exact ⟨eqO_ok h1, h2, eqO_ok h3, someB_ok h4⟩
theorem meta_ok {K : PySem.W.Frag} {C : Addr} (h : metaB K C = true) : CRead K C (.type "type") := by
  obtain ⟨h1, h2⟩ := ba h
  exact ⟨h1, eqO_ok h2⟩
def ownB (K : PySem.W.Frag) (C : Addr) : Bool := clsB K C && (noatB K C "_network" && (noatB K C "_state" && noatB K C "_steps"))
theorem own_ok {K : PySem.W.Frag} {C : Addr} (h : ownB K C = true) : OwnC K C := by
  obtain ⟨h1, h⟩ := ba h
  obtain ⟨h2, h⟩ := ba h
  obtain ⟨h3, h4⟩ := ba h
  obtain ⟨c1, c2, c3, c4⟩ := clsB_ok h1
  exact ⟨⟨c1, c2, c3, c4⟩, eqO_ok h2, eqO_ok h3, eqO_ok h4⟩
def supB (z x m : Str) (K : PySem.W.Frag) : Bool :=
  let C := ga K x
  let f := ma K C m
  let g := ma K (ga K "Walker") m
  fileB K f z && (cellB K f C && (PySem.W.isClsIn K C && (someB (PySem.W.mroIn K C (.ref C)) true && (eqO (PySem.W.nsIn K PySem.cStatics "thirdparty.any") (some none) && (eqO (PySem.W.ks_superIn K C C m) (some (some (.ref g))) &&
    (eqO ((PySem.W.typeIn K (.ref g)).map some) (some (some (.type "function"))) && (PySem.W.fnIn K g && freeB K "super")))))))
def fnSup (z x m qual : Str) (st : Stmt) : FnX := ⟨fun K => ma K (ga K x) m, m, qual, st, true, supB z x m⟩
section
variable {fn : List FnX} {tf : List Defn} {ex : PySem.W.Frag → Bool} {h : Heap} {K : PySem.W.Frag} {mg : Str → Option Value}
theorem sup_at {P : Program} {x m qual z : Str} {st : Stmt} (X : K.In h) (G : h.Ns mainGlobals mg) (c : SaysF fn tf ex h K) (i : Nat) (hi : fn[i]? = some (fnSup z x m qual st)) (hz : P.main.file = z) (tp : (P.main.scope.names.lookup ("super" : Str)).isSome = false)
    (hh : ∃ ar, ((defArgs st).posonlyargs ++ (defArgs st).args).head? = some ar ∧ ar.arg = "self") (ncl : (m == ("__class__" : Str)) = false) : SupD P K mg (ga K x) (ga K x) (ma K (ga K x) m) m qual st m (ma K (ga K "Walker") m) := by
  obtain ⟨e, o⟩ := c.fn_ i hi
  obtain ⟨oc, od, osl, kV, doc, pm, an, cda, ct, cc, lk, cd, kp, ck⟩ := FnX.goodS (by rfl) e o
  obtain ⟨k9, ck⟩ := ba ck
  obtain ⟨k10, ck⟩ := ba ck
  obtain ⟨k1, ck⟩ := ba ck
  obtain ⟨k2, ck⟩ := ba ck
  obtain ⟨k3, ck⟩ := ba ck
  obtain ⟨k4, ck⟩ := ba ck
  obtain ⟨k5, ck⟩ := ba ck
  obtain ⟨k6, k7⟩ := ba ck
  have lk' : K.lookup (ma K (ga K x) m) = some ⟨oc, od, .func (PySem.W.ksFn m qual (defArgs st) (defBody st) (defScope st) .none kV doc pm an (.ref cda) ct cc), osl⟩ := lk
  have f1 : ∃ ccl cdd fv ccs file tk, K.lookup cda = some ⟨ccl, cdd, .fields fv, ccs⟩ ∧ fv[2]? = some (.str file tk) ∧ ((P.main.file : Str) == file) = true := by
    unfold fileB at k9
    rw [lk'] at k9
    dsimp only at k9
    split at k9
    · rename_i _ ccl cdd fv ccs q1
      split at k9
      · rename_i file tk q2
        exact ⟨ccl, cdd, fv, ccs, file, tk, q1, q2, by rw [hz]; exact k9⟩
      · cases k9
    · cases k9
  have f2 : ∃ ecl eld esl, K.lookup cc = some ⟨ecl, eld, .cell (some (.ref (ga K x))), esl⟩ := by
    unfold cellB at k10
    rw [lk'] at k10
    dsimp only at k10
    split at k10
    · rename_i _ ecl eld C' esl q1
      have e1 := of_decide_eq_true k10
      subst e1
      exact ⟨ecl, eld, esl, q1⟩
    · cases k10
  exact ⟨oc, od, an, osl, kV, doc, pm, ct, cda, cc, lk', cd, ⟨hh, ⟨oc, od, osl, lk'⟩, f1, f2, k1, someB_ok k2, eqO_ok k3, eqO_ok k4, map_some k5, k6, PySem.W.mg_none_of X G (eqO_ok k7), tp, ncl⟩⟩
theorem funB_at (c : SaysF fn tf ex h K) (i : Nat) {C m qual : Str} {st : Stmt} {ps : List Str} (hi : fn[i]? = some (fnDm C m qual st))
    (hb : ∀ (kV doc pm : Value) (an : Option Addr) (cdv ct : Value) (us : List Value), us.length = ps.length → bindArgs (PySem.W.fnOf m qual (defArgs st) (defBody st) (defScope st) .none kV doc pm an cdv ct) ⟨us, []⟩ = pure (ps.zip us)) : FunB K m qual st ps (ma K (ga K C) m) := by
  obtain ⟨e, o⟩ := c.fn_ i hi
  obtain ⟨oc, od, osl, kV, doc, pm, an, cdv, ct, lk, cd, kp, ck⟩ := FnX.good (by rfl) e o
  have F : Fun K m qual st (ma K (ga K C) m) _ := fun_mk (st := st) lk cd kp
  exact ⟨_, F, F.binds hb⟩
theorem fun_at (c : SaysF fn tf ex h K) (i : Nat) {C m qual : Str} {st : Stmt} (hi : fn[i]? = some (fnDm C m qual st)) : ∃ fd, Fun K m qual st (ma K (ga K C) m) fd := by
  obtain ⟨e, o⟩ := c.fn_ i hi
  obtain ⟨oc, od, osl, kV, doc, pm, an, cdv, ct, lk, cd, kp, ck⟩ := FnX.good (by rfl) e o
  exact ⟨_, fun_mk (st := st) lk cd kp⟩
end
def wkL0 (K : PySem.W.Frag) : List Bool := [wkcB K,
  gloB K "Stroller",
  gloB K "Carrier",
  metaB K (ga K "Stroller"),
  ownB K (ga K "Stroller"),
  ownB K (ga K "Carrier"),
  noatB K (ga K "Carrier") "_thing",
  noatB K (ga K "Carrier") "_position",
  noatB K (ga K "Carrier") "_arrivals",
  methB K (ga K "Walker") "_kept_after" (ma K (ga K "Walker") "_kept_after"),
  methB K (ga K "Walker") "_ahead" (ma K (ga K "Walker") "_ahead"),
  bmB K (ga K "Walker") "walk" (ma K (ga K "Walker") "walk")]
def wkL1 (K : PySem.W.Frag) : List Bool := [methB K (ga K "Walker") "_go" (ma K (ga K "Walker") "_go"),
  methB K (ga K "Walker") "step" (ma K (ga K "Walker") "step"),
  methB K (ga K "Walker") "text" (ma K (ga K "Walker") "text"),
  methB K (ga K "Stroller") "_kept_after" (ma K (ga K "Stroller") "_kept_after"),
  methB K (ga K "Stroller") "_ahead" (ma K (ga K "Walker") "_ahead"),
  bmB K (ga K "Stroller") "walk" (ma K (ga K "Stroller") "walk"),
  methB K (ga K "Stroller") "_go" (ma K (ga K "Walker") "_go"),
  methB K (ga K "Stroller") "step" (ma K (ga K "Stroller") "step"),
  methB K (ga K "Stroller") "text" (ma K (ga K "Walker") "text"),
  methB K (ga K "Carrier") "_kept_after" (ma K (ga K "Walker") "_kept_after"),
  methB K (ga K "Carrier") "_ahead" (ma K (ga K "Walker") "_ahead"),
  bmB K (ga K "Carrier") "walk" (ma K (ga K "Walker") "walk")]
def wkL2 (K : PySem.W.Frag) : List Bool := [methB K (ga K "Carrier") "_go" (ma K (ga K "Carrier") "_go"),
  methB K (ga K "Carrier") "step" (ma K (ga K "Walker") "step"),
  methB K (ga K "Carrier") "text" (ma K (ga K "Walker") "text"),
  mkB K (ga K "Walker") (ma K (ga K "Walker") "__init__"),
  mkB K (ga K "Stroller") (ma K (ga K "Walker") "__init__"),
  mkB K (ga K "Carrier") (ma K (ga K "Carrier") "__init__"),
  eqB K (ga K "Walker") (ma K (ga K "Walker") "__eq__"),
  eqB K (ga K "Stroller") (ma K (ga K "Walker") "__eq__"),
  PySem.W.notFirst K (ga K "Walker") (.ref (ga K "Walker")),
  PySem.W.notFirst K (ga K "Stroller") (.ref (ga K "Stroller")),
  PySem.W.notFirst K (ga K "Network") (.ref (ga K "Network")),
  someB (PySem.W.mroIn K (ga K "Stroller") (.ref (ga K "Walker"))) true]
def wkL3 (K : PySem.W.Frag) : List Bool := [decide ((ga K "Stroller") ≠ (ga K "Walker")),
  decide ((ga K "Walker") ≠ (ga K "Network")),
  decide ((ga K "Stroller") ≠ (ga K "Network")),
  decide ((ga K "Carrier") ≠ (ga K "Network")),
  attB K (ga K "Network") "__ne__" (.builtin "object.__ne__"),
  someB (PySem.W.mroIn K (ga K "Network") (.type "object")) true]
def wkL (K : PySem.W.Frag) : List Bool := wkL0 K ++ (wkL1 K ++ (wkL2 K ++ (wkL3 K)))
def wkFn (z : Str) : List FnX := [fnDm "Walker" "_kept_after" "Walker._kept_after" sWkKept,
  fnDm "Walker" "_ahead" "Walker._ahead" sWkAhead,
  fnDm "Walker" "_go" "Walker._go" sWkGo,
  fnDm "Walker" "step" "Walker.step" sWkStep,
  fnDm "Walker" "text" "Walker.text" sWkText,
  fnDm "Walker" "__eq__" "Walker.__eq__" sWkEq,
  fnDm "Walker" "walk" "Walker.walk" sWkWalk,
  fnDm "Walker" "__init__" "Walker.__init__" sWkInit,
  fnSup z "Stroller" "_kept_after" "Stroller._kept_after" sSrKept,
  fnSup z "Stroller" "walk" "Stroller.walk" sSrWalk,
  fnSup z "Stroller" "step" "Stroller.step" sSrStep,
  fnSup z "Carrier" "__init__" "Carrier.__init__" sCaInit,
  fnSup z "Carrier" "_go" "Carrier._go" sCaGo,
  fnDc "Walker" "read" "Walker.read" sWkRead,
  fnDc "Stroller" "read" "Walker.read" sWkRead,
  fnDs "Walker" "is_text" "Walker.is_text" sWkIsText,
  fnDs "Stroller" "is_text" "Walker.is_text" sWkIsText,
  fnPr "Walker" "network" "Walker.network" sGetNw,
  fnPr "Walker" "state" "Walker.state" sGetSta,
  fnPr "Stroller" "state" "Walker.state" sGetSta,
  fnPr "Walker" "steps" "Walker.steps" sGetSteps,
  fnPr "Stroller" "steps" "Walker.steps" sGetSteps,
  fnPr "Walker" "place" "Walker.place" sGetPlc]
theorem wkAll_of {P : Program} {fn : List FnX} {tf : List Defn} {ex : PySem.W.Frag → Bool} {h : Heap} {K : PySem.W.Frag} {mg : Str → Option Value} {z : Str} (X : K.In h) (G : h.Ns mainGlobals mg) (s : SaysF (wkFn z ++ fn) tf ex h K) (c : (wkL K).all id = true) (hz : P.main.file = z) (tp : (P.main.scope.names.lookup ("super" : Str)).isSome = false) :
    WkAll P K mg (ga K "Walker") (ga K "Stroller") (ga K "Carrier") (ga K "Network") (.type "type") (ma K (ga K "Walker") "_kept_after") (ma K (ga K "Walker") "_ahead") (ma K (ga K "Walker") "walk") (ma K (ga K "Walker") "_go") (ma K (ga K "Walker") "step") (ma K (ga K "Walker") "text") (ma K (ga K "Walker") "__init__") (ma K (ga K "Walker") "__eq__") (ma K (ga K "Stroller") "_kept_after") (ma K (ga K "Stroller") "walk") (ma K (ga K "Stroller") "step") (ma K (ga K "Carrier") "__init__") (ma K (ga K "Carrier") "_go") :=
  ⟨wkc_at X G (allL c 0 rfl : wkcB K = true),
    PySem.W.mg_of X G (eqO_ok (allL c 1 rfl : gloB K "Stroller" = true)),
    PySem.W.mg_of X G (eqO_ok (allL c 2 rfl : gloB K "Carrier" = true)),
    meta_ok (allL c 3 rfl : metaB K (ga K "Stroller") = true),
    own_ok (allL c 4 rfl : ownB K (ga K "Stroller") = true),
    ⟨own_ok (allL c 5 rfl : ownB K (ga K "Carrier") = true), eqO_ok (allL c 6 rfl : noatB K (ga K "Carrier") "_thing" = true), eqO_ok (allL c 7 rfl : noatB K (ga K "Carrier") "_position" = true), eqO_ok (allL c 8 rfl : noatB K (ga K "Carrier") "_arrivals" = true)⟩,
    funB_at s 0 rfl (fun _ _ _ _ _ _ us hl => match us, hl with | [_, _, _], _ => rfl),
    funB_at s 1 rfl (fun _ _ _ _ _ _ us hl => match us, hl with | [_, _], _ => rfl),
    funB_at s 2 rfl (fun _ _ _ _ _ _ us hl => match us, hl with | [_, _, _], _ => rfl),
    funB_at s 3 rfl (fun _ _ _ _ _ _ us hl => match us, hl with | [_, _], _ => rfl),
    funB_at s 4 rfl (fun _ _ _ _ _ _ us hl => match us, hl with | [_], _ => rfl),
    funB_at s 5 rfl (fun _ _ _ _ _ _ us hl => match us, hl with | [_, _], _ => rfl),
    fun_at s 6 rfl,
    fun_at s 7 rfl,
    sup_at X G s 8 rfl hz tp ⟨_, rfl, rfl⟩ (by decide +kernel),
    sup_at X G s 9 rfl hz tp ⟨_, rfl, rfl⟩ (by decide +kernel),
    sup_at X G s 10 rfl hz tp ⟨_, rfl, rfl⟩ (by decide +kernel),
    sup_at X G s 11 rfl hz tp ⟨_, rfl, rfl⟩ (by decide +kernel),
    sup_at X G s 12 rfl hz tp ⟨_, rfl, rfl⟩ (by decide +kernel),
    meth_ok (allL c 9 rfl : methB K (ga K "Walker") "_kept_after" (ma K (ga K "Walker") "_kept_after") = true),
    meth_ok (allL c 10 rfl : methB K (ga K "Walker") "_ahead" (ma K (ga K "Walker") "_ahead") = true),
    bm_ok (allL c 11 rfl : bmB K (ga K "Walker") "walk" (ma K (ga K "Walker") "walk") = true) (by decide +kernel),
    meth_ok (allL c 12 rfl : methB K (ga K "Walker") "_go" (ma K (ga K "Walker") "_go") = true),
    meth_ok (allL c 13 rfl : methB K (ga K "Walker") "step" (ma K (ga K "Walker") "step") = true),
    meth_ok (allL c 14 rfl : methB K (ga K "Walker") "text" (ma K (ga K "Walker") "text") = true),
    meth_ok (allL c 15 rfl : methB K (ga K "Stroller") "_kept_after" (ma K (ga K "Stroller") "_kept_after") = true),
    meth_ok (allL c 16 rfl : methB K (ga K "Stroller") "_ahead" (ma K (ga K "Walker") "_ahead") = true),
    bm_ok (allL c 17 rfl : bmB K (ga K "Stroller") "walk" (ma K (ga K "Stroller") "walk") = true) (by decide +kernel),
    meth_ok (allL c 18 rfl : methB K (ga K "Stroller") "_go" (ma K (ga K "Walker") "_go") = true),
    meth_ok (allL c 19 rfl : methB K (ga K "Stroller") "step" (ma K (ga K "Stroller") "step") = true),
    meth_ok (allL c 20 rfl : methB K (ga K "Stroller") "text" (ma K (ga K "Walker") "text") = true),
    meth_ok (allL c 21 rfl : methB K (ga K "Carrier") "_kept_after" (ma K (ga K "Walker") "_kept_after") = true),
    meth_ok (allL c 22 rfl : methB K (ga K "Carrier") "_ahead" (ma K (ga K "Walker") "_ahead") = true),
    bm_ok (allL c 23 rfl : bmB K (ga K "Carrier") "walk" (ma K (ga K "Walker") "walk") = true) (by decide +kernel),
    meth_ok (allL c 24 rfl : methB K (ga K "Carrier") "_go" (ma K (ga K "Carrier") "_go") = true),
    meth_ok (allL c 25 rfl : methB K (ga K "Carrier") "step" (ma K (ga K "Walker") "step") = true),
    meth_ok (allL c 26 rfl : methB K (ga K "Carrier") "text" (ma K (ga K "Walker") "text") = true),
    mk_ok (allL c 27 rfl : mkB K (ga K "Walker") (ma K (ga K "Walker") "__init__") = true),
    mk_ok (allL c 28 rfl : mkB K (ga K "Stroller") (ma K (ga K "Walker") "__init__") = true),
    mk_ok (allL c 29 rfl : mkB K (ga K "Carrier") (ma K (ga K "Carrier") "__init__") = true),
    eq_ok (allL c 30 rfl : eqB K (ga K "Walker") (ma K (ga K "Walker") "__eq__") = true),
    eq_ok (allL c 31 rfl : eqB K (ga K "Stroller") (ma K (ga K "Walker") "__eq__") = true),
    dc_at s 13 rfl (fun _ _ _ _ _ _ us hl => match us, hl with | [_, _], _ => rfl),
    dc_at s 14 rfl (fun _ _ _ _ _ _ us hl => match us, hl with | [_, _], _ => rfl),
    ds_at s 15 rfl (fun _ _ _ _ _ _ us hl => match us, hl with | [_], _ => rfl),
    ds_at s 16 rfl (fun _ _ _ _ _ _ us hl => match us, hl with | [_], _ => rfl),
    prd_at s 17 rfl (fun _ _ _ _ _ _ us hl => match us, hl with | [_], _ => rfl),
    prd_at s 18 rfl (fun _ _ _ _ _ _ us hl => match us, hl with | [_], _ => rfl),
    prd_at s 19 rfl (fun _ _ _ _ _ _ us hl => match us, hl with | [_], _ => rfl),
    prd_at s 20 rfl (fun _ _ _ _ _ _ us hl => match us, hl with | [_], _ => rfl),
    prd_at s 21 rfl (fun _ _ _ _ _ _ us hl => match us, hl with | [_], _ => rfl),
    prd_at s 22 rfl (fun _ _ _ _ _ _ us hl => match us, hl with | [_], _ => rfl),
    (allL c 32 rfl : PySem.W.notFirst K (ga K "Walker") (.ref (ga K "Walker")) = true),
    (allL c 33 rfl : PySem.W.notFirst K (ga K "Stroller") (.ref (ga K "Stroller")) = true),
    (allL c 34 rfl : PySem.W.notFirst K (ga K "Network") (.ref (ga K "Network")) = true),
    someB_ok (allL c 35 rfl : someB (PySem.W.mroIn K (ga K "Stroller") (.ref (ga K "Walker"))) true = true),
    of_decide_eq_true (allL c 36 rfl : decide ((ga K "Stroller") ≠ (ga K "Walker")) = true),
    of_decide_eq_true (allL c 37 rfl : decide ((ga K "Walker") ≠ (ga K "Network")) = true),
    of_decide_eq_true (allL c 38 rfl : decide ((ga K "Stroller") ≠ (ga K "Network")) = true),
    of_decide_eq_true (allL c 39 rfl : decide ((ga K "Carrier") ≠ (ga K "Network")) = true),
    eqO_ok (allL c 40 rfl : attB K (ga K "Network") "__ne__" (.builtin "object.__ne__") = true),
    someB_ok (allL c 41 rfl : someB (PySem.W.mroIn K (ga K "Network") (.type "object")) true = true)⟩
end Hw

namespace HwFin
open PySem PySem.W PyProof.Rows
abbrev R : OpenRow := OpenLaw.row PySem.Challenge.rw_handwalk_k65_whole_walker_texts
abbrev qv : Program := view R.prog [61]
def names0 : List PySem.Str := ["_wall", "__name__", "is_whole", "is_index", "HandwalkError", "InvalidNetwork", "InvalidPlace", "InvalidPassage", "InvalidWalk", "LimitExceeded", "InvalidThing", "InvalidPosition", "ParseError", "check_thing", "check_position", "is_step", "after_step", "_is_passage", "_first_wrong", "_least_joined", "_is_connected", "_fault", "_find_bridges", "_find_cells", "_find_exits", "Network", "written", "parsed", "Line", "_read_places"]
def names1 : List PySem.Str := ["_read_passages", "_first_words", "_read_steps", "Walker", "Stroller", "Carrier", "_law_mixed", "_law_folded", "_law_draw", "_law_begun", "_law_mixed_up", "_law_tie", "_law_tree", "_law_ring", "_law_core", "_law_shifted", "_law_top", "_law_renamed", "_law_ties", "_law_doors", "_law_road", "_law_text_of", "_law_shortened", "_law_led"]
def names : List PySem.Str := names0 ++ names1
abbrev zFile : PySem.Str := R.prog.main.file
def fn0 : List Hw.FnX := [Hw.fnDf "is_whole" Hw.sWhole,
  Hw.fnDf "is_index" Hw.sIndex,
  Hw.fnDf "is_step" Hw.sIsStepP,
  Hw.fnDf "after_step" Hw.sAfterStepP,
  Hw.fnDf "_is_passage" Hw.sIsPassage,
  Hw.fnDf "_first_wrong" Hw.sFirstWrong,
  Hw.fnDf "_least_joined" Hw.sLeast,
  Hw.fnDf "_is_connected" Hw.sConn,
  Hw.fnDf "_fault" Hw.sFault,
  Hw.fnDf "_find_bridges" Hw.sBridges,
  Hw.fnDf "_find_cells" Hw.sCells,
  Hw.fnDf "_find_exits" Hw.sExits,
  Hw.fnDf "written" Hw.sWrittenP,
  Hw.fnDf "parsed" Hw.sParsedP,
  Hw.fnDf "_read_places" Hw.sReadPlaces,
  Hw.fnDf "_read_passages" Hw.sReadPassages,
  Hw.fnDf "_first_words" Hw.sFirstWords,
  Hw.fnDf "_read_steps" Hw.sReadSteps,
  Hw.fnDf "check_thing" Hw.sCheckThing,
  Hw.fnDf "check_position" Hw.sCheckPosition]
def fn1 : List Hw.FnX := [Hw.fnDf "_law_mixed" Hw.sMixed,
  Hw.fnDf "_law_folded" Hw.sFolded,
  Hw.fnDf "_law_draw" Hw.sDraw,
  Hw.fnDf "_law_begun" Hw.sBegun,
  Hw.fnDf "_law_mixed_up" Hw.sMixedUp,
  Hw.fnDf "_law_tie" Hw.sTie,
  Hw.fnDf "_law_tree" Hw.sTree,
  Hw.fnDf "_law_ring" Hw.sRing,
  Hw.fnDf "_law_core" Hw.sCore,
  Hw.fnDf "_law_shifted" Hw.sShifted,
  Hw.fnDf "_law_top" Hw.sTop,
  Hw.fnDf "_law_renamed" Hw.sRenamed,
  Hw.fnDf "_law_ties" Hw.sTies,
  Hw.fnDf "_law_doors" Hw.sDoors,
  Hw.fnDf "_law_road" Hw.sRoad,
  Hw.fnDf "_law_text_of" Hw.sTextOf,
  Hw.fnDf "_law_shortened" Hw.sShortened,
  Hw.fnDf "_law_led" Hw.sLed,
  Hw.fnMk "Network" "Network.__init__" Hw.sInit,
  Hw.fnDs "Network" "is_valid" "Network.is_valid" Hw.sIsValid]
def fn2 : List Hw.FnX := [Hw.fnPr "Network" "places" "Network.places" Hw.sGetPl,
  Hw.fnPr "Network" "passages" "Network.passages" Hw.sGetPa,
  Hw.fnPr "Network" "start" "Network.start" Hw.sGetSt,
  Hw.fnDm "Network" "_across" "Network._across" Hw.sAcross,
  Hw.fnDm "Network" "_check_place" "Network._check_place" Hw.sCheck,
  Hw.fnDm "Network" "far_end" "Network.far_end" Hw.sFarEnd,
  Hw.fnDm "Network" "passages_at" "Network.passages_at" Hw.sPaAt,
  Hw.fnDm "Network" "__len__" "Network.__len__" Hw.sLenP,
  Hw.fnDm "Network" "__eq__" "Network.__eq__" Hw.sNetEq,
  Hw.fnMk "Line" "Line.__init__" Hw.sLnInit,
  Hw.fnDm "Line" "has_more" "Line.has_more" Hw.sHasMore,
  Hw.fnDm "Line" "next_word" "Line.next_word" Hw.sNextWord,
  Hw.fnDm "Line" "next_integer" "Line.next_integer" Hw.sNextInt,
  Hw.fnDm "Line" "check_end" "Line.check_end" Hw.sCheckEnd,
  Hw.fnDf "law" Hw.sLaw,
  Hw.fnXe zFile "ParseError" "ParseError.__init__" Hw.sInitPE,
  Hw.fnXe zFile "InvalidPlace" "InvalidPlace.__init__" Hw.sInitP]
def fnB : List Hw.FnX := fn0
def fnC : List Hw.FnX := fn1 ++ fn2
def frees : List PySem.Str := ["len", "isinstance", "int", "bool", "tuple", "list", "range", "set", "enumerate", "sum", "sorted", "min", "zip", "max", "repr", "str", "type", "super"]
def exA (K : Frag) : Bool := (Hw.wkL K).all id
def exB (K : Frag) : Bool := frees.all (Hw.freeB K) && (Hw.netcB K && (Hw.iscB K (He.ga K "Network") && (Hw.lncB K && (Hw.noatB K (He.ga K "ParseError") "line" && (Hw.noatB K (He.ga K "ParseError") "word" && Hw.noatB K (He.ga K "InvalidPlace") "value")))))
def exC (_ : Frag) : Bool := true
def tf : List He.Defn := []
abbrev fn : List Hw.FnX := Hw.wkFn zFile ++ (fnB ++ fnC)
abbrev tfs : List He.Defn := tf ++ (tf ++ tf)
abbrev ex : Frag → Bool := fun K => exA K && ((fun K => exB K && exC K) K)
abbrev hk : Hook := Hw.hookF fn tfs ex
abbrev ob (s : SharedT) : Hw.AlF := Hw.obF fn tfs ex s
theorem ob_eq (s : SharedT) : ob s = hk.obs s.abs := Hw.obF_eq s
set_option maxHeartbeats 0 in
theorem runA (w : World) : HandSHeadRun.RunEq R qv (Hw.hookF (Hw.wkFn zFile) tf exA) (Hw.obF (Hw.wkFn zFile) tf exA) 9000 names w := by
  intro os
  kernel_rfl
set_option maxHeartbeats 0 in
theorem runB (w : World) : HandSHeadRun.RunEq R qv (Hw.hookF fnB tf exB) (Hw.obF fnB tf exB) 9000 names w := by
  intro os
  kernel_rfl
set_option maxHeartbeats 0 in
theorem runC (w : World) : HandSHeadRun.RunEq R qv (Hw.hookF fnC tf exC) (Hw.obF fnC tf exC) 9000 names w := by
  intro os
  kernel_rfl
theorem run (w : World) : HandSHeadRun.RunEq R qv hk ob 9000 names w := Hw.run_two (runA w) (Hw.run_two (runB w) (runC w))
end HwFin
open PySem PySem.W PyProof.Rows
set_option maxHeartbeats 0 in
theorem HwFin.fin {w : World} {K : Frag} {h : Heap} {mg : PySem.Str → Option Value} {fa : Addr} (KX : K.In h) (c : Hw.SaysF HwFin.fn HwFin.tfs HwFin.ex h K) (G : h.Ns mainGlobals mg) (hfa : mg "law" = some (.ref fa)) :
    ∃ (fd : FuncData) (sp : L2.Sp), (∀ (s : Shared) (u : Value), BindsTo s fd ⟨[u], []⟩ [("_law_script", u)]) ∧ (∀ (H : L2.Hp) (a : Addr) (ns : List Int), ns.length ≤ 63 → L2.SqL K H a (ns.map L2.V.int) → sp [.ref a] H (fun v _ => v = .bl true) fun _ _ _ => False) ∧ ∀ base : Heap, K.In base → base.Ns mainGlobals mg → L2.FnOk PySem.Challenge.rw_handwalk_k65_whole_walker_texts.prog w K mg base L2.CX0 11 fa fd ["_law_script"] sp := by
  obtain ⟨eK, e⟩ := He.ba c.more
  obtain ⟨e, _⟩ := He.ba e
  obtain ⟨eF, e⟩ := He.ba e
  obtain ⟨eN, e⟩ := He.ba e
  obtain ⟨eI, e⟩ := He.ba e
  obtain ⟨eL, e⟩ := He.ba e
  obtain ⟨e1, e⟩ := He.ba e
  obtain ⟨e2, e3⟩ := He.ba e
  have T : Hw.Txt mg := ⟨Hw.frees_ok KX G eF 0 rfl, Hw.frees_ok KX G eF 1 rfl, Hw.frees_ok KX G eF 2 rfl, Hw.frees_ok KX G eF 3 rfl, Hw.frees_ok KX G eF 4 rfl, Hw.frees_ok KX G eF 5 rfl, Hw.frees_ok KX G eF 6 rfl, Hw.frees_ok KX G eF 7 rfl, Hw.frees_ok KX G eF 8 rfl, Hw.frees_ok KX G eF 9 rfl, Hw.frees_ok KX G eF 10 rfl, Hw.frees_ok KX G eF 11 rfl, Hw.frees_ok KX G eF 12 rfl, Hw.frees_ok KX G eF 13 rfl, Hw.frees_ok KX G eF 14 rfl, Hw.frees_ok KX G eF 15 rfl⟩
  have hT : mg "type" = none := Hw.frees_ok KX G eF 16 rfl
  have tp : ((PySem.W.OpenLaw.prog PySem.Challenge.rw_handwalk_k65_whole_walker_texts).main.scope.names.lookup ("super" : PySem.Str)).isSome = false := by first | rfl | decide +kernel
  have D : Hw.DAll K mg := ⟨Hw.df_at KX G c 23 rfl (fun _ _ _ _ _ _ us hl => match us, hl with | [_], _ => rfl),
        Hw.df_at KX G c 24 rfl (fun _ _ _ _ _ _ us hl => match us, hl with | [_, _], _ => rfl),
        Hw.df_at KX G c 25 rfl (fun _ _ _ _ _ _ us hl => match us, hl with | [_, _, _], _ => rfl),
        Hw.df_at KX G c 26 rfl (fun _ _ _ _ _ _ us hl => match us, hl with | [_, _, _], _ => rfl),
        Hw.df_at KX G c 27 rfl (fun _ _ _ _ _ _ us hl => match us, hl with | [_, _], _ => rfl),
        Hw.df_at KX G c 28 rfl (fun _ _ _ _ _ _ us hl => match us, hl with | [_, _], _ => rfl),
        Hw.df_at KX G c 29 rfl (fun _ _ _ _ _ _ us hl => match us, hl with | [_, _], _ => rfl),
        Hw.df_at KX G c 30 rfl (fun _ _ _ _ _ _ us hl => match us, hl with | [_, _], _ => rfl),
        Hw.df_at KX G c 31 rfl (fun _ _ _ _ _ _ us hl => match us, hl with | [_, _], _ => rfl),
        Hw.df_at KX G c 32 rfl (fun _ _ _ _ _ _ us hl => match us, hl with | [_, _], _ => rfl),
        Hw.df_at KX G c 33 rfl (fun _ _ _ _ _ _ us hl => match us, hl with | [_, _, _], _ => rfl),
        Hw.df_at KX G c 34 rfl (fun _ _ _ _ _ _ us hl => match us, hl with | [_, _], _ => rfl),
        Hw.df_at KX G c 35 rfl (fun _ _ _ _ _ _ us hl => match us, hl with | [_, _], _ => rfl),
        Hw.df_at KX G c 36 rfl (fun _ _ _ _ _ _ us hl => match us, hl with | [_, _], _ => rfl),
        Hw.df_at KX G c 37 rfl (fun _ _ _ _ _ _ us hl => match us, hl with | [_], _ => rfl),
        Hw.df_at KX G c 38 rfl (fun _ _ _ _ _ _ us hl => match us, hl with | [_, _], _ => rfl),
        Hw.df_at KX G c 39 rfl (fun _ _ _ _ _ _ us hl => match us, hl with | [_, _], _ => rfl),
        Hw.df_at KX G c 40 rfl (fun _ _ _ _ _ _ us hl => match us, hl with | [_, _, _], _ => rfl),
        Hw.df_at KX G c 41 rfl (fun _ _ _ _ _ _ us hl => match us, hl with | [_, _], _ => rfl),
        Hw.df_at KX G c 42 rfl (fun _ _ _ _ _ _ us hl => match us, hl with | [_, _], _ => rfl),
        Hw.df_at KX G c 43 rfl (fun _ _ _ _ _ _ us hl => match us, hl with | [_, _], _ => rfl),
        Hw.df_at KX G c 44 rfl (fun _ _ _ _ _ _ us hl => match us, hl with | [_], _ => rfl),
        Hw.df_at KX G c 45 rfl (fun _ _ _ _ _ _ us hl => match us, hl with | [_, _], _ => rfl),
        Hw.df_at KX G c 46 rfl (fun _ _ _ _ _ _ us hl => match us, hl with | [_], _ => rfl),
        Hw.df_at KX G c 47 rfl (fun _ _ _ _ _ _ us hl => match us, hl with | [_, _], _ => rfl),
        Hw.df_at KX G c 48 rfl (fun _ _ _ _ _ _ us hl => match us, hl with | [_, _], _ => rfl),
        Hw.df_at KX G c 49 rfl (fun _ _ _ _ _ _ us hl => match us, hl with | [_, _, _], _ => rfl),
        Hw.df_at KX G c 50 rfl (fun _ _ _ _ _ _ us hl => match us, hl with | [_], _ => rfl),
        Hw.df_at KX G c 51 rfl (fun _ _ _ _ _ _ us hl => match us, hl with | [_], _ => rfl),
        Hw.df_at KX G c 52 rfl (fun _ _ _ _ _ _ us hl => match us, hl with | [_, _, _], _ => rfl),
        Hw.df_at KX G c 53 rfl (fun _ _ _ _ _ _ us hl => match us, hl with | [_], _ => rfl),
        Hw.df_at KX G c 54 rfl (fun _ _ _ _ _ _ us hl => match us, hl with | [_, _, _], _ => rfl),
        Hw.df_at KX G c 55 rfl (fun _ _ _ _ _ _ us hl => match us, hl with | [_, _, _, _], _ => rfl),
        Hw.df_at KX G c 56 rfl (fun _ _ _ _ _ _ us hl => match us, hl with | [_, _], _ => rfl),
        Hw.df_at KX G c 57 rfl (fun _ _ _ _ _ _ us hl => match us, hl with | [_, _, _, _], _ => rfl),
        Hw.df_at KX G c 58 rfl (fun _ _ _ _ _ _ us hl => match us, hl with | [_, _, _], _ => rfl),
        Hw.df_at KX G c 59 rfl (fun _ _ _ _ _ _ us hl => match us, hl with | [_], _ => rfl),
        Hw.df_at KX G c 60 rfl (fun _ _ _ _ _ _ us hl => match us, hl with | [_, _], _ => rfl)⟩
  have N : Hw.NAll K mg (He.ga K "Network") (.type "type") := ⟨Hw.netc_at KX G eN,
        Hw.isc_at eI,
        Hw.mk_atB c 61 rfl (fun _ _ _ _ _ _ us hl => match us, hl with | [_, _, _], _ => rfl),
        Hw.ds_at c 62 rfl (fun _ _ _ _ _ _ us hl => match us, hl with | [_, _], _ => rfl),
        Hw.prd_at c 63 rfl (fun _ _ _ _ _ _ us hl => match us, hl with | [_], _ => rfl),
        Hw.prd_at c 64 rfl (fun _ _ _ _ _ _ us hl => match us, hl with | [_], _ => rfl),
        Hw.prd_at c 65 rfl (fun _ _ _ _ _ _ us hl => match us, hl with | [_], _ => rfl),
        Hw.dm_at c 66 rfl (fun _ _ _ _ _ _ us hl => match us, hl with | [_, _, _], _ => rfl),
        Hw.dm_at c 67 rfl (fun _ _ _ _ _ _ us hl => match us, hl with | [_, _], _ => rfl),
        Hw.dm_at c 68 rfl (fun _ _ _ _ _ _ us hl => match us, hl with | [_, _, _], _ => rfl),
        Hw.dm_at c 69 rfl (fun _ _ _ _ _ _ us hl => match us, hl with | [_, _], _ => rfl),
        Hw.dm_at c 70 rfl (fun _ _ _ _ _ _ us hl => match us, hl with | [_], _ => rfl),
        Hw.dm_at c 71 rfl (fun _ _ _ _ _ _ us hl => match us, hl with | [_, _], _ => rfl)⟩
  have L : Hw.LAll K mg (He.ga K "Line") := ⟨Hw.lnc_at KX G eL,
        Hw.mk_atB c 72 rfl (fun _ _ _ _ _ _ us hl => match us, hl with | [_, _, _], _ => rfl),
        Hw.dm_at c 73 rfl (fun _ _ _ _ _ _ us hl => match us, hl with | [_], _ => rfl),
        Hw.dm_at c 74 rfl (fun _ _ _ _ _ _ us hl => match us, hl with | [_, _], _ => rfl),
        Hw.dm_at c 75 rfl (fun _ _ _ _ _ _ us hl => match us, hl with | [_, _], _ => rfl),
        Hw.dm_at c 76 rfl (fun _ _ _ _ _ _ us hl => match us, hl with | [_], _ => rfl)⟩
  have XE := Hw.xe_at (P := (PySem.W.OpenLaw.prog PySem.Challenge.rw_handwalk_k65_whole_walker_texts)) KX G c 78 (st := Hw.sInitPE) (ps := ["self", "line", "word"]) rfl rfl tp (fun _ _ _ _ _ _ _ us hl => match us, hl with | [_, _, _], _ => rfl) ⟨_, rfl, rfl⟩
  have XP := Hw.xe_at (P := (PySem.W.OpenLaw.prog PySem.Challenge.rw_handwalk_k65_whole_walker_texts)) KX G c 79 (st := Hw.sInitP) (ps := ["self", "value"]) rfl rfl tp (fun _ _ _ _ _ _ _ us hl => match us, hl with | [_, _], _ => rfl) ⟨_, rfl, rfl⟩
  have Wk := Hw.wkAll_of (P := (PySem.W.OpenLaw.prog PySem.Challenge.rw_handwalk_k65_whole_walker_texts)) (fn := _) KX G c eK rfl tp
  obtain ⟨q1, q2⟩ := c.fn_ 77 (d := Hw.fnDf "law" Hw.sLaw) rfl
  obtain ⟨oc, od, osl, kV, doc, pm, an, cdv, ct, lk, cd, kp, ck⟩ := Hw.FnX.good (by rfl) q1 q2
  have z := hfa.symm.trans (PySem.W.mg_of KX G (He.eqO_ok ck))
  cases z
  have F0 := L2.fun_mk (st := Hw.sLaw) lk cd kp
  exact ⟨PySem.W.fnOf "law" "law" (L2.defArgs Hw.sLaw) (L2.defBody Hw.sLaw) (L2.defScope Hw.sLaw) .none kV doc pm an cdv ct, Hw.spLaw K, fun s v => .of_eq rfl, fun H a ns hl hS => ⟨a, ns, rfl, hS, hl, fun _ => rfl⟩, fun base _ _ => Hw.ok_law T (Hw.lawH_of T hT D N L Wk (XE.parse (He.eqO_ok e1) (He.eqO_ok e2)) (XP.place (He.eqO_ok e3))) F0⟩
set_option maxHeartbeats 0 in
theorem PySem.Challenge.cw_handwalk_k65_whole_walker_texts_holds : PySem.Challenge.rw_handwalk_k65_whole_walker_texts.Holds := by
  w_on; o_law
  refine HandSHeadRun.head_any (r := OpenLaw.row PySem.Challenge.rw_handwalk_k65_whole_walker_texts) (q := HwFin.qv) (H := HwFin.hk) (ob := HwFin.ob) (M := 9000) (loose := HwFin.names) (d := HandSHeadRun.topDef (OpenLaw.row PySem.Challenge.rw_handwalk_k65_whole_walker_texts).prog 61) (kwd := []) HwFin.ob_eq
    (by kernel_rfl) (fun s => by kernel_rfl) HwFin.run (by kernel_rfl) (by kernel_rfl) (by kernel_rfl) (by rfl) (by first | assumption | decide +kernel) (by decide +kernel) ⟨rfl, rfl, rfl, rfl, rfl, by decide +kernel⟩ ?hw ?hc
  case hw => w_witness2
  case hc =>
    refine L2.walk_ofE (l := PySem.Challenge.rw_handwalk_k65_whole_walker_texts) (n := 63) (k := 11) (x := "_law_script") (CX := L2.CX0) rfl (by decide) (by kernel_rfl) ⟨rfl, by decide, by decide⟩ ?F (fun _ _ _ _ z => z)
    intro w mg fa h Y G hmg0
    obtain ⟨K, KX, c⟩ := Y
    have hmg : mg ("law" : PySem.Str) = some (.ref fa) := by
      have e : (HandSHeadRun.topDef (OpenLaw.row PySem.Challenge.rw_handwalk_k65_whole_walker_texts).prog 61).name = ("law" : PySem.Str) := by kernel_rfl
      rw [← e]
      exact hmg0
    obtain ⟨fd, sp, hb, hs, hF⟩ := HwFin.fin KX c G hmg
    exact ⟨K, fd, sp, KX, hb, fun H a ns hl _ hS => hs H a ns hl hS, hF⟩
#print axioms PySem.Challenge.cw_handwalk_k65_whole_walker_texts_holds
