import PyProof.Rows.All
import Wide.All
import OpenK.AllK
import Wide.FinOn
import HandS.ForMost
import HandS.Flow
import HandS.IsInst
import HandS.Zip
import HandS.TupAny
import HandS.SortOrd
import HandS.SortInts
import HandS.Evl
import HandS.Zip0
import PyProof.Draws
import PyProof.EnumMake
import HandS.TupSets
import HandS.SortKw
import HandS.Walk
import HandS.Exc
import HandS.ExcInit
import HandS.ExcSuper
import HandS.ExcField
import KE.KExcInit
import HandS.SetFor
import HandS.Strs
import HandS.OwnEq
import PyProof.TupleOfSeq
import PyProof.ListCopy
import HandS.Conv
import KE.SortKeyHeap
import KE.KDictPairs
import HandS.Dict
import HandS.Deep
import HandS.WideBits
import PySem.Challenge.RW_moonfall_k60_whole_rims
import HandS.Gcd
import Flt.RightSqrt
import HandS.DictComp
import HandS.TryOnly
import HandS.Style
set_option Elab.async false
set_option maxRecDepth 100000
set_option linter.all false
set_option maxHeartbeats 4000000
-- Dat
namespace My
open PySem L2 Evl
/-! ### data: what a Python value is as a value of Lean -/
class Py (α : Type) where
  enc : α → PyData
  eq : ∀ a b, PyData.eqv (enc a) (enc b) = true ↔ a = b
  lay : ∀ a, (enc a).canLay0 = true
  dep : Nat
  depth : ∀ a, (enc a).depth ≤ dep
theorem Py.shaped {α : Type} [Py α] (h : Py.dep α ≤ 64) (a : α) : SeqAt.shaped (Py.enc a) = true := by
  unfold SeqAt.shaped
  rw [Py.lay a, decide_eq_true (Nat.le_trans (Py.depth a) h)]
  rfl
theorem Py.eqv {α : Type} [DecidableEq α] [Py α] (a b : α) : PyData.eqv (Py.enc a) (Py.enc b) = decide (a = b) := by
  by_cases h : a = b
  · rw [decide_eq_true h]
    exact (Py.eq a b).mpr h
  · rw [decide_eq_false h]
    cases e : PyData.eqv (Py.enc a) (Py.enc b) with
    | false => rfl
    | true => exact absurd ((Py.eq a b).mp e) h
instance : Py Int where
  enc := .int
  eq := fun a b => by simp [PyData.eqv]
  lay := fun a => rfl
  dep := 0
  depth := fun a => Nat.le_refl _
theorem encAll_eq {α : Type} [Py α] : ∀ xs ys : List α, PyData.eqvAll (xs.map Py.enc) (ys.map Py.enc) = true ↔ xs = ys
  | [], [] => by simp [PyData.eqvAll]
  | [], y :: ys => by simp [PyData.eqvAll]
  | x :: xs, [] => by simp [PyData.eqvAll]
  | x :: xs, y :: ys => by
    have h := encAll_eq xs ys
    simp only [List.map_cons, PyData.eqvAll, Bool.and_eq_true, List.cons.injEq, h, Py.eq]
theorem encAll_lay {α : Type} [Py α] : ∀ xs : List α, PyData.canLayAll0 (xs.map Py.enc) = true
  | [] => rfl
  | x :: xs => by
    simp only [List.map_cons, PyData.canLayAll0, Py.lay, encAll_lay xs, Bool.and_self]
theorem encAll_dep {α : Type} [Py α] : ∀ xs : List α, PyData.depthAll (xs.map Py.enc) ≤ Py.dep α
  | [] => Nat.zero_le _
  | x :: xs => by
    simp only [List.map_cons, PyData.depthAll]
    exact Nat.max_le.mpr ⟨Py.depth x, encAll_dep xs⟩
instance {α : Type} [Py α] : Py (List α) where
  enc := fun xs => .list (xs.map Py.enc)
  eq := fun a b => by
    simp only [PyData.eqv]
    exact encAll_eq a b
  lay := fun a => by
    simp only [PyData.canLay0]
    exact encAll_lay a
  dep := Py.dep α + 1
  depth := fun a => by
    simp only [PyData.depth]
    exact Nat.succ_le_succ (encAll_dep a)
/-- a tuple of any length -/
structure Tp (α : Type) where
  l : List α
  deriving DecidableEq
instance {α : Type} [Py α] : Py (Tp α) where
  enc := fun xs => .tuple (xs.l.map Py.enc)
  eq := fun a b => by
    simp only [PyData.eqv]
    rw [encAll_eq a.l b.l]
    cases a; cases b; simp
  lay := fun a => by
    simp only [PyData.canLay0]
    exact encAll_lay a.l
  dep := Py.dep α + 1
  depth := fun a => by
    simp only [PyData.depth]
    exact Nat.succ_le_succ (encAll_dep a.l)
instance : Py (Int × Int) where
  enc := fun p => .tuple [.int p.1, .int p.2]
  eq := fun a b => by
    cases a; cases b
    simp [PyData.eqv, PyData.eqvAll]
  lay := fun a => rfl
  dep := 1
  depth := fun a => by simp [PyData.depth, PyData.depthAll]
instance : Py (Int × Int × Int) where
  enc := fun p => .tuple [.int p.1, .int p.2.1, .int p.2.2]
  eq := fun a b => by
    obtain ⟨a1, a2, a3⟩ := a
    obtain ⟨b1, b2, b3⟩ := b
    simp [PyData.eqv, PyData.eqvAll]
  lay := fun a => rfl
  dep := 1
  depth := fun a => by simp [PyData.depth, PyData.depthAll]
instance : Py (Int × Int × Int × Int) where
  enc := fun p => .tuple [.int p.1, .int p.2.1, .int p.2.2.1, .int p.2.2.2]
  eq := fun a b => by
    obtain ⟨a1, a2, a3, a4⟩ := a
    obtain ⟨b1, b2, b3, b4⟩ := b
    simp [PyData.eqv, PyData.eqvAll]
  lay := fun a => rfl
  dep := 1
  depth := fun a => by simp [PyData.depth, PyData.depthAll]
instance : Py (Int × Int × Int × Int × Int) where
  enc := fun p => .tuple [.int p.1, .int p.2.1, .int p.2.2.1, .int p.2.2.2.1, .int p.2.2.2.2]
  eq := fun a b => by
    obtain ⟨a1, a2, a3, a4, a5⟩ := a
    obtain ⟨b1, b2, b3, b4, b5⟩ := b
    simp [PyData.eqv, PyData.eqvAll]
  lay := fun a => rfl
  dep := 1
  depth := fun a => by simp [PyData.depth, PyData.depthAll]
/-- a value as a Lean value, in a heap -/
def Rep {α : Type} [Py α] (K : PySem.W.Frag) (H : Hp) (v : V) (a : α) : Prop := Dp K H v (Py.enc a)
mutual
theorem Dp.ex {K : PySem.W.Frag} {H H' : Hp} (e : Ex H H') : ∀ {v : V} {d : PyData}, Dp K H v d → Dp K H' v d
  | _, _, .non => .non
  | _, _, .bl b => .bl b
  | _, _, .int i => .int i
  | _, _, .str x => .str x
  | _, _, .lst h t => .lst (ex_l e h) (Dp.exAll e t)
  | _, _, .tup h t => .tup (ex_t e h) (Dp.exAll e t)
theorem Dp.exAll {K : PySem.W.Frag} {H H' : Hp} (e : Ex H H') : ∀ {vs : List V} {ds : List PyData}, DpAll K H vs ds → DpAll K H' vs ds
  | _, _, .nil => .nil
  | _, _, .cons h t => .cons (Dp.ex e h) (Dp.exAll e t)
end
theorem Rep.ex {α : Type} [Py α] {K : PySem.W.Frag} {H H' : Hp} {v : V} {a : α} (e : Ex H H') (h : Rep K H v a) : Rep K H' v a := Dp.ex e h
section
variable {K : PySem.W.Frag} {H H' : Hp} {v : V}
theorem Rep.int (i : Int) : Rep K H (.int i) i := Dp.int i
theorem Rep.int_inv {i : Int} (h : Rep K H v i) : v = .int i := by
  cases h
  rfl
/-- the items of a list or tuple -/
inductive RAll {α : Type} [Py α] (K : PySem.W.Frag) (H : Hp) : List V → List α → Prop where
  | nil : RAll K H [] []
  | cons {v : V} {vs : List V} {a : α} {as : List α} : Rep K H v a → RAll K H vs as → RAll K H (v :: vs) (a :: as)
theorem RAll.dp {α : Type} [Py α] : ∀ {vs : List V} {as : List α}, RAll K H vs as → DpAll K H vs (as.map Py.enc)
  | _, _, .nil => .nil
  | _, _, .cons h t => .cons h t.dp
theorem RAll.of_dp {α : Type} [Py α] : ∀ {vs : List V} {as : List α}, DpAll K H vs (as.map Py.enc) → RAll K H vs as
  | [], [], _ => .nil
  | [], a :: as, h => nomatch h
  | v :: vs, [], h => nomatch h
  | v :: vs, a :: as, .cons h t => .cons h (RAll.of_dp t)
theorem RAll.ex {α : Type} [Py α] (e : Ex H H') : ∀ {vs : List V} {as : List α}, RAll K H vs as → RAll K H' vs as
  | _, _, .nil => .nil
  | _, _, .cons h t => .cons (h.ex e) (t.ex e)
theorem RAll.length {α : Type} [Py α] : ∀ {vs : List V} {as : List α}, RAll K H vs as → vs.length = as.length
  | _, _, .nil => rfl
  | _, _, .cons _ t => congrArg (· + 1) t.length
theorem RAll.get {α : Type} [Py α] : ∀ {vs : List V} {as : List α} {i : Nat} {x : V}, RAll K H vs as → vs[i]? = some x → ∃ a, as[i]? = some a ∧ Rep K H x a
  | _, _, _, _, .nil, e => by simp at e
  | _, _, 0, _, .cons r _, e => by simp at e; subst e; exact ⟨_, rfl, r⟩
  | _, _, i + 1, x, .cons _ t, e => by
    obtain ⟨u, h1, h2⟩ := RAll.get (i := i) (x := x) t (by simpa using e)
    exact ⟨u, by simpa using h1, h2⟩
theorem RAll.get' {α : Type} [Py α] : ∀ {vs : List V} {as : List α} {i : Nat} {a : α}, RAll K H vs as → as[i]? = some a → ∃ x, vs[i]? = some x ∧ Rep K H x a
  | _, _, _, _, .nil, e => by simp at e
  | _, _, 0, _, .cons r _, e => by simp at e; subst e; exact ⟨_, rfl, r⟩
  | _, _, i + 1, x, .cons _ t, e => by
    obtain ⟨u, h1, h2⟩ := RAll.get' (i := i) (a := x) t (by simpa using e)
    exact ⟨u, by simpa using h1, h2⟩
theorem RAll.append {α : Type} [Py α] : ∀ {vs ws : List V} {as bs : List α}, RAll K H vs as → RAll K H ws bs → RAll K H (vs ++ ws) (as ++ bs)
  | _, _, _, _, .nil, s => s
  | _, _, _, _, .cons r t, s => .cons r (RAll.append t s)
theorem RAll.ints : ∀ ns : List Int, RAll K H (ns.map V.int) ns
  | [] => .nil
  | n :: r => .cons (.int n) (RAll.ints r)
theorem RAll.ints_inv : ∀ {vs : List V} {ns : List Int}, RAll K H vs ns → vs = ns.map V.int
  | _, _, .nil => rfl
  | _, _, .cons h t => by rw [h.int_inv, t.ints_inv]; rfl
theorem Rep.lst {α : Type} [Py α] {p : Addr} {vs : List V} {as : List α} (h : SqL K H p vs) (t : RAll K H vs as) : Rep K H (.ref p) as := Dp.lst h t.dp
theorem Rep.lst_inv {α : Type} [Py α] {as : List α} (h : Rep K H v as) : ∃ p vs, v = .ref p ∧ SqL K H p vs ∧ RAll K H vs as := by
  have h : Dp K H v (.list (as.map Py.enc)) := h
  cases h with
  | lst h1 t => exact ⟨_, _, rfl, h1, RAll.of_dp t⟩
theorem Rep.tp {α : Type} [Py α] {p : Addr} {vs : List V} {as : List α} (h : SqT K H p vs) (t : RAll K H vs as) : Rep K H (.ref p) (Tp.mk as) := Dp.tup h t.dp
theorem Rep.tp_inv {α : Type} [Py α] {as : List α} (h : Rep K H v (Tp.mk as)) : ∃ p vs, v = .ref p ∧ SqT K H p vs ∧ RAll K H vs as := by
  have h : Dp K H v (.tuple (as.map Py.enc)) := h
  cases h with
  | tup h1 t => exact ⟨_, _, rfl, h1, RAll.of_dp t⟩
theorem Rep.p2 {p : Addr} {a b : Int} (h : SqT K H p [.int a, .int b]) : Rep K H (.ref p) (a, b) := Dp.tup h (.cons (.int a) (.cons (.int b) .nil))
theorem Rep.p2_inv {q : Int × Int} (h : Rep K H v q) : ∃ p, v = .ref p ∧ SqT K H p [.int q.1, .int q.2] := by
  have h : Dp K H v (.tuple [.int q.1, .int q.2]) := h
  cases h with
  | tup h t => cases t with | cons h1 t => cases h1; cases t with | cons h1 t => cases h1; cases t; exact ⟨_, rfl, h⟩
theorem Rep.p3 {p : Addr} {a b c : Int} (h : SqT K H p [.int a, .int b, .int c]) : Rep K H (.ref p) (a, b, c) := Dp.tup h (.cons (.int a) (.cons (.int b) (.cons (.int c) .nil)))
theorem Rep.p3_inv {q : Int × Int × Int} (h : Rep K H v q) : ∃ p, v = .ref p ∧ SqT K H p [.int q.1, .int q.2.1, .int q.2.2] := by
  have h : Dp K H v (.tuple [.int q.1, .int q.2.1, .int q.2.2]) := h
  cases h with
  | tup h t => cases t with | cons h1 t => cases h1; cases t with | cons h1 t => cases h1; cases t with | cons h1 t => cases h1; cases t; exact ⟨_, rfl, h⟩
theorem Rep.p4 {p : Addr} {a b c d : Int} (h : SqT K H p [.int a, .int b, .int c, .int d]) : Rep K H (.ref p) (a, b, c, d) := Dp.tup h (.cons (.int a) (.cons (.int b) (.cons (.int c) (.cons (.int d) .nil))))
theorem Rep.p4_inv {q : Int × Int × Int × Int} (h : Rep K H v q) : ∃ p, v = .ref p ∧ SqT K H p [.int q.1, .int q.2.1, .int q.2.2.1, .int q.2.2.2] := by
  have h : Dp K H v (.tuple [.int q.1, .int q.2.1, .int q.2.2.1, .int q.2.2.2]) := h
  cases h with
  | tup h t => cases t with | cons h1 t => cases h1; cases t with | cons h1 t => cases h1; cases t with | cons h1 t => cases h1; cases t with | cons h1 t => cases h1; cases t; exact ⟨_, rfl, h⟩
end
/-! ### rules of my own -/
section
variable {X : Cx}
def rGetL (K : PySem.W.Frag) : V → V → Hp → VK → Prop := fun o i H Q => ∃ (p : Addr) (xs : List V) (j : Nat) (v : V), o = .ref p ∧ i = .int (j : Int) ∧ SqL K H p xs ∧ xs[j]? = some v ∧ Q v H
theorem get_list : PGet X (rGetL X.K) := by
  intro pins s σ H o i ov iv Q I ro ri h
  obtain ⟨p, xs, j, v, rfl, rfl, hq, he, q⟩ := h
  cases ro
  obtain ⟨t, rfl⟩ := ri
  obtain ⟨its, r, pl, hz⟩ := I.list hq
  obtain ⟨w, ew, rw'⟩ := r.get he
  have hj : j < its.length := (List.getElem?_eq_some_iff.mp ew).1
  have hl := r.length
  have hn := line63
  exact wpAny_getItem_list pl.isList (by omega) (by omega) (by simpa using ew) ⟨v, H, I, rw', q⟩
/-- == and != of data -/
def rEqA (K : PySem.W.Frag) (α : Type) [Py α] [DecidableEq α] : R2 := fun x y H Q => ∃ a b : α, Rep K H x a ∧ Rep K H y b ∧ Q (.bl (decide (a = b))) H
def rNeA (K : PySem.W.Frag) (α : Type) [Py α] [DecidableEq α] : R2 := fun x y H Q => ∃ a b : α, Rep K H x a ∧ Rep K H y b ∧ Q (.bl (!decide (a = b))) H
theorem op_eqA {α : Type} [Py α] [DecidableEq α] (hu : X.A.units + 64 < cLine) (h : Py.dep α ≤ 64 := by decide) : OpR X (compareOp .Eq) (rEqA X.K α) := by
  intro pins s σ H x y v u Q I rx ry hq
  obtain ⟨a, b, ha, hb, q⟩ := hq
  exact op_eqD hu pins s σ H x y v u Q I rx ry ⟨_, _, ha, hb, Py.shaped h a, Py.shaped h b, by rw [Py.eqv]; exact q⟩
theorem op_neA {α : Type} [Py α] [DecidableEq α] (hu : X.A.units + 64 < cLine) (h : Py.dep α ≤ 64 := by decide) : OpR X (compareOp .NotEq) (rNeA X.K α) := by
  intro pins s σ H x y v u Q I rx ry hq
  obtain ⟨a, b, ha, hb, q⟩ := hq
  exact op_neD hu pins s σ H x y v u Q I rx ry ⟨_, _, ha, hb, Py.shaped h a, Py.shaped h b, by rw [Py.eqv]; exact q⟩
end
/-- a def of the top: where it stands, how it is called -/
structure DefAt (K : PySem.W.Frag) (mg : Str → Option Value) (x qual : Str) (st : Stmt) (ps : List Str) where
  f : Addr
  fd : FuncData
  F : Fun K x qual st f fd
  m : mg x = some (.ref f)
  k : PySem.W.keepIn K (.ref f) = true
  b : Binds K fd ps []
structure ClsAt (K : PySem.W.Frag) (mg : Str → Option Value) (x : Str) where
  C : Addr
  cl : Cls K C
  m : mg x = some (.ref C)
  kp : PySem.W.keepIn K (.ref C) = true
  mks : PySem.W.makesIn K C = true
structure MethAt (K : PySem.W.Frag) (C : Addr) (x qual : Str) (st : Stmt) (ps : List Str) where
  f : Addr
  fd : FuncData
  F : Fun K x qual st f fd
  me : Meth K C x f
  b : Binds K fd ps []
theorem mkOf {K : PySem.W.Frag} {mg : Str → Option Value} {x qual : Str} {st : Stmt} {ps : List Str} (c : ClsAt K mg x) (m : MethAt K c.C "__init__" qual st ps) : Mk K c.C m.f := ⟨c.mks, m.me.at_, m.me.fn, c.kp⟩
end My

-- EnT
namespace PySem
open Sem (wp)
open AutoSeq1 (wpAny_loadPart')
theorem my_enumerate_newT (l : Addr) (items : Array Value) (n : Nat) (dct : Option Addr) (sl : Array (Option Value)) :
    Meets (Builtin.«enumerate.__new__» ⟨[.type "enumerate", .ref l], []⟩) (fun _ R s => s.heap.get? l = some { cls := .type "tuple", dict := dct, data := .seq items n, slots := sl } ∧
      R (.ok (.ret (.ref (s.heap.push { cls := .type "tuple_iterator", data := .fields #[.ref l, .int 0 0] }).objs.size)))
        { s with heap := (s.heap.push { cls := .type "tuple_iterator", data := .fields #[.ref l, .int 0 0] }).push { cls := .type "enumerate", data := .fields #[.none, .bool false, .ref s.heap.objs.size, rawInt 0, .none, .none] } }) :=
  .of_wp fun prog w A R s h => by
    obtain ⟨hp, g, d, tk, os⟩ := s
    obtain ⟨hl, h⟩ := h
    have hsub := sub_enumerate
    have hT : Heap.IsTuple (Shared.heap ⟨hp, g, d, tk, os⟩) l items := ⟨_, hl, rfl, n, rfl⟩
    wp_walk using wpAny_loadPart' hl
    refine wpAny_stack_any fun st => wpAny_pure ?_
    split
    · rename_i c _ _ _ _ _
      cases (c == Value.type "enumerate")
      · wp_walk using wpAny_loadPart' hl, wpAny_pyIter_tuple hT
        exact ⟨_, rfl, h⟩
      · wp_walk using wpAny_loadPart' hl, wpAny_pyIter_tuple hT
        exact ⟨_, rfl, h⟩
    · wp_walk using wpAny_loadPart' hl, wpAny_pyIter_tuple hT
      exact ⟨_, rfl, h⟩
section
variable {prog : Program} {w : World} {A : Around} {E : Value → Shared → Prop} {s : Shared}
theorem my_call_enumerate_tup {l : Addr} {items : Array Value} {Q : Value → Shared → Prop} (hL : s.heap.IsTuple l items)
    (h : ∀ h', IsEnum h' (s.heap.objs.size + 1) s.heap.objs.size 0 .none → h'.IsTupleIter s.heap.objs.size l 0 → h'.objs.size = s.heap.objs.size + 2 →
      (∀ b o, s.heap.get? b = some o → h'.get? b = some o) → Q (.ref (s.heap.objs.size + 1)) { s with heap := h' }) :
    wpAny (model prog w) A (call (.type "enumerate") [.ref l]) Q E s := by
  obtain ⟨⟨c, dct, dt, sl⟩, hl, hc, n, hd⟩ := hL
  replace hc : c = .type "tuple" := hc
  replace hd : dt = .seq items n := hd
  subst hc hd
  refine callType_new F.called_enumerate (by decide) (F.typeCall_enumerate_1 _) (F.newCall_enumerate_1 _) (fun obj => F.args_object_init_2 obj _) F.entry_enumerate_new
    (my_enumerate_newT l items n dct sl) ⟨hl, ?_⟩
  have hz : (s.heap.push { cls := .type "tuple_iterator", data := .fields #[.ref l, .int 0 0] }).objs.size = s.heap.objs.size + 1 := Heap.size_push ..
  show _ ∧ _
  rw [hz]
  have he : IsEnum ((s.heap.push { cls := .type "tuple_iterator", data := .fields #[.ref l, .int 0 0] }).push
      { cls := .type "enumerate", data := .fields #[.none, .bool false, .ref s.heap.objs.size, rawInt 0, .none, .none] }) (s.heap.objs.size + 1) s.heap.objs.size 0 .none := by
    have := Heap.get?_push_size (s.heap.push { cls := .type "tuple_iterator", data := .fields #[.ref l, .int 0 0] })
      (o := { cls := .type "enumerate", data := .fields #[.none, .bool false, .ref s.heap.objs.size, rawInt 0, .none, .none] }) rfl
    rw [hz] at this
    exact this
  refine ⟨⟨_, he, rfl⟩, h _ he ⟨_, Heap.get?_push_of_some _ (Heap.get?_push_size _ rfl), rfl, rfl⟩ (by rw [Heap.size_push, hz]) fun b o x => Heap.get?_push_of_some _ (Heap.get?_push_of_some _ x)⟩
end
theorem Draws.tup {prog : Program} {w : World} {A : Around} (hh : A.handled = none) (it l : Addr) (hne : l ≠ it) (items : Array Value) :
    Draws prog w A it [it, l] items.size (fun i v => items[i]? = some v) (fun i h => h.IsTupleIter it l i ∧ h.IsTuple l items) where
  live := fun _ _ st => let ⟨o, ho, _⟩ := st.1; ⟨o, ho⟩
  frame := fun _ _ _ st hk => ⟨st.1.at fun o e => hk it (by simp) o e, let ⟨o, ho, r⟩ := st.2; ⟨o, hk l (by simp) o ho, r⟩⟩
  item := fun i s Q E hi st hQ => by
    refine RZ.nextOf_tuple_item st.1 st.2 (x := items[i]) (by simp [hi]) fun h' hit' hs' => ?_
    exact hQ _ h' s.toks (by simp [hi]) ⟨hit', st.2.extBut hs'.extBut hne⟩ hs'
  done := fun s Q E st hE => RZ.nextOf_tuple_end hh st.1 st.2 (by simp) hE
end PySem
namespace My
open PySem PySem.Spec PyProof.Rows L2
def IteT (K : PySem.W.Frag) (a : Addr) : It :=
  ⟨fun i H => ∃ (xs : List V) (x : V), SqT K H a xs ∧ xs[i]? = some x, fun i H v H' => ∃ T x, v = .ref T ∧ H T = none ∧ H' = upd H T (.tup [.int (i : Nat), x]) ∧ ∀ xs, SqT K H a xs → xs[i]? = some x, fun i H => ∃ xs : List V, SqT K H a xs ∧ xs.length ≤ i⟩
theorem turn_enumT {P : Program} {w : World} {K : PySem.W.Frag} {elts : List Expr} {kk : Nat} {tpos : Pos} (a e it : Addr) :
    Turn P w K (.Tuple elts kk tpos) (IteT K a) [e, it] e (fun i h => (∃ old, IsEnum h e it ((i : Nat) : Int) old) ∧ h.IsTupleIter it a i ∧ e ≠ it ∧ a ≠ it ∧ a ≠ e) where
  mem := by simp
  obj := fun i h st b hb => by
    obtain ⟨⟨old, he⟩, ⟨o, ho, hc, hd⟩, _⟩ := st
    have e' : b = e ∨ b = it := by simpa using hb
    rcases e' with z | z
    · rw [z]; exact ⟨_, he, fun v q => nomatch q⟩
    · rw [z]; exact ⟨o, ho, fun v q => by rw [hd] at q; cases q⟩
  keep := fun i h h' st k => let ⟨⟨old, he⟩, hi, hne⟩ := st; ⟨⟨old, k e (by simp) _ he⟩, hi.at fun o q => k it (by simp) o q, hne⟩
  item := by
    intro X hP hw hK hc i pins s σ H E I hf st hg
    subst hP hw hK
    obtain ⟨⟨old, he⟩, hit, hne, hai, hae⟩ := st
    obtain ⟨xs, x, hq, hx⟩ := hg
    obtain ⟨its, rv, p, hz⟩ := I.tuple hq
    obtain ⟨u, hu, ru⟩ := rv.get hx
    have hel : e < s.heap.objs.size := Heap.lt_size he
    have hil : it < s.heap.objs.size := by obtain ⟨_, q, _⟩ := hit; exact Heap.lt_size q
    have hlt : i < its.toArray.size := by
      have := (List.getElem?_eq_some_iff.mp hu).1
      simpa using this
    have p' : s.heap.IsTuple a its.toArray := p
    refine wpAny_pyNext_enum_itemD (Draws.tup (A := X.A.in1) (I.ok.hd hc) it a hai its.toArray) he ⟨hit, p'⟩ hlt hne (by simp [hne, Ne.symm hae]) fun x' h' tk hx' ho hst' hT hsz hk => ?_
    have ex : x' = u := by
      have q : its.toArray[i]? = some u := by simpa using hu
      rw [q] at hx'
      exact (Option.some.inj hx').symm
    subst ex
    obtain ⟨hit', hp'⟩ := hst'
    refine ⟨_, rfl, wpAny_letOwnedTupleGo_enum (s := { s with heap := h', toks := tk + 1 }) ho fun h'' he' sb => ?_⟩
    have hT2 : h''.get? s.heap.objs.size = some { cls := .type "tuple", data := .seq #[.int i tk, x'] } := (sb.2 _ (Nat.ne_of_gt hel)).trans hT
    have new : ObjOk X.prog X.w (upd H s.heap.objs.size (.tup [.int (i : Nat), x])) h'' s.heap.objs.size (.tup [.int (i : Nat), x]) :=
      ⟨by show 2 ≤ sizeLine; decide, [.int i tk, x'], .cons ⟨_, rfl⟩ (.cons ru .nil), ⟨_, hT2, rfl, _, rfl⟩⟩
    have I1 : Inv X pins σ (upd H s.heap.objs.size (.tup [.int (i : Nat), x])) { s with heap := h'', toks := tk + 1 } :=
      I.turnedNew (ch := [e, it]) (fun b ob hb q => (sb.2 b (fun z => hb (by simp [z]))).trans (hk b ob (fun z => hb (by simp [z])) (fun z => hb (by simp [z])) q)) hf (Nat.le_refl _) new
    refine ⟨.ref s.heap.objs.size, _, I1, rfl, ⟨_, x, rfl, I.hok.fresh (Nat.le_refl _), rfl, fun ys hy => by rw [I.tuple_inj hy hq]; exact hx⟩, ⟨⟨x', ?_⟩, hit'.at fun o q => (sb.2 it (Ne.symm hne)).trans q, hne, hai, hae⟩, fun b hb => ?_⟩
    · have e1 : ((i + 1 : Nat) : Int) = (i : Int) + 1 := by omega
      rw [e1]; exact he'
    · have hb' : b < s.heap.objs.size := by
        have e' : b = e ∨ b = it := by simpa using hb
        rcases e' with z | z
        · rw [z]; exact hel
        · rw [z]; exact hil
      rw [upd_ne (Nat.ne_of_lt hb')]
      exact (hf b hb).1
  done := by
    intro X hP hw hK hc i pins s σ H E I hf st hg
    subst hP hw hK
    obtain ⟨⟨old, he⟩, hit, hne, hai, hae⟩ := st
    obtain ⟨xs, hq, hx⟩ := hg
    obtain ⟨its, rv, p, hz⟩ := I.tuple hq
    obtain ⟨f0, f1, f2, f3, f4, f5⟩ := hf it (by simp)
    have hl := rv.length
    have hT : s.TypeIs (.ref e) "enumerate" := ⟨_, he, rfl⟩
    have p' : s.heap.IsTuple a its.toArray := p
    unfold pyNext
    refine wpAny_bind (wpAny_attempt (wpAny_callSpecial?_slot (name := Str.ofString "__next__") hT F.slot_enumerate_next
      (wpAny_call_entry F.slot_enumerate_next hT F.entry_enumerate_next ?_ (F.args_enumerate_next_1 _))))
    show wpAny _ _ (field (.ref e) 2 >>= _) _ _ _
    refine wpAny_bind (wpAny_field he rfl (x := .ref it) rfl ?_)
    refine wpAny_bind (RZ.nextOf_tuple_end (I.ok.hd hc) hit p' (by simp; omega) fun h' x he' hx' => ?_)
    obtain ⟨o, ho, hc'⟩ := hx'
    refine wpAny_bind (wpAny_isInstance (T := "StopIteration") (b := true) ⟨o, ho, hc'⟩ isSubtype_stop ?_)
    exact wpAny_pure ⟨rfl, I.turned (t' := s.toks) (fun b o hb q => he' b o hb q) f0 f1 f3 f4 f5⟩
  self := fun A i s Q E st h => let ⟨⟨_, he⟩, _⟩ := st; wpAny_pyIter_enum he h
def iEnumT (K : PySem.W.Frag) (ta : TA) : TI := fun σ H R => ta σ H fun vs H1 => ∃ a xs, vs = [.ref a] ∧ SqT K H1 a xs ∧ R (IteT K a) H1
theorem pi_enumT {X : Cx} {e : Expr} {ta : TA} {p pos tpos : Pos} {elts : List Expr} {kk : Nat} (hg : Gl X "enumerate") (hm : X.mg "enumerate" = none) (ha : PA X [e] ta) (hs : starEach [e] X.env = [(false, eval e X.env)] := by rfl) :
    PI X (.Tuple elts kk tpos) (.Call (.Name "enumerate" p) [e] [] pos) (iEnumT X.K ta) := by
  refine ⟨fun pins s σ H R I h => ?_⟩
  refine Call_ (ld_blt I hg hm boot_enumerate (PyProof.Rows.callWith_type1 (thn (ha.run pos pins s σ H _ I h) fun us s1 ⟨vs, H1, I1, r1, q1⟩ => ?_) hs rfl))
  obtain ⟨a, xs, ex, hq, q⟩ := q1
  subst ex
  cases r1 with
  | cons r rr =>
    cases rr
    cases r
    obtain ⟨its, rv, p', hz⟩ := I1.tuple hq
    have p2 : s1.heap.IsTuple a its.toArray := p'
    have hal : a < s1.heap.objs.size := by obtain ⟨_, q, _⟩ := p2; exact Heap.lt_size q
    refine my_call_enumerate_tup p2 fun h' he hit hsz hk => wpAny_pyIter_enum he ?_
    have I2 : Inv X pins σ H1 { s1 with heap := h' } := I1.kept (t' := s1.toks) hk
    refine ⟨s1.heap.objs.size + 1, [s1.heap.objs.size + 1, s1.heap.objs.size], _, _, H1, rfl, I2, turn_enumT a (s1.heap.objs.size + 1) s1.heap.objs.size, ⟨⟨.none, he⟩, hit, Nat.succ_ne_self _, Nat.ne_of_lt hal, Nat.ne_of_lt (Nat.lt_succ_of_lt hal)⟩, fun b hb => ?_, q⟩
    have e' : b = s1.heap.objs.size + 1 ∨ b = s1.heap.objs.size := by simpa using hb
    have hle : s1.heap.objs.size ≤ b := by
      rcases e' with z | z
      · rw [z]; exact Nat.le_add_right _ _
      · rw [z]; exact Nat.le_refl _
    exact I1.fpOk hle (I1.hok.fresh hle)
end My

-- SrT
namespace My
open PySem PySem.Spec PyProof.Rows L2
/-! ### the order of lists of ints -/
theorem lx_asym : ∀ a b : List Int, HT.lexLt a b = true → HT.lexLt b a = false
  | [], [], h => by rw [HT.lexLt_nil_nil] at h; cases h
  | [], y :: ys, _ => HT.lexLt_cons_nil y ys
  | x :: xs, [], h => by rw [HT.lexLt_cons_nil] at h; cases h
  | x :: xs, y :: ys, h => by
    rw [HT.lexLt_cons] at h ⊢
    by_cases e : x = y
    · rw [if_pos e] at h
      rw [if_pos e.symm]
      exact lx_asym xs ys h
    · rw [if_neg e] at h
      rw [if_neg (fun q => e q.symm)]
      have := of_decide_eq_true h
      exact decide_eq_false (by omega)
theorem lx_tr : ∀ a b c : List Int, HT.lexLt b a = false → HT.lexLt c b = false → HT.lexLt c a = false
  | [], [], c, _, h2 => h2
  | a, b, [], h1, h2 => by
    cases a with
    | nil => rfl
    | cons x xs =>
      cases b with
      | nil => exact h1
      | cons y ys => rw [HT.lexLt_nil_cons] at h2; cases h2
  | [], y :: ys, z :: zs, h1, h2 => HT.lexLt_cons_nil z zs
  | x :: xs, [], c, h1, _ => by rw [HT.lexLt_nil_cons] at h1; cases h1
  | x :: xs, y :: ys, z :: zs, h1, h2 => by
    rw [HT.lexLt_cons] at h1 h2 ⊢
    by_cases e1 : y = x
    · rw [if_pos e1] at h1
      by_cases e2 : z = y
      · rw [if_pos e2] at h2
        rw [if_pos (e2.trans e1)]
        exact lx_tr xs ys zs h1 h2
      · rw [if_neg e2] at h2
        rw [if_neg (fun q => e2 (q.trans e1.symm)), ← e1]
        exact h2
    · rw [if_neg e1] at h1
      have q1 := of_decide_eq_false h1
      by_cases e2 : z = y
      · rw [if_neg (fun q => e1 (e2.symm.trans q)), e2]
        exact h1
      · rw [if_neg e2] at h2
        have q2 := of_decide_eq_false h2
        rw [if_neg (by omega)]
        exact decide_eq_false (by omega)
theorem lx_eq : ∀ a b : List Int, a.length = b.length → HT.lexLt a b = false → HT.lexLt b a = false → a = b
  | [], [], _, _, _ => rfl
  | [], y :: ys, h, _, _ => by simp at h
  | x :: xs, [], h, _, _ => by simp at h
  | x :: xs, y :: ys, h, h1, h2 => by
    rw [HT.lexLt_cons] at h1 h2
    by_cases e : x = y
    · rw [if_pos e] at h1
      rw [if_pos e.symm] at h2
      rw [e, lx_eq xs ys (by simpa using h) h1 h2]
    · rw [if_neg e] at h1
      rw [if_neg (fun q => e q.symm)] at h2
      have q1 := of_decide_eq_false h1
      have q2 := of_decide_eq_false h2
      omega
theorem swo_lx (k : Value → List Int) : SrtO.Swo fun v u => HT.lexLt (k v) (k u) := ⟨fun x y h => lx_asym _ _ h, fun x y z h1 h2 => lx_tr _ _ _ h1 h2⟩
section
variable {prog : Program} {w : World} {A : Around} {E : Value → Shared → Prop} {s : Shared}
theorem lex_any {b : Bool} {Q : Bool → Shared → Prop} {xs ys : List Value} {ns ms : List Int} (i : Nat) (hx : IntsAre xs ns) (hy : IntsAre ys ms) (hl : ns.length = ms.length)
    (h : Q (HT.lexLt ns ms) s) : PySem.W.KatLex prog w A b false Q (xs.zip ys) i s := by
  induction hx generalizing ys ms i with
  | nil =>
    cases hy with
    | nil => exact PySem.W.kat_nil h
    | cons q u hy => simp at hl
  | @cons p t xs ns hx ih =>
    cases hy with
    | nil => simp at hl
    | @cons q u ys ms hy =>
      have hl' : ns.length = ms.length := by simpa using hl
      rw [HT.lexLt_cons] at h
      show PySem.W.KatLex prog w A b false Q ((Value.int p t, Value.int q u) :: xs.zip ys) i s
      refine PySem.W.kat_cons (wpAny_eqBool_int ?_)
      by_cases e : p = q
      · subst e
        rw [if_pos rfl] at h
        rw [beq_self_eq_true]
        refine PySem.W.kat_yes ?_
        first
          | exact ih (i + 1) hy hl' h
          | exact ih _ _ (i + 1) hy hl' h
      · rw [if_neg e] at h
        rw [show (p == q) = false from beq_eq_false_iff_ne.mpr e]
        exact PySem.W.kat_no (TS.oneLt_ints _ h)
theorem tups_firsts {h : Heap} {k : Value → List Int} : ∀ vs : List Value, (∀ v ∈ vs, TS.TupInts h v (k v) ∧ 1 ≤ (k v).length) → ∃ fs, PySem.W.KatTups h vs fs ∧ fs.length = vs.length ∧ ∀ f, f ∈ fs → ∃ n t, f = Value.int n t
  | [], _ => ⟨[], PySem.W.KatTups.nil, rfl, fun f hf => by simp at hf⟩
  | v :: vs, x => by
    obtain ⟨fs, kt, hl, hi⟩ := tups_firsts vs fun u hu => x u (List.mem_cons_of_mem _ hu)
    obtain ⟨⟨a, xs, e, ⟨o, ho, hc, n, hdt⟩, i⟩, hn⟩ := x v (List.mem_cons_self ..)
    subst e
    obtain ⟨y, ys, e⟩ : ∃ y ys, xs.toList = y :: ys := by
      cases q : xs.toList with
      | nil =>
        rw [q] at i
        have l := i.length
        rw [List.length_nil] at l
        omega
      | cons y ys => exact ⟨y, ys, rfl⟩
    obtain ⟨m, t, hy⟩ := i.all y (by rw [e]; exact List.mem_cons_self ..)
    refine ⟨y :: fs, PySem.W.KatTups.cons ho hc hdt ?_ kt, by simp [hl], ?_⟩
    · have z := congrArg (fun l : List Value => l[0]?) e
      simpa using z
    · intro f hf
      rcases List.mem_cons.mp hf with rfl | hf
      · exact ⟨m, t, hy⟩
      · exact hi f hf
theorem tups_cmp {vs : List Value} {k : Value → List Int} {d : Nat} (hp : ∀ v ∈ vs, TS.TupInts s.heap v (k v) ∧ (k v).length = d) : SrtO.Cmp prog w A s (tuples' true) (fun p => p.1 ∈ vs) (SrtO.lt2 fun v u => HT.lexLt (k v) (k u)) := by
  intro p q hm hm'
  obtain ⟨⟨a, xs, e, ⟨o, ho, hc, n, hd⟩, i⟩, l⟩ := hp _ hm
  obtain ⟨⟨a', ys, e', ⟨o', ho', hc', n', hd'⟩, i'⟩, l'⟩ := hp _ hm'
  show wpAny (model prog w) A (keyLt' (tuples' true) p.1 q.1) (fun r s' => s' = s ∧ r = HT.lexLt (k p.1) (k q.1)) (fun _ _ => False) s
  generalize k p.1 = ns at i l ⊢
  generalize k q.1 = ms at i' l' ⊢
  rw [e, e']
  refine PySem.W.kat_lt ho hd ho' hd' ?_
  have sz : decide (xs.size < ys.size) = false := by
    have l1 := i.length
    have l2 := i'.length
    rw [Array.length_toList] at l1 l2
    exact decide_eq_false (by omega)
  rw [sz]
  exact lex_any 0 i i' (by omega) ⟨rfl, rfl⟩
theorem tups_sortable {a : Addr} {vs : List Value} {k : Value → List Int} {d : Nat} (hd1 : 1 ≤ d) (h0 : 0 < vs.length) (hp : ∀ v ∈ vs, TS.TupInts s.heap v (k v) ∧ (k v).length = d) (ha : ∀ o, s.heap.get? a = some o → o.cls ≠ .type "tuple") :
    SrtO.SortableO prog w A s a vs fun v u => HT.lexLt (k v) (k u) := by
  intro h' keep
  have hp' : ∀ v ∈ vs, TS.TupInts h' v (k v) ∧ (k v).length = d := fun v hm => ⟨(hp v hm).1.keeps fun b o e c => keep b o (fun z => by subst z; exact ha o e c) e, (hp v hm).2⟩
  obtain ⟨fs, h1, h2, h3⟩ := tups_firsts (k := k) vs fun v hm => ⟨(hp' v hm).1, by rw [(hp' v hm).2]; exact hd1⟩
  refine ⟨tuples' true, fun Q E hq => ?_, tups_cmp hp'⟩
  refine PySem.W.kat_kind (T := .type "int") h1 (by omega) (fun f hm => ?_) (by rfl) ?_
  · obtain ⟨x, t, rfl⟩ := h3 f hm
    exact PySem.W.Looks.now
  · have e : (Value.type "int" != Value.type "tuple") = true := by first | decide +kernel | rfl | decide
    rw [e]
    exact hq
theorem sorted_anyT {l : Addr} {vs : List Value} {k : Value → List Int} {d : Nat} {Q : Value → Shared → Prop} (hd1 : 1 ≤ d) (hl : s.heap.IsList l vs.toArray) (hz : vs.length ≤ sizeLine) (hp : ∀ v ∈ vs, TS.TupInts s.heap v (k v) ∧ (k v).length = d)
    (h : ∀ (h' : Heap) (dd : Addr) (out : List Value), SrtO.Srtd (fun v u => HT.lexLt (k v) (k u)) out → SrtO.Stb (fun v u => HT.lexLt (k v) (k u)) out vs → (∀ b o, s.heap.get? b = some o → h'.get? b = some o) → s.heap.objs.size ≤ dd → (∃ n, h'.get? dd = some (seqObj "list" out.toArray n)) → Q (.ref dd) { s with heap := h' }) :
    wpAny (model prog w) A (call (.builtin "sorted") [.ref l]) Q E s := by
  refine SrtO.sorted_ord (swo_lx k) hl hz (fun h2 h₁ a ha kk => ?_) fun out hs hb => ?_
  · refine tups_sortable (s := { s with heap := h₁ }) hd1 (by omega) (fun v hm => ⟨(hp v hm).1.keeps fun b o e _ => (kk b o e).2, (hp v hm).2⟩) fun o e => ?_
    have e' : some o = some (seqObj "list" vs.toArray 0) := e.symm.trans ha
    cases e'
    intro c
    exact absurd (Value.type.inj c) (by decide)
  · exact h _ _ out hs hb (fun b o e => sortedAll_old e) (Nat.le_succ _) (sortedAll_at s.heap vs out.toArray)
end
/-! ### tuples of ints as data -/
class Tupi (α : Type) extends Py α where
  key : α → List Int
  dec : List Int → α
  dk : ∀ a, dec (key a) = a
  d : Nat
  d1 : 1 ≤ d
  len : ∀ a, (key a).length = d
  isT : ∀ a, Py.enc a = .tuple ((key a).map PyData.int)
instance : Tupi (Int × Int) where
  key := fun p => [p.1, p.2]
  dec := fun l => (l.getD 0 0, l.getD 1 0)
  dk := fun a => rfl
  d := 2
  d1 := by decide
  len := fun a => rfl
  isT := fun a => rfl
instance : Tupi (Int × Int × Int) where
  key := fun p => [p.1, p.2.1, p.2.2]
  dec := fun l => (l.getD 0 0, l.getD 1 0, l.getD 2 0)
  dk := fun a => rfl
  d := 3
  d1 := by decide
  len := fun a => rfl
  isT := fun a => rfl
theorem dpAll_ints {K : PySem.W.Frag} {H : Hp} : ∀ {vs : List V} {ns : List Int}, DpAll K H vs (ns.map PyData.int) → vs = ns.map V.int
  | [], [], _ => rfl
  | [], n :: r, h => nomatch h
  | v :: vs, [], h => nomatch h
  | v :: vs, n :: r, .cons h t => by
    cases h
    rw [dpAll_ints t]
    rfl
theorem ints_dpAll {K : PySem.W.Frag} {H : Hp} : ∀ ns : List Int, DpAll K H (ns.map V.int) (ns.map PyData.int)
  | [] => .nil
  | n :: r => .cons (.int n) (ints_dpAll r)
theorem Tupi.inv {α : Type} [Tupi α] {K : PySem.W.Frag} {H : Hp} {v : V} {a : α} (h : Rep K H v a) : ∃ p, v = .ref p ∧ SqT K H p ((Tupi.key a).map V.int) := by
  have h : Dp K H v (Py.enc a) := h
  rw [Tupi.isT] at h
  cases h with
  | tup h1 t => exact ⟨_, rfl, by rw [← dpAll_ints t]; exact h1⟩
theorem Tupi.rep {α : Type} [Tupi α] {K : PySem.W.Frag} {H : Hp} {p : Addr} {a : α} (h : SqT K H p ((Tupi.key a).map V.int)) : Rep K H (.ref p) a := by
  show Dp K H (.ref p) (Py.enc a)
  rw [Tupi.isT]
  exact Dp.tup h (ints_dpAll _)
abbrev ltK {α : Type} [Tupi α] (a b : α) : Bool := HT.lexLt (Tupi.key a) (Tupi.key b)
/-- the sorted list of xs -/
def IsSorted {α : Type} [Tupi α] (ys xs : List α) : Prop := ys.Perm xs ∧ ys.Pairwise fun a b => ltK b a = false
theorem ltK_eq {α : Type} [Tupi α] {a b : α} (h1 : ltK a b = false) (h2 : ltK b a = false) : a = b := by
  have e := lx_eq (Tupi.key a) (Tupi.key b) (by rw [Tupi.len, Tupi.len]) h1 h2
  rw [← Tupi.dk a, e, Tupi.dk]
theorem sorted_uniq {α : Type} [Tupi α] : ∀ {ys zs : List α}, ys.Pairwise (fun a b => ltK b a = false) → zs.Pairwise (fun a b => ltK b a = false) → ys.Perm zs → ys = zs
  | [], zs, _, _, h => (List.Perm.eq_nil h.symm).symm
  | y :: ys, [], _, _, h => absurd h.length_eq (by simp)
  | y :: ys, z :: zs, h1, h2, h => by
    have e : y = z := by
      have m1 : y ∈ z :: zs := h.mem_iff.mp (List.mem_cons_self ..)
      have m2 : z ∈ y :: ys := h.mem_iff.mpr (List.mem_cons_self ..)
      rcases List.mem_cons.mp m1 with e | m1
      · exact e
      rcases List.mem_cons.mp m2 with e | m2
      · exact e.symm
      exact ltK_eq ((List.pairwise_cons.mp h2).1 _ m1) ((List.pairwise_cons.mp h1).1 _ m2)
    subst e
    rw [sorted_uniq (List.pairwise_cons.mp h1).2 (List.pairwise_cons.mp h2).2 h.cons_inv]
theorem RAll.mem {α : Type} [Py α] {K : PySem.W.Frag} {H : Hp} : ∀ {vs : List V} {as : List α} {x : V}, RAll K H vs as → x ∈ vs → ∃ a, a ∈ as ∧ Rep K H x a
  | _, _, x, .nil, h => absurd h (by simp)
  | _, _, x, .cons r t, h => by
    rcases List.mem_cons.mp h with e | h
    · subst e
      exact ⟨_, List.mem_cons_self .., r⟩
    · obtain ⟨a, m, r⟩ := t.mem h
      exact ⟨a, List.mem_cons_of_mem _ m, r⟩
theorem RAll.map_dec {α : Type} [Tupi α] {K : PySem.W.Frag} {H : Hp} {k : V → List Int} : ∀ {vs : List V} {as : List α}, RAll K H vs as → (∀ x ∈ vs, ∀ a : α, Rep K H x a → k x = Tupi.key a) → vs.map (fun v => (Tupi.dec (k v) : α)) = as
  | _, _, .nil, _ => rfl
  | _, _, .cons r t, h => by
    rw [List.map_cons, h _ (List.mem_cons_self ..) _ r, Tupi.dk, t.map_dec fun x m => h x (List.mem_cons_of_mem _ m)]
theorem RAll.of_dec {α : Type} [Tupi α] {K : PySem.W.Frag} {H : Hp} {k : V → List Int} : ∀ {vs : List V}, (∀ x ∈ vs, ∃ a : α, Rep K H x a ∧ k x = Tupi.key a) → RAll K H vs (vs.map fun v => (Tupi.dec (k v) : α))
  | [], _ => .nil
  | v :: vs, h => by
    obtain ⟨a, r, e⟩ := h v (List.mem_cons_self ..)
    refine .cons ?_ (RAll.of_dec fun x m => h x (List.mem_cons_of_mem _ m))
    show Rep K H v (Tupi.dec (k v))
    rw [e, Tupi.dk]
    exact r
/-- sorted(xs): xs a list of such tuples -/
def rSortedA (K : PySem.W.Frag) (α : Type) [Tupi α] : List V → Hp → VK → Prop := fun vs H Q => ∃ (a : Addr) (xs : List V) (as : List α), vs = [V.ref a] ∧ SqL K H a xs ∧ RAll K H xs as ∧
  ∀ (ys : List V) (bs : List α) p, H p = none → RAll K (upd H p (.lst ys)) ys bs → IsSorted bs as → Q (.ref p) (upd H p (.lst ys))
section
variable {X : Cx}
open Classical in
theorem cr_sortedA {α : Type} [Tupi α] : CallR X (.builtin "sorted") (rSortedA X.K α) := by
  intro pins s σ H vs us Q I r h
  obtain ⟨a, xs, as, rfl, hs, ha, q⟩ := h
  obtain ⟨its, rv, hl, hz⟩ := I.list hs
  obtain ⟨u, rfl, ru⟩ := vals1 r
  obtain rfl : u = Value.ref a := ru
  obtain ⟨e1, e2⟩ := refs_back rv fun x m => by
    obtain ⟨a, _, hr⟩ := ha.mem m
    obtain ⟨p, e, _⟩ := Tupi.inv hr
    exact ⟨p, e⟩
  let k : V → List Int := fun v => if h : ∃ b : α, Rep X.K H v b then Tupi.key h.choose else []
  have kk : ∀ (v : V) (b : α), Rep X.K H v b → k v = Tupi.key b := fun v b hb => by
    have h : ∃ b : α, Rep X.K H v b := ⟨b, hb⟩
    show (if h : ∃ b : α, Rep X.K H v b then Tupi.key h.choose else []) = _
    rw [dif_pos h]
    obtain ⟨p, e, h1⟩ := Tupi.inv h.choose_spec
    obtain ⟨p', e', h2⟩ := Tupi.inv hb
    subst e
    cases e'
    have e3 := I.tuple_inj h1 h2
    have inj : ∀ {l m : List Int}, l.map V.int = m.map V.int → l = m := fun {l m} e => by
      have := List.map_inj_right (f := V.int) (fun x y z => by cases z; rfl) |>.mp e
      exact this
    exact inj e3
  refine sorted_anyT (k := fun u => k (backV u)) (Tupi.d1 (α := α)) hl.isList (by rw [← rv.length]; exact hz) (fun v hv => ?_) fun h' d out h1 h2 kp hd hn => ?_
  · obtain ⟨t, rfl⟩ := e2 v hv
    have hm : V.ref t ∈ xs := by rw [e1]; exact List.mem_map.mpr ⟨_, hv, rfl⟩
    obtain ⟨b, _, hb⟩ := ha.mem hm
    obtain ⟨p, e, ht⟩ := Tupi.inv hb
    cases e
    show TS.TupInts s.heap (.ref t) (k (.ref t)) ∧ (k (.ref t)).length = _
    rw [kk _ b hb]
    exact ⟨tupI_raw I ht, Tupi.len b⟩
  · have h3 : ∀ u ∈ out, ∃ a, u = Value.ref a := fun u hu => e2 u (h2.perm.mem_iff.mp hu)
    obtain ⟨n, hn⟩ := hn
    have hperm : (out.map backV).Perm xs := by
      rw [e1]
      exact h2.perm.map backV
    have hfree : H d = none := I.hok.fresh hd
    have hlen : (out.map backV).length ≤ sizeLine := by
      rw [hperm.length_eq]
      exact hz
    have ex : Evl.Ex H (upd H d (.lst (out.map backV))) := Evl.Ex.new hfree
    have all : ∀ x ∈ out.map backV, ∃ b : α, Rep X.K H x b ∧ k x = Tupi.key b := fun x m => by
      obtain ⟨b, _, hb⟩ := ha.mem (hperm.mem_iff.mp m)
      exact ⟨b, hb, kk x b hb⟩
    refine ⟨.ref d, upd H d (.lst (out.map backV)), I.laid (t' := s.toks) kp hd ⟨hlen, out, n, vals_back h3, hn⟩, rfl, q _ ((out.map backV).map fun v => Tupi.dec (k v)) d hfree ?_ ⟨?_, ?_⟩⟩
    · exact (RAll.of_dec all).ex ex
    · have e := ha.map_dec (k := k) (fun x _ a hr => kk x a hr)
      rw [← e]
      exact hperm.map _
    · have h5 : (out.map backV).Pairwise fun x y => HT.lexLt (k y) (k x) = false := List.pairwise_map.mpr (show out.Pairwise (fun x y => HT.lexLt (k (backV y)) (k (backV x)) = false) from h1)
      refine List.pairwise_map.mpr (h5.imp_of_mem ?_)
      intro x y hx hy hxy
      obtain ⟨b, _, eb⟩ := all x hx
      obtain ⟨c, _, ec⟩ := all y hy
      show HT.lexLt (Tupi.key (Tupi.dec (k y) : α)) (Tupi.key (Tupi.dec (k x) : α)) = false
      rw [eb, ec, Tupi.dk, Tupi.dk, ← eb, ← ec]
      exact hxy
end
end My

-- SrR
namespace My
open PySem PyProof.Rows L2
section
variable {prog : Program} {w : World} {A : Around} {E : Value → Shared → Prop} {s : Shared}
theorem sorted_anyTR {l : Addr} {vs : List Value} {k : Value → List Int} {d : Nat} {Q : Value → Shared → Prop} (hd1 : 1 ≤ d) (hl : s.heap.IsList l vs.toArray) (hz : vs.length ≤ sizeLine) (hp : ∀ v ∈ vs, TS.TupInts s.heap v (k v) ∧ (k v).length = d)
    (h : ∀ (h' : Heap) (dd : Addr) (out : List Value), SrtO.Srtd (fun v u => HT.lexLt (k v) (k u)) out → SrtO.Stb (fun v u => HT.lexLt (k v) (k u)) out vs.reverse → (∀ b o, s.heap.get? b = some o → h'.get? b = some o) → s.heap.objs.size ≤ dd → (∃ n, h'.get? dd = some (seqObj "list" out.reverse.toArray n)) → Q (.ref dd) { s with heap := h' }) :
    wpAny (model prog w) A (call (.builtin "sorted") [.ref l] [(Str.ofString "reverse", .bool true)]) Q E s := by
  refine SrtR.sorted_ordK (b := true) (fun _ => rfl) (args_sorted_rev _ _) (fun _ => args_list_sort_rev _ _) (swo_lx k) hl hz (fun h2 h₁ a ha kk => ?_) fun out hs hb => ?_
  · refine tups_sortable (s := { s with heap := h₁ }) hd1 (by omega) (fun v hm => ⟨(hp v hm).1.keeps fun b o e _ => (kk b o e).2, (hp v hm).2⟩) fun o e => ?_
    have e' : some o = some (seqObj "list" vs.toArray 0) := e.symm.trans ha
    cases e'
    intro c
    exact absurd (Value.type.inj c) (by decide)
  · refine h _ _ out hs hb (fun b o e => sortedAll_old e) (Nat.le_succ _) ?_
    have := sortedAll_at s.heap vs (if true = true then out.toArray.reverse else out.toArray)
    simpa using this
end
/-- sorted(xs, reverse=True): xs a list of such tuples -/
def rSortedRA (K : PySem.W.Frag) (α : Type) [Tupi α] : List V → List V → Hp → VK → Prop := fun vs zs H Q => ∃ (a : Addr) (xs : List V) (as : List α), vs = [V.ref a] ∧ zs = [.bl true] ∧ SqL K H a xs ∧ RAll K H xs as ∧
  ∀ (ys : List V) (bs : List α) p, H p = none → RAll K (upd H p (.lst ys)) ys bs → IsSorted bs.reverse as → Q (.ref p) (upd H p (.lst ys))
section
variable {X : Cx}
open Classical in
theorem cr_sortedRA {α : Type} [Tupi α] : CallRK X (.builtin "sorted") [Str.ofString "reverse"] (rSortedRA X.K α) := by
  intro pins s σ H vs zs us ws Q I r rz h
  obtain ⟨a, xs, as, rfl, rfl, hs, ha, q⟩ := h
  obtain ⟨its, rv, hl, hz⟩ := I.list hs
  obtain ⟨u, rfl, ru⟩ := vals1 r
  obtain rfl : u = Value.ref a := ru
  obtain ⟨w1, rfl, e0⟩ := vals1 rz
  obtain rfl : w1 = Value.bool true := e0
  obtain ⟨e1, e2⟩ := refs_back rv fun x m => by
    obtain ⟨a, _, hr⟩ := ha.mem m
    obtain ⟨p, e, _⟩ := Tupi.inv hr
    exact ⟨p, e⟩
  let k : V → List Int := fun v => if h : ∃ b : α, Rep X.K H v b then Tupi.key h.choose else []
  have kk : ∀ (v : V) (b : α), Rep X.K H v b → k v = Tupi.key b := fun v b hb => by
    have h : ∃ b : α, Rep X.K H v b := ⟨b, hb⟩
    show (if h : ∃ b : α, Rep X.K H v b then Tupi.key h.choose else []) = _
    rw [dif_pos h]
    obtain ⟨p, e, h1⟩ := Tupi.inv h.choose_spec
    obtain ⟨p', e', h2⟩ := Tupi.inv hb
    subst e
    cases e'
    have e3 := I.tuple_inj h1 h2
    have inj : ∀ {l m : List Int}, l.map V.int = m.map V.int → l = m := fun {l m} e => by
      have := List.map_inj_right (f := V.int) (fun x y z => by cases z; rfl) |>.mp e
      exact this
    exact inj e3
  refine sorted_anyTR (k := fun u => k (backV u)) (Tupi.d1 (α := α)) hl.isList (by rw [← rv.length]; exact hz) (fun v hv => ?_) fun h' d out h1 h2 kp hd hn => ?_
  · obtain ⟨t, rfl⟩ := e2 v hv
    have hm : V.ref t ∈ xs := by rw [e1]; exact List.mem_map.mpr ⟨_, hv, rfl⟩
    obtain ⟨b, _, hb⟩ := ha.mem hm
    obtain ⟨p, e, ht⟩ := Tupi.inv hb
    cases e
    show TS.TupInts s.heap (.ref t) (k (.ref t)) ∧ (k (.ref t)).length = _
    rw [kk _ b hb]
    exact ⟨tupI_raw I ht, Tupi.len b⟩
  · have h3 : ∀ u ∈ out, ∃ a, u = Value.ref a := fun u hu => e2 u (List.mem_reverse.mp (h2.perm.mem_iff.mp hu))
    obtain ⟨n, hn⟩ := hn
    have hperm : (out.map backV).Perm xs := by
      rw [e1]
      exact (h2.perm.trans (List.reverse_perm _)).map backV
    have hfree : H d = none := I.hok.fresh hd
    have hlen : (out.map backV).length ≤ sizeLine := by
      rw [hperm.length_eq]
      exact hz
    have ex : Evl.Ex H (upd H d (.lst (out.reverse.map backV))) := Evl.Ex.new hfree
    have all : ∀ x ∈ out.map backV, ∃ b : α, Rep X.K H x b ∧ k x = Tupi.key b := fun x m => by
      obtain ⟨b, _, hb⟩ := ha.mem (hperm.mem_iff.mp m)
      exact ⟨b, hb, kk x b hb⟩
    refine ⟨.ref d, upd H d (.lst (out.reverse.map backV)), I.laid (t' := s.toks) kp hd ⟨by rw [List.map_reverse, List.length_reverse]; exact hlen, out.reverse, n, vals_back (fun u hu => h3 u (List.mem_reverse.mp hu)), hn⟩, rfl, q _ ((out.reverse.map backV).map fun v => Tupi.dec (k v)) d hfree ?_ ?_⟩
    rotate_left
    rw [List.map_reverse, List.map_reverse, List.reverse_reverse]
    refine ⟨?_, ?_⟩
    rotate_right
    · refine (RAll.of_dec fun x m => all x ?_).ex ex
      rw [List.map_reverse] at m
      exact List.mem_reverse.mp m
    · have e := ha.map_dec (k := k) (fun x _ a hr => kk x a hr)
      rw [← e]
      exact hperm.map _
    · have h5 : (out.map backV).Pairwise fun x y => HT.lexLt (k y) (k x) = false := List.pairwise_map.mpr (show out.Pairwise (fun x y => HT.lexLt (k (backV y)) (k (backV x)) = false) from h1)
      refine List.pairwise_map.mpr (h5.imp_of_mem ?_)
      intro x y hx hy hxy
      obtain ⟨b, _, eb⟩ := all x hx
      obtain ⟨c, _, ec⟩ := all y hy
      show HT.lexLt (Tupi.key (Tupi.dec (k y) : α)) (Tupi.key (Tupi.dec (k x) : α)) = false
      rw [eb, ec, Tupi.dk, Tupi.dk, ← eb, ← ec]
      exact hxy
end
end My

-- Ev
namespace My
open PySem L2 Evl
theorem walk_enumT {K : PySem.W.Frag} {a : Addr} {xs : List V} : Walk (IteT K a) xs.length (fun H => SqT K H a xs) (YPair (fun i => some (.int (i : Nat))) (fun i => xs[i]?)) := by
  refine ⟨fun i _ hi q => ⟨xs, xs[i], q, by simp [hi]⟩, fun _ q => ⟨xs, q, Nat.le_refl _⟩, fun i H v H' _ q y => ?_⟩
  obtain ⟨T, x, h1, h2, h3, h4⟩ := y
  exact ⟨T, .int (i : Nat), x, h1, h2, h3, rfl, h4 xs q⟩
theorem tyX_t {K : PySem.W.Frag} {H : Hp} {a : Addr} {xs : List V} (h : SqT K H a xs) : TyX K H (.ref a) (.type "tuple") := by
  rcases h with (h | ⟨o, h⟩) | ⟨o, its, n, h, hc, _⟩
  · exact .base (.tup h)
  · exact .fTuple h
  · exact .kTuple h hc
/-- v: a list of its own, made behind H, with what bs says -/
def NewL {β : Type} [Py β] (K : PySem.W.Frag) (H H2 : Hp) (v : V) (bs : List β) : Prop := ∃ p ys, v = .ref p ∧ H p = none ∧ H2 p = some (.lst ys) ∧ RAll K H2 ys bs
theorem NewL.rep {β : Type} [Py β] {K : PySem.W.Frag} {H H2 : Hp} {v : V} {bs : List β} (h : NewL K H H2 v bs) : Rep K H2 v bs := by
  obtain ⟨p, ys, rfl, _, h1, h2⟩ := h
  exact Rep.lst (sq_of h1) h2
theorem RAll.snoc {α : Type} [Py α] {K : PySem.W.Frag} {H : Hp} {vs : List V} {as : List α} {v : V} {a : α} (h : RAll K H vs as) (r : Rep K H v a) : RAll K H (vs ++ [v]) (as ++ [a]) := h.append (.cons r .nil)
theorem take_get {α : Type} {as : List α} {i : Nat} {a : α} (h : as[i]? = some a) : as.take (i + 1) = as.take i ++ [a] := by
  rw [List.take_add_one, h]
  rfl
/-! ### data without lists: no list's change is seen in it -/
mutual
def tOnly : PyData → Bool
  | .list _ => false
  | .dict _ => false
  | .tuple xs => tOnlyAll xs
  | _ => true
def tOnlyAll : List PyData → Bool
  | [] => true
  | x :: xs => tOnly x && tOnlyAll xs
end
mutual
theorem Dp.updL {K : PySem.W.Frag} {H : Hp} {D : Addr} {ys : List V} {o : HO} (hD : H D = some (.lst ys)) : ∀ {v : V} {d : PyData}, tOnly d = true → Dp K H v d → Dp K (upd H D o) v d
  | _, _, _, .non => .non
  | _, _, _, .bl b => .bl b
  | _, _, _, .int i => .int i
  | _, _, _, .str x => .str x
  | _, _, h, .lst _ _ => by simp [tOnly] at h
  | _, _, h, .tup hs t => by
    refine .tup ?_ (Dp.updLAll hD (by simpa [tOnly] using h) t)
    rcases hs with (h1 | ⟨ob, h1⟩) | h1
    · exact .inl (.inl (by rw [upd_ne (fun e => by rw [e, hD] at h1; cases h1)]; exact h1))
    · exact .inl (.inr ⟨ob, by rw [upd_ne (fun e => by rw [e, hD] at h1; cases h1)]; exact h1⟩)
    · exact .inr h1
theorem Dp.updLAll {K : PySem.W.Frag} {H : Hp} {D : Addr} {ys : List V} {o : HO} (hD : H D = some (.lst ys)) : ∀ {vs : List V} {ds : List PyData}, tOnlyAll ds = true → DpAll K H vs ds → DpAll K (upd H D o) vs ds
  | _, _, _, .nil => .nil
  | _, d :: ds, h, .cons h1 t => by
    have h' : tOnly d = true ∧ tOnlyAll ds = true := by simpa [tOnlyAll] using h
    exact .cons (Dp.updL hD h'.1 h1) (Dp.updLAll hD h'.2 t)
end
/-- what a datum stands on is kept -/
def isData : HO → Bool
  | .lst _ => true
  | .tup _ => true
  | .frz _ _ => true
  | _ => false
def Keep (H H' : Hp) : Prop := ∀ a o, isData o = true → H a = some o → H' a = some o
mutual
theorem Dp.keep {K : PySem.W.Frag} {H H' : Hp} (e : Keep H H') : ∀ {v : V} {d : PyData}, Dp K H v d → Dp K H' v d
  | _, _, .non => .non
  | _, _, .bl b => .bl b
  | _, _, .int i => .int i
  | _, _, .str x => .str x
  | _, _, .lst h t => .lst (by
      rcases h with (h | ⟨o, h⟩) | h
      · exact .inl (.inl (e _ _ rfl h))
      · exact .inl (.inr ⟨o, e _ _ rfl h⟩)
      · exact .inr h) (Dp.keepAll e t)
  | _, _, .tup h t => .tup (by
      rcases h with (h | ⟨o, h⟩) | h
      · exact .inl (.inl (e _ _ rfl h))
      · exact .inl (.inr ⟨o, e _ _ rfl h⟩)
      · exact .inr h) (Dp.keepAll e t)
theorem Dp.keepAll {K : PySem.W.Frag} {H H' : Hp} (e : Keep H H') : ∀ {vs : List V} {ds : List PyData}, DpAll K H vs ds → DpAll K H' vs ds
  | _, _, .nil => .nil
  | _, _, .cons h t => .cons (Dp.keep e h) (Dp.keepAll e t)
end
theorem Rep.keep {α : Type} [Py α] {K : PySem.W.Frag} {H H' : Hp} {v : V} {a : α} (e : Keep H H') (h : Rep K H v a) : Rep K H' v a := Dp.keep e h
theorem RAll.keep {α : Type} [Py α] {K : PySem.W.Frag} {H H' : Hp} (e : Keep H H') : ∀ {vs : List V} {as : List α}, RAll K H vs as → RAll K H' vs as
  | _, _, .nil => .nil
  | _, _, .cons h t => .cons (h.keep e) (t.keep e)
/-- a thing that is no datum is changed -/
theorem Keep.upd {H : Hp} {p : Addr} {u o : HO} (h : H p = some u) (d : isData u = false) : Keep H (upd H p o) := fun a x hx hd => by
  have n : a ≠ p := fun e => by
    rw [e, h] at hd
    cases hd
    rw [d] at hx
    cases hx
  rw [upd_ne n]
  exact hd
theorem Keep.of {H H' : Hp} (e : Ex H H') : Keep H H' := fun a o _ h => e a o h
theorem Keep.trans {H H1 H2 : Hp} (x : Keep H H1) (y : Keep H1 H2) : Keep H H2 := fun a o d h => y a o d (x a o d h)
theorem kp_l {K : PySem.W.Frag} {H H' : Hp} {a : Addr} {xs : List V} (e : Keep H H') (h : SqL K H a xs) : SqL K H' a xs := by
  rcases h with (h | ⟨o, h⟩) | h
  · exact .inl (.inl (e _ _ rfl h))
  · exact .inl (.inr ⟨o, e _ _ rfl h⟩)
  · exact .inr h
theorem kp_t {K : PySem.W.Frag} {H H' : Hp} {a : Addr} {xs : List V} (e : Keep H H') (h : SqT K H a xs) : SqT K H' a xs := by
  rcases h with (h | ⟨o, h⟩) | h
  · exact .inl (.inl (e _ _ rfl h))
  · exact .inl (.inr ⟨o, e _ _ rfl h⟩)
  · exact .inr h
class TOnly (α : Type) [Py α] : Prop where
  t : ∀ a : α, tOnly (Py.enc a) = true
instance : TOnly Int := ⟨fun _ => rfl⟩
instance : TOnly (Int × Int) := ⟨fun _ => rfl⟩
instance : TOnly (Int × Int × Int) := ⟨fun _ => rfl⟩
instance : TOnly (Int × Int × Int × Int) := ⟨fun _ => rfl⟩
instance {α : Type} [Py α] [TOnly α] : TOnly (Tp α) := ⟨fun a => by
  show tOnlyAll (a.l.map Py.enc) = true
  induction a.l with
  | nil => rfl
  | cons x xs ih => simp [tOnlyAll, ih, TOnly.t x]⟩
theorem Rep.updL {α : Type} [Py α] [TOnly α] {K : PySem.W.Frag} {H : Hp} {D : Addr} {ys : List V} {o : HO} {v : V} {a : α} (hD : H D = some (.lst ys)) (h : Rep K H v a) : Rep K (upd H D o) v a := Dp.updL hD (TOnly.t a) h
theorem RAll.updL {α : Type} [Py α] [TOnly α] {K : PySem.W.Frag} {H : Hp} {D : Addr} {ys : List V} {o : HO} (hD : H D = some (.lst ys)) : ∀ {vs : List V} {as : List α}, RAll K H vs as → RAll K (upd H D o) vs as
  | _, _, .nil => .nil
  | _, _, .cons h t => .cons (h.updL hD) (t.updL hD)
/-- a comprehension: what it makes, by what each item is worth -/
theorem lc_rep {α β : Type} [Py β] [TOnly β] {K : PySem.W.Frag} {J : It} {n : Nat} {G : Hp → Prop} {Y : Nat → Hp → V → Hp → Prop} (w : Walk J n G Y) {g : TG} {tt : TT} {te : TE} {vs : List Nat} {σ : L2.St} {H1 : Hp} {D : Addr} {Qd : Hp → Prop} (hD : H1 D = none) (σw : L2.St) (hw : wipe σ vs = σw)
    (hGe : ∀ Ha Hb, Ex Ha Hb → G Ha → G Hb) (hG : G H1) (as : List α) (f : α → Bool) (F : α → β) (hl : as.length = n) (hn : n ≤ 100000)
    (hs : ∀ i a x Ha Hb, as[i]? = some a → Ex H1 Ha → Y i Ha x Hb → ∀ (R0 : Hp → Prop) (R : V → Hp → Prop), (∀ H4, Ex Ha H4 → f a = false → R0 H4) → (∀ y H4, Ex Ha H4 → f a = true → Rep K H4 y (F a) → R y H4) →
      g x σw Hb fun σ2 H2 => wipe σ2 vs = σw ∧ tt σ2 H2 fun b H3 => if b = true then te σ2 H3 (fun y H4 => R y H4) else R0 H3)
    (hd : ∀ ys H', Ex H1 H' → H' D = some (.lst ys) → RAll K H' ys ((as.filter f).map F) → Qd H') :
    ∃ W : Nat → Nat → Hp → Prop, (∃ m, W 0 m (upd H1 D (.lst []))) ∧ ∀ i m H, W i m H →
      (J.stop i H ∧ Qd H) ∨ (J.go i H ∧ ∃ Nx : Hp → Prop, (∀ H', Nx H' → ∃ m', m' < m ∧ W (i + 1) m' H') ∧ ∀ x H', J.yld i H x H' → g x (wipe σ vs) H' fun σ2 H2 => wipe σ2 vs = wipe σ vs ∧ tt σ2 H2 fun b H3 =>
        if b = true then te σ2 H3 fun y H4 => ∃ acc, H4 D = some (.lst acc) ∧ acc.length < sizeLine ∧ Nx (upd H4 D (.lst (acc ++ [y]))) else Nx H3) := by
  subst hw
  refine lc_it w (fun i H => Ex H1 H ∧ ∃ ys, H D = some (.lst ys) ∧ ys.length ≤ i ∧ RAll K H ys (((as.take i).filter f).map F)) ⟨Ex.new hD, [], upd_same, Nat.le_refl _, .nil⟩ (fun i H _ p => hGe _ _ p.1 hG) ?_ ?_
  · rintro i x Ha Hb hi ⟨e, ys, hy, hlen, hr⟩ y
    have hi' : i < as.length := by omega
    have ha := List.getElem?_eq_getElem hi'
    refine hs i as[i] x Ha Hb ha e y _ _ (fun H4 e4 hf => ?_) (fun v H4 e4 hf hv => ?_)
    · refine ⟨e.trans e4, ys, e4 _ _ hy, by omega, ?_⟩
      rw [take_get ha, List.filter_append, List.filter_cons, if_neg (by rw [hf]; decide)]
      simpa using hr.ex e4
    · refine ⟨ys, e4 _ _ hy, sz_lt (by omega), Ex.mut (e.trans e4) hD, ys ++ [v], upd_same, by simp; omega, ?_⟩
      rw [take_get ha, List.filter_append, List.filter_cons, if_pos hf, List.map_append]
      exact RAll.updL (e4 _ _ hy) ((hr.ex e4).snoc hv)
  · rintro H ⟨e, ys, hy, _, hr⟩
    rw [← hl, List.take_length] at hr
    exact hd ys H e hy hr
/-- the same where each item is a value told at once (a number, True, False) -/
theorem lc_val {α : Type} {J : It} {n : Nat} {G : Hp → Prop} {Y : Nat → Hp → V → Hp → Prop} (w : Walk J n G Y) {g : TG} {tt : TT} {te : TE} {vs : List Nat} {σ : L2.St} {H1 : Hp} {D : Addr} {Qd : Hp → Prop} (hD : H1 D = none) (σw : L2.St) (hw : wipe σ vs = σw)
    (hGe : ∀ Ha Hb, Ex Ha Hb → G Ha → G Hb) (hG : G H1) (as : List α) (f : α → Bool) (F : α → V) (hl : as.length = n) (hn : n ≤ 100000)
    (hs : ∀ i a x Ha Hb, as[i]? = some a → Ex H1 Ha → Y i Ha x Hb → ∀ (R0 : Hp → Prop) (R : V → Hp → Prop), (∀ H4, Ex Ha H4 → f a = false → R0 H4) → (∀ H4, Ex Ha H4 → f a = true → R (F a) H4) →
      g x σw Hb fun σ2 H2 => wipe σ2 vs = σw ∧ tt σ2 H2 fun b H3 => if b = true then te σ2 H3 (fun y H4 => R y H4) else R0 H3)
    (hd : ∀ H', Ex H1 H' → H' D = some (.lst ((as.filter f).map F)) → Qd H') :
    ∃ W : Nat → Nat → Hp → Prop, (∃ m, W 0 m (upd H1 D (.lst []))) ∧ ∀ i m H, W i m H →
      (J.stop i H ∧ Qd H) ∨ (J.go i H ∧ ∃ Nx : Hp → Prop, (∀ H', Nx H' → ∃ m', m' < m ∧ W (i + 1) m' H') ∧ ∀ x H', J.yld i H x H' → g x (wipe σ vs) H' fun σ2 H2 => wipe σ2 vs = wipe σ vs ∧ tt σ2 H2 fun b H3 =>
        if b = true then te σ2 H3 fun y H4 => ∃ acc, H4 D = some (.lst acc) ∧ acc.length < sizeLine ∧ Nx (upd H4 D (.lst (acc ++ [y]))) else Nx H3) := by
  subst hw
  refine lc_it w (fun i H => Ex H1 H ∧ H D = some (.lst (((as.take i).filter f).map F))) ⟨Ex.new hD, upd_same⟩ (fun i H _ p => hGe _ _ p.1 hG) ?_ ?_
  · rintro i x Ha Hb hi ⟨e, hy⟩ y
    have hi' : i < as.length := by omega
    have ha := List.getElem?_eq_getElem hi'
    refine hs i as[i] x Ha Hb ha e y _ _ (fun H4 e4 hf => ?_) (fun H4 e4 hf => ?_)
    · refine ⟨e.trans e4, ?_⟩
      rw [take_get ha, List.filter_append, List.filter_cons, if_neg (by rw [hf]; decide)]
      simpa using e4 _ _ hy
    · refine ⟨_, e4 _ _ hy, sz_lt ?_, Ex.mut (e.trans e4) hD, ?_⟩
      · have h1 := List.length_filter_le f (as.take i)
        rw [List.length_take] at h1
        rw [List.length_map]
        omega
      · rw [take_get ha, List.filter_append, List.filter_cons, if_pos hf, List.map_append]
        exact upd_same
  · rintro H ⟨e, hy⟩
    rw [← hl, List.take_length] at hy
    exact hd H e hy
theorem filter_true {α : Type} (as : List α) : as.filter (fun _ => true) = as := List.filter_eq_self.mpr fun _ _ => rfl
/-! ### attributes of an instance, as a written list -/
theorem lk_ne {f g : Str} {v : V} {r : List (Str × V)} (h : (f == g) = false) : List.lookup f ((g, v) :: r) = List.lookup f r := by
  show (match f == g with | true => some v | false => List.lookup f r) = _
  rw [h]
theorem lk_eq {f : Str} {v : V} {r : List (Str × V)} : List.lookup f ((f, v) :: r) = some v := by
  show (match f == f with | true => some v | false => List.lookup f r) = _
  rw [show (f == f) = true from beq_self_eq_true f]
theorem putF_new {f : Str} {v : V} : ∀ {fs : List (Str × V)} (ns : List Str), fs.map (·.1) = ns → ns.contains f = false → putF f v fs = fs ++ [(f, v)]
  | [], _, _, _ => rfl
  | (g, x) :: r, ns, hn, h => by
    subst hn
    have h' : (f == g) = false ∧ (r.map (·.1)).contains f = false := by simpa [List.contains_cons] using h
    have hne : ¬ g = f := fun e => by rw [e, beq_self_eq_true f] at h'; cases h'.1
    show (if g = f then (g, v) :: r else (g, x) :: putF f v r) = _
    rw [if_neg hne, putF_new _ rfl h'.2]
    rfl
theorem putF_old {f : Str} {v x : V} {pre post : List (Str × V)} (ns : List Str) (hn : pre.map (·.1) = ns) (h : ns.contains f = false) : putF f v (pre ++ (f, x) :: post) = pre ++ (f, v) :: post := by
  subst hn
  induction pre with
  | nil =>
    show (if f = f then (f, v) :: post else _) = _
    rw [if_pos rfl]
    rfl
  | cons p r ih =>
    obtain ⟨g, y⟩ := p
    have h' : (f == g) = false ∧ (r.map (·.1)).contains f = false := by simpa [List.contains_cons] using h
    have hne : ¬ g = f := fun e => by rw [e, beq_self_eq_true f] at h'; cases h'.1
    show (if g = f then _ else (g, y) :: putF f v (r ++ (f, x) :: post)) = _
    rw [if_neg hne, ih h'.2]
    rfl
theorem dp_tup_inv {K : PySem.W.Frag} {H : Hp} {v : V} {ds : List PyData} (h : Dp K H v (.tuple ds)) : ∃ p vs, v = .ref p ∧ SqT K H p vs ∧ DpAll K H vs ds := by
  cases h with
  | tup a b => exact ⟨_, _, rfl, a, b⟩
theorem dpAll_get {K : PySem.W.Frag} {H : Hp} : ∀ {vs : List V} {ds : List PyData} {i : Nat} {x : V}, DpAll K H vs ds → vs[i]? = some x → ∃ d, ds[i]? = some d ∧ Dp K H x d
  | _, _, _, _, .nil, e => by simp at e
  | _, _, 0, _, .cons r _, e => by
    simp at e
    subst e
    exact ⟨_, rfl, r⟩
  | _, _, i + 1, x, .cons _ t, e => by
    obtain ⟨u, h1, h2⟩ := dpAll_get (i := i) (x := x) t (by simpa using e)
    exact ⟨u, by simpa using h1, h2⟩
theorem dpAll_len {K : PySem.W.Frag} {H : Hp} : ∀ {vs : List V} {ds : List PyData}, DpAll K H vs ds → vs.length = ds.length
  | _, _, .nil => rfl
  | _, _, .cons _ t => congrArg (· + 1) (dpAll_len t)
theorem walk_zipT {K : PySem.W.Frag} {a b : Addr} {xs ys : List V} {n : Nat} (hn : n = min xs.length ys.length) : Walk (RZ.ItzT K a b) n (fun H => SqT K H a xs ∧ SqT K H b ys) (YPair (fun i => xs[i]?) (fun i => ys[i]?)) := by
  subst hn
  refine ⟨fun i _ hi q => ?_, fun _ q => ⟨xs, ys, q.1, q.2, by omega⟩, fun i H v H' _ q y => ?_⟩
  · have h1 : i < xs.length := by omega
    have h2 : i < ys.length := by omega
    exact ⟨xs, ys, xs[i], ys[i], q.1, q.2, by simp [h1], by simp [h2]⟩
  · obtain ⟨T, x, z, h1, h2, h3, h4, h5⟩ := y
    exact ⟨T, x, z, h1, h2, h3, h4 xs q.1, h5 ys q.2⟩
/-- the inner walk of a comprehension with two fors -/
theorem in_it {J : It} {n : Nat} {G : Hp → Prop} {Y : Nat → Hp → V → Hp → Prop} (w : Walk J n G Y) {H : Hp} {Nx : Hp → Prop} {Body : V → Hp → (Hp → Prop) → Prop} (Pv : Nat → Hp → Prop) (h0 : Pv 0 H) (hG : ∀ i H, i ≤ n → Pv i H → G H)
    (hs : ∀ i x Ha Hb, i < n → Pv i Ha → Y i Ha x Hb → Body x Hb (Pv (i + 1))) (hd : ∀ H, Pv n H → Nx H) :
    ∃ W1 : Nat → Nat → Hp → Prop, (∃ m, W1 0 m H) ∧ ∀ j k H, W1 j k H →
      (J.stop j H ∧ Nx H) ∨ (J.go j H ∧ ∃ Nx1 : Hp → Prop, (∀ H', Nx1 H' → ∃ k', k' < k ∧ W1 (j + 1) k' H') ∧ ∀ x H', J.yld j H x H' → Body x H' Nx1) := by
  refine ⟨fun i m H => m = n - i ∧ i ≤ n ∧ Pv i H, ⟨n, by simp, Nat.zero_le _, h0⟩, ?_⟩
  rintro i m H ⟨rfl, hi, p⟩
  have q := hG i H hi p
  by_cases hlt : i < n
  · exact .inr ⟨w.goes i H hlt q, Pv (i + 1), fun H' p' => ⟨n - (i + 1), by omega, rfl, hlt, p'⟩, fun x H' y => hs i x H H' hlt p (w.yields i H x H' hlt q y)⟩
  · have e : i = n := by omega
    subst e
    exact .inl ⟨w.stops H q, hd H p⟩
/-- [F a b for a in as for b in bs a] -/
theorem lc2_rep {α β γ : Type} [Py γ] [TOnly γ] {K : PySem.W.Frag} {J : It} {n : Nat} {G : Hp → Prop} {Y : Nat → Hp → V → Hp → Prop} (w : Walk J n G Y) {g g1 : TG} {tt tt1 : TT} {wi1 : TI} {te : TE} {vs vs1 : List Nat} {σ : L2.St} {H1 : Hp} {D : Addr} {Qd : Hp → Prop} (hD : H1 D = none) (σw : L2.St) (hw : wipe σ vs = σw)
    (hGe : ∀ Ha Hb, Ex Ha Hb → G Ha → G Hb) (hG : G H1) (as : List α) (bs : α → List β) (F : α → β → γ) (hl : as.length = n) (hn : (as.flatMap fun a => (bs a).map (F a)).length ≤ 100000)
    (hs : ∀ i a x Ha Hb, as[i]? = some a → Ex H1 Ha → Y i Ha x Hb → ∀ (R0 : Hp → Prop) (R : It → L2.St → Hp → Prop),
      (∀ J1 σ2 H4 n1 G1 Y1 σv, wipe σ2 vs1 = σv → Walk J1 n1 G1 Y1 → Ex Ha H4 → (∀ Hc, Ex H1 Hc → G1 Hc) → (bs a).length = n1 →
        (∀ j b x' Hc Hd, (bs a)[j]? = some b → Ex H1 Hc → Y1 j Hc x' Hd → ∀ (R02 : Hp → Prop) (R2 : V → Hp → Prop), (∀ y H7, Ex Hc H7 → Rep K H7 y (F a b) → R2 y H7) →
          g1 x' σv Hd fun σ3 H5 => wipe σ3 vs1 = σv ∧ tt1 σ3 H5 fun b H6 => if b = true then te σ3 H6 (fun y H7 => R2 y H7) else R02 H6) → R J1 σ2 H4) →
      g x σw Hb fun σ2 H2 => wipe σ2 vs = σw ∧ tt σ2 H2 fun b H3 => if b = true then wi1 σ2 H3 (fun J1 H4 => R J1 σ2 H4) else R0 H3)
    (hd : ∀ ys H', Ex H1 H' → H' D = some (.lst ys) → RAll K H' ys (as.flatMap fun a => (bs a).map (F a)) → Qd H') :
    ∃ W : Nat → Nat → Hp → Prop, (∃ m, W 0 m (upd H1 D (.lst []))) ∧ ∀ i m H, W i m H →
      (J.stop i H ∧ Qd H) ∨ (J.go i H ∧ ∃ Nx : Hp → Prop, (∀ H', Nx H' → ∃ m', m' < m ∧ W (i + 1) m' H') ∧ ∀ x H', J.yld i H x H' → g x (wipe σ vs) H' fun σ2 H2 => wipe σ2 vs = wipe σ vs ∧ tt σ2 H2 fun b H3 =>
        if b = true then wi1 σ2 H3 fun J1 H4 => ∃ W1 : Nat → Nat → Hp → Prop, (∃ m, W1 0 m H4) ∧ ∀ j k H, W1 j k H →
          (J1.stop j H ∧ Nx H) ∨ (J1.go j H ∧ ∃ Nx1 : Hp → Prop, (∀ H', Nx1 H' → ∃ k', k' < k ∧ W1 (j + 1) k' H') ∧ ∀ x H', J1.yld j H x H' → g1 x (wipe σ2 vs1) H' fun σ3 H5 => wipe σ3 vs1 = wipe σ2 vs1 ∧ tt1 σ3 H5 fun b H6 =>
            if b = true then te σ3 H6 fun y H7 => ∃ acc, H7 D = some (.lst acc) ∧ acc.length < sizeLine ∧ Nx1 (upd H7 D (.lst (acc ++ [y]))) else Nx1 H6)
        else Nx H3) := by
  subst hw
  refine in_it w (Body := fun x H' Nx => g x (wipe σ vs) H' fun σ2 H2 => wipe σ2 vs = wipe σ vs ∧ tt σ2 H2 fun b H3 =>
        if b = true then wi1 σ2 H3 fun J1 H4 => ∃ W1 : Nat → Nat → Hp → Prop, (∃ m, W1 0 m H4) ∧ ∀ j k H, W1 j k H →
          (J1.stop j H ∧ Nx H) ∨ (J1.go j H ∧ ∃ Nx1 : Hp → Prop, (∀ H', Nx1 H' → ∃ k', k' < k ∧ W1 (j + 1) k' H') ∧ ∀ x H', J1.yld j H x H' → g1 x (wipe σ2 vs1) H' fun σ3 H5 => wipe σ3 vs1 = wipe σ2 vs1 ∧ tt1 σ3 H5 fun b H6 =>
            if b = true then te σ3 H6 fun y H7 => ∃ acc, H7 D = some (.lst acc) ∧ acc.length < sizeLine ∧ Nx1 (upd H7 D (.lst (acc ++ [y]))) else Nx1 H6)
        else Nx H3) (fun i H => Ex H1 H ∧ ∃ ys, H D = some (.lst ys) ∧ RAll K H ys ((as.take i).flatMap fun a => (bs a).map (F a))) ⟨Ex.new hD, [], upd_same, .nil⟩ (fun i H _ p => hGe _ _ p.1 hG) ?_ ?_
  · rintro i x Ha Hb hi ⟨e, ys, hy, hr⟩ y
    have hi' : i < as.length := by omega
    have ha := List.getElem?_eq_getElem hi'
    have hle : ∀ k, ((as.take i).flatMap fun a => (bs a).map (F a)).length + k ≤ ((as.take i).flatMap fun a => (bs a).map (F a)).length + ((bs as[i]).length) → ((as.take i).flatMap fun a => (bs a).map (F a)).length + k ≤ 100000 := fun k hk => by
      have e1 : as = as.take i ++ as[i] :: as.drop (i + 1) := by
        rw [List.getElem_cons_drop, List.take_append_drop]
      have e2 := congrArg (fun l => (l.flatMap fun a => (bs a).map (F a)).length) e1
      simp only [List.flatMap_append, List.flatMap_cons, List.length_append, List.length_map] at e2
      omega
    refine hs i as[i] x Ha Hb ha e y _ _ (fun J1 σ2 H4 n1 G1 Y1 σv hv w1 e4 hG1 hl1 hel => ?_)
    subst hv
    refine in_it w1 (Body := fun x H' Nx1 => g1 x (wipe σ2 vs1) H' fun σ3 H5 => wipe σ3 vs1 = wipe σ2 vs1 ∧ tt1 σ3 H5 fun b H6 =>
            if b = true then te σ3 H6 fun y H7 => ∃ acc, H7 D = some (.lst acc) ∧ acc.length < sizeLine ∧ Nx1 (upd H7 D (.lst (acc ++ [y]))) else Nx1 H6)
      (fun j H => Ex H1 H ∧ ∃ zs, H D = some (.lst zs) ∧ RAll K H zs (((as.take i).flatMap fun a => (bs a).map (F a)) ++ ((bs as[i]).take j).map (F as[i]))) ⟨e.trans e4, ys, e4 _ _ hy, by simpa using hr.ex e4⟩ (fun j H _ p => hG1 _ p.1) ?_ ?_
    · rintro j x' Hc Hd hj ⟨ec, zs, hz, hrz⟩ y1
      have hj' : j < (bs as[i]).length := by omega
      have hb := List.getElem?_eq_getElem hj'
      refine hel j _ x' Hc Hd hb ec y1 _ _ (fun v H7 e7 hv => ?_)
      have hzl : zs.length < 100000 := by
        have q := hrz.length
        rw [List.length_append, List.length_map, List.length_take] at q
        have q2 := hle (bs as[i]).length (Nat.le_refl _)
        omega
      refine ⟨zs, e7 _ _ hz, sz_lt hzl, Ex.mut (ec.trans e7) hD, zs ++ [v], upd_same, ?_⟩
      rw [take_get hb, List.map_append, ← List.append_assoc]
      exact RAll.updL (e7 _ _ hz) ((hrz.ex e7).snoc hv)
    · rintro H ⟨ec, zs, hz, hrz⟩
      refine ⟨ec, zs, hz, ?_⟩
      rw [take_get ha, List.flatMap_append, List.flatMap_cons, List.flatMap_nil, List.append_nil]
      rw [← hl1, List.take_length] at hrz
      exact hrz
  · rintro H ⟨e, ys, hy, hr⟩
    rw [← hl, List.take_length] at hr
    exact hd ys H e hy hr
/-! ### all but dicts is kept -/
def isDict : HO → Bool
  | .dK _ => true
  | .dT _ => true
  | _ => false
def Kd (H H' : Hp) : Prop := ∀ a o, isDict o = false → H a = some o → H' a = some o
theorem Kd.refl (H : Hp) : Kd H H := fun _ _ _ h => h
theorem Kd.trans {H H1 H2 : Hp} (x : Kd H H1) (y : Kd H1 H2) : Kd H H2 := fun a o d h => y a o d (x a o d h)
theorem Kd.of {H H' : Hp} (e : Ex H H') : Kd H H' := fun a o _ h => e a o h
theorem Kd.keep {H H' : Hp} (k : Kd H H') : Keep H H' := fun a o d h => k a o (by cases o <;> first | rfl | (exact absurd d (by decide)) | (simp [isData] at d)) h
theorem Kd.upd {H : Hp} {p : Addr} {u o : HO} (h : H p = some u) (d : isDict u = true) : Kd H (upd H p o) := fun a x hx hd => by
  have n : a ≠ p := fun e => by
    rw [e, h] at hd
    cases hd
    rw [d] at hx
    cases hx
  rw [upd_ne n]
  exact hd
theorem Kd.chg {H H' : Hp} {p : Addr} {o : HO} (k : Kd H H') (h : H p = none) : Kd H (L2.upd H' p o) := fun a u d ha => by
  rw [upd_ne (ne_of_none ha h)]
  exact k a u d ha
/-- what is kept between two moments, said once for comprehensions -/
structure Rel (R : Hp → Hp → Prop) : Prop where
  refl : ∀ H, R H H
  trans : ∀ {H H1 H2}, R H H1 → R H1 H2 → R H H2
  of : ∀ {H H'}, Ex H H' → R H H'
  chg : ∀ {H H' : Hp} {p : Addr} {o : HO}, R H H' → H p = none → R H (L2.upd H' p o)
theorem rel_ex : Rel Ex := ⟨Ex.refl, Ex.trans, fun h => h, fun x h => Ex.mut x h⟩
theorem rel_kd : Rel Kd := ⟨Kd.refl, Kd.trans, Kd.of, fun x h => Kd.chg x h⟩
/-- a comprehension with an invariant of its own (a draw, a chart) -/
theorem lc_gen {α β : Type} [Py β] [TOnly β] {K : PySem.W.Frag} {J : It} {n : Nat} {G : Hp → Prop} {Y : Nat → Hp → V → Hp → Prop} (w : Walk J n G Y) {g : TG} {tt : TT} {te : TE} {vs : List Nat} {σ : L2.St} {H1 : Hp} {D : Addr} {Qd : Hp → Prop} (hD : H1 D = none) (σw : L2.St) (hw : wipe σ vs = σw)
    {R : Hp → Hp → Prop} (rel : Rel R) (hRD : ∀ {H H' ys}, R H H' → H D = some (.lst ys) → H' D = some (.lst ys)) (hRR : ∀ {H H'} {ys : List V} {bs : List β}, R H H' → RAll K H ys bs → RAll K H' ys bs)
    (I : Nat → Hp → Prop) (hI : ∀ i H o, H1 D = none → I i H → I i (L2.upd H D o)) (hI0 : I 0 H1)
    (hGe : ∀ i H, i ≤ n → R H1 H → I i H → G H) (as : List α) (hl : as.length = n) (hn : n ≤ 100000)
    (Keepd : Nat → α → Bool → Prop) (Val : Nat → α → β → Prop)
    (hs : ∀ i a x Ha Hb, as[i]? = some a → R H1 Ha → I i Ha → Y i Ha x Hb → ∀ (R0 : Hp → Prop) (Rv : V → Hp → Prop), (∀ H4, R Ha H4 → I (i + 1) H4 → Keepd i a false → R0 H4) → (∀ y b H4, R Ha H4 → I (i + 1) H4 → Keepd i a true → Val i a b → Rep K H4 y b → Rv y H4) →
      g x σw Hb fun σ2 H2 => wipe σ2 vs = σw ∧ tt σ2 H2 fun b H3 => if b = true then te σ2 H3 (fun y H4 => Rv y H4) else R0 H3)
    (Out : Nat → List β → Prop) (hO0 : Out 0 []) (hO1 : ∀ i a bs, as[i]? = some a → Out i bs → Keepd i a false → Out (i + 1) bs) (hO2 : ∀ i a b bs, as[i]? = some a → Out i bs → Keepd i a true → Val i a b → Out (i + 1) (bs ++ [b]))
    (hd : ∀ ys bs H', R H1 H' → I n H' → H' D = some (.lst ys) → RAll K H' ys bs → Out n bs → Qd H') :
    ∃ W : Nat → Nat → Hp → Prop, (∃ m, W 0 m (upd H1 D (.lst []))) ∧ ∀ i m H, W i m H →
      (J.stop i H ∧ Qd H) ∨ (J.go i H ∧ ∃ Nx : Hp → Prop, (∀ H', Nx H' → ∃ m', m' < m ∧ W (i + 1) m' H') ∧ ∀ x H', J.yld i H x H' → g x (wipe σ vs) H' fun σ2 H2 => wipe σ2 vs = wipe σ vs ∧ tt σ2 H2 fun b H3 =>
        if b = true then te σ2 H3 fun y H4 => ∃ acc, H4 D = some (.lst acc) ∧ acc.length < sizeLine ∧ Nx (upd H4 D (.lst (acc ++ [y]))) else Nx H3) := by
  subst hw
  refine lc_it w (fun i H => R H1 H ∧ I i H ∧ ∃ ys bs, H D = some (.lst ys) ∧ ys.length ≤ i ∧ RAll K H ys bs ∧ Out i bs) ⟨rel.chg (rel.refl _) hD, hI _ _ _ hD hI0, [], [], upd_same, Nat.le_refl _, .nil, hO0⟩ (fun i H hi p => hGe i H hi p.1 p.2.1) ?_ ?_
  · rintro i x Ha Hb hi ⟨e, iv, ys, bs, hy, hlen, hr, ho⟩ y
    have hi' : i < as.length := by omega
    have ha := List.getElem?_eq_getElem hi'
    refine hs i as[i] x Ha Hb ha e iv y _ _ (fun H4 e4 i4 hf => ?_) (fun v b H4 e4 i4 hf hb hv => ?_)
    · exact ⟨rel.trans e e4, i4, ys, bs, hRD e4 hy, by omega, hRR e4 hr, hO1 i _ bs ha ho hf⟩
    · refine ⟨ys, hRD e4 hy, sz_lt (by omega), rel.chg (rel.trans e e4) hD, hI _ _ _ hD i4, ys ++ [v], bs ++ [b], upd_same, by simp; omega, ?_, hO2 i _ b bs ha ho hf hb⟩
      exact RAll.updL (hRD e4 hy) ((hRR e4 hr).snoc hv)
  · rintro H ⟨e, iv, ys, bs, hy, _, hr, ho⟩
    exact hd ys bs H e iv hy hr ho
/-! ### rules within a comprehension's block: the written part by its name -/
section
variable {X : Cx}
theorem ix_tupK (K : PySem.W.Frag) (h : X.K = K := by rfl) : IxR X (rIxT K) := h ▸ ix_tup
theorem ix_listK (K : PySem.W.Frag) (h : X.K = K := by rfl) : IxR X (rIxL K) := h ▸ ix_list
theorem op_in_seqK (K : PySem.W.Frag) (h : X.K = K := by rfl) : OpR X (compareOp .In) (rIn K false) := h ▸ op_in_seq
theorem op_notIn_seqK (K : PySem.W.Frag) (h : X.K = K := by rfl) : OpR X (compareOp .NotIn) (rIn K true) := h ▸ op_notIn_seq
theorem cr_allK (K : PySem.W.Frag) (hc : X.calm = true) (h : X.K = K := by rfl) : CallR X (.builtin "all") (rAll K) := h ▸ cr_all hc
theorem cr_anyK (K : PySem.W.Frag) (hc : X.calm = true) (h : X.K = K := by rfl) : CallR X (.builtin "any") (rAny K) := h ▸ cr_any hc
theorem call_isiK' (K : PySem.W.Frag) (h : X.K = K := by rfl) : CallR X (.builtin "isinstance") (rIsi K) := h ▸ call_isi
theorem pe_fldK {K : PySem.W.Frag} {o : Expr} {ta : TE} {f : Str} {pos : Pos} (he : PE X o ta) (ht : attributeBase o f X.env (eval o X.env) = eval o X.env := by rfl) (h : X.K = K := by rfl) : PE X (.Attribute o f pos) (tFld K ta f) := h ▸ pe_fld he ht
end
section
variable {X : Cx} {tg : Expr}
theorem pi_listK {K : PySem.W.Frag} {l : Expr} {tl : TE} (hl : PE X l tl) (h : X.K = K := by rfl) : PI X tg l (iList K tl) := h ▸ pi_list hl
theorem pi_tupK {K : PySem.W.Frag} {l : Expr} {tl : TE} (hl : PE X l tl) (h : X.K = K := by rfl) : PI X tg l (iTup K tl) := h ▸ pi_tup hl
end
end My
local macro_rules | `(tactic| walk_at "lk") => `(tactic| (repeat (first | exact My.lk_eq | exact rfl | refine (My.lk_ne (by decide +kernel)).trans ?_)))
open PySem in
example : List.lookup ("b" : Str) [(("a" : Str), L2.V.int 1), ("b", .int 2)] = some (.int 2) := by walk_at "lk"
open PySem in
example : List.lookup ("c" : Str) [(("a" : Str), L2.V.int 1), ("b", .int 2)] = none := by walk_at "lk"

-- Er
/-! own errors over Exception, by way of other own classes too, with an own __init__ that stores its argument -/
namespace My
open PySem PyProof.Rows
section
open PySem.W PySem.Calls
open Builtin Builtin.ObjectAttr
variable {pr : Program} {wd : World} {A : Around} {R : Result → Shared → Prop} {hp : Heap} {ge : Array GenState} {dr : Drawn} {tm : Nat} {os : OsState}
/-- self.f = v on an error that has no dict as yet -/
theorem er_store {K : Frag} {f : Str} {tk : Tok} {v : Value} {x C : Addr} {fv : Array Value} {cd : ClassData} (kin : K.In hp) (hx : hp.get? x = some { cls := .ref C, data := .fields fv })
    (hcd : clsIn K C = some cd) (ht : excTail ESX.exTail cd.mro = true) (hD : cd.hasDict = true) (hno : findIn K (.ref C) f = some none)
    (hq : ∀ h' tk' dx, (∀ b o, b ≠ x → hp.get? b = some o → h'.get? b = some o) → hp.objs.size ≤ dx → dx ≠ x → h'.get? x = some { cls := .ref C, dict := some dx, data := .fields fv } → h'.Ns1 dx (fun y => if y = f then some v else none) → R (.ok (.ret .none)) ⟨h', ge, dr, tk', os⟩) :
    codeAny (model pr wd) A (.call (.builtin "object.__setattr__") ⟨[.ref x, .str f tk, v], []⟩) R ⟨hp, ge, dr, tm, os⟩ := by
  have at_ : InstAt hp x { cls := .ref C, data := .fields fv } C none := ⟨hx, rfl, rfl, trivial⟩
  have far : x ≠ hp.objs.size := Nat.ne_of_lt (Heap.lt_size hx)
  have objIn : cd.mro.contains (.type "object") = true := by
    rw [excTail_contains "object" _ ht]
    decide +kernel
  have nonempty : cd.mro.isEmpty = false := by
    cases e : cd.mro with
    | nil => rw [e] at ht; exact absurd ht (by decide)
    | cons _ _ => rfl
  have inMro : mroIn K C (.type "object") = some true := by
    unfold mroIn
    rw [hcd, Option.bind_some, nonempty, objIn]
    rfl
  have isObj : Looks (model pr wd) hp (isInstance (.ref x) (.type "object")) true := at_.type.andThen (looks_mroIn kin inMro)
  refine codeAny_call_builtin PySem.F.store_object.slot.plain PySem.F.store_object.entry ?_
  refine @check_slot (model pr wd) _ _ ⟨hp, ge, dr, tm, os⟩ "object.__setattr__" "object" "__setattr__" (.ref x) [.str f tk, v] [] _ PySem.F.store_object.kind PySem.F.store_object.split isObj (PySem.F.store_object.args (.ref x) (.str f tk) v) ?_
  have lookMro : Looks (model pr wd) hp (mroOf (.ref C)) cd.mro := (looks_clsIn kin hcd).andThen .now
  have lookTaker : Looks (model pr wd) hp (storeTaker? none) none := .now
  have lookCls : Looks (model pr wd) hp (classData C) cd := looks_clsIn kin hcd
  rw [osa_eq, refuse_eq]
  refine wpAny_bind (wpAny_bind (at_.type.at (wpAny_bind (lookMro.at ?_))))
  rw [excTail_pass (.ref x) (PySem.F.store_Exception.passes _) _ ht]
  refine wpAny_pure (wpAny_bind (at_.type.at (wpAny_bind ((looks_findIn kin hno).at (wpAny_bind (lookTaker.at ?_))))))
  show wpAny _ _ (storeInOwnDict (.ref x) (.ref C) (.str f tk) f v false) _ _ _
  obtain ⟨nm, bs, mro, ns, qn, hd, sn, sb, ab, col, del⟩ := cd
  dsimp only at hD
  subst hD
  unfold storeInOwnDict ownDictForStores
  repeat (first | with_reducible refine HandSPX.store_in_new ?_ ?_ | with_reducible refine wpAny_loadPart_at hx ?_ | with_reducible refine lookCls.at ?_ | wp_step)
  · exact ⟨_, #[], _,
      (Heap.get?_update_ne _ _ _ _ far.symm).trans (Heap.get?_push_at rfl rfl),
      rfl, fun e he => absurd he (by simp), fun _ => rfl⟩
  · intro h' tk' hn' same
    have hx₁ : (hp.push { cls := .type "dict", data := .dict #[] }).get? x = some { cls := .ref C, data := .fields fv } := Heap.get?_push_of_some _ hx
    refine hq h' tk' hp.objs.size (fun b o hb ho => ?_) (Nat.le_refl _) far.symm ?_ hn'
    · have e1 := same.2 b (Nat.ne_of_lt (Heap.lt_size ho))
      exact e1.trans ((Heap.get?_update_ne _ _ _ _ hb).trans (Heap.get?_push_of_some _ ho))
    · exact (same.2 x far).trans (Heap.get?_update_self _ hx₁ rfl)
end
end My
namespace My
open PySem L2
open PySem.W (clsIn findIn subIn typeIn keepIn excTail Frag set_plain callWith_K kdv_tup looks_findIn bind_fn)
/-- what the top has of such a class, at C -/
structure ErC (K : Frag) (C : Addr) : Prop where
  cls : ∃ nm q N bs bm sn sub ab col dd k0 k1 k2 k3 k5, K.lookup C = some (excClassObj nm q C N bs bm true sn sub ab col dd k0 k1 k2 k3 k5 "Exception.__new__") ∧ excTail ESX.exTail bm = true
  sa : findIn K (.ref C) "__setattr__" = some (some (.builtin "object.__setattr__"))
  ex : subIn K (.ref C) (.type "BaseException") = some true
  ty : typeIn K (.ref C) = some (.type "type")
  kp : keepIn K (.ref C) = true
section
variable {X : Cx} {pins : List (Addr × Obj)} {σ : St} {H : Hp} {s : Shared} {a C : Addr} {f : Str} {y : V} {u : Value}
theorem er_set {A : Around} {E : Value → Shared → Prop} {Q : Unit → Shared → Prop} (T : ErC X.K C) (I : Inv X pins σ H s) (e : H a = some (exo a C none)) (hno : findIn X.K (.ref C) f = some none) (ry : RelV y u)
    (h : ∀ dx s', H dx = none → dx ≠ a → Inv X pins σ (upd (upd H dx (exd dx [(f, y)])) a (exo a C (some dx))) s' → Q () s') : wpAny (model X.prog X.w) A (setAttr (.ref a) f u) Q E s := by
  obtain ⟨nm, q, N, bs, bm, sn, sub, ab, col, dd, k0, k1, k2, k3, k5, hC, hbm⟩ := T.cls
  have hcl : clsIn X.K C = some { name := nm, bases := bs, mro := .ref C :: bm, ns := N, qualname := q, hasDict := true, slotNames := sn, subclasses := sub, abstract := ab, collection := col, hasDel := false } := by
    unfold clsIn
    rw [hC]
  obtain ⟨t1, ho⟩ := exo_at I.hok e
  obtain ⟨hp, ge, dr, tm, os⟩ := s
  refine set_plain I.kIn (ox := { cls := .ref C, dict := none, data := .fields #[.ref t1, .none, .none, .none, .bool false, .none] }) (od := none) ⟨ho, rfl, rfl, trivial⟩ T.sa ?_
  refine er_store I.kIn ho hcl (show excTail ESX.exTail (.ref C :: bm) = true from hbm) rfl hno (fun h' tk' dx kept dn dne hx hn => ?_)
  have dNew : H dx = none := I.hok.fresh dn
  have offD : ∀ {b : Addr} {o : Obj}, hp.get? b = some o → b ≠ dx := fun {b o} z => Nat.ne_of_lt (Nat.lt_of_lt_of_le (Heap.lt_size z) dn)
  have offA : ∀ {b : Addr}, H b = none → b ≠ a := fun {b} n z => by
    rw [z, e] at n
    exact nomatch n
  have changed : Un X.fs [] H (upd (upd H dx (exd dx [(f, y)])) a (exo a C (some dx))) hp h' :=
    { keep := fun b o z n _ _ => kept b o (offA n) z
      slot := fun b o z n _ _ => ⟨o.slots, kept b o (offA n) z⟩
      free := fun b o z n _ => by rw [upd_ne (offA n), upd_ne (offD z)]; exact n
      there := fun b o z _ => if hb : b = a then ⟨_, hb ▸ hx⟩ else ⟨o, kept b o hb z⟩
      tups := fun b xs z => by rw [upd_ne (at_ne e z exo_tup), upd_ne (ne_of_none z dNew)]; exact z
      frzs := fun b o v z => by rw [upd_ne (at_ne e z exo_frz), upd_ne (ne_of_none z dNew)]; exact z
      tbls := fun b ps z => ⟨#[], by rw [upd_ne (at_ne e z exo_tbl), upd_ne (ne_of_none z dNew), z]; simp⟩ }
  refine h dx _ dNew dne (I.un (t' := tk') changed fun b o z => ?_)
  by_cases hb : b = a
  · subst hb
    rw [upd_same] at z
    cases z
    exact exo_ok hx
  rw [upd_ne hb] at z
  by_cases hd : b = dx
  · subst hd
    rw [upd_same] at z
    cases z
    exact exd_ok hn (relO_put (fs := []) ry fun _ => True.intro)
  rw [upd_ne hd] at z
  refine (I.hok b o z).stay (fun c v hc z2 => kept c v ?_ z2) (fun c hc => ?_) (fun c xs hc => ?_)
  · rcases hc with hc | hc
    · rw [hc]
      exact hb
    · exact at_ne e hc exo_own
  · rw [upd_ne (at_ne e hc exo_own), upd_ne (ne_of_none hc dNew)]
    exact hc
  · rw [upd_ne (at_ne e hc exo_tup), upd_ne (ne_of_none hc dNew)]
    exact hc
end
/-- self.f = e in the own __init__ -/
def tErS (K : Frag) (f : Str) (to te : TE) : TS := fun D σ H => te σ H fun y H1 => to σ H1 fun x H2 => ∃ a C : Addr, x = .ref a ∧ ErC K C ∧ findIn K (.ref C) f = some none ∧
  H2 a = some (exo a C none) ∧ ∀ dx, H2 dx = none → dx ≠ a → D.nx σ (upd (upd H2 dx (exd dx [(f, y)])) a (exo a C (some dx)))
/-- C(e, ..), its __init__ keeping sp -/
def tErM (C : Addr) (sp : Sp) (ta : TA) : St → Hp → XK → Prop := fun σ H Q => ta σ H fun vs H1 => vs.length ≤ 1000 ∧ ∀ a, H1 a = none → sp (.ref a :: vs) (upd H1 a (exo a C none))
  (fun v H2 => v = .non ∧ ∃ (d : Addr) (fs : List (Str × V)), H2 a = some (exo a C (some d)) ∧ H2 d = some (exd d fs) ∧ H1 d = none ∧ Q (.ref C) (some d) (upd (del H2 a) d (.xd fs))) (fun _ _ _ => False)
section
variable {X : Cx} {o e : Expr} {es : List Expr} {to te : TE} {ta : TA} {f : Str} {p p' pos : Pos}
theorem ps_erS (ho : PE X o to) (he : PE X e te) (hs : swapsWith e (some (.Attribute o f p')) pos.line X.env = pure false := by rfl) : PS X (.Assign [.Attribute o f p'] e pos) (tErS X.K f to te) :=
  ⟨fun pins s σ H D I h => by
    refine plainObj_wpAny_Assign_Attribute (thn (he.run pins s σ H _ I h) fun v s1 ⟨y, H1, I1, r1, q1⟩ => ?_) hs
    refine thn (ho.run pins s1 σ H1 _ I1 q1) fun u s2 ⟨x, H2, I2, r2, a, C, ex, T, hno, ea, q⟩ => ?_
    subst ex
    obtain rfl : u = Value.ref a := r2
    exact er_set T I2 ea hno r1 fun dx s' n ne J => ⟨σ, _, J, q dx n ne⟩⟩
theorem pmk_er {x : Str} {C fI : Addr} {k : Nat} {fd : FuncData} {ps : List Str} {sp : Sp} (T : ErC X.K C) (iC : findIn X.K (.ref C) "__init__" = some (some (.ref fI))) (tI : typeIn X.K (.ref fI) = some (.type "function"))
    (F1 : FnOk X.prog X.w X.K X.mg X.base CX0 k fI fd ps sp) (hr : Room (k + 1) X.A) (hb : Binds X.K fd ps []) (hg : Gl X x) (hm : X.mg x = some (.ref C)) (ha : PA X (e :: es) ta)
    (hdb : (x == ("__debug__" : Str)) = false := by decide) (he : starEach (e :: es) X.env = (false, eval e X.env) :: starEach es X.env := by rfl) (hpl : (backTo pos (starEach es X.env)).any (·.1) = false := by rfl) :
    PMk X (.Call (.Name x p) (e :: es) [] pos) (tErM C sp ta) := by
  intro pins s σ H Q I h
  obtain ⟨nm, q, N, bs, bm, sn, sub, ab, col, dd, k0, k1, k2, k3, k5, hC, hbm⟩ := T.cls
  have hT : ∀ Y : String, bm.contains (.type Y) = ESX.exTail.contains (.type Y) := fun Y => PySem.W.excTail_contains Y bm hbm
  refine wpAny_Call_Name_kw (ld_glob I hg hm ?_ hdb)
  refine callWith_K (h₀ := X.base) I.ok.mod.kin T.kp (thn (ha.run pos pins s σ H _ I h) fun us s1 ⟨vs, H1, I1, r1, hz, q1⟩ => ⟨I1.kIn, ?_⟩) he hpl
  show wpAny _ _ (call (.ref C) us) _ _ _
  obtain ⟨hp, ge, dr, tk, os⟩ := s1
  have beyond : hp.objs.size ≤ hp.objs.size + 1 := Nat.le_succ _
  have hq := q1 (hp.objs.size + 1) (I1.hok.fresh beyond)
  have keeps : ∀ b o, hp.get? b = some o → ((hp.push (kdv_tup us)).push (HandSPX.excO C hp.objs.size)).get? b = some o := fun b o z => Heap.get?_push_of_some _ (Heap.get?_push_of_some _ z)
  have there : ((hp.push (kdv_tup us)).push (HandSPX.excO C hp.objs.size)).get? (hp.objs.size + 1) = some (HandSPX.excO C hp.objs.size) := by heap_get
  have I2 := I1.laid (t' := tk) (a := hp.objs.size + 1) (o := exo (hp.objs.size + 1) C none) keeps beyond (exo_ok there)
  have r2 : Vals (V.ref (hp.objs.size + 1) :: vs) (Value.ref (hp.objs.size + 1) :: us) := .cons rfl r1
  have many : (Value.ref (hp.objs.size + 1) :: us).length = ps.length := by
    rw [← r2.length]
    exact F1.len _ _ _ _ hq
  have small : us.length ≤ sizeLine := by
    rw [← Paired.length r1, sizeLine_eq]
    omega
  refine wpAny_call (HandSPX.call_own PySem.F.excBase_Exception hT (I1.kIn _ _ hC) (looks_findIn I1.kIn iC) (fun self => bind_fn I1.kIn self tI) small ?_)
  have bound := hb _ (Value.ref (hp.objs.size + 1) :: us) I2.kIn (by rw [List.append_nil]; exact many)
  rw [List.append_nil] at bound
  refine codeAny_mono (F1.run _ X.stack _ _ ⟨Value.ref (hp.objs.size + 1) :: us, []⟩ (Value.ref (hp.objs.size + 1) :: us) _ _ (fun _ _ _ => False) (hr.make C us []) (I2.env0.make C us []) bound r2 hq) fun r s' hq' => ?_
  cases r with
  | error er => exact hq'.elim
  | ok fl =>
    cases fl with
    | ret u =>
      obtain ⟨v, H2, os2, bare2, un2, hok2, rv, ev, d, fs, ea, ed, hd1, q2⟩ := hq'
      subst ev
      obtain ⟨h2, g2, d2, t2, os'⟩ := s'
      exact ⟨rv, mk_end (raises_own T.ex T.ty) I1 beyond keeps un2 hok2 os2 bare2 ea ed hd1 q2⟩
    | next => exact False.elim hq'
    | brk => exact False.elim hq'
    | cont => exact False.elim hq'
end
end My
namespace My
open PySem L2
theorem exm_own {K : PySem.W.Frag} {S : Addr} (h1 : PySem.W.subIn K (.ref S) (.type "BaseException") = some true) (h2 : PySem.W.isClsIn K S = true) (h3 : PySem.W.typeIn K (.ref S) = some (.type "type")) (h4 : PySem.W.subIn K (.ref S) (.ref S) = some true) :
    PySem.W.exmOne K (.ref S) (.ref S) = some true := by
  have some_ : (PySem.W.clsIn K S).isSome = true := h2
  unfold PySem.W.exmOne
  simp [h1, h3, h4, some_, PySem.W.kitCls]
/-- a class of errors of the top -/
structure ErrAt (K : PySem.W.Frag) (mg : Str → Option Value) (x : Str) where
  C : Addr
  er : ErC K C
  xf : XfC K C
  m : mg x = some (.ref C)
  te : PySem.W.exmOne K (.ref C) (.ref C) = some true
end My

-- St
/-! set(xs) of lists and of tuples; sorted(set) of tuples of ints -/
namespace My
open PySem PySem.Spec PyProof.Rows L2
/-- an empty set, and what goes over a list, over a tuple -/
abbrev voidS (w : World) : Obj := { cls := .type "set", dict := none, data := .set #[] 0 (.fresh 0 0 (!w.params.followText "set-order")) }
abbrev listIt (l : Addr) : Obj := { cls := .type "list_iterator", data := .fields #[.ref l, .int 0 0] }
abbrev tupleIt (l : Addr) : Obj := { cls := .type "tuple_iterator", data := .fields #[.ref l, .int 0 0] }
section
variable {P : Program} {w : World} {A : Around} {E : Value → Shared → Prop} {s : Shared}
theorem set_of_list {l : Addr} {items : Array Value} (Pz : Heap → Prop) {Q : Value → Shared → Prop} (hh : A.handled = none) (hl : s.heap.IsList l items)
    (turns : ∀ R : Result → Shared → Prop, (∀ h' tk, (∀ b o, s.heap.get? b = some o → h'.get? b = some o) → Pz h' → R (.ok (.ret .none)) { s with heap := h', toks := tk }) →
      codeAny (model P w) A.in1.in1 (.builtin "set.update.loop" ⟨[.ref s.heap.objs.size, .ref (s.heap.push (voidS w)).objs.size], []⟩) R { s with heap := (s.heap.push (voidS w)).push (listIt l) })
    (fin : ∀ h' tk, (∀ b o, s.heap.get? b = some o → h'.get? b = some o) → Pz h' → Q (.ref s.heap.objs.size) { s with heap := h', toks := tk }) :
    wpAny (model P w) A (call (.type "set") [.ref l]) Q E s := by
  obtain ⟨c, tl, mro_⟩ := F.called_set.mro
  have made_ := F.called_set.made
  have sub_ := F.called_set.sub
  have notTy := F.called_set.notType
  have create := F.called_set.canCreate
  have typed := F.typeCall_set_1 (.ref l)
  refine wpAny_call (codeAny_of_tree ?_)
  show wpAny _ _ (callAny (.type "set") ⟨[.ref l], []⟩) _ _ _
  refine wpAny_pure ⟨Code.quiet_builtin _ (by decide +kernel), ?_⟩
  refine codeAny_builtin F.entry_type_call ?_
  rw [Around.under_plain (weight_type_call_type "set" [.ref l] []) rfl]
  repeat (any_goals (first | assumption | wp_step))
  refine codeAny_mono (code_set_led1 (.ref l) (E := E) (Q₁ := fun obj s₁ => obj = .ref s.heap.objs.size ∧ s₁ = { s with heap := s.heap.push (voidS w) }) ⟨rfl, rfl⟩) fun r s₁ hr => ?_
  rcases r with e | (obj | _ | _ | _)
  · exact hr
  · exact hr.elim
  · exact hr.elim
  · exact hr.elim
  obtain ⟨rfl, rfl⟩ := hr
  have there : (s.heap.push (voidS w)).get? s.heap.objs.size = some (voidS w) := Heap.get?_push_size _ rfl
  have isSet : Shared.TypeIs { s with heap := s.heap.push (voidS w) } (.ref s.heap.objs.size) "set" := ⟨_, there, rfl⟩
  have look_ := F.called_set.init.lookup
  have bind_ := F.called_set.init.bind (.ref s.heap.objs.size)
  repeat (any_goals (first | assumption | wp_step))
  refine codeAny_mono (codeAny_call_builtin (R := wants (fun r s₂ => r = .none ∧ ∃ h' tk, s₂ = { s with heap := h', toks := tk } ∧ Pz h' ∧ ∀ b o, s.heap.get? b = some o → h'.get? b = some o) E) F.called_set.init.plain F.entry_set_init (check_set_init_1 isSet ?_)) fun r₂ s₂ hr₂ => ?_
  · obtain ⟨⟨ocls, odict, odata, oslots⟩, at_, cls_, many, data_⟩ := hl
    simp only at cls_ data_
    subst cls_; subst data_
    have late : (s.heap.push (voidS w)).get? l = some { cls := .type "list", dict := odict, data := .seq items many, slots := oslots } := Heap.get?_push_of_some _ at_
    have notSet := F.sub_list_set
    have notFrozen := F.sub_list_frozenset
    have noDict : (Value.type "list" == Value.type "dict") = false := by decide
    have isSeq : (s.heap.push (voidS w)).IsList l items := ⟨_, late, rfl, many, rfl⟩
    unfold Builtin.«set.__init__» noKeywords Builtin.Frozenset.updateFrom
    generalize named : pyIter = walkOf
    wp_walk
    subst named
    refine wpAny_pyIter_list isSeq ?_
    refine wpAny_bind (wpAny_runValue ?_)
    refine turns _ fun h' tk kept z => ?_
    show wpAny _ _ _ _ _ _
    refine wpAny_pure ?_
    show wpAny _ _ (ret Value.none) _ _ _
    exact wpAny_pure ⟨rfl, h', tk, rfl, z, kept⟩
  · rcases r₂ with e | (r | _ | _ | _)
    · exact hr₂
    · exact hr₂.elim
    · exact hr₂.elim
    · exact hr₂.elim
    obtain ⟨rfl, h', tk, rfl, z, kept⟩ := hr₂
    repeat (any_goals (first | assumption | wp_step))
    exact fin _ _ kept z
theorem set_of_tuple {l : Addr} {items : Array Value} (Pz : Heap → Prop) {Q : Value → Shared → Prop} (hh : A.handled = none) (hl : s.heap.IsTuple l items)
    (turns : ∀ R : Result → Shared → Prop, (∀ h' tk, (∀ b o, s.heap.get? b = some o → h'.get? b = some o) → Pz h' → R (.ok (.ret .none)) { s with heap := h', toks := tk }) →
      codeAny (model P w) A.in1.in1 (.builtin "set.update.loop" ⟨[.ref s.heap.objs.size, .ref (s.heap.push (voidS w)).objs.size], []⟩) R { s with heap := (s.heap.push (voidS w)).push (tupleIt l) })
    (fin : ∀ h' tk, (∀ b o, s.heap.get? b = some o → h'.get? b = some o) → Pz h' → Q (.ref s.heap.objs.size) { s with heap := h', toks := tk }) :
    wpAny (model P w) A (call (.type "set") [.ref l]) Q E s := by
  obtain ⟨c, tl, mro_⟩ := F.called_set.mro
  have made_ := F.called_set.made
  have sub_ := F.called_set.sub
  have notTy := F.called_set.notType
  have create := F.called_set.canCreate
  have typed := F.typeCall_set_1 (.ref l)
  refine wpAny_call (codeAny_of_tree ?_)
  show wpAny _ _ (callAny (.type "set") ⟨[.ref l], []⟩) _ _ _
  refine wpAny_pure ⟨Code.quiet_builtin _ (by decide +kernel), ?_⟩
  refine codeAny_builtin F.entry_type_call ?_
  rw [Around.under_plain (weight_type_call_type "set" [.ref l] []) rfl]
  repeat (any_goals (first | assumption | wp_step))
  refine codeAny_mono (code_set_led1 (.ref l) (E := E) (Q₁ := fun obj s₁ => obj = .ref s.heap.objs.size ∧ s₁ = { s with heap := s.heap.push (voidS w) }) ⟨rfl, rfl⟩) fun r s₁ hr => ?_
  rcases r with e | (obj | _ | _ | _)
  · exact hr
  · exact hr.elim
  · exact hr.elim
  · exact hr.elim
  obtain ⟨rfl, rfl⟩ := hr
  have there : (s.heap.push (voidS w)).get? s.heap.objs.size = some (voidS w) := Heap.get?_push_size _ rfl
  have isSet : Shared.TypeIs { s with heap := s.heap.push (voidS w) } (.ref s.heap.objs.size) "set" := ⟨_, there, rfl⟩
  have look_ := F.called_set.init.lookup
  have bind_ := F.called_set.init.bind (.ref s.heap.objs.size)
  repeat (any_goals (first | assumption | wp_step))
  refine codeAny_mono (codeAny_call_builtin (R := wants (fun r s₂ => r = .none ∧ ∃ h' tk, s₂ = { s with heap := h', toks := tk } ∧ Pz h' ∧ ∀ b o, s.heap.get? b = some o → h'.get? b = some o) E) F.called_set.init.plain F.entry_set_init (check_set_init_1 isSet ?_)) fun r₂ s₂ hr₂ => ?_
  · obtain ⟨⟨ocls, odict, odata, oslots⟩, at_, cls_, many, data_⟩ := hl
    simp only at cls_ data_
    subst cls_; subst data_
    have late : (s.heap.push (voidS w)).get? l = some { cls := .type "tuple", dict := odict, data := .seq items many, slots := oslots } := Heap.get?_push_of_some _ at_
    have notSet := F.sub_tuple_set
    have notFrozen := F.sub_tuple_frozenset
    have noDict : (Value.type "tuple" == Value.type "dict") = false := by decide
    have isSeq : (s.heap.push (voidS w)).IsTuple l items := ⟨_, late, rfl, many, rfl⟩
    unfold Builtin.«set.__init__» noKeywords Builtin.Frozenset.updateFrom
    generalize named : pyIter = walkOf
    wp_walk
    subst named
    refine wpAny_pyIter_tuple isSeq ?_
    refine wpAny_bind (wpAny_runValue ?_)
    refine turns _ fun h' tk kept z => ?_
    show wpAny _ _ _ _ _ _
    refine wpAny_pure ?_
    show wpAny _ _ (ret Value.none) _ _ _
    exact wpAny_pure ⟨rfl, h', tk, rfl, z, kept⟩
  · rcases r₂ with e | (r | _ | _ | _)
    · exact hr₂
    · exact hr₂.elim
    · exact hr₂.elim
    · exact hr₂.elim
    obtain ⟨rfl, h', tk, rfl, z, kept⟩ := hr₂
    repeat (any_goals (first | assumption | wp_step))
    exact fin _ _ kept z
end
end My

-- St2
namespace My
open PySem PySem.Spec PyProof.Rows L2
section
variable {P : Program} {w : World} {A : Around} {E : Value → Shared → Prop} {s : Shared}
theorem none_at {h : Heap} {b : Addr} (hb : h.objs.size ≤ b) : h.get? b = none := by
  cases q : h.get? b with
  | none => rfl
  | some o => exact absurd (Nat.lt_of_lt_of_le (Heap.lt_size q) hb) (Nat.lt_irrefl _)
/-- set(t) of a tuple of tuples of ints -/
theorem set_tupT {l : Addr} {items : Array Value} (ks : List (Addr × List Int)) {Q : Value → Shared → Prop} (hh : A.handled = none) (hl : s.heap.IsTuple l items) (hit : items.toList = ks.map fun p => Value.ref p.1)
    (hk : ∀ p ∈ ks, IsT P w s.heap p.2 p.1) (hfew : ks.length < 64) (hu : A.units + 3 < cLine)
    (fin : ∀ (h' : Heap) (tk : Nat) L es ep t, SetTR P w h' s.heap.objs.size L es ep t → Got ks ks.length L → (∀ b o, s.heap.get? b = some o → h'.get? b = some o) → Q (.ref s.heap.objs.size) { s with heap := h', toks := tk }) :
    wpAny (model P w) A (call (.type "set") [.ref l]) Q E s := by
  refine set_of_tuple (fun h' => ∃ L es ep t, SetTR P w h' s.heap.objs.size L es ep t ∧ Got ks ks.length L) hh hl (fun R hR => ?_) fun h' tk kept ⟨L, es, ep, t, z, g⟩ => fin h' tk L es ep t z g kept
  have many : items.size = ks.length := by
    have q := congrArg List.length hit
    rwa [Array.length_toList, List.length_map] at q
  have lS : l < s.heap.objs.size := by
    obtain ⟨o, ho, _⟩ := hl
    exact Heap.lt_size ho
  have nI : l ≠ (s.heap.push (voidS w)).objs.size := by
    rw [Heap.size_push]
    exact Nat.ne_of_lt (Nat.lt_succ_of_lt lS)
  have off : s.heap.objs.size ∉ [(s.heap.push (voidS w)).objs.size, l] := by
    rw [Heap.size_push]
    simp only [List.mem_cons, List.not_mem_nil, or_false, not_or]
    exact ⟨Nat.ne_of_lt (Nat.lt_succ_self _), Nat.ne_of_gt lS⟩
  have vals : ∀ (i : Nat) (v : Value), items[i]? = some v → ∃ p, ks[i]? = some p ∧ v = .ref p.1 := fun i v hv => by
    have q : (ks.map fun p => Value.ref p.1)[i]? = some v := by
      rw [← hit, Array.getElem?_toList]
      exact hv
    rw [List.getElem?_map] at q
    obtain ⟨p, h1, h2⟩ := Option.map_eq_some_iff.mp q
    exact ⟨p, h1, h2.symm⟩
  have h3 : A.in1.in1.in1.handled = none := by simp [hh]
  have isT : (s.heap.push (voidS w)).IsTuple l items := by
    obtain ⟨o, ho, r⟩ := hl
    exact ⟨o, Heap.get?_push_of_some _ ho, r⟩
  have isT2 : ((s.heap.push (voidS w)).push (tupleIt l)).IsTuple l items := by
    obtain ⟨o, ho, r⟩ := isT
    exact ⟨o, Heap.get?_push_of_some _ ho, r⟩
  have there : ((s.heap.push (voidS w)).push (tupleIt l)).get? s.heap.objs.size = some (voidS w) := Heap.get?_push_of_some _ (Heap.get?_push_size _ rfl)
  refine set_update_tups (s := { s with heap := (s.heap.push (voidS w)).push (tupleIt l) }) ((Walks.tuple h3 _ l nI items).toS) s.heap.objs.size off ks many hfew vals s.heap hk (none_at (Nat.le_refl _)) (fun b hb => none_at (by
    rw [List.mem_singleton.mp hb, Heap.size_push]
    exact Nat.le_succ _)) hu (items.size - 0) 0 (by omega) (Nat.zero_le _) ⟨⟨_, Heap.get?_push_size _ rfl, rfl, rfl⟩, isT2⟩ (fun b o e => Heap.get?_push_of_some _ (Heap.get?_push_of_some _ e)) ⟨[], #[], 0, _, setTR_fresh there, Got.zero ks⟩ fun s' L es ep t hm z g kept => ?_
  obtain ⟨h', g2, d', tk', os'⟩ := s'
  obtain rfl : g2 = s.gens := hm.gens
  obtain rfl : d' = s.drawn := hm.drawn
  obtain rfl : os' = s.os := hm.os
  rw [many] at g
  exact hR h' tk' kept ⟨L, es, ep, t, z, g⟩
/-- set(xs) of ints -/
theorem set_ints {l : Addr} {items : Array Value} (ns : List Int) {Q : Value → Shared → Prop} (hh : A.handled = none) (hl : s.heap.IsList l items) (hit : IntsAre items.toList ns) (hb : ns.length + 1 < scanBound)
    (fin : ∀ (h' : Heap) (tk c : Nat), SetR w h' s.heap.objs.size (fun j => decide (j ∈ ns)) c → c ≤ ns.length → (∀ b o, s.heap.get? b = some o → h'.get? b = some o) → Q (.ref s.heap.objs.size) { s with heap := h', toks := tk }) :
    wpAny (model P w) A (call (.type "set") [.ref l]) Q E s := by
  refine set_of_list (fun h' => ∃ c, SetR w h' s.heap.objs.size (fun j => decide (j ∈ ns)) c ∧ c ≤ ns.length) hh hl (fun R hR => ?_) fun h' tk kept ⟨c, z, g⟩ => fin h' tk c z g kept
  have many : items.size = ns.length := by
    have q := IntsAre.length hit
    rwa [Array.length_toList] at q
  have lS : l < s.heap.objs.size := by
    obtain ⟨o, ho, _⟩ := hl
    exact Heap.lt_size ho
  have nI : l ≠ (s.heap.push (voidS w)).objs.size := by
    rw [Heap.size_push]
    exact Nat.ne_of_lt (Nat.lt_succ_of_lt lS)
  have off : s.heap.objs.size ∉ [(s.heap.push (voidS w)).objs.size, l] := by
    rw [Heap.size_push]
    simp only [List.mem_cons, List.not_mem_nil, or_false, not_or]
    exact ⟨Nat.ne_of_lt (Nat.lt_succ_self _), Nat.ne_of_gt lS⟩
  have vals : ∀ (i : Nat) (v : Value), items[i]? = some v → ∃ k t, ns[i]? = some k ∧ v = .int k t := fun i v hv => by
    have hi : i < ns.length := by
      rw [← many]
      exact (Array.getElem?_eq_some_iff.mp hv).1
    obtain ⟨t, e⟩ := PyProof.Rows.IntsAre.int_at hit i v (by rw [Array.getElem?_toList]; exact hv)
    refine ⟨ns[i], t, List.getElem?_eq_getElem hi, ?_⟩
    rw [e, List.getD_eq_getElem?_getD, List.getElem?_eq_getElem hi]
    rfl
  have h3 : A.in1.in1.in1.handled = none := by simp [hh]
  have isL : (s.heap.push (voidS w)).IsList l items := by
    obtain ⟨o, ho, r⟩ := hl
    exact ⟨o, Heap.get?_push_of_some _ ho, r⟩
  have isL2 : ((s.heap.push (voidS w)).push (listIt l)).IsList l items := by
    obtain ⟨o, ho, r⟩ := isL
    exact ⟨o, Heap.get?_push_of_some _ ho, r⟩
  have there : ((s.heap.push (voidS w)).push (listIt l)).get? s.heap.objs.size = some (voidS w) := Heap.get?_push_of_some _ (Heap.get?_push_size _ rfl)
  refine set_update_ints (s := { s with heap := (s.heap.push (voidS w)).push (listIt l) }) ((Walks.list h3 _ l nI items).toS) s.heap.objs.size off ns many hb vals (items.size - 0) 0 (by omega) (Nat.zero_le _) ⟨⟨_, Heap.get?_push_size _ rfl, rfl, rfl⟩, isL2⟩ ⟨0, Nat.le_refl 0, setR_new_at there⟩ fun s' c hm hc z => ?_
  obtain ⟨h', g2, d', tk', os'⟩ := s'
  obtain rfl : g2 = s.gens := hm.gens
  obtain rfl : d' = s.drawn := hm.drawn
  obtain rfl : os' = s.os := hm.os
  rw [many] at hc
  refine hR h' tk' (fun b o e => ?_) ⟨c, z, hc⟩
  have b0 : b < s.heap.objs.size := Heap.lt_size e
  refine hm.heap b o ?_ (Heap.get?_push_of_some _ (Heap.get?_push_of_some _ e))
  rw [Heap.size_push]
  simp only [List.mem_cons, List.not_mem_nil, or_false, not_or]
  exact ⟨Nat.ne_of_lt b0, Nat.ne_of_lt (Nat.lt_succ_of_lt b0)⟩
end
end My

-- St3
namespace My
open PySem PySem.Spec PyProof.Rows L2
section
variable {P : Program} {w : World} {A : Around} {E : Value → Shared → Prop} {s : Shared}
theorem refs_from {L : List (Addr × List Int)} : ∀ vs : List Value, (∀ v ∈ vs, ∃ q ∈ L, v = Value.ref q.1) → ∃ L1 : List (Addr × List Int), vs = L1.map (fun q => Value.ref q.1) ∧ ∀ q ∈ L1, q ∈ L
  | [], _ => ⟨[], rfl, fun q h => nomatch h⟩
  | v :: vs, hv => by
    obtain ⟨q, hq, e⟩ := hv v List.mem_cons_self
    obtain ⟨L1, e1, hs⟩ := refs_from vs fun u hu => hv u (List.mem_cons_of_mem _ hu)
    refine ⟨q :: L1, by rw [List.map_cons, e, e1], fun r hr => ?_⟩
    rcases List.mem_cons.mp hr with rfl | z
    · exact hq
    · exact hs r z
/-- sorted(set), tuples of d ints -/
theorem sorted_setA {a : Addr} {L : List (Addr × List Int)} {es : Array (Int × Value)} {ep : Nat} {t : SetTable} {Q : Value → Shared → Prop} (R : SetTR P w s.heap a L es ep t) (hh : A.handled = none) {d : Nat} (hd1 : 1 ≤ d) (hd : ∀ p ∈ L, p.2.length = d)
    (fin : ∀ s' p (out : Array Value) (c : Nat) (L' : List (Addr × List Int)), (∀ b o, s.heap.get? b = some o → s'.heap.get? b = some o) → s'.gens = s.gens → s'.os = s.os → s.heap.objs.size ≤ p →
      s'.heap.get? p = some (seqObj "list" out c) → out.toList = L'.map (fun q => Value.ref q.1) → L'.Perm L → L'.Pairwise (fun q r => HT.lexLt r.2 q.2 = false) → Q (.ref p) s') :
    wpAny (model P w) A (call (.builtin "sorted") [.ref a]) Q E s := by
  obtain ⟨o, ho, hex, hdat⟩ := R.ob
  have many := R.size
  have few := R.few
  refine Calls.call_function_entry kind_sorted plain_sorted entry_sorted (args_sorted1 _) ?_
  unfold Builtin.«sorted»
  refine wpAny_bind (m := checkCount "sorted" 1 1 _) (wpAny_pure ?_)
  refine wpAny_bind (collect_set (A := A.in1) hh ⟨o, ho, hex.1, hdat⟩ R.fits (by unfold scanBound; omega) R.tab.ris R.led fun s1 vs kept szs gens_ os_ pm => ?_)
  have rows_ : es.toList.map (·.2) = L.map fun q => Value.ref q.1 := by
    rw [R.rows]
    unfold L2.rowsOf
    rw [List.map_map]
    rfl
  rw [rows_] at pm
  have one : ∀ q ∈ L, ∀ r ∈ L, q.1 = r.1 → q = r := fun q hq r hr e => by
    have aq := R.tup q hq
    rw [e] at aq
    exact Prod.ext e (aq.inj (R.tup r hr))
  have nodL : L.Nodup := nodup_of_map R.nd
  have nodR : (L.map fun q => Value.ref q.1).Nodup := by
    refine List.pairwise_map.mpr (List.Pairwise.imp_of_mem (fun {q r} hq hr hne e => ?_) nodL)
    injection e with e
    exact hne (one q hq r hr e)
  have short : vs.length < 64 := by
    rw [pm.length_eq, List.length_map]
    exact few
  have line : vs.length ≤ sizeLine := by
    rw [sizeLine_eq]
    omega
  refine wpAny_bind (wpAny_newList ?_ line)
  have newL : (s1.heap.push (seqObj "list" vs.toArray 0)).get? s1.heap.objs.size = some (seqObj "list" vs.toArray 0) := Heap.get?_push_size _ rfl
  have tup_ : ∀ q ∈ L, TS.TupInts (s1.heap.push (seqObj "list" vs.toArray 0)) (.ref q.1) q.2 := fun q hq => tupInts_of (P := P) (w := w) (isT_keep (R.tup q hq) fun b u e => Heap.get?_push_of_some _ (kept b u e))
  have all_ : ∀ v ∈ vs, TS.TupInts (s1.heap.push (seqObj "list" vs.toArray 0)) v (TS.intsOf (s1.heap.push (seqObj "list" vs.toArray 0)) v) ∧ (TS.intsOf (s1.heap.push (seqObj "list" vs.toArray 0)) v).length = d := fun v hv => by
    obtain ⟨q, hq, e⟩ := List.mem_map.mp (pm.mem_iff.mp hv)
    rw [← e, (tup_ q hq).ints]
    exact ⟨tup_ q hq, hd q hq⟩
  have noTup : ∀ o, (s1.heap.push (seqObj "list" vs.toArray 0)).get? s1.heap.objs.size = some o → o.cls ≠ .type "tuple" := fun o e c => by
    rw [newL] at e
    cases e
    exact absurd (Value.type.inj c) (by decide)
  refine wpAny_bind (wpAny_holding (wpAny_call_entry (s := { s1 with heap := s1.heap.push (seqObj "list" vs.toArray 0) }) slot_list_sort ⟨_, newL, rfl⟩ entry_list_sort
    (SrtO.list_sort_ord (swo_lx (TS.intsOf (s1.heap.push (seqObj "list" vs.toArray 0)))) newL line (fun h2 => tups_sortable hd1 (by omega) all_ noTup) fun out so sb => ⟨_, rfl, ?_⟩) (args_list_sort _)))
  obtain ⟨c, at_⟩ := sortedHeap_at (vs := vs) (out := out.toArray) newL
  obtain ⟨L', e', sub_⟩ := refs_from (L := L) out fun v hv => by
    obtain ⟨q, hq, e⟩ := List.mem_map.mp (pm.mem_iff.mp (sb.perm.mem_iff.mp hv))
    exact ⟨q, hq, e.symm⟩
  have permR : (L'.map fun q => Value.ref q.1).Perm (L.map fun q => Value.ref q.1) := by
    rw [← e']
    exact sb.perm.trans pm
  have permL : L'.Perm L := by
    have n1 : L'.Nodup := nodup_of_map (permR.nodup_iff.mpr nodR)
    refine (List.perm_ext_iff_of_nodup n1 nodL).mpr fun q => ⟨sub_ q, fun hq => ?_⟩
    obtain ⟨r, hr, e⟩ := List.mem_map.mp (permR.mem_iff.mpr (List.mem_map.mpr ⟨q, hq, rfl⟩))
    injection e with e
    rw [← one r (sub_ r hr) q hq e]
    exact hr
  have ordered : L'.Pairwise (fun q r => HT.lexLt r.2 q.2 = false) := by
    have so' : (L'.map fun q => Value.ref q.1).Pairwise (fun v u => HT.lexLt (TS.intsOf (s1.heap.push (seqObj "list" vs.toArray 0)) u) (TS.intsOf (s1.heap.push (seqObj "list" vs.toArray 0)) v) = false) := by
      rw [← e']
      exact so
    refine List.Pairwise.imp_of_mem (fun {q r} hq hr hle => ?_) (List.pairwise_map.mp so')
    rw [(tup_ q (sub_ q hq)).ints, (tup_ r (sub_ r hr)).ints] at hle
    exact hle
  refine wpAny_pure ⟨_, rfl, fin _ s1.heap.objs.size out.toArray c L' (fun b u e => ?_) gens_ os_ szs at_ (by simpa using e') permL ordered⟩
  have there := kept b u e
  have lt_ := Heap.lt_size there
  show (sortedHeap (s1.heap.push (seqObj "list" vs.toArray 0)) s1.heap.objs.size vs out.toArray).get? b = some u
  rw [sortedHeap_old (Nat.ne_of_lt lt_) (by rw [size_push']; exact Nat.lt_succ_of_lt lt_)]
  exact Heap.get?_push_of_some _ there
end
section
variable {X : Cx}
/-- set(xs), xs a list or a tuple of tuples of ints -/
def rSetA (K : PySem.W.Frag) (P : Program) (w : World) : List V → Hp → VK → Prop := fun vs H Q => ∃ (l : Addr) (ks : List (Addr × List Int)), vs = [V.ref l] ∧ (SqL K H l (ks.map fun p => V.ref p.1) ∨ SqT K H l (ks.map fun p => V.ref p.1)) ∧ (∀ p ∈ ks, SqT K H p.1 (p.2.map V.int)) ∧ ks.length < 64 ∧
  ∀ a L, H a = none → (∀ p ∈ L, p ∈ ks) → (∀ p ∈ ks, p.2 ∈ L.map (·.2)) → Q (.ref a) (upd H a (SetTO P w a L))
theorem cr_setA (hc : X.calm = true) (hu : X.A.units + 64 < cLine) : CallR X (.type "set") (rSetA X.K X.prog X.w) := by
  intro pins s σ H xs us Q I r h
  obtain ⟨l, ks, rfl, hl, hk, hf, q⟩ := h
  rcases hl with hl | hl
  · exact cr_setOfT hc hu pins s σ H _ us Q I r ⟨l, ks, rfl, hl, hk, hf, q⟩
  rw [Vals.ref1 r]
  obtain ⟨its, rv, pl, hz⟩ := I.tuple hl
  have fresh_ : H s.heap.objs.size = none := I.hok.fresh (Nat.le_refl _)
  refine set_tupT (P := X.prog) (w := X.w) ks (I.ok.hd hc) pl (by simpa using refs_of_vals rv) (fun p hp => I.isT (hk p hp)) hf (by omega) fun h' tk L es ep t R g k => ?_
  refine ⟨.ref s.heap.objs.size, _, I.laid (t' := tk) (o := SetTO X.prog X.w s.heap.objs.size L) k (Nat.le_refl _) (setTO_new R.t0), rfl, ?_⟩
  refine q _ L fresh_ (fun p hp => List.mem_of_mem_take (g.sub p hp)) fun p hp => g.all p ?_
  rw [List.take_length]
  exact hp
/-- sorted(set) of such -/
def rSortedSA (K : PySem.W.Frag) (P : Program) (w : World) : List V → Hp → VK → Prop := fun vs H Q => ∃ (a : Addr) (L : List (Addr × List Int)) (d : Nat), vs = [V.ref a] ∧ H a = some (SetTO P w a L) ∧ (∀ p ∈ L, SqT K H p.1 (p.2.map V.int)) ∧ 1 ≤ d ∧ (∀ p ∈ L, p.2.length = d) ∧
  ∀ (L' : List (Addr × List Int)) (p : Addr), L'.Perm L → (L'.map (·.2)).Nodup → L'.Pairwise (fun q r => HT.lexLt r.2 q.2 = false) → H p = none → Q (.ref p) (upd H p (.lst (L'.map fun q => V.ref q.1)))
theorem cr_sortedSA (hc : X.calm = true) : CallR X (.builtin "sorted") (rSortedSA X.K X.prog X.w) := by
  intro pins s σ H vs us Q I r h
  obtain ⟨a, L, d, rfl, ha, hk, hd1, hd, q⟩ := h
  have R0 : SetT0 X.prog X.w s.heap a L := (I.hok a _ ha).1
  obtain ⟨es, ep, t, R⟩ := R0.full fun p hp => I.isT (hk p hp)
  rw [Vals.ref1 r]
  refine sorted_setA R (I.ok.hd hc) hd1 hd fun s' p out c L' kept g o hp hg hout pm pw => ?_
  have line : (L'.map fun q => V.ref q.1).length ≤ sizeLine := by
    rw [List.length_map, sizeLine_eq, pm.length_eq]
    have := R.few
    omega
  have fresh_ : H p = none := I.hok.fresh hp
  have rel : Vals (L'.map fun q => V.ref q.1) out.toList := by
    rw [hout]
    exact vals_of_refs L'
  have J : Inv X pins σ (upd H p (.lst (L'.map fun q => V.ref q.1))) { s with heap := s'.heap, gens := s'.gens, drawn := s'.drawn, toks := s'.toks } :=
    I.call (ch := []) (Un.laid kept hp fresh_) (I.hok.laid kept hp ⟨line, out.toList, c, rel, hg⟩) (by rw [g]; exact I.bare) (fun _ z => nomatch z)
  have e : s' = { s with heap := s'.heap, gens := s'.gens, drawn := s'.drawn, toks := s'.toks } := by
    cases s'
    cases s
    cases o
    rfl
  rw [e]
  exact ⟨.ref p, _, J, rfl, q L' p pm ((pm.map (·.2)).nodup_iff.mpr R.nd) pw fresh_⟩
/-- set(xs) of ints, xs a list or a tuple -/
def rSetI (K : PySem.W.Frag) (w : World) : List V → Hp → VK → Prop := fun vs H Q => ∃ (l : Addr) (ns : List Int), vs = [V.ref l] ∧ (SqL K H l (ns.map V.int) ∨ SqT K H l (ns.map V.int)) ∧ ns.length + 1 < scanBound ∧
  ∀ a c, H a = none → c ≤ ns.length → Q (.ref a) (upd H a (SetO w a (fun j => decide (j ∈ ns)) c))
theorem cr_setI (hc : X.calm = true) : CallR X (.type "set") (rSetI X.K X.w) := by
  intro pins s σ H xs us Q I r h
  obtain ⟨l, ns, rfl, hl, hf, q⟩ := h
  rw [Vals.ref1 r]
  have fresh_ : H s.heap.objs.size = none := I.hok.fresh (Nat.le_refl _)
  rcases hl with hl | hl
  · obtain ⟨its, rv, pl, hz⟩ := I.list hl
    exact set_ints (P := X.prog) (w := X.w) ns (I.ok.hd hc) pl.isList (by simpa using rv.ints) hf fun h' tk c R hcn k =>
      ⟨.ref s.heap.objs.size, _, I.laid (t' := tk) (o := SetO X.w s.heap.objs.size _ c) k (Nat.le_refl _) (setO_new R), rfl, q _ c fresh_ hcn⟩
  · obtain ⟨its, rv, pl, hz⟩ := I.tuple hl
    exact call_set_tupI (P := X.prog) (w := X.w) ns (I.ok.hd hc) pl (by simpa using rv.ints) hf fun h' tk c R hcn k =>
      ⟨.ref s.heap.objs.size, _, I.laid (t' := tk) (o := SetO X.w s.heap.objs.size _ c) k (Nat.le_refl _) (setO_new R), rfl, q _ c fresh_ hcn⟩
end
/-- rows of tuples, by their addresses -/
theorem RAll.addrs {α : Type} [Tupi α] {K : PySem.W.Frag} {H : Hp} : ∀ {vs : List V} {as : List α}, RAll K H vs as → ∃ ks : List (Addr × List Int), vs = (ks.map fun p => V.ref p.1) ∧ ks.map (·.2) = as.map Tupi.key ∧ ∀ p ∈ ks, SqT K H p.1 (p.2.map V.int)
  | _, _, .nil => ⟨[], rfl, rfl, fun p h => nomatch h⟩
  | _, _, .cons (a := a) r t => by
    obtain ⟨p, rfl, hp⟩ := Tupi.inv r
    obtain ⟨ks, e1, e2, h⟩ := t.addrs
    refine ⟨(p, Tupi.key a) :: ks, by rw [List.map_cons, e1], by rw [List.map_cons, List.map_cons, e2], fun q hq => ?_⟩
    rcases List.mem_cons.mp hq with rfl | hq
    · exact hp
    · exact h q hq
theorem RAll.of_addrs {α : Type} [Tupi α] {K : PySem.W.Frag} {H : Hp} : ∀ (L : List (Addr × List Int)), (∀ p ∈ L, ∃ a : α, p.2 = Tupi.key a ∧ SqT K H p.1 (p.2.map V.int)) → RAll K H (L.map fun p => V.ref p.1) (L.map fun p => (Tupi.dec p.2 : α))
  | [], _ => .nil
  | p :: L, h => by
    obtain ⟨a, e, hp⟩ := h p List.mem_cons_self
    refine .cons ?_ (RAll.of_addrs L fun q hq => h q (List.mem_cons_of_mem _ hq))
    show Rep K H (V.ref p.1) (Tupi.dec p.2 : α)
    rw [e, Tupi.dk]
    rw [e] at hp
    exact Tupi.rep hp
/-- sorted(set(xs)) as data -/
theorem set_sorted {α : Type} [Tupi α] {K : PySem.W.Frag} {P : Program} {w : World} {H : Hp} {l : Addr} {xs : List V} {as : List α} {Q : VK} (hl : SqL K H l xs ∨ SqT K H l xs) (ra : RAll K H xs as) (few : as.length < 64)
    (q : ∀ ys (bs : List α) p H', Evl.Ex H H' → H' p = some (.lst ys) → RAll K H' ys bs → bs.Nodup → (∀ b, b ∈ bs ↔ b ∈ as) → bs.Pairwise (fun a b => ltK b a = false) → Q (.ref p) H') :
    rSetA K P w [V.ref l] H fun v H1 => rSortedSA K P w [v] H1 Q := by
  obtain ⟨ks, rfl, e2, hk⟩ := ra.addrs
  have many : ks.length = as.length := by
    have := congrArg List.length e2
    rwa [List.length_map, List.length_map] at this
  have keyOf : ∀ p ∈ ks, ∃ a ∈ as, p.2 = Tupi.key a := fun p hp => by
    have : p.2 ∈ as.map Tupi.key := by
      rw [← e2]
      exact List.mem_map.mpr ⟨p, hp, rfl⟩
    obtain ⟨a, ha, e⟩ := List.mem_map.mp this
    exact ⟨a, ha, e.symm⟩
  refine ⟨l, ks, rfl, hl, hk, by omega, fun sa L hsa sub all => ?_⟩
  have eS : Evl.Ex H (upd H sa (SetTO P w sa L)) := Evl.Ex.new hsa
  refine ⟨sa, L, Tupi.d α, rfl, upd_same, fun p hp => Evl.ex_t eS (hk p (sub p hp)), Tupi.d1, fun p hp => ?_, fun L' p pm nd pw hp => ?_⟩
  · obtain ⟨a, _, e⟩ := keyOf p (sub p hp)
    rw [e, Tupi.len]
  have eP : Evl.Ex (upd H sa (SetTO P w sa L)) (upd (upd H sa (SetTO P w sa L)) p (.lst (L'.map fun q => V.ref q.1))) := Evl.Ex.new hp
  have sub' : ∀ r ∈ L', r ∈ ks := fun r hr => sub r (pm.mem_iff.mp hr)
  have key' : ∀ r ∈ L', ∃ a ∈ as, r.2 = Tupi.key a := fun r hr => keyOf r (sub' r hr)
  refine q _ (L'.map fun r => (Tupi.dec r.2 : α)) p _ (eS.trans eP) upd_same (RAll.of_addrs L' fun r hr => ?_) ?_ (fun b => ⟨fun hb => ?_, fun hb => ?_⟩) ?_
  · obtain ⟨a, _, e⟩ := key' r hr
    exact ⟨a, e, Evl.ex_t (eS.trans eP) (hk r (sub' r hr))⟩
  · refine List.pairwise_map.mpr (List.Pairwise.imp_of_mem (fun {x y} hx hy hne e => hne ?_) (List.pairwise_map.mp nd))
    obtain ⟨a, _, ea⟩ := key' x hx
    obtain ⟨b, _, eb⟩ := key' y hy
    rw [ea, eb, Tupi.dk, Tupi.dk] at e
    rw [ea, eb, e]
  · obtain ⟨r, hr, rfl⟩ := List.mem_map.mp hb
    obtain ⟨a, ha, e⟩ := key' r hr
    rw [e, Tupi.dk]
    exact ha
  · have : Tupi.key b ∈ ks.map (·.2) := by
      rw [e2]
      exact List.mem_map.mpr ⟨b, hb, rfl⟩
    obtain ⟨r, hr, e⟩ := List.mem_map.mp this
    obtain ⟨r2, hr2, e3⟩ := List.mem_map.mp (all r hr)
    refine List.mem_map.mpr ⟨r2, pm.mem_iff.mpr hr2, ?_⟩
    rw [e3, e, Tupi.dk]
  · refine List.pairwise_map.mpr (List.Pairwise.imp_of_mem (fun {x y} hx hy h => ?_) pw)
    obtain ⟨a, _, ea⟩ := key' x hx
    obtain ⟨b, _, eb⟩ := key' y hy
    show HT.lexLt (Tupi.key (Tupi.dec y.2 : α)) (Tupi.key (Tupi.dec x.2 : α)) = false
    rw [ea, eb, Tupi.dk, Tupi.dk, ← ea, ← eb]
    exact h
end My

-- Oe
/-! == and != by a class's own __eq__, with either answer; == and != of two tuples of the same objects -/
namespace My
open PySem PySem.Spec PyProof.Rows
section
open PySem.W PySem.Calls
variable {prog : Program} {w : World} {A : Around} {E : Value → Shared → Prop} {s : Shared} {K : Frag} {x C L f : Addr} {h₀ : Heap} {m : Str → Option Value} {ox : Obj} {od : Option Obj} {b tb : Value}
theorem objNe_K (X : K.In s.heap) (I : InstAt s.heap x ox C od) (hs : findIn K (.ref C) "__eq__" = some (some (.ref f))) (hf : isFn K (.ref f) = true) (hu : A.units < cLine) {Q : Fin → Shared → Prop}
    (hcall : wpAny (model prog w) A (call (.ref f) [.ref x, b]) (fun v s' => ∃ r, v = .bool r ∧ Q (.done (.ret (.bool (!r)))) s') E s) :
    wpAny (model prog w) A (Builtin.«object.__ne__» ⟨[.ref x, b], []⟩) Q E s := by
  unfold Builtin.«object.__ne__»
  repeat (first
    | with_reducible refine wpAny_cRoomFor hu ?_
    | (refine wpAny_bind (m := callSpecialIfBound? (.ref x) (Str.ofString "__eq__") [b])
        (ifBound_K X I hs hf (wpAny_mono hcall (fun v s' hr => by
          obtain ⟨r, rfl, hq⟩ := hr
          repeat (first | exact hq | exact wpAny_pure hq | exact wpAny_truthy_bool hq | (refine wpAny_bind (m := truthy (.bool _)) (wpAny_truthy_bool ?_)) | wp_step)) fun _ _ e => e)))
    | wp_step)
theorem ifBound_ne {M : Model} {args : List Value} {Q : Option Value → Shared → Prop} (X : K.In s.heap) (I : InstAt s.heap x ox C od) (hs : findIn K (.ref C) "__ne__" = some (some (.builtin "object.__ne__")))
    (h : wpAny M A (call (.builtin "object.__ne__") (.ref x :: args)) (fun v => Q (some v)) E s) : wpAny M A (callSpecialIfBound? (.ref x) "__ne__" args) Q E s := by
  simp only [callSpecialIfBound?, bindSpecialIfBound?]
  refine wpAny_holding (wpAny_bind (wpAny_bind (wpAny_bind (I.type.here ((looks_findIn X hs).here ?_)))))
  simp only [PySem.F.cmp_object.ne.bind]
  refine wpAny_bind (wpAny_askSetting (wpAny_ite ?_))
  have fin : wpAny M A (call (.builtin "object.__ne__") ([.ref x] ++ args) >>= fun v => pure (some v)) Q E s := wpAny_bind (wpAny_mono h (fun v s' h' => wpAny_pure h') fun _ _ h' => h')
  split
  · exact wpAny_bind (wpAny_pure (wpAny_pure fin))
  · exact wpAny_tryCatch (wpAny_bind (wpAny_pure (wpAny_pure fin)))
theorem ne_K {Q : Value → Shared → Prop} (hu : A.units + 1 < cLine) (F : Fr h₀ L s.heap m) (X₀ : K.In h₀) (I : InstAt s.heap x ox C od) (hb : Looks (model prog w) s.heap (typeOf b) tb) (hn : notFirst K C tb = true)
    (hne : findIn K (.ref C) "__ne__" = some (some (.builtin "object.__ne__"))) (hs : findIn K (.ref C) "__eq__" = some (some (.ref f))) (hf : isFn K (.ref f) = true) (hob : subIn K (.ref C) (.type "object") = some true)
    (h : wpAny (model prog w) A.in1 (call (.ref f) [.ref x, b]) (fun v s' => ∃ r, v = .bool r ∧ Q (.bool (!r)) s') E s) : wpAny (model prog w) A (richCompare .NotEq (.ref x) b) Q E s := by
  have X := X₀.keeps F.keep
  have hi : Looks (model prog w) s.heap (isInstance (.ref x) (.type "object")) true := I.type.andThen (looks_subIn X hob)
  have one : wpAny (model prog w) A (tryCompare (.ref x) "__ne__" b) (fun r s' => ∃ v, r = some v ∧ Q v s') E s := by
    unfold tryCompare
    refine wpAny_bind (ifBound_ne X I hne (wpAny_call (codeAny_call_builtin PySem.F.cmp_object.ne.plain PySem.F.cmpEntry_ne
      (check_slot PySem.F.cmpKind_ne PySem.F.cmpSplit_ne hi (PySem.F.cmpArgs_ne _ _) (objNe_K X I hs hf (by
        show A.units + 1 < cLine
        exact hu) (wpAny_mono h (fun v s' hv => ?_) fun _ _ e => e))))))
    obtain ⟨r, rfl, hq⟩ := hv
    exact ⟨r, rfl, wpAny_pure ⟨_, rfl, hq⟩⟩
  unfold richCompare
  simp only [oneThing_ref]
  refine wpAny_holding (wpAny_bind (wpAny_cRoomFor (Nat.lt_of_succ_lt hu) ?_))
  rw [cmpInfo_NotEq]
  dsimp only
  refine wpAny_bind (I.type.here (wpAny_bind (hb.here ?_)))
  split
  · rename_i q
    have e : subIn K tb (.ref C) = some false := by
      rcases Bool.or_eq_true_iff.mp hn with e | e
      · rw [beq_iff_eq.mp e] at q; simp at q
      · exact beq_iff_eq.mp e
    refine wpAny_bind ((looks_subIn X e).here ?_)
    simp only [Bool.false_eq_true, if_false]
    refine wpAny_bind (wpAny_mono one (fun r s' z => ?_) fun _ _ e => e)
    obtain ⟨v, rfl, hq⟩ := z
    exact wpAny_pure hq
  · refine wpAny_bind (wpAny_pure ?_)
    simp only [Bool.false_eq_true, if_false]
    refine wpAny_bind (wpAny_mono one (fun r s' z => ?_) fun _ _ e => e)
    obtain ⟨v, rfl, hq⟩ := z
    exact wpAny_pure hq
end
open L2
/-- a class with an own == of the text and none for != -/
structure EqAtC (K : PySem.W.Frag) (C : Addr) : Prop where
  ne : PySem.W.findIn K (.ref C) "__ne__" = some (some (.builtin "object.__ne__"))
  ob : PySem.W.mroIn K C (.type "object") = some true
  cls : PySem.W.findIn K (.ref C) "__class__" = some (some (.builtin "object.__class__"))
  gt : PySem.W.specialIn K (.builtin "object.__class__") "__get__" = some (some (.builtin "getset_descriptor.__get__"))
  tk : PySem.W.takesIn K (.builtin "object.__class__") = some true
theorem EqAtC.ty {K : PySem.W.Frag} {C a dx : Addr} {fs : List (Str × V)} {H : Hp} (e : EqAtC K C) (cl : Cls K C) (h : H a = some (.ins C dx fs)) : TyX K H (.ref a) (.ref C) := .base (.ins h cl e.cls e.gt e.tk e.ob)
theorem kit_self {K : PySem.W.Frag} {C : Addr} : PySem.W.kitOne K (.ref C) (.ref C) = some true := by
  unfold PySem.W.kitOne
  rw [if_pos (by simp)]
section
variable {X : Cx} {n : Nat} {CX : CXT} {C f : Addr} {fd : FuncData} {ps : List Str} {sp : Sp}
/-- == of two objects of the class at C by the own one -/
def rOwnEq (C : Addr) (sp : Sp) : R2 := fun x y H Q => ∃ a b dx dy fs gs, x = .ref a ∧ y = .ref b ∧ H a = some (.ins C dx fs) ∧ H b = some (.ins C dy gs) ∧ sp [.ref a, .ref b] H (fun v H' => ∃ r, v = .bl r ∧ Q (.bl r) H') (fun _ _ _ => False)
def rOwnNe (C : Addr) (sp : Sp) : R2 := fun x y H Q => ∃ a b dx dy fs gs, x = .ref a ∧ y = .ref b ∧ H a = some (.ins C dx fs) ∧ H b = some (.ins C dy gs) ∧ sp [.ref a, .ref b] H (fun v H' => ∃ r, v = .bl r ∧ Q (.bl (!r)) H') (fun _ _ _ => False)
theorem op_ownEq (F : FnOk X.prog X.w X.K X.mg X.base CX0 n f fd ps sp) (hr : Room n X.A) (hm : PySem.W.findIn X.K (.ref C) "__eq__" = some (some (.ref f))) (hf : PySem.W.isFn X.K (.ref f) = true) (hb : Binds X.K fd ps []) : OpR X (compareOp .Eq) (rOwnEq C sp) := by
  intro pins s σ H x y v u Q I rx ry hq
  obtain ⟨a, b, dx, dy, fs, gs, rfl, rfl, ha, hb', q⟩ := hq
  cases rx
  cases ry
  obtain ⟨mA, J, _⟩ := ins_get I.hok ha
  obtain ⟨mB, J', _⟩ := ins_get I.hok hb'
  obtain ⟨od, J, _⟩ := J.look
  obtain ⟨od', J', _⟩ := J'.look
  obtain ⟨m, hF⟩ := I.fr
  show wpAny (model X.prog X.w) X.A (richCompare .Eq (.ref a) (.ref b)) (EP X pins σ Q) X.xe s
  refine PySem.W.cmp_K (op := .Eq) (tb := .ref C) hr.units0 hF I.ok.mod.kin J J'.type (by simp [PySem.W.notFirst]) hm hf ?_
  refine wpAny_mono (run_fn F hr hb .nil pass0 I (show Vals [V.ref a, V.ref b] [Value.ref a, Value.ref b] from .cons rfl (.cons rfl .nil)) q) (fun v s' z => ?_) fun _ _ e => e
  obtain ⟨y, H', I', r, k, rfl, hq⟩ := z
  cases r
  exact ⟨.bl k, H', I', rfl, hq⟩
theorem op_ownNe (F : FnOk X.prog X.w X.K X.mg X.base CX0 n f fd ps sp) (hr : Room (n + 1) X.A) (hm : PySem.W.findIn X.K (.ref C) "__eq__" = some (some (.ref f))) (hf : PySem.W.isFn X.K (.ref f) = true) (hb : Binds X.K fd ps []) (c : EqAtC X.K C) : OpR X (compareOp .NotEq) (rOwnNe C sp) := by
  intro pins s σ H x y v u Q I rx ry hq
  obtain ⟨a, b, dx, dy, fs, gs, rfl, rfl, ha, hb', q⟩ := hq
  cases rx
  cases ry
  obtain ⟨mA, J, _⟩ := ins_get I.hok ha
  obtain ⟨mB, J', _⟩ := ins_get I.hok hb'
  obtain ⟨od, J, _⟩ := J.look
  obtain ⟨od', J', _⟩ := J'.look
  obtain ⟨m, hF⟩ := I.fr
  show wpAny (model X.prog X.w) X.A (richCompare .NotEq (.ref a) (.ref b)) (EP X pins σ Q) X.xe s
  refine ne_K (tb := .ref C) (by have := hr.in1.units0; exact this) hF I.ok.mod.kin J J'.type (by simp [PySem.W.notFirst]) c.ne hm hf c.ob ?_
  have e0 : Env0 X.prog X.w X.K X.mg X.base X.A.in1 X.stack s H := by
    have e := I.env0
    exact ⟨e.frames, e.mod, e.bs, e.bsz, e.funs, e.frf, e.hok, e.bare⟩
  have hl := F.len _ _ _ _ q
  refine wpAny_call (codeAny_mono (F.run X.A.in1 X.stack s H ⟨[.ref a, .ref b], []⟩ [.ref a, .ref b] [.ref a, .ref b] _ _ hr.in1 e0 (by
    have := hb s [.ref a, .ref b] I.kIn (by simpa using hl)
    simpa using this) (show Vals [V.ref a, V.ref b] [Value.ref a, Value.ref b] from .cons rfl (.cons rfl .nil)) q) fun r s' hq => ?_)
  cases r with
  | error e => exact (show False from hq).elim
  | ok fl =>
    cases fl with
    | ret w =>
      obtain ⟨z, H', I', rz, k, ez, hq2⟩ := I.after hq
      subst ez
      cases rz
      exact ⟨k, rfl, .bl _, H', I', rfl, hq2⟩
    | next => exact False.elim hq
    | brk => exact False.elim hq
    | cont => exact False.elim hq
/-- two tuples of the same objects -/
def rEqSame (K : PySem.W.Frag) : R2 := fun x y H Q => ∃ (a b : Addr) (as : List Addr), x = .ref a ∧ y = .ref b ∧ SqT K H a (as.map V.ref) ∧ SqT K H b (as.map V.ref) ∧ Q (.bl true) H
def rNeSame (K : PySem.W.Frag) : R2 := fun x y H Q => ∃ (a b : Addr) (as : List Addr), x = .ref a ∧ y = .ref b ∧ SqT K H a (as.map V.ref) ∧ SqT K H b (as.map V.ref) ∧ Q (.bl false) H
theorem vals_refs : ∀ {as : List Addr} {us : List Value}, Vals (as.map V.ref) us → us = as.map Value.ref
  | [], _, .nil => rfl
  | _ :: _, _, .cons h r => by
    cases h
    rw [vals_refs r]
    rfl
theorem op_eqSame (hu : X.A.units + 64 < cLine) : OpR X (compareOp .Eq) (rEqSame X.K) := by
  intro pins s σ H x y v u Q I rx ry h
  obtain ⟨a, b, as, rfl, rfl, ha, hb, q⟩ := h
  cases rx
  cases ry
  obtain ⟨its, r, e, z⟩ := I.tuple ha
  obtain ⟨its2, r2, e2, z2⟩ := I.tuple hb
  have e1 := vals_refs r
  have e3 := vals_refs r2
  subst e1
  subst e3
  show wpAny (model X.prog X.w) X.A (richCompare .Eq (.ref a) (.ref b)) (EP X pins σ Q) X.xe s
  exact GQ.rc_tupG rfl (by omega) (fun _ s' => s' = s) e e2 (fun i h1 h2 s' l => by
    subst l
    exact SeqAt.EqAt.same (A := X.A.in1) (s := s') _ X.prog X.w X.xe _ ⟨rfl, rfl⟩) (fun s' l => by
    subst l
    exact ⟨.bl true, H, I, rfl, q⟩) rfl
theorem op_neSame (hu : X.A.units + 64 < cLine) : OpR X (compareOp .NotEq) (rNeSame X.K) := by
  intro pins s σ H x y v u Q I rx ry h
  obtain ⟨a, b, as, rfl, rfl, ha, hb, q⟩ := h
  cases rx
  cases ry
  obtain ⟨its, r, e, z⟩ := I.tuple ha
  obtain ⟨its2, r2, e2, z2⟩ := I.tuple hb
  have e1 := vals_refs r
  have e3 := vals_refs r2
  subst e1
  subst e3
  have k := SeqAt.RcNeAt.tuples (A := X.A) (e := fun _ => true) e e2 (by omega) (fun j h1 h2 => SeqAt.EqAt.same (A := X.A.in1) (s := s) _)
  refine k X.prog X.w X.xe _ ?_
  refine ⟨.bl false, H, I, ?_, q⟩
  rw [show ((List.range (min (List.map Value.ref as).toArray.size (List.map Value.ref as).toArray.size)).all fun _ => true) = true from by simp]
  simp [L2.RelV]
end
section
variable {X : Cx}
theorem op_eqAK (K : PySem.W.Frag) {α : Type} [Py α] [DecidableEq α] (hu : X.A.units + 64 < cLine) (e : X.K = K := by rfl) (h : Py.dep α ≤ 64 := by decide) : OpR X (compareOp .Eq) (rEqA K α) := e ▸ op_eqA hu h
end
end My

-- SrU
/-! sorted(a tuple of tuples of ints) -/
namespace My
open PySem PySem.Spec PyProof.Rows L2
section
variable {prog : Program} {w : World} {A : Around} {E : Value → Shared → Prop} {s : Shared}
theorem collect_tupH {l : Addr} {vs : List Value} {Q : List Value → Shared → Prop} (hl : s.heap.IsTuple l vs.toArray) (hz : vs.length ≤ sizeLine)
    (h : Q vs { s with heap := (s.heap.push (seqObj "list" #[] 0)).update s.heap.objs.size (Obj.mapSeq (· ++ vs.toArray)) }) : wpAny (model prog w) A (collect (.ref l)) Q E s := by
  obtain ⟨o, ho, hc, n, hd⟩ := id hl
  have made : (s.heap.push (seqObj "list" #[] 0)).get? s.heap.objs.size = some (seqObj "list" #[] 0) := Heap.get?_push_size _ rfl
  have full := Heap.get?_update_self (Obj.mapSeq (· ++ vs.toArray)) made rfl
  have more : ((#[] : Array Value) ++ vs.toArray).toList = vs := by simp
  have tail : wpAny (model prog w) A (match Value.ref s.heap.objs.size with
      | Value.ref a => do
        match (← load a).data with
          | Data.seq xs _ => pure xs.toList
          | _ => unsupported "internal:collect"
      | _ => unsupported "internal:collect") Q E { s with heap := (s.heap.push (seqObj "list" #[] 0)).update s.heap.objs.size (Obj.mapSeq (· ++ vs.toArray)) } := by
    show wpAny _ A (load s.heap.objs.size >>= _) _ _ _
    refine wpAny_bind (wpAny_load full (wpAny_pure ?_))
    show Q ((#[] : Array Value) ++ vs.toArray).toList _
    rw [more]
    exact h
  unfold collect
  refine wpAny_bind (wpAny_runValue (codeAny_builtin F.entry_proto_collect ?_))
  rw [Around.under_plainId F.plain_proto_collect _]
  show wpAny _ A.in1 (newList [] >>= fun l' => again (.builtin "list.__iadd__" ⟨[l', .ref l], []⟩)) _ _ s
  refine wpAny_bind (wpAny_newObj_type (wpAny_pure ⟨plainId_quiet F.plain_list_iadd _, codeAny_builtin F.entry_list_iadd ?_⟩))
  rw [Around.under_plainId F.plain_list_iadd _]
  show wpAny _ A.in1 (Builtin.List.listExtendWith (.ref s.heap.objs.size) (.ref l) (.ref s.heap.objs.size)) _ _ _
  refine wpAny_mono (wpAny_extend_seq (hsz := by simpa using hz) (A := A) (R := fun r s' => r = .ok (.ret (.ref s.heap.objs.size)) ∧ s' = { s with heap := (s.heap.push (seqObj "list" #[] 0)).update s.heap.objs.size (Obj.mapSeq (· ++ vs.toArray)) })
    (s := { s with heap := s.heap.push (seqObj "list" #[] 0) }) _ l _ 0 (.inr rfl) made (Heap.get?_push_of_some _ ho) hc hd ⟨rfl, rfl⟩) (fun fin s' q => ?_) (fun e s' q => absurd q.1 (by simp))
  cases fin with
  | done f =>
    obtain ⟨e, rfl⟩ := q
    cases e
    exact tail
  | again c' => exact ⟨q.1, codeAny_mono q.2 fun r s'' hr => by
      obtain ⟨rfl, rfl⟩ := hr
      exact tail⟩
theorem sorted_tupT {l : Addr} {vs : List Value} {k : Value → List Int} {d : Nat} {Q : Value → Shared → Prop} (hd1 : 1 ≤ d) (hl : s.heap.IsTuple l vs.toArray) (hz : vs.length ≤ sizeLine) (hp : ∀ v ∈ vs, TS.TupInts s.heap v (k v) ∧ (k v).length = d)
    (h : ∀ (h' : Heap) (dd : Addr) (out : List Value), SrtO.Srtd (fun v u => HT.lexLt (k v) (k u)) out → SrtO.Stb (fun v u => HT.lexLt (k v) (k u)) out vs → (∀ b o, s.heap.get? b = some o → h'.get? b = some o) → s.heap.objs.size ≤ dd → (∃ n, h'.get? dd = some (seqObj "list" out.toArray n)) → Q (.ref dd) { s with heap := h' }) :
    wpAny (model prog w) A (call (.builtin "sorted") [.ref l]) Q E s := by
  refine Calls.call_function_entry kind_sorted plain_sorted entry_sorted (args_sorted1 _) ?_
  unfold Builtin.«sorted»
  refine wpAny_bind (m := checkCount "sorted" 1 1 _) (wpAny_pure ?_)
  refine wpAny_bind (collect_tupH hl hz ?_)
  refine wpAny_bind (wpAny_newList ?_ hz)
  have size1 : ((s.heap.push (seqObj "list" #[] 0)).update s.heap.objs.size (Obj.mapSeq (· ++ vs.toArray))).objs.size = s.heap.objs.size + 1 := by
    rw [Heap.size_update, size_push']
  have kept : ∀ b o, s.heap.get? b = some o → ((s.heap.push (seqObj "list" #[] 0)).update s.heap.objs.size (Obj.mapSeq (· ++ vs.toArray))).get? b = some o := fun b o q => by
    rw [Heap.get?_update_ne _ _ _ _ (Nat.ne_of_lt (Heap.lt_size q))]
    exact Heap.get?_push_of_some _ q
  have grown : s.heap.objs.size ≤ ((s.heap.push (seqObj "list" #[] 0)).update s.heap.objs.size (Obj.mapSeq (· ++ vs.toArray))).objs.size := by omega
  revert kept grown
  generalize (s.heap.push (seqObj "list" #[] 0)).update s.heap.objs.size (Obj.mapSeq (· ++ vs.toArray)) = g
  intro kept grown
  have newL : (g.push (seqObj "list" vs.toArray 0)).get? g.objs.size = some (seqObj "list" vs.toArray 0) := Heap.get?_push_size _ rfl
  have all_ : ∀ v ∈ vs, TS.TupInts (g.push (seqObj "list" vs.toArray 0)) v (k v) ∧ (k v).length = d := fun v hv => ⟨(hp v hv).1.keeps fun b o e _ => Heap.get?_push_of_some _ (kept b o e), (hp v hv).2⟩
  have noTup : ∀ o, (g.push (seqObj "list" vs.toArray 0)).get? g.objs.size = some o → o.cls ≠ .type "tuple" := fun o e c => by
    rw [newL] at e
    cases e
    exact absurd (Value.type.inj c) (by decide)
  refine wpAny_bind (wpAny_holding (wpAny_call_entry (s := { s with heap := g.push (seqObj "list" vs.toArray 0) }) slot_list_sort ⟨_, newL, rfl⟩ entry_list_sort
    (SrtO.list_sort_ord (swo_lx k) newL hz (fun h2 => tups_sortable hd1 (by omega) all_ noTup) fun out so sb => ⟨_, rfl, ?_⟩) (args_list_sort _)))
  obtain ⟨c, at_⟩ := sortedHeap_at (vs := vs) (out := out.toArray) newL
  refine wpAny_pure ⟨_, rfl, h _ g.objs.size out so sb (fun b o q => ?_) grown ⟨c, at_⟩⟩
  have there := kept b o q
  have lt_ := Heap.lt_size there
  show (sortedHeap (g.push (seqObj "list" vs.toArray 0)) g.objs.size vs out.toArray).get? b = some o
  rw [sortedHeap_old (Nat.ne_of_lt lt_) (by rw [size_push']; exact Nat.lt_succ_of_lt lt_)]
  exact Heap.get?_push_of_some _ there
end
/-- sorted(xs): xs a tuple of such tuples -/
def rSortedU (K : PySem.W.Frag) (α : Type) [Tupi α] : List V → Hp → VK → Prop := fun vs H Q => ∃ (a : Addr) (xs : List V) (as : List α), vs = [V.ref a] ∧ SqT K H a xs ∧ RAll K H xs as ∧
  ∀ (ys : List V) (bs : List α) p, H p = none → RAll K (upd H p (.lst ys)) ys bs → IsSorted bs as → Q (.ref p) (upd H p (.lst ys))
theorem cr_sortedU {X : Cx} {α : Type} [Tupi α] : CallR X (.builtin "sorted") (rSortedU X.K α) := by
  intro pins s σ H vs us Q I r h
  obtain ⟨a, xs, as, rfl, hs, ha, q⟩ := h
  obtain ⟨ks, rfl, e2, hk⟩ := ha.addrs
  obtain ⟨its, rv, hl, hz⟩ := I.tuple hs
  rw [Vals.ref1 r]
  have eits := refs_of_vals rv
  have keyOf : ∀ p ∈ ks, ∃ b ∈ as, p.2 = Tupi.key b := fun p hp => by
    have : p.2 ∈ as.map Tupi.key := by
      rw [← e2]
      exact List.mem_map.mpr ⟨p, hp, rfl⟩
    obtain ⟨b, hb, e⟩ := List.mem_map.mp this
    exact ⟨b, hb, e.symm⟩
  have isI : ∀ p ∈ ks, TS.TupInts s.heap (.ref p.1) p.2 := fun p hp => tupInts_of (P := X.prog) (w := X.w) (I.isT (hk p hp))
  refine sorted_tupT (k := TS.intsOf s.heap) (Tupi.d1 (α := α)) hl (by rw [← rv.length]; exact hz) (fun v hv => ?_) fun h' d out h1 h2 kp hd hn => ?_
  · rw [eits] at hv
    obtain ⟨p, hp, e⟩ := List.mem_map.mp hv
    obtain ⟨b, _, eb⟩ := keyOf p hp
    rw [← e, (isI p hp).ints]
    exact ⟨isI p hp, by rw [eb, Tupi.len]⟩
  have perm : out.Perm (ks.map fun p => Value.ref p.1) := by
    rw [← eits]
    exact h2.perm
  obtain ⟨L', e', sub_⟩ := refs_from (L := ks) out fun v hv => by
    obtain ⟨p, hp, e⟩ := List.mem_map.mp (perm.mem_iff.mp hv)
    exact ⟨p, hp, e.symm⟩
  obtain ⟨n, hn⟩ := hn
  have key' : ∀ p ∈ L', ∃ b ∈ as, p.2 = Tupi.key b := fun p hp => keyOf p (sub_ p hp)
  have hfree : H d = none := I.hok.fresh hd
  have ex : Evl.Ex H (upd H d (.lst (L'.map fun p => V.ref p.1))) := Evl.Ex.new hfree
  have hlen : (L'.map fun p => V.ref p.1).length ≤ sizeLine := by
    have := perm.length_eq
    rw [e', List.length_map, List.length_map] at this
    rw [List.length_map] at hz ⊢
    omega
  have permK : (L'.map (·.2)).Perm (ks.map (·.2)) := by
    have z := (perm.map (TS.intsOf s.heap))
    rw [e', List.map_map, List.map_map] at z
    have f1 : L'.map ((TS.intsOf s.heap) ∘ fun p => Value.ref p.1) = L'.map (·.2) := List.map_congr_left fun p hp => (isI p (sub_ p hp)).ints
    have f2 : ks.map ((TS.intsOf s.heap) ∘ fun p => Value.ref p.1) = ks.map (·.2) := List.map_congr_left fun p hp => (isI p hp).ints
    rw [f1, f2] at z
    exact z
  refine ⟨.ref d, upd H d (.lst (L'.map fun p => V.ref p.1)), I.laid (t' := s.toks) kp hd ⟨hlen, out, n, by rw [e']; exact vals_of_refs L', hn⟩, rfl, q _ (L'.map fun p => Tupi.dec p.2) d hfree (RAll.of_addrs L' fun p hp => ?_) ⟨?_, ?_⟩⟩
  · obtain ⟨b, _, e⟩ := key' p hp
    exact ⟨b, e, Evl.ex_t ex (hk p (sub_ p hp))⟩
  · have z := permK.map (Tupi.dec (α := α))
    rw [e2, List.map_map, List.map_map] at z
    have f : as.map ((Tupi.dec (α := α)) ∘ Tupi.key) = as := by
      conv => rhs; rw [← List.map_id as]
      exact List.map_congr_left fun b _ => Tupi.dk b
    rw [f] at z
    exact z
  · have h5 : L'.Pairwise fun x y => HT.lexLt (TS.intsOf s.heap (.ref y.1)) (TS.intsOf s.heap (.ref x.1)) = false := by
      have : (L'.map fun p => Value.ref p.1).Pairwise fun v u => HT.lexLt (TS.intsOf s.heap u) (TS.intsOf s.heap v) = false := by
        rw [← e']
        exact h1
      exact List.pairwise_map.mp this
    refine List.pairwise_map.mpr (h5.imp_of_mem fun {x y} hx hy hxy => ?_)
    obtain ⟨b, _, eb⟩ := key' x hx
    obtain ⟨c, _, ec⟩ := key' y hy
    rw [(isI x (sub_ x hx)).ints, (isI y (sub_ y hy)).ints] at hxy
    show HT.lexLt (Tupi.key (Tupi.dec y.2 : α)) (Tupi.key (Tupi.dec x.2 : α)) = false
    rw [eb, ec, Tupi.dk, Tupi.dk, ← eb, ← ec]
    exact hxy
end My

-- Mt
/-! items that were made as tuples of ints (they can be a dict's keys); comprehensions over any relation of items; what is kept but a draw's list -/
namespace My
open PySem L2 Evl
def MkT {α : Type} [Tupi α] (H : Hp) (y : V) (a : α) : Prop := ∃ t, y = .ref t ∧ H t = some (.tup ((Tupi.key a).map V.int))
abbrev MkAll {α : Type} [Tupi α] (H : Hp) (ys : List V) (as : List α) : Prop := Paired (MkT H) ys as
section
variable {α : Type} [Tupi α] {H H' : Hp}
theorem MkT.kt {y : V} {a : α} (e : ∀ b xs, H b = some (.tup xs) → H' b = some (.tup xs)) (h : MkT H y a) : MkT H' y a := by
  obtain ⟨t, h1, h2⟩ := h
  exact ⟨t, h1, e _ _ h2⟩
theorem MkAll.kt {ys : List V} {as : List α} (e : ∀ b xs, H b = some (.tup xs) → H' b = some (.tup xs)) (h : MkAll H ys as) : MkAll H' ys as := L2.Paired.mapP h fun _ _ z => z.kt e
theorem MkAll.ex {ys : List V} {as : List α} (e : Ex H H') (h : MkAll H ys as) : MkAll H' ys as := h.kt fun _ _ z => e _ _ z
theorem tup_updL {D : Addr} {ys : List V} {o : HO} (hD : H D = some (.lst ys)) (b : Addr) (xs : List V) (h : H b = some (.tup xs)) : (upd H D o) b = some (.tup xs) := by
  rw [upd_ne (ne_of h hD (fun z => by cases z))]
  exact h
theorem tup_updT {D : Addr} {kvs : List (List Key × V)} {o : HO} (hD : H D = some (.dT kvs)) (b : Addr) (xs : List V) (h : H b = some (.tup xs)) : (upd H D o) b = some (.tup xs) := by
  rw [upd_ne (ne_of h hD (fun z => by cases z))]
  exact h
theorem tup_updN {D : Addr} {o : HO} (hD : H D = none) (b : Addr) (xs : List V) (h : H b = some (.tup xs)) : (upd H D o) b = some (.tup xs) := by
  rw [upd_ne (ne_of_none h hD)]
  exact h
theorem paired_app {β γ : Type} {F : β → γ → Prop} {l1 m1 : List β} {l2 m2 : List γ} (h : Paired F l1 l2) (k : Paired F m1 m2) : Paired F (l1 ++ m1) (l2 ++ m2) := by
  induction h with
  | nil => exact k
  | cons a _ ih => exact .cons a ih
theorem paired_get {β γ : Type} {F : β → γ → Prop} {l1 : List β} {l2 : List γ} (h : Paired F l1 l2) : ∀ {i : Nat} {x : β}, l1[i]? = some x → ∃ y, l2[i]? = some y ∧ F x y := by
  induction h with
  | nil => intro i x h; simp at h
  | cons a _ ih =>
    intro i x h
    cases i with
    | zero => exact ⟨_, rfl, by simp at h; exact h ▸ a⟩
    | succ i =>
      obtain ⟨y, h1, h2⟩ := ih (by simpa using h)
      exact ⟨y, by simpa using h1, h2⟩
end
theorem MkT.p2 {H : Hp} {t : Addr} {a b : Int} (h : H t = some (.tup [.int a, .int b])) : MkT H (.ref t) (a, b) := ⟨t, rfl, h⟩
theorem MkT.p3 {H : Hp} {t : Addr} {a b c : Int} (h : H t = some (.tup [.int a, .int b, .int c])) : MkT H (.ref t) (a, b, c) := ⟨t, rfl, h⟩
theorem MkT.r2 {K : PySem.W.Frag} {H : Hp} {y : V} {a : Int × Int} (h : MkT H y a) : Rep K H y a := by
  obtain ⟨t, rfl, h⟩ := h
  exact Rep.p2 (st_of h)
theorem MkT.r3 {K : PySem.W.Frag} {H : Hp} {y : V} {a : Int × Int × Int} (h : MkT H y a) : Rep K H y a := by
  obtain ⟨t, rfl, h⟩ := h
  exact Rep.p3 (st_of h)
theorem MkAll.r2 {K : PySem.W.Frag} {H : Hp} {ys : List V} {as : List (Int × Int)} (h : MkAll H ys as) : RAll K H ys as := by
  induction h with
  | nil => exact .nil
  | cons a _ ih => exact .cons a.r2 ih
theorem MkAll.r3 {K : PySem.W.Frag} {H : Hp} {ys : List V} {as : List (Int × Int × Int)} (h : MkAll H ys as) : RAll K H ys as := by
  induction h with
  | nil => exact .nil
  | cons a _ ih => exact .cons a.r3 ih
/-- a comprehension with an invariant of its own and any relation between an item and what it stands for -/
theorem lc_any {α β : Type} {J : It} {n : Nat} {G : Hp → Prop} {Y : Nat → Hp → V → Hp → Prop} (w : Walk J n G Y) {g : TG} {tt : TT} {te : TE} {vs : List Nat} {σ : L2.St} {H1 : Hp} {D : Addr} {Qd : Hp → Prop} (hD : H1 D = none) (σw : L2.St) (hw : wipe σ vs = σw)
    (Pm : Hp → V → β → Prop) (hU : ∀ {H ys o y b}, H D = some (.lst ys) → Pm H y b → Pm (L2.upd H D o) y b)
    {R : Hp → Hp → Prop} (rel : Rel R) (hRD : ∀ {H H' ys}, R H H' → H D = some (.lst ys) → H' D = some (.lst ys)) (hRP : ∀ {H H' y b}, R H H' → Pm H y b → Pm H' y b)
    (I : Nat → Hp → Prop) (hI : ∀ i H o, H1 D = none → I i H → I i (L2.upd H D o)) (hI0 : I 0 H1)
    (hGe : ∀ i H, i ≤ n → R H1 H → I i H → G H) (as : List α) (hl : as.length = n) (hn : n ≤ 100000)
    (Keepd : Nat → α → Bool → Prop) (Val : Nat → α → β → Prop)
    (hs : ∀ i a x Ha Hb, as[i]? = some a → R H1 Ha → I i Ha → (∃ ys, Ha D = some (.lst ys)) → Y i Ha x Hb → ∀ (R0 : Hp → Prop) (Rv : V → Hp → Prop), (∀ H4, R Ha H4 → I (i + 1) H4 → Keepd i a false → R0 H4) → (∀ y b H4, R Ha H4 → I (i + 1) H4 → Keepd i a true → Val i a b → Pm H4 y b → Rv y H4) →
      g x σw Hb fun σ2 H2 => wipe σ2 vs = σw ∧ tt σ2 H2 fun b H3 => if b = true then te σ2 H3 (fun y H4 => Rv y H4) else R0 H3)
    (Out : Nat → List β → Prop) (hO0 : Out 0 []) (hO1 : ∀ i a bs, as[i]? = some a → Out i bs → Keepd i a false → Out (i + 1) bs) (hO2 : ∀ i a b bs, as[i]? = some a → Out i bs → Keepd i a true → Val i a b → Out (i + 1) (bs ++ [b]))
    (hd : ∀ ys bs H', R H1 H' → I n H' → H' D = some (.lst ys) → Paired (Pm H') ys bs → Out n bs → Qd H') :
    ∃ W : Nat → Nat → Hp → Prop, (∃ m, W 0 m (upd H1 D (.lst []))) ∧ ∀ i m H, W i m H →
      (J.stop i H ∧ Qd H) ∨ (J.go i H ∧ ∃ Nx : Hp → Prop, (∀ H', Nx H' → ∃ m', m' < m ∧ W (i + 1) m' H') ∧ ∀ x H', J.yld i H x H' → g x (wipe σ vs) H' fun σ2 H2 => wipe σ2 vs = wipe σ vs ∧ tt σ2 H2 fun b H3 =>
        if b = true then te σ2 H3 fun y H4 => ∃ acc, H4 D = some (.lst acc) ∧ acc.length < sizeLine ∧ Nx (upd H4 D (.lst (acc ++ [y]))) else Nx H3) := by
  subst hw
  refine lc_it w (fun i H => R H1 H ∧ I i H ∧ ∃ ys bs, H D = some (.lst ys) ∧ ys.length ≤ i ∧ Paired (Pm H) ys bs ∧ Out i bs) ⟨rel.chg (rel.refl _) hD, hI _ _ _ hD hI0, [], [], upd_same, Nat.le_refl _, .nil, hO0⟩ (fun i H hi p => hGe i H hi p.1 p.2.1) ?_ ?_
  · rintro i x Ha Hb hi ⟨e, iv, ys, bs, hy, hlen, hr, ho⟩ y
    have hi' : i < as.length := by omega
    have ha := List.getElem?_eq_getElem hi'
    refine hs i as[i] x Ha Hb ha e iv ⟨ys, hy⟩ y _ _ (fun H4 e4 i4 hf => ?_) (fun v b H4 e4 i4 hf hb hv => ?_)
    · exact ⟨rel.trans e e4, i4, ys, bs, hRD e4 hy, by omega, L2.Paired.mapP hr (fun _ _ z => hRP e4 z), hO1 i _ bs ha ho hf⟩
    · refine ⟨ys, hRD e4 hy, sz_lt (by omega), rel.chg (rel.trans e e4) hD, hI _ _ _ hD i4, ys ++ [v], bs ++ [b], upd_same, by simp; omega, ?_, hO2 i _ b bs ha ho hf hb⟩
      exact L2.Paired.mapP (Paired.snoc (L2.Paired.mapP hr (fun _ _ z => hRP e4 z)) hv) fun _ _ z => hU (hRD e4 hy) z
  · rintro H ⟨e, iv, ys, bs, hy, _, hr, ho⟩
    exact hd ys bs H e iv hy hr ho
/-- all but the list at d is kept -/
def KTd (d : Addr) (H H' : Hp) : Prop := (∀ a o, a ≠ d → H a = some o → H' a = some o) ∧ ∀ a o, (∀ ys, o ≠ HO.lst ys) → H a = some o → H' a = some o
theorem KTd.refl (d : Addr) (H : Hp) : KTd d H H := ⟨fun _ _ _ h => h, fun _ _ _ h => h⟩
theorem KTd.trans {d : Addr} {H H1 H2 : Hp} (x : KTd d H H1) (y : KTd d H1 H2) : KTd d H H2 := ⟨fun a o n h => y.1 a o n (x.1 a o n h), fun a o n h => y.2 a o n (x.2 a o n h)⟩
theorem KTd.of {d : Addr} {H H' : Hp} (x : Ex H H') : KTd d H H' := ⟨fun a o _ h => x a o h, fun a o _ h => x _ _ h⟩
theorem KTd.mut {d : Addr} {H H' : Hp} {p : Addr} {o : HO} (e : KTd d H H') (h : H p = none) : KTd d H (upd H' p o) := ⟨fun a u n ha => by
  rw [upd_ne (ne_of_none ha h)]
  exact e.1 a u n ha, fun a u n ha => by
  rw [upd_ne (ne_of_none ha h)]
  exact e.2 a u n ha⟩
theorem rel_kt (d : Addr) : Rel (KTd d) := ⟨KTd.refl d, KTd.trans, KTd.of, fun x h => KTd.mut x h⟩
theorem KTd.tup {d : Addr} {H H' : Hp} (e : KTd d H H') (b : Addr) (xs : List V) (h : H b = some (.tup xs)) : H' b = some (.tup xs) := e.2 _ _ (fun ys z => by cases z) h
theorem KTd.l {K : PySem.W.Frag} {d : Addr} {H H' : Hp} (e : KTd d H H') {a : Addr} {xs : List V} (n : a ≠ d) (h : SqL K H a xs) : SqL K H' a xs := by
  rcases h with (h | ⟨o, h⟩) | h
  · exact .inl (.inl (e.1 _ _ n h))
  · exact .inl (.inr ⟨o, e.1 _ _ n h⟩)
  · exact .inr h
theorem KTd.t {K : PySem.W.Frag} {d : Addr} {H H' : Hp} (e : KTd d H H') {a : Addr} {xs : List V} (h : SqT K H a xs) : SqT K H' a xs := by
  rcases h with (h | ⟨o, h⟩) | h
  · exact .inl (.inl (e.tup _ _ h))
  · exact .inl (.inr ⟨o, e.2 _ _ (fun ys z => by cases z) h⟩)
  · exact .inr h
theorem KTd.all2 {K : PySem.W.Frag} {d : Addr} {H H' : Hp} (e : KTd d H H') : ∀ {vs : List V} {as : List (Int × Int)}, RAll K H vs as → RAll K H' vs as
  | _, _, .nil => .nil
  | _, _, .cons h t => .cons (by
    obtain ⟨p, rfl, hp⟩ := h.p2_inv
    exact Rep.p2 (e.t hp)) (e.all2 t)
end My

-- So
/-! sorted(d) of a locked dict whose keys are tuples of ints -/
namespace My
open PySem PySem.Spec PyProof.Rows L2
def refOf : Value → Addr
  | .ref a => a
  | _ => 0
theorem mk_of {α : Type} [Tupi α] {H : Hp} : ∀ (L : List (Addr × List Int)), (∀ p ∈ L, ∃ a : α, p.2 = Tupi.key a ∧ H p.1 = some (.tup (p.2.map V.int))) → MkAll H (L.map fun p => V.ref p.1) (L.map fun p => (Tupi.dec p.2 : α))
  | [], _ => .nil
  | p :: L, h => by
    obtain ⟨a, e, hp⟩ := h p List.mem_cons_self
    refine .cons ⟨p.1, rfl, ?_⟩ (mk_of L fun q hq => h q (List.mem_cons_of_mem _ hq))
    show H p.1 = some (.tup ((Tupi.key (Tupi.dec p.2 : α)).map V.int))
    rw [hp, e, Tupi.dk]
/-- sorted(d): d a locked dict with such keys -/
def rSortedDT (K : PySem.W.Frag) (α : Type) [Tupi α] : List V → Hp → VK → Prop := fun vs H Q => ∃ (a : Addr) (od : Obj) (kvs : List (List Key × V)) (as : List α), vs = [V.ref a] ∧ H a = some (.frz od (.dT kvs)) ∧ kvs.map (·.1) = as.map (fun b => (Tupi.key b).map Sum.inl) ∧
  ∀ (ys : List V) (bs : List α) p, H p = none → MkAll (upd H p (.lst ys)) ys bs → IsSorted bs as → Q (.ref p) (upd H p (.lst ys))
theorem cr_sortedDT {X : Cx} {α : Type} [Tupi α] (hcalm : X.calm = true) : CallR X (.builtin "sorted") (rSortedDT X.K α) := by
  intro pins s σ H vs us Q I r h
  obtain ⟨a, od, kvs, as, rfl, hd, hks, q⟩ := h
  rw [Vals.ref1 r]
  obtain ⟨lo, hgd, hx, es, ep, hdt, hsz, ent⟩ := I.frzT hd
  obtain ⟨_, hz, _⟩ := (show ObjOk X.prog X.w H s.heap a (.frz od (.dT kvs)) from I.hok a _ hd)
  have las : kvs.length = as.length := by
    have := congrArg List.length hks
    rwa [List.length_map, List.length_map] at this
  -- the keys' addresses
  have at_ : ∀ (i : Nat) (b : α), as[i]? = some b → ∃ p, (es.toList.map (·.key))[i]? = some (Value.ref p) ∧ H p = some (.tup ((Tupi.key b).map V.int)) := fun i b hb => by
    have hk : (kvs.map (·.1))[i]? = some ((Tupi.key b).map Sum.inl) := by rw [hks, List.getElem?_map, hb]; rfl
    rw [List.getElem?_map] at hk
    obtain ⟨kv, hkv, ek⟩ := Option.map_eq_some_iff.mp hk
    obtain ⟨en, p, h1, h2, h3⟩ := ent i kv.1 kv.2 hkv
    refine ⟨p, by rw [List.getElem?_map, Array.getElem?_toList, h1, Option.map_some, h2], ?_⟩
    rw [ek, List.map_map] at h3
    exact h3
  obtain ⟨ks, hks1, hks2, hk⟩ : ∃ ks : List (Addr × List Int), es.toList.map (·.key) = ks.map (fun p => Value.ref p.1) ∧ ks.map (·.2) = as.map Tupi.key ∧ ∀ p ∈ ks, H p.1 = some (.tup (p.2.map V.int)) := by
    have l1 : (es.toList.map (·.key)).length = as.length := by rw [List.length_map, Array.length_toList]; omega
    revert at_ l1
    generalize es.toList.map (·.key) = vs
    clear hks las q
    induction as generalizing vs with
    | nil =>
      intro at_ l1
      exact ⟨[], by simpa using l1, rfl, by simp⟩
    | cons b rest ih =>
      intro at_ l1
      cases vs with
      | nil => simp at l1
      | cons v vs =>
        obtain ⟨p, h1, h2⟩ := at_ 0 b rfl
        obtain ⟨ks, e1, e2, e3⟩ := ih vs (fun i c hc => by simpa using at_ (i + 1) c (by simpa using hc)) (by simpa using l1)
        have h1 : v = .ref p := by simpa using h1
        refine ⟨(p, Tupi.key b) :: ks, by rw [h1, e1]; rfl, by rw [List.map_cons, e2]; rfl, fun x hx => ?_⟩
        rcases List.mem_cons.mp hx with rfl | hx
        · exact h2
        · exact e3 x hx
  have keyOf : ∀ p ∈ ks, ∃ b ∈ as, p.2 = Tupi.key b := fun p hp => by
    have : p.2 ∈ as.map Tupi.key := by
      rw [← hks2]
      exact List.mem_map.mpr ⟨p, hp, rfl⟩
    obtain ⟨b, hb, e⟩ := List.mem_map.mp this
    exact ⟨b, hb, e.symm⟩
  have isI : ∀ p ∈ ks, TS.TupInts s.heap (.ref p.1) p.2 := fun p hp => tupInts_of (P := X.prog) (w := X.w) (I.isT (Evl.st_of (hk p hp)))
  refine Calls.call_function_entry kind_sorted plain_sorted entry_sorted (args_sorted1 _) ?_
  unfold Builtin.«sorted»
  refine wpAny_bind (m := checkCount "sorted" 1 1 _) (wpAny_pure ?_)
  refine wpAny_bind (PySem.W.kdu_collect (A := X.A.in1) (kdl_raw lo hx hdt) (I.ok.hd hcalm) hgd (by omega) fun g tk acc kept hacc => ?_)
  have e9 : acc.toList = ks.map fun p => Value.ref p.1 := by
    rw [← hks1]
    refine List.ext_getElem? fun i => ?_
    rw [List.getElem?_map, Array.getElem?_toList, Array.getElem?_toList]
    by_cases hi : i < es.size
    · have hi2 : i < acc.size := by rw [hacc.1]; exact hi
      obtain ⟨en, h1, h2⟩ := hacc.2 i acc[i] (Array.getElem?_eq_getElem hi2)
      rw [Array.getElem?_eq_getElem hi2, h1, h2]
      rfl
    · rw [Array.getElem?_eq_none (by rw [hacc.1]; omega), Array.getElem?_eq_none (by omega)]
      rfl
  have I1 : Inv X pins σ H { s with heap := g, toks := tk } := I.kept kept
  have lks : ks.length = es.size := by
    have := congrArg List.length hks1
    rw [List.length_map, List.length_map, Array.length_toList] at this
    exact this.symm
  generalize acc.toList = vs at e9
  have hz9 : vs.length ≤ sizeLine := by rw [e9, List.length_map]; omega
  refine wpAny_bind (wpAny_newList ?_ hz9)
  have newL : (g.push (seqObj "list" vs.toArray 0)).get? g.objs.size = some (seqObj "list" vs.toArray 0) := Heap.get?_push_size _ rfl
  have all_ : ∀ v ∈ vs, TS.TupInts (g.push (seqObj "list" vs.toArray 0)) v (TS.intsOf s.heap v) ∧ (TS.intsOf s.heap v).length = _ := fun v hv => by
    rw [e9] at hv
    obtain ⟨p, hp, e⟩ := List.mem_map.mp hv
    obtain ⟨b, _, eb⟩ := keyOf p hp
    rw [← e, (isI p hp).ints]
    exact ⟨(isI p hp).keeps fun b o e _ => Heap.get?_push_of_some _ (kept b o e), by rw [eb]; exact Tupi.len b⟩
  have noTup : ∀ o, (g.push (seqObj "list" vs.toArray 0)).get? g.objs.size = some o → o.cls ≠ .type "tuple" := fun o e c => by
    rw [newL] at e
    cases e
    exact absurd (Value.type.inj c) (by decide)
  refine wpAny_bind (wpAny_holding (wpAny_call_entry (s := { s with heap := g.push (seqObj "list" vs.toArray 0), toks := tk }) slot_list_sort ⟨_, newL, rfl⟩ entry_list_sort
    (SrtO.list_sort_ord (swo_lx (TS.intsOf s.heap)) newL hz9 (fun h2 => tups_sortable (Tupi.d1 (α := α)) (by omega) all_ noTup) fun out h1 h2 => ⟨_, rfl, ?_⟩) (args_list_sort _)))
  obtain ⟨n, hn⟩ := sortedHeap_at (vs := vs) (out := out.toArray) newL
  have kp : ∀ b o, g.get? b = some o → (sortedHeap (g.push (seqObj "list" vs.toArray 0)) g.objs.size vs out.toArray).get? b = some o := fun b o there => by
    have lt_ := Heap.lt_size there
    rw [sortedHeap_old (Nat.ne_of_lt lt_) (by rw [size_push']; exact Nat.lt_succ_of_lt lt_)]
    exact Heap.get?_push_of_some _ there
  refine wpAny_pure ⟨_, rfl, ?_⟩
  have perm : out.Perm (ks.map fun p => Value.ref p.1) := by
    rw [← e9]
    exact h2.perm
  obtain ⟨L', e', sub_⟩ := refs_from (L := ks) out fun v hv => by
    obtain ⟨p, hp, e⟩ := List.mem_map.mp (perm.mem_iff.mp hv)
    exact ⟨p, hp, e.symm⟩
  have key' : ∀ p ∈ L', ∃ b ∈ as, p.2 = Tupi.key b := fun p hp => keyOf p (sub_ p hp)
  have hfree : H g.objs.size = none := I1.hok.fresh (Nat.le_refl _)
  have ex : Evl.Ex H (upd H g.objs.size (.lst (L'.map fun p => V.ref p.1))) := Evl.Ex.new hfree
  have hlen : (L'.map fun p => V.ref p.1).length ≤ sizeLine := by
    have := perm.length_eq
    rw [e', List.length_map, List.length_map] at this
    rw [List.length_map]
    omega
  have permK : (L'.map (·.2)).Perm (ks.map (·.2)) := by
    have z := (perm.map (TS.intsOf s.heap))
    rw [e', List.map_map, List.map_map] at z
    have f1 : L'.map ((TS.intsOf s.heap) ∘ fun p => Value.ref p.1) = L'.map (·.2) := List.map_congr_left fun p hp => (isI p (sub_ p hp)).ints
    have f2 : ks.map ((TS.intsOf s.heap) ∘ fun p => Value.ref p.1) = ks.map (·.2) := List.map_congr_left fun p hp => (isI p hp).ints
    rw [f1, f2] at z
    exact z
  refine ⟨.ref g.objs.size, upd H g.objs.size (.lst (L'.map fun p => V.ref p.1)), I1.laid (t' := tk) kp (Nat.le_refl _) ⟨hlen, out, n, by rw [e']; exact vals_of_refs L', hn⟩, rfl, q _ (L'.map fun p => Tupi.dec p.2) _ hfree (mk_of L' fun p hp => ?_) ⟨?_, ?_⟩⟩
  · obtain ⟨b, _, e⟩ := key' p hp
    exact ⟨b, e, ex _ _ (hk p (sub_ p hp))⟩
  · have z := permK.map (Tupi.dec (α := α))
    rw [hks2, List.map_map, List.map_map] at z
    have f : as.map ((Tupi.dec (α := α)) ∘ Tupi.key) = as := by
      conv => rhs; rw [← List.map_id as]
      exact List.map_congr_left fun b _ => Tupi.dk b
    rw [f] at z
    exact z
  · have h5 : L'.Pairwise fun x y => HT.lexLt (TS.intsOf s.heap (.ref y.1)) (TS.intsOf s.heap (.ref x.1)) = false := by
      have : (L'.map fun p => Value.ref p.1).Pairwise fun v u => HT.lexLt (TS.intsOf s.heap u) (TS.intsOf s.heap v) = false := by
        rw [← e']
        exact h1
      exact List.pairwise_map.mp this
    refine List.pairwise_map.mpr (h5.imp_of_mem fun {x y} hx hy hxy => ?_)
    obtain ⟨b, _, eb⟩ := key' x hx
    obtain ⟨c, _, ec⟩ := key' y hy
    rw [(isI x (sub_ x hx)).ints, (isI y (sub_ y hy)).ints] at hxy
    show HT.lexLt (Tupi.key (Tupi.dec y.2 : α)) (Tupi.key (Tupi.dec x.2 : α)) = false
    rw [eb, ec, Tupi.dk, Tupi.dk, ← eb, ← ec]
    exact hxy
end My

-- Sk
/-! sorted(xs, key=f): f a def of the text that changes nothing and gives an int -/
namespace My
open PySem PySem.Spec PyProof.Rows L2
theorem room_in2 {k : Nat} {A : Around} (r : Room (k + 1) A) : Room k A.in1.in1 :=
  ⟨r.hd, by have := r.dp; show A.depth + 3 * k + 5 < _; omega, by have := r.un; show A.units + 1 + 1 + 16 * k + 200 < _; omega⟩
theorem un_later {fs : List Addr} {H : Hp} {h h1 h2 : Heap} (u : Un fs [] H H h h1) (k : ∀ b o, b < h.objs.size → h1.get? b = some o → h2.get? b = some o) : Un fs [] H H h h2 where
  keep := fun b o q n hb hx => k b o (Heap.lt_size q) (u.keep b o q n hb hx)
  slot := fun b o q n hb hx => by
    obtain ⟨sl, e⟩ := u.slot b o q n hb hx
    exact ⟨sl, k b _ (Heap.lt_size q) e⟩
  free := u.free
  there := fun b o q hx => by
    obtain ⟨o', e⟩ := u.there b o q hx
    exact ⟨o', k b o' (Heap.lt_size q) e⟩
  tups := u.tups
  frzs := u.frzs
  tbls := u.tbls
theorem un_track {fs : List Addr} {H : Hp} {h h1 : Heap} {a : Addr} {o : HO} (u : Un fs [] H H h h1) (ha : h.objs.size ≤ a) (hn : H a = none) : Un fs [] H (upd H a o) h h1 where
  keep := u.keep
  slot := u.slot
  free := fun b u q n _ => by rw [upd_ne (Nat.ne_of_lt (Nat.lt_of_lt_of_le (Heap.lt_size q) ha))]; exact n
  there := u.there
  tups := fun b xs q => by rw [upd_ne (ne_of_none q hn)]; exact q
  frzs := fun b u xs q => by rw [upd_ne (ne_of_none q hn)]; exact q
  tbls := fun b ps q => ⟨#[], by rw [upd_ne (ne_of_none q hn), q]; simp⟩
theorem hok_later {P : Program} {w : World} {H : Hp} {h h' : Heap} {c d : Addr} (x : HOk P w H h) (hc : H c = none) (hd : H d = none) (k : ∀ b o, b ≠ c → b ≠ d → h.get? b = some o → h'.get? b = some o) : HOk P w H h' := fun b u e => by
  have ne : ∀ {z}, H z = none → ∀ y, (y = b ∨ H y = some (.own b)) → y ≠ z := fun {z} hz y hy q => by
    subst q
    rcases hy with q | q
    · rw [q, e] at hz; cases hz
    · rw [q] at hz; cases hz
  exact (x b u e).stay (fun y v hy q => k y v (ne hc y hy) (ne hd y hy) q) (fun _ q => q) fun _ _ q => q
theorem hok_track {P : Program} {w : World} {H : Hp} {h : Heap} {a : Addr} {o : HO} (x : HOk P w H h) (hn : H a = none) (new : ObjOk P w (upd H a o) h a o) : HOk P w (upd H a o) h := fun b u e => by
  by_cases hb : b = a
  · subst hb; rw [upd_same] at e; cases e; exact new
  · rw [upd_ne hb] at e
    exact (x b u e).stay (fun c v _ q => q) (fun c q => by rw [upd_ne (ne_of_none q hn)]; exact q) fun c xs q => by rw [upd_ne (ne_of_none q hn)]; exact q
/-- the items by their keys, in the order of the keys -/
def byKey (xs : List V) (ks : List Int) : List (V × Int) := (xs.zip ks).mergeSort fun p q => decide (p.2 ≤ q.2)
def rSortedKF (K : PySem.W.Frag) (f : Addr) (sp : Sp) : List V → List V → Hp → VK → Prop := fun vs zs H Q => ∃ (a : Addr) (xs : List V) (ks : List Int), vs = [V.ref a] ∧ zs = [V.ref f] ∧ SqL K H a xs ∧ ks.length = xs.length ∧
  (∀ (i : Nat) (x : V) (k : Int), xs[i]? = some x → ks[i]? = some k → sp [x] H (fun v H' => v = .int k ∧ H' = H) (fun _ _ _ => False)) ∧
  ∀ p, H p = none → Q (.ref p) (upd H p (.lst ((byKey xs ks).map (·.1))))
theorem each_vals : ∀ {out : List Value} {ps : List (V × Int)}, PySem.W.EachIs (fun v (p : V × Int) => RelV p.1 v) out ps → Vals (ps.map (·.1)) out
  | _, _, .nil => .nil
  | _, _, .cons h t => .cons h (each_vals t)
theorem vals_get' {xs : List V} {us : List Value} (r : Vals xs us) : ∀ (i : Nat) (u : Value), us[i]? = some u → ∃ x, xs[i]? = some x ∧ RelV x u := by
  induction r with
  | nil => intro i u h; simp at h
  | cons r t ih =>
    intro i u h
    cases i with
    | zero => exact ⟨_, rfl, by simp at h; exact h ▸ r⟩
    | succ i =>
      obtain ⟨y, h1, h2⟩ := ih i u (by simpa using h)
      exact ⟨y, by simpa using h1, h2⟩
theorem each_zip {xs : List V} {us : List Value} (r : Vals xs us) : ∀ (ks : List Int), ks.length = xs.length → PySem.W.EachIs (fun v (p : V × Int) => RelV p.1 v) us (xs.zip ks) := by
  induction r with
  | nil =>
    intro ks h
    cases ks with
    | nil => exact .nil
    | cons => simp at h
  | cons r t ih =>
    intro ks h
    cases ks with
    | nil => simp at h
    | cons k ks => exact .cons r (ih ks (by simpa using h))
section
variable {X : Cx} {n : Nat} {f : Addr} {fd : FuncData} {ps : List Str} {sp : Sp}
theorem cr_sortedKF (F : FnOk X.prog X.w X.K X.mg X.base CX0 n f fd ps sp) (hr : Room (n + 1) X.A) (hb : Binds X.K fd ps []) : CallRK X (.builtin "sorted") [Str.ofString "key"] (rSortedKF X.K f sp) := by
  intro pins s σ H vs zs us ws Q I r rz h
  obtain ⟨l, xs, ks, rfl, rfl, hl, lk, turn, q⟩ := h
  obtain rfl := Vals.ref1 r
  obtain ⟨w1, rfl, e1⟩ := vals1 rz
  cases e1
  obtain ⟨its, rv, hli, hz⟩ := I.list hl
  have li : its.length = xs.length := rv.length.symm
  have hzi : its.length ≤ sizeLine := by rw [li]; exact hz
  show wpAny (model X.prog X.w) X.A (call (.builtin "sorted") [.ref l] [(Str.ofString "key", .ref f)]) (EP X pins σ Q) X.xe s
  refine PySem.W.sorted_of_sort hli.isList hzi (PyProof.Rows.ksk_s1 _ _) (fun _ => PyProof.Rows.ksk_l1 _ _) fun E' => ?_
  rw [PyProof.Rows.ksk_t1]
  obtain ⟨a, ea⟩ : ∃ a, a = s.heap.objs.size + 1 := ⟨_, rfl⟩
  rw [← ea]
  have hca : (PySem.W.copyHeap s.heap its).get? a = some (seqObj "list" its.toArray 0) := by rw [ea]; exact PySem.W.copyHeap_at s.heap its
  have ka : ∀ b o, s.heap.get? b = some o → (PySem.W.copyHeap s.heap its).get? b = some o := fun b o => PySem.W.copyHeap_old
  generalize PySem.W.copyHeap s.heap its = h0 at hca ka
  obtain ⟨e1, ho1⟩ : ∃ e1, (h0.update a (Obj.mapSeq fun _ => (#[] : Array Value))).get? a = some (seqObj "list" #[] e1) := ⟨_, get?_update_seq hca fun _ => #[]⟩
  unfold PyProof.Rows.ksk_tree
  refine wpAny_bind (listItems_at hca rfl ?_)
  refine wpAny_bind (listUpdate_at hca rfl ?_ (by rw [List.size_toArray]; exact hzi) (Nat.zero_le _))
  refine wpAny_bind (seqEpoch_at ho1 rfl ?_)
  refine wpAny_bind (wpAny_newTuple ?_ (by show its.length ≤ _; exact hzi))
  refine wpAny_bind (wpAny_newList ?_ (Nat.zero_le _))
  refine wpAny_holding ?_
  show wpAny (model X.prog X.w) X.A.in1.in1 (PyProof.Rows.ksk_rest a (.ref f) false its.toArray e1 (.ref ((h0.update a (Obj.mapSeq fun _ => (#[] : Array Value))).push (seqObj "tuple" its.toArray 0)).objs.size)) _ E' { s with heap := ((h0.update a (Obj.mapSeq fun _ => (#[] : Array Value))).push (seqObj "tuple" its.toArray 0)).push (seqObj "list" #[] 0) }
  have la : s.heap.objs.size ≤ a := by rw [ea]; exact Nat.le_succ _
  have la0 : a < h0.objs.size := Heap.lt_size hca
  have hkS : ((h0.update a (Obj.mapSeq fun _ => (#[] : Array Value))).push (seqObj "tuple" its.toArray 0)).objs.size = h0.objs.size + 1 := by rw [size_push', Heap.size_update]
  have nk0 : (((h0.update a (Obj.mapSeq fun _ => (#[] : Array Value))).push (seqObj "tuple" its.toArray 0)).push (seqObj "list" #[] 0)).get? ((h0.update a (Obj.mapSeq fun _ => (#[] : Array Value))).push (seqObj "tuple" its.toArray 0)).objs.size = some (seqObj "list" #[] 0) := Heap.get?_push_size _ rfl
  have na0 : (((h0.update a (Obj.mapSeq fun _ => (#[] : Array Value))).push (seqObj "tuple" its.toArray 0)).push (seqObj "list" #[] 0)).get? a = some (seqObj "list" #[] e1) := Heap.get?_push_of_some _ (Heap.get?_push_of_some _ ho1)
  have k0 : ∀ b o, s.heap.get? b = some o → (((h0.update a (Obj.mapSeq fun _ => (#[] : Array Value))).push (seqObj "tuple" its.toArray 0)).push (seqObj "list" #[] 0)).get? b = some o := fun b o q =>
    Heap.get?_push_of_some _ (Heap.get?_push_of_some _ ((Heap.get?_update_ne _ _ _ _ (Nat.ne_of_lt (Nat.lt_of_lt_of_le (Heap.lt_size q) la))).trans (ka b o q)))
  have hka0 : ((h0.update a (Obj.mapSeq fun _ => (#[] : Array Value))).push (seqObj "tuple" its.toArray 0)).objs.size ≠ a := by rw [hkS]; omega
  have lkS0 : s.heap.objs.size ≤ ((h0.update a (Obj.mapSeq fun _ => (#[] : Array Value))).push (seqObj "tuple" its.toArray 0)).objs.size := by rw [hkS]; omega
  generalize ((h0.update a (Obj.mapSeq fun _ => (#[] : Array Value))).push (seqObj "tuple" its.toArray 0)).objs.size = kS at nk0 hka0 lkS0 ⊢
  clear hkS
  generalize ((h0.update a (Obj.mapSeq fun _ => (#[] : Array Value))).push (seqObj "tuple" its.toArray 0)).push (seqObj "list" #[] 0) = h1 at nk0 na0 k0 ⊢
  have fa : H a = none := I.hok.fresh la
  have fk : H kS = none := I.hok.fresh lkS0
  have nfs : ∀ b, s.heap.objs.size ≤ b → b ∉ frs X.stack := fun b hb z => by
    rcases List.mem_cons.mp (I.stkSub b z) with e | z
    · have := I.lt
      rw [← e] at this
      exact absurd (Nat.lt_of_lt_of_le this hb) (Nat.lt_irrefl _)
    · exact I.nofs hb z
  unfold PyProof.Rows.ksk_rest
  refine wpAny_bind (wpAny_rule ?_)
  first
    | rw [List.forIn_toArray]
    | (rw [← Array.forIn_toList]; simp only [List.toList_toArray])
    | rw [← Array.forIn_toList]
  refine wpAny_bind (PyProof.Rows.ksk_fold (fun i s' => ∃ (kA : Array Value) (e : Nat), s'.os = s.os ∧ AllBare s'.gens ∧ Un (frs X.stack) [] H H s.heap s'.heap ∧ HOk X.prog X.w H s'.heap ∧ s'.heap.get? a = some (seqObj "list" #[] e1) ∧ s'.heap.get? kS = some (seqObj "list" kA e) ∧
      PySem.W.EachIs (fun (v : Value) (k : Int) => ∃ t, v = .int k t) kA.toList (ks.take i)) its 0 _
    ⟨#[], 0, rfl, I.bare, Un.kept k0, I.hok.kept k0, na0, nk0, by rw [List.take_zero]; exact .nil⟩ ?step ?done)
  case step =>
    rintro j x s' hx ⟨kA, e, os, bare, un, hok, na, nk, hkeys⟩
    rw [Nat.zero_add] at hkeys ⊢
    have hj : j < its.length := (List.getElem?_eq_some_iff.mp hx).1
    obtain ⟨y, hy, ry⟩ := vals_get' rv j x hx
    obtain ⟨k, hk⟩ : ∃ k, ks[j]? = some k := ⟨_, List.getElem?_eq_getElem (by omega)⟩
    have I1 : Inv X pins σ H s' := I.call' os un hok bare fun b z => nomatch z
    have e0 : Env0 X.prog X.w X.K X.mg X.base X.A.in1.in1 X.stack s' H := I1.env0.in1.in1
    have q1 := turn j y k hy hk
    have hlen := F.len _ _ _ _ q1
    have cl : wpAny (model X.prog X.w) X.A.in1.in1 (call (.ref f) [x]) (fun u s2 => ∃ t, u = .int k t ∧ s2.os = s.os ∧ AllBare s2.gens ∧ Un (frs X.stack) [] H H s'.heap s2.heap ∧ HOk X.prog X.w H s2.heap) (fun _ _ => False) s' := by
      refine wpAny_call (codeAny_mono (F.run X.A.in1.in1 X.stack s' H ⟨[x], []⟩ [x] [y] _ _ (room_in2 hr) e0 (by
        have := hb s' [x] I1.kIn (by simpa using hlen)
        simpa using this) (show Vals [y] [x] from .cons ry .nil) q1) fun r s2 hq => ?_)
      cases r with
      | error e => exact (show False from hq).elim
      | ok fl =>
        cases fl with
        | ret u =>
          obtain ⟨v, H', os2, bare2, un2, hok2, r2, ev, eH⟩ := hq
          subst ev
          subst eH
          obtain ⟨t, ht⟩ := r2
          exact ⟨t, ht, os2.trans os, bare2, un2, hok2⟩
        | next => exact False.elim hq
        | brk => exact False.elim hq
        | cont => exact False.elim hq
    refine wpAny_bind (wpAny_attempt (wpAny_mono cl (fun u s2 hu => ?_) fun _ _ hF => hF.elim))
    obtain ⟨t, rfl, os2, bare2, un2, hok2⟩ := hu
    have na2 := un2.keep a _ na fa (nfs a la) (by simp)
    have nk2 := un2.keep kS _ nk fk (nfs kS lkS0) (by simp)
    have hz3 : kA.size ≤ its.length := by
      have h1 := hkeys.length
      rw [Array.length_toList, List.length_take] at h1
      omega
    dsimp only
    refine wpAny_bind (listUpdate_at nk2 rfl ?_ (Nat.le_trans hz3 hzi) (Nat.le_trans (Nat.le_of_eq (Array.size_push ..)) (Nat.succ_le_succ (Nat.le_trans hz3 hzi))))
    obtain ⟨c2, hc2⟩ : ∃ c2, (s2.heap.update kS (Obj.mapSeq (·.push (.int k t)))).get? kS = some (seqObj "list" (kA.push (.int k t)) c2) := ⟨_, get?_update_seq nk2 (·.push (.int k t))⟩
    have other : ∀ b o, b ≠ kS → s2.heap.get? b = some o → (s2.heap.update kS (Obj.mapSeq (·.push (.int k t)))).get? b = some o := fun b o hb q => (Heap.get?_update_ne _ _ _ _ hb).trans q
    refine wpAny_pure ⟨rfl, kA.push (.int k t), c2, os2, bare2, un_later (un.trans un2) (fun b o hb q => other b o (by omega) q), hok_later hok2 fk fk (fun b o hb _ q => other b o hb q), other a _ hka0.symm na2, hc2, ?_⟩
    rw [show (kA.push (Value.int k t)).toList = kA.toList ++ [.int k t] from by simp, take_get hk]
    exact PySem.W.each_snoc ⟨t, rfl⟩ hkeys
  case done =>
    rintro s' ⟨kA, e, os, bare, un, hok, na, nk, hkeys⟩
    rw [Nat.zero_add, List.take_of_length_le (by omega)] at hkeys
    have hks : kA.size = its.length := by
      have h1 := hkeys.length
      rw [Array.length_toList] at h1
      omega
    have hkd : PySem.W.EachIs (fun v d => ∃ as, Reads s'.heap v d as) kA.toList ((xs.zip ks).map fun p => PyData.int p.2) := by
      have e9 : ((xs.zip ks).map fun p => PyData.int p.2) = ks.map PyData.int := by
        have e8 : ((xs.zip ks).map Prod.snd).map PyData.int = ks.map PyData.int := by rw [List.map_snd_zip (by omega)]
        rw [List.map_map] at e8
        exact e8
      rw [e9]
      clear e9 q turn lk un hok bare hks li
      revert hkeys
      generalize kA.toList = vs
      intro hkeys
      induction hkeys with
      | nil => exact .nil
      | cons h _ ih =>
        obtain ⟨t, rfl⟩ := h
        exact .cons ⟨[], .int _ _⟩ ih
    refine wpAny_bind (listItems_at nk rfl ?_)
    have hal : PySem.W.AllAlike ((xs.zip ks).map fun p => PyData.int p.2) := fun d hd d' hd' => by
      obtain ⟨_, _, rfl⟩ := List.mem_map.mp hd
      obtain ⟨_, _, rfl⟩ := List.mem_map.mp hd'
      rfl
    have hsk : PySem.W.Sortable ((xs.zip ks).map fun p => PyData.int p.2) := .inr fun d hd => by
      obtain ⟨_, _, rfl⟩ := List.mem_map.mp hd
      exact ⟨fun z => PyData.noConfusion z, fun xs z => PyData.noConfusion z⟩
    refine PySem.W.keyH_end (κ := PySem.W.dataKind s'.heap _) (h₁ := s'.heap.hide kS) (fun b o hb q => Heap.of_hide q) (Heap.hide_self _ _) nk na hka0 (PySem.W.SortsAt.data (s := s') hkd hal hsk (fun d hd => by
      obtain ⟨_, _, rfl⟩ := List.mem_map.mp hd
      have := hr.un
      show X.A.units + 1 + 1 + PyData.depth (.int _) < cLine
      have : PyData.depth (.int 0) ≤ 1 := by decide
      show X.A.units + 1 + 1 + PyData.depth (.int 0) < cLine
      omega)) (by rw [hks]) hzi fun h3 tk3 c3 kp3 n3 => ⟨rfl, ?_⟩
    have eo := PySem.W.keyedOut_each (rev := false) (R := fun v (p : V × Int) => RelV p.1 v) (bs := xs.zip ks) (fun p => PyData.int p.2) ⟨s'.heap, kA.toList, hal, rfl, hkd⟩ (each_zip rv ks lk)
    rw [PySem.W.dataLe_int (fun p : V × Int => p.2)] at eo
    have rout : Vals ((byKey xs ks).map (·.1)) _ := each_vals eo
    generalize PySem.W.sortVals (PySem.W.dataKind s'.heap _) false kA.toList its = out at n3 rout
    have old3 : ∀ b o, b ≠ a → b ≠ kS → s'.heap.get? b = some o → h3.get? b = some o := fun b o h1 h2 q => kp3 b o h1 ((Heap.hide_ne _ h2).trans q)
    have hlen : ((byKey xs ks).map (·.1)).length ≤ sizeLine := by
      unfold byKey
      rw [List.length_map, List.length_mergeSort, List.length_zip]
      omega
    have hok3 : HOk X.prog X.w H h3 := hok_later hok fa fk old3
    have un3 : Un (frs X.stack) [] H H s.heap h3 := un_later un fun b o hb q => old3 b o (by omega) (by omega) q
    exact ⟨.ref a, upd H a (.lst ((byKey xs ks).map (·.1))), I.call' (s' := { s' with heap := h3, toks := tk3 }) os (un_track un3 la fa) (hok_track hok3 fa ⟨hlen, out, c3, rout, n3⟩) bare (fun b z => nomatch z), rfl, q a fa⟩
end
end My

-- Dl
/-! dict(xs) of a list of pairs (key, value): the keys unlike tuples of ints and texts -/
namespace My
open PySem PySem.Spec PyProof.Rows L2
theorem stored_all : ∀ (ps acc : List (List Key × Addr × Value)), ((acc ++ ps).map (·.1)).Nodup → PySem.storedAllH acc ps = acc ++ ps
  | [], acc, _ => by rw [List.append_nil]; rfl
  | p :: ps, acc, h => by
    have e : acc ++ p :: ps = (acc ++ [p]) ++ ps := by simp
    have hn : p.1 ∉ acc.map (·.1) := fun z => by
      rw [List.map_append, List.map_cons] at h
      exact (List.nodup_append.mp h).2.2 _ z _ List.mem_cons_self rfl
    have hk : atKey acc p.1 = none := by
      unfold atKey
      rw [Option.map_eq_none_iff, List.find?_eq_none]
      intro x hx z
      exact hn (List.mem_map.mpr ⟨x, hx, of_decide_eq_true z⟩)
    show PySem.storedAllH (storedH acc p.1 p.2.1 p.2.2) ps = _
    rw [storedH_new hk, stored_all ps (acc ++ [p]) (by rw [← e]; exact h), e]
def PairQ (K : PySem.W.Frag) (H : Hp) (p : Addr) (q : List Key × Addr × V) : Prop := SqT K H p [.ref q.2.1, q.2.2] ∧ H q.2.1 = some (.tup (q.1.map kV))
section
variable {X : Cx} {pins : List (Addr × Obj)} {σ : L2.St} {H : Hp} {s : Shared}
theorem pairsT_of (I : Inv X pins σ H s) : ∀ {ps : List Addr} {qs : List (List Key × Addr × V)}, Paired (PairQ X.K H) ps qs →
    ∃ prs : List (List Key × Addr × Value), Paired (fun (q : List Key × Addr × V) (r : List Key × Addr × Value) => q.1 = r.1 ∧ q.2.1 = r.2.1 ∧ RelV q.2.2 r.2.2 ∧ H r.2.1 = some (.tup (r.1.map kV))) qs prs ∧ prs.length = ps.length ∧
      ∀ (j : Nat) (r : List Key × Addr × Value), prs[j]? = some r → ∃ b : Addr, ps[j]? = some b ∧ IsTup s.heap b #[.ref r.2.1, r.2.2]
  | _, _, .nil => ⟨[], .nil, rfl, fun j q e => by simp at e⟩
  | _, _, .cons (a := p) (b := q) h t => by
    obtain ⟨prs, r, hl, hp⟩ := pairsT_of I t
    obtain ⟨its, rv, ht, _⟩ := I.tuple h.1
    obtain ⟨u, y, ei, ru, ry⟩ := vals2 rv
    subst ei
    obtain rfl : u = Value.ref q.2.1 := ru
    refine ⟨(q.1, q.2.1, y) :: prs, .cons ⟨rfl, rfl, ry, h.2⟩ r, by rw [List.length_cons, List.length_cons, hl], fun j r e => ?_⟩
    cases j with
    | zero =>
      have e' : (q.1, q.2.1, y) = r := Option.some.inj e
      subst e'
      exact ⟨p, rfl, ht⟩
    | succ j =>
      obtain ⟨b, e1, e2⟩ := hp j r (by simpa using e)
      exact ⟨b, by simpa using e1, e2⟩
def rDictPT (K : PySem.W.Frag) : List V → Hp → VK → Prop := fun xs H Q => ∃ (a : Addr) (ps : List Addr) (qs : List (List Key × Addr × V)), xs = [.ref a] ∧ SqL K H a (ps.map V.ref) ∧ Paired (PairQ K H) ps qs ∧ (qs.map (·.1)).Nodup ∧
  ∀ p, H p = none → Q (.ref p) (upd H p (.dT (qs.map fun q => (q.1, q.2.2))))
theorem call_dictPT (hcalm : X.calm = true) (hu : X.A.units + 64 < cLine) : CallR X (.type "dict") (rDictPT X.K) := by
  intro pins s σ H xs us Q I r q
  obtain ⟨a, ps, qs, ex, hq, hp, nd, q⟩ := q
  subst ex
  obtain ⟨u, eu, rx⟩ := vals1 r
  subst eu
  cases rx
  obtain ⟨its, rv, pl, hz⟩ := I.list hq
  have ei := refs_at rv
  subst ei
  rw [List.length_map] at hz
  obtain ⟨prs, rel, hl, hpr⟩ := pairsT_of I hp
  have lq : qs.length = prs.length := rel.length
  have ek : qs.map (·.1) = prs.map (·.1) := by
    clear nd q hp hpr hl lq
    induction rel with
    | nil => rfl
    | cons h _ ih => rw [List.map_cons, List.map_cons, h.1, ih]
  have isK : ∀ x ∈ prs, H x.2.1 = some (.tup (x.1.map kV)) := by
    clear nd q hp hpr hl lq ek
    induction rel with
    | nil => intro x hx; exact nomatch hx
    | cons h _ ih =>
      intro x hx
      rcases List.mem_cons.mp hx with rfl | hx
      · exact h.2.2.2
      · exact ih x hx
  have prAt : ∀ j k v, (prs.map fun r => (Value.ref r.2.1, r.2.2))[j]? = some (k, v) → ((ps.map Value.ref).toArray)[j]? = some (.ref (ps.getD j 0)) ∧ PairAt s.heap (ps.getD j 0) k v := fun j k v e => by
    rw [List.getElem?_map] at e
    obtain ⟨r, hr, e⟩ := Option.map_eq_some_iff.mp e
    obtain ⟨b, h1, h2⟩ := hpr j r hr
    have e1 : Value.ref r.2.1 = k := congrArg Prod.fst e
    have e2 : r.2.2 = v := congrArg Prod.snd e
    refine ⟨by rw [List.getElem?_toArray, List.getElem?_map, h1, List.getD_eq_getElem?_getD, h1]; rfl, .inl ?_⟩
    rw [List.getD_eq_getElem?_getD, h1, ← e1, ← e2]
    exact h2
  refine PySem.call_dict_pairsH (knd := tupleKind (mixKind X.prog X.w)) (ps := prs) (PySem.PairArg.list a (ps.map Value.ref).toArray (fun j => ps.getD j 0) (prs.map fun r => (Value.ref r.2.1, r.2.2))) (I.ok.hd hcalm) (by show X.A.units + 1 + 1 < cLine; omega)
    ⟨pl, by rw [List.size_toArray, List.length_map, List.length_map, hl], prAt⟩ ⟨by rw [List.length_map], fun i key v hrel => ?_⟩ (fun h' hk x hx => ?_) (by rw [List.length_map, hl]; exact hz) fun h' tk hd' k => ?_
  · have hrel : (prs.map fun r => (Value.ref r.2.1, r.2.2))[i]? = some (key, v) := hrel
    rw [List.getElem?_map] at hrel
    obtain ⟨r, hr, e⟩ := Option.map_eq_some_iff.mp hrel
    exact ⟨r.1, r.2.1, by rw [hr, ← show r.2.2 = v from congrArg Prod.snd e], (congrArg Prod.fst e).symm⟩
  · obtain ⟨o, its, n, h1, h2, h3, h4⟩ := key_of I.hok (isK x hx)
    exact ⟨o, its, n, hk _ o (Nat.ne_of_lt (Heap.lt_size h1)) (by simp) h1, h2, h3, h4⟩
  · rw [stored_all prs [] (by rw [List.nil_append, ← ek]; exact nd), List.nil_append] at hd'
    have hm : (s.heap.objs.size == sysModules) = false := beq_eq_false_iff_ne.mpr (Nat.ne_of_gt I.big)
    have k' : ∀ b o, s.heap.get? b = some o → h'.get? b = some o := fun b o e => k b o (by simp) e
    obtain ⟨o, es, ep, g1, g2, g3, g4, g5, g6⟩ := hd'
    have hfree : H s.heap.objs.size = none := I.hok.fresh (Nat.le_refl _)
    have up : ∀ H1 : Hp, (∀ b xs, H b = some (.tup xs) → H1 b = some (.tup xs)) → Paired (fun (p : List Key × V) (r : List Key × Addr × Value) => p.1 = r.1 ∧ H1 r.2.1 = some (.tup (p.1.map kV)) ∧ RelV p.2 r.2.2) (qs.map fun q => (q.1, q.2.2)) prs := fun H1 hH => by
      clear nd q hp hpr hl lq ek isK prAt g4 g5 g6
      induction rel with
      | nil => exact .nil
      | cons h _ ih => exact .cons ⟨h.1, hH _ _ (by rw [h.2.2.2, h.1]), h.2.2.1⟩ ih
    refine ⟨.ref s.heap.objs.size, upd H s.heap.objs.size (.dT (qs.map fun q => (q.1, q.2.2))), I.laid (t' := tk) k' (Nat.le_refl _) (show ObjOk X.prog X.w _ _ _ (.dT _) from ⟨by rw [List.length_map, lq, hl]; exact hz, hm, prs, up _ (fun b xs e => by rw [upd_ne (ne_of_none e hfree)]; exact e), o, es, ep, g1, g2, g3, g4, g6⟩), rfl, q _ hfree⟩
end
end My

-- In
/-! in, not in: a datum among a list's or a tuple's data -/
namespace My
open PySem L2 Evl
theorem hu65i {k : Nat} {A : Around} (r : Room k A) : A.units + 65 < cLine := by
  have := r.un
  omega
/-- a comprehension within another one's block -/
theorem relabel_free {env : PySem.Env} : ∀ {names : List (Str × NameKind)} {x : Str}, names.lookup x = some .cell ∨ names.lookup x = some .free →
    (names.map fun (n, k) => if (k == NameKind.free && env.scope.kind == .function && env.kindOf n == some .cell) then (n, NameKind.cell) else (n, k)).lookup x = some .cell ∨ (names.map fun (n, k) => if (k == NameKind.free && env.scope.kind == .function && env.kindOf n == some .cell) then (n, NameKind.cell) else (n, k)).lookup x = some .free
  | [], x, h => by simp at h
  | (n, k) :: r, x, h => by
    have ih := @relabel_free env r x
    have key : ∀ (c : Bool) (m : List (Str × NameKind)), (m.lookup x = some .cell ∨ m.lookup x = some .free ∨ (x == n) = true) → (((if c = true then (n, NameKind.cell) else (n, k)) :: m).lookup x = some .cell ∨ ((if c = true then (n, NameKind.cell) else (n, k)) :: m).lookup x = some .free) := fun c m hm => by
      by_cases e : (x == n) = true
      · have h1 : some k = some .cell ∨ some k = some .free := by
          rw [List.lookup_cons, e] at h
          exact h
        cases c
        · rw [if_neg Bool.false_ne_true, List.lookup_cons, e]
          exact h1
        · rw [if_pos rfl, List.lookup_cons, e]
          exact .inl rfl
      · have e' : (x == n) = false := Bool.eq_false_iff.mpr e
        have hm : m.lookup x = some .cell ∨ m.lookup x = some .free := hm.elim .inl fun z => z.elim .inr fun z => absurd z e
        cases c
        · rw [if_neg Bool.false_ne_true, List.lookup_cons, e']
          exact hm
        · rw [if_pos rfl, List.lookup_cons, e']
          exact hm
    refine key _ _ ?_
    by_cases e : (x == n) = true
    · exact .inr (.inr e)
    · have e' : (x == n) = false := Bool.eq_false_iff.mpr e
      rw [List.lookup_cons, e'] at h
      exact (ih h).elim .inl fun z => .inr (.inl z)
theorem blkOk_in {N : List Str} {sc scope : Scope} {own : List (Str × Nat)} {env : PySem.Env} (h : blkC N sc scope own = true) : BlkOk N (relabel sc env) scope own :=
  let z := blkOk_by h
  ⟨z.kind, z.uniq, z.ix, fun y hy e => relabel_free (z.free y hy e), z.own⟩
section
variable {X : Cx}
def rInLA (K : PySem.W.Frag) (α : Type) [Py α] [DecidableEq α] : R2 := fun x y H Q => ∃ (a : α) (as : List α), Rep K H x a ∧ Rep K H y as ∧ ∀ b : Bool, (b = true ↔ a ∈ as) → Q (.bl b) H
def rNotInLA (K : PySem.W.Frag) (α : Type) [Py α] [DecidableEq α] : R2 := fun x y H Q => ∃ (a : α) (as : List α), Rep K H x a ∧ Rep K H y as ∧ ∀ b : Bool, (b = true ↔ a ∉ as) → Q (.bl b) H
def rNotInTB (K : PySem.W.Frag) (α : Type) [Py α] [DecidableEq α] : R2 := fun x y H Q => ∃ (a : α) (as : List α), Rep K H x a ∧ Rep K H y (Tp.mk as) ∧ ∀ b : Bool, (b = true ↔ a ∉ as) → Q (.bl b) H
theorem any_memL {α : Type} [Py α] [DecidableEq α] (a : α) (as : List α) : ((as.map Py.enc).any fun z => PyData.eqv z (Py.enc a)) = decide (a ∈ as) := by
  induction as with
  | nil => rfl
  | cons b as ih =>
    rw [List.map_cons, List.any_cons, ih, Py.eqv]
    by_cases h : b = a
    · subst h
      simp
    · rw [decide_eq_false h]
      simp [show ¬ a = b from fun z => h z.symm]
theorem not_anyL {α : Type} [Py α] [DecidableEq α] (a : α) (as : List α) : (!((as.map Py.enc).any fun z => PyData.eqv z (Py.enc a))) = true ↔ a ∉ as := by
  rw [any_memL, Bool.not_eq_true', decide_eq_false_iff_not]
theorem op_inLA {α : Type} [Py α] [DecidableEq α] (hu : X.A.units + 65 < cLine) (h : Py.dep α + 1 ≤ 64 := by decide) : OpR X (compareOp .In) (rInLA X.K α) := by
  intro pins s σ H x y v u Q I rx ry hq
  obtain ⟨a, as, ha, hy, q⟩ := hq
  obtain ⟨l1, r1⟩ := Dp.reads I _ x v ha rx
  obtain ⟨l2, r2⟩ := Dp.reads I (.list (as.map Py.enc)) y u hy ry
  refine SeqAt.in_list_reads r2 r1 (encAll_lay as) (Py.lay a) (PyProof.Rows.room_in_shaped (Py.shaped (by omega) a) hu) ⟨.bl _, H, I, rfl, ?_⟩
  exact q _ (by rw [any_memL]; exact decide_eq_true_iff)
theorem op_notInLA {α : Type} [Py α] [DecidableEq α] (hu : X.A.units + 65 < cLine) (h : Py.dep α + 1 ≤ 64 := by decide) : OpR X (compareOp .NotIn) (rNotInLA X.K α) := by
  intro pins s σ H x y v u Q I rx ry hq
  obtain ⟨a, as, ha, hy, q⟩ := hq
  obtain ⟨l1, r1⟩ := Dp.reads I _ x v ha rx
  obtain ⟨l2, r2⟩ := Dp.reads I (.list (as.map Py.enc)) y u hy ry
  exact SeqAt.notIn_list_reads r2 r1 (encAll_lay as) (Py.lay a) (PyProof.Rows.room_in_shaped (Py.shaped (by omega) a) hu) ⟨.bl _, H, I, rfl, q _ (not_anyL a as)⟩
theorem op_notInTB {α : Type} [Py α] [DecidableEq α] (hu : X.A.units + 65 < cLine) (h : Py.dep α + 1 ≤ 64 := by decide) : OpR X (compareOp .NotIn) (rNotInTB X.K α) := by
  intro pins s σ H x y v u Q I rx ry hq
  obtain ⟨a, as, ha, hy, q⟩ := hq
  obtain ⟨l1, r1⟩ := Dp.reads I _ x v ha rx
  obtain ⟨l2, r2⟩ := Dp.reads I (.tuple (as.map Py.enc)) y u hy ry
  exact SeqAt.notIn_tuple_reads r2 r1 (encAll_lay as) (Py.lay a) (PyProof.Rows.room_in_shaped (Py.shaped (by omega) a) hu) ⟨.bl _, H, I, rfl, q _ (not_anyL a as)⟩
theorem op_inLAK {α : Type} [Py α] [DecidableEq α] (K : PySem.W.Frag) (hu : X.A.units + 65 < cLine) (d : Py.dep α + 1 ≤ 64 := by decide) (h : X.K = K := by rfl) : OpR X (compareOp .In) (rInLA K α) := h ▸ op_inLA hu d
theorem op_notInLAK {α : Type} [Py α] [DecidableEq α] (K : PySem.W.Frag) (hu : X.A.units + 65 < cLine) (d : Py.dep α + 1 ≤ 64 := by decide) (h : X.K = K := by rfl) : OpR X (compareOp .NotIn) (rNotInLA K α) := h ▸ op_notInLA hu d
end
end My

-- Top
namespace My
open PySem L2 Evl
def top (i : Nat) : Stmt := PySem.Challenge.pw_moonfall_k60_whole_rims.main.body.getD i (.Pass ⟨0, 0, 0, 0⟩)
abbrev s_rim : Stmt := top 3
theorem sc_rim : FnScope ["radius", "inner", "outer", "cells", "x", "high", "low", "y"] ["radius"] (defScope s_rim) := ⟨rfl, rfl, rfl, by decide +kernel, rfl, by decide +kernel, by decide +kernel⟩
abbrev s_radius_of : Stmt := top 4
theorem sc_radius_of : FnScope ["x", "y", "square", "radius"] ["x", "y"] (defScope s_radius_of) := ⟨rfl, rfl, rfl, by decide +kernel, rfl, by decide +kernel, by decide +kernel⟩
abbrev s_votes : Stmt := top 5
theorem sc_votes : FnScope ["cells", "radii", "unlike", "found", "radius", "right", "down", "x", "y", "key"] ["cells", "radii"] (defScope s_votes) := ⟨rfl, rfl, rfl, by decide +kernel, rfl, by decide +kernel, by decide +kernel⟩
abbrev s_rims_in : Stmt := top 6
theorem sc_rims_in : FnScope ["cells", "radii", "missing", "least", "found", "radius", "key"] ["cells", "radii", "missing"] (defScope s_rims_in) := ⟨rfl, rfl, rfl, by decide +kernel, rfl, by decide +kernel, by decide +kernel⟩
abbrev s_shared_cells : Stmt := top 7
theorem sc_shared_cells : FnScope ["one", "other", "small", "great", "right", "down", "x", "y"] ["one", "other"] (defScope s_shared_cells) := ⟨rfl, rfl, rfl, by decide +kernel, rfl, by decide +kernel, by decide +kernel⟩
abbrev s_by_radius : Stmt := top 8
theorem sc_by_radius : FnScope ["circle"] ["circle"] (defScope s_by_radius) := ⟨rfl, rfl, rfl, by decide +kernel, rfl, by decide +kernel, by decide +kernel⟩
abbrev s_is_barred : Stmt := top 9
theorem sc_is_barred : FnScope ["one", "others", "missing", "other"] ["one", "others", "missing"] (defScope s_is_barred) := ⟨rfl, rfl, rfl, by decide +kernel, rfl, by decide +kernel, by decide +kernel⟩
abbrev s_law_number : Stmt := top 35
theorem sc_law_number : FnScope ["script", "index", "cell", "blend"] ["script", "index"] (defScope s_law_number) := ⟨rfl, rfl, rfl, by decide +kernel, rfl, by decide +kernel, by decide +kernel⟩
abbrev s_law_take : Stmt := top 36
theorem sc_law_take : FnScope ["draw", "many"] ["draw", "many"] (defScope s_law_take) := ⟨rfl, rfl, rfl, by decide +kernel, rfl, by decide +kernel, by decide +kernel⟩
abbrev s_law_unlike : Stmt := top 38
theorem sc_law_unlike : FnScope ["items", "found", "one"] ["items"] (defScope s_law_unlike) := ⟨rfl, rfl, rfl, by decide +kernel, rfl, by decide +kernel, by decide +kernel⟩
abbrev s_law : Stmt := top 46
theorem sc_law : FnScope ["script", "draw", "radius", "cells", "x", "y", "placed", "radii", "missing", "due", "shown", "known", "ring", "many", "one", "others", "whole", "shared", "turn", "other", "right", "down", "cell"] ["script"] (defScope s_law) := ⟨rfl, rfl, rfl, by decide +kernel, rfl, by decide +kernel, by decide +kernel⟩
structure Env (K : PySem.W.Frag) (mg : Str → Option Value) where
  n_abs : mg "abs" = none
  n_all : mg "all" = none
  n_bool : mg "bool" = none
  n_dict : mg "dict" = none
  n_enumerate : mg "enumerate" = none
  n_int : mg "int" = none
  n_isinstance : mg "isinstance" = none
  n_len : mg "len" = none
  n_list : mg "list" = none
  n_range : mg "range" = none
  n_set : mg "set" = none
  n_sorted : mg "sorted" = none
  n_sum : mg "sum" = none
  n_tuple : mg "tuple" = none
  n_zip : mg "zip" = none
  b_isqrt : mg "isqrt" = some (.builtin "math.isqrt")
  d_rim : DefAt K mg "rim" "rim" s_rim ["radius"]
  d_radius_of : DefAt K mg "radius_of" "radius_of" s_radius_of ["x", "y"]
  d_votes : DefAt K mg "votes" "votes" s_votes ["cells", "radii"]
  d_rims_in : DefAt K mg "rims_in" "rims_in" s_rims_in ["cells", "radii", "missing"]
  d_shared_cells : DefAt K mg "shared_cells" "shared_cells" s_shared_cells ["one", "other"]
  d_by_radius : DefAt K mg "_by_radius" "_by_radius" s_by_radius ["circle"]
  d_is_barred : DefAt K mg "is_barred" "is_barred" s_is_barred ["one", "others", "missing"]
  d_law_number : DefAt K mg "_law_number" "_law_number" s_law_number ["script", "index"]
  d_law_take : DefAt K mg "_law_take" "_law_take" s_law_take ["draw", "many"]
  d_law_unlike : DefAt K mg "_law_unlike" "_law_unlike" s_law_unlike ["items"]
  d_law : DefAt K mg "law" "law" s_law ["script"]

end My

-- Dr
namespace My
open PySem L2 Evl
section
variable {P : Program} {w : World} {K : PySem.W.Frag} {mg : Str → Option Value} {base : Heap}
def sp_law_number {K : PySem.W.Frag} {mg : Str → Option Value} (T : Env K mg) : Sp := fun vs H Q _ => ∃ (a : Addr) (ns : List Int) (i : Int), vs = [.ref a, .int i] ∧ SqL K H a (ns.map V.int) ∧ 0 ≤ i ∧ ∀ r H', Ex H H' → Q (.int r) H'
theorem ok_law_number (T : Env K mg) : FnOk P w K mg base CX0 1 T.d_law_number.f T.d_law_number.fd ["script", "index"] (sp_law_number T) := by
  refine T.d_law_number.F.ok sc_law_number (fun vs H Q E h => ?_) (fun cdv A outer s H vs Q E hr h => ?_)
  · obtain ⟨a, ns, i, rfl, hS, hi, q⟩ := h
    rfl
  · obtain ⟨a, ns, i, rfl, hS, hi, q⟩ := h
    refine ⟨_, pss_cons (ps_if (pt_cmpR (op_eqA (α := List Int) hr.units) (pv 0) (pe_lst pa_nil) (nomark _)) (pss_one (ps_ret (pe_callTy call_int1 (by rfl) T.n_int (by decide +kernel) (pa_cons (pe_op op_modN (pe_op op_add (pe_op op_mul (pv 1) pe_int) pe_int) pe_int) pa_nil)))) pss_nil)
      (pss_cons (ps_set (i := 2) sc_law_number.nd rfl (.inl rfl) (pe_ix ix_list (pv 0) (pe_op op_modN (pv 1) (pe_callB call_len_seq (by rfl) T.n_len PySem.boot_len (pa_cons (pv 0) pa_nil))) (fun _ _ => rfl)))
      (pss_cut (ps_if (pt_cmpR op_ge (pe_callB call_abs (by rfl) T.n_abs (by decide +kernel) (pa_cons (pv 2) pa_nil)) (pe_op op_pow pe_int pe_int) (nomark _)) (pss_one (ps_set (i := 2) sc_law_number.nd rfl (.inl rfl) (pe_op op_modN (pv 2) (pe_op op_pow pe_int pe_int)))) pss_nil)
      (pss_cons (ps_set (i := 3) sc_law_number.nd rfl (.inl rfl) (pe_op op_modN (pe_op op_add (pe_op op_mul (pe_op op_add (pv 2) (pe_op op_mul pe_int (pv 1))) pe_int) (pe_op op_mul pe_int (pe_callB call_len_seq (by rfl) T.n_len PySem.boot_len (pa_cons (pv 0) pa_nil)))) pe_int))
      (pss_one (ps_ret (pe_callTy call_int1 (by rfl) T.n_int (by decide +kernel) (pa_cons (pe_op op_modN (pe_op op_add (pe_op op_mul (pe_op op_modN (pe_op op_mul (pv 3) pe_int) pe_int) pe_int) (pv 1)) pe_int) pa_nil))))))), ?_⟩
    refine ⟨_, rfl, Nat.zero_le _, fun l hl => ?_⟩
    have e1 : Ex H (upd H l (.lst [])) := Ex.new hl
    have hS1 := ex_l e1 hS
    refine ⟨ns, [], Rep.lst hS1 (RAll.ints ns), Rep.lst (sq_of upd_same) .nil, _, rfl, ?_⟩
    refine ite2 (fun _ => ?_) (fun hne => ?_)
    · exact ⟨_, rfl, _, _, rfl, rfl, .inr (by decide), _, _, rfl, rfl, _, _, rfl, rfl, (by show (_ : Int) ≠ _; decide), .inl ⟨_, rfl, q _ _ e1⟩⟩
    have hne : ns ≠ [] := fun e => hne (decide_eq_true e)
    have hl0 : 0 < ns.length := List.length_pos_iff.mpr hne
    have hz : ((ns.map V.int).length : Int) ≠ 0 := by
      rw [List.length_map]
      omega
    have hm : 0 ≤ i.fmod ((ns.map V.int).length : Int) ∧ i.fmod ((ns.map V.int).length : Int) < (ns.map V.int).length := by
      rw [List.length_map, Int.fmod_eq_emod_of_nonneg _ (by omega)]
      exact ⟨Int.emod_nonneg _ (by omega), Int.emod_lt_of_pos _ (by omega)⟩
    obtain ⟨j, ej⟩ : ∃ j : Nat, i.fmod ((ns.map V.int).length : Int) = (j : Int) := ⟨_, (Int.toNat_of_nonneg hm.1).symm⟩
    have hj : j < ns.length := by
      rw [ej, List.length_map] at hm
      omega
    refine ⟨_, rfl, _, rfl, _, rfl, a, _, rfl, .inl hS1, _, _, rfl, rfl, hz, a, _, _, V.int ns[j], rfl, rfl, hS1, at_of ej ?_, ?_⟩
    · rw [List.getElem?_map, List.getElem?_eq_getElem hj]
      rfl
    refine ⟨fun σ' H' => ∃ c : Int, σ' = [some (.ref a), some (.int i), some (.int c), none] ∧ H' = upd H l (.lst []), ?_, ?_⟩
    · refine ⟨_, rfl, _, rfl, _, _, rfl, rfl, ⟨by decide, by decide, by decide⟩, _, _, rfl, rfl, _, rfl, ?_⟩
      refine ite2 (fun _ => ?_) (fun _ => ?_)
      · exact ⟨_, rfl, _, _, rfl, rfl, ⟨by decide, by decide, by decide⟩, _, _, rfl, rfl, (by show (_ : Int) ≠ _; decide), _, rfl, rfl⟩
      · exact ⟨_, rfl, rfl⟩
    · rintro σ' H' ⟨c, rfl, rfl⟩
      refine ⟨_, rfl, _, rfl, _, _, rfl, rfl, .inl (by decide), _, _, rfl, rfl, _, _, rfl, rfl, .inr (by decide), _, rfl, a, _, rfl, .inl hS1, _, _, rfl, rfl, .inl (by decide), _, _, rfl, rfl, _, _, rfl, rfl, (by show (_ : Int) ≠ _; decide), ?_⟩
      exact ⟨_, rfl, _, _, rfl, rfl, .inr (by decide), _, _, rfl, rfl, (by show (_ : Int) ≠ _; decide), _, _, rfl, rfl, .inr (by decide), _, rfl, _, _, rfl, rfl, _, _, rfl, rfl, (by show (_ : Int) ≠ _; decide), .inl ⟨_, rfl, q _ _ e1⟩⟩
end
/-- what is kept but for the draw at d -/
def ExD (d : Addr) (H H' : Hp) : Prop := ∀ a o, a ≠ d → H a = some o → H' a = some o
theorem ExD.refl (d : Addr) (H : Hp) : ExD d H H := fun _ _ _ h => h
theorem ExD.trans {d : Addr} {H H1 H2 : Hp} (x : ExD d H H1) (y : ExD d H1 H2) : ExD d H H2 := fun a o n h => y a o n (x a o n h)
theorem ExD.of {d : Addr} {H H' : Hp} (x : Ex H H') : ExD d H H' := fun a o _ h => x a o h
theorem ExD.upd {d : Addr} {H : Hp} {o : HO} : ExD d H (upd H d o) := fun a u n h => by
  rw [upd_ne n]
  exact h
theorem ExD.new {d p : Addr} {H : Hp} {o : HO} (h : H p = none) : ExD d H (L2.upd H p o) := .of (Ex.new h)
theorem exd_l {K : PySem.W.Frag} {H H' : Hp} {a d : Addr} {xs : List V} (e : ExD d H H') (n : a ≠ d) (h : SqL K H a xs) : SqL K H' a xs := by
  rcases h with (h | ⟨o, h⟩) | h
  · exact .inl (.inl (e _ _ n h))
  · exact .inl (.inr ⟨o, e _ _ n h⟩)
  · exact .inr h
/-- a list that is new to the script is changed -/
def Apart (K : PySem.W.Frag) (sc : Addr) (ns : List Int) (p : Addr) : Prop := sc ≠ p ∨ ∀ H, SqL K H sc (ns.map V.int)
theorem exd_sc {K : PySem.W.Frag} {H H' : Hp} {d sc : Addr} {ns : List Int} (e : ExD d H H') (a : Apart K sc ns d) (h : SqL K H sc (ns.map V.int)) : SqL K H' sc (ns.map V.int) := by
  rcases a with a | a
  · exact exd_l e a h
  · exact a _
/-- the draw at d -/
def Drw (K : PySem.W.Frag) (H : Hp) (d sc : Addr) (ns : List Int) : Prop := ∃ n : Int, H d = some (.lst [.ref sc, .int n]) ∧ SqL K H sc (ns.map V.int) ∧ Apart K sc ns d ∧ 0 ≤ n
theorem Drw.ex {K : PySem.W.Frag} {H H' : Hp} {d sc : Addr} {ns : List Int} (h : Drw K H d sc ns) (e : Ex H H') : Drw K H' d sc ns := by
  obtain ⟨n, h1, h2, h3, h4⟩ := h
  exact ⟨n, e _ _ h1, ex_l e h2, h3, h4⟩
theorem Drw.apart {K : PySem.W.Frag} {H : Hp} {d sc : Addr} {ns : List Int} (h : Drw K H d sc ns) {p : Addr} (hp : H p = none) : Apart K sc ns p := by
  obtain ⟨n, h1, h2, h3, h4⟩ := h
  rcases h2 with (h | ⟨o, h⟩) | h
  · exact .inl (ne_of_none h hp)
  · exact .inl (ne_of_none h hp)
  · exact .inr fun H => .inr h
theorem Drw.mut {K : PySem.W.Frag} {H : Hp} {d sc : Addr} {ns : List Int} {p : Addr} {o : HO} (h : Drw K H d sc ns) (a : Apart K sc ns p) (n : p ≠ d) : Drw K (upd H p o) d sc ns := by
  obtain ⟨k, h1, h2, h3, h4⟩ := h
  refine ⟨k, by rw [upd_ne n.symm]; exact h1, ?_, h3, h4⟩
  rcases a with a | a
  · rcases h2 with (h | ⟨u, h⟩) | h
    · exact .inl (.inl (by rw [upd_ne a]; exact h))
    · exact .inl (.inr ⟨u, by rw [upd_ne a]; exact h⟩)
    · exact .inr h
  · exact a _
theorem ExD.mut {d : Addr} {H H' : Hp} {p : Addr} {o : HO} (e : ExD d H H') (h : H p = none) : ExD d H (L2.upd H' p o) := fun a u n ha => by
  rw [upd_ne (ne_of_none ha h)]
  exact e a u n ha
section
variable {P : Program} {w : World} {K : PySem.W.Frag} {mg : Str → Option Value} {base : Heap}
def sp_law_take {K : PySem.W.Frag} {mg : Str → Option Value} (T : Env K mg) : Sp := fun vs H Q _ => ∃ (d : Addr) (m : Int) (sc : Addr) (ns : List Int), vs = [.ref d, .int m] ∧ Drw K H d sc ns ∧ 0 < m ∧ ∀ r H', 0 ≤ r → r < m → ExD d H H' → Drw K H' d sc ns → Q (.int r) H'
theorem ok_law_take (T : Env K mg) : FnOk P w K mg base CX0 2 T.d_law_take.f T.d_law_take.fd ["draw", "many"] (sp_law_take T) := by
  have G_law_number := ok_law_number (P := P) (w := w) (base := base) T
  refine T.d_law_take.F.ok sc_law_take (fun vs H Q E h => ?_) (fun cdv A outer s H vs Q E hr h => ?_)
  · obtain ⟨d, m, sc, ns, rfl, ⟨n, hd, hs, hne, hn⟩, hm, q⟩ := h
    rfl
  · obtain ⟨d, m, sc, ns, rfl, ⟨n, hd, hs, hne, hn⟩, hm, q⟩ := h
    have hr_law_number : Room 1 _ := hr.mono (by decide)
    refine ⟨_, pss_cons (ps_augS (pv 0) pe_int get_list pe_int ip_add set_list)
      (pss_one (ps_ret (pe_op op_modN (pe_callTy call_int1 (by rfl) T.n_int (by decide +kernel) (pa_cons (pe_call G_law_number hr_law_number (by rfl) T.d_law_number.m T.d_law_number.k T.d_law_number.b .nil pass0 (pa_cons (pe_ix ix_list (pv 0) pe_int (fun _ _ => rfl)) (pa_cons (pe_callTy call_int1 (by rfl) T.n_int (by decide +kernel) (pa_cons (pe_ix ix_list (pv 0) pe_int (fun _ _ => rfl)) pa_nil)) pa_nil))) pa_nil)) (pv 1)))), ?_⟩
    refine ⟨_, rfl, d, _, 1, _, rfl, rfl, sq_of hd, rfl, n, 1, rfl, rfl, d, _, 1, 1, rfl, rfl, hd, rfl, ?_⟩
    have e1 : ExD d H (upd H d (.lst ([V.ref sc, .int n].set 1 (.int (n + 1))))) := .upd
    have hs1 := exd_sc e1 hne hs
    refine ⟨_, rfl, d, _, 0, _, rfl, rfl, sq_of upd_same, rfl, _, rfl, d, _, 1, _, rfl, rfl, sq_of upd_same, rfl, .inl ⟨_, rfl, sc, ns, n + 1, rfl, hs1, by omega, fun r H' e2 => ?_⟩⟩
    refine .inl ⟨r, rfl, _, rfl, r, m, rfl, rfl, by show m ≠ 0; omega, ?_⟩
    refine q _ H' ?_ ?_ (e1.trans (.of e2)) ⟨n + 1, e2 _ _ upd_same, ex_l e2 hs1, hne, by omega⟩
    · rw [Int.fmod_eq_emod_of_nonneg _ (by omega)]
      exact Int.emod_nonneg _ (by omega)
    · rw [Int.fmod_eq_emod_of_nonneg _ (by omega)]
      exact Int.emod_lt_of_pos _ hm
end
theorem Drw.lst {K : PySem.W.Frag} {H : Hp} {d sc : Addr} {ns : List Int} (h : Drw K H d sc ns) : ∃ ys, H d = some (.lst ys) := by
  obtain ⟨n, h1, _⟩ := h
  exact ⟨_, h1⟩
/-- all but lists is kept, and lists but one -/
theorem ExD.tup {K : PySem.W.Frag} {H H' : Hp} {d : Addr} (e : ExD d H H') (hd : ∃ ys, H d = some (.lst ys)) {a : Addr} {xs : List V} (h : SqT K H a xs) : SqT K H' a xs := by
  obtain ⟨ys, hd⟩ := hd
  rcases h with (h | ⟨o, h⟩) | h
  · exact .inl (.inl (e _ _ (ne_of h hd (fun z => by cases z)) h))
  · exact .inl (.inr ⟨o, e _ _ (ne_of h hd (fun z => by cases z)) h⟩)
  · exact .inr h
/-- xs: what a list or a tuple at a has -/
def Sq (K : PySem.W.Frag) (H : Hp) (a : Addr) (xs : List V) : Prop := SqL K H a xs ∨ SqT K H a xs
theorem exd_t {K : PySem.W.Frag} {H H' : Hp} {a d : Addr} {xs : List V} (e : ExD d H H') (n : a ≠ d) (h : SqT K H a xs) : SqT K H' a xs := by
  rcases h with (h | ⟨o, h⟩) | h
  · exact .inl (.inl (e _ _ n h))
  · exact .inl (.inr ⟨o, e _ _ n h⟩)
  · exact .inr h
section
variable {P : Program} {w : World} {K : PySem.W.Frag} {mg : Str → Option Value} {base : Heap}
end
end My


-- Lg
namespace My
open PySem L2 Evl
/-- a comprehension with an invariant of its own (a draw, a chart) -/
theorem lc_gen2 {α β : Type} [Py β] [TOnly β] {K : PySem.W.Frag} {J : It} {n : Nat} {G : Hp → Prop} {Y : Nat → Hp → V → Hp → Prop} (w : Walk J n G Y) {g : TG} {tt : TT} {te : TE} {vs : List Nat} {σ : L2.St} {H1 : Hp} {D : Addr} {Qd : Hp → Prop} (hD : H1 D = none) (σw : L2.St) (hw : wipe σ vs = σw)
    {R : Hp → Hp → Prop} (rel : Rel R) (hRD : ∀ {H H' ys}, R H H' → H D = some (.lst ys) → H' D = some (.lst ys)) (hRR : ∀ {H H'} {ys : List V} {bs : List β}, R H H' → RAll K H ys bs → RAll K H' ys bs)
    (I : Nat → Hp → Prop) (hI : ∀ i H o, H1 D = none → I i H → I i (L2.upd H D o)) (hI0 : I 0 H1)
    (hGe : ∀ i H, i ≤ n → R H1 H → I i H → G H) (as : List α) (hl : as.length = n) (hn : n ≤ 100000)
    (Keepd : Nat → α → Bool → Prop) (Val : Nat → α → β → Prop)
    (hs : ∀ i a x Ha Hb, as[i]? = some a → R H1 Ha → I i Ha → (∃ ys, Ha D = some (.lst ys)) → Y i Ha x Hb → ∀ (R0 : Hp → Prop) (Rv : V → Hp → Prop), (∀ H4, R Ha H4 → I (i + 1) H4 → Keepd i a false → R0 H4) → (∀ y b H4, R Ha H4 → I (i + 1) H4 → Keepd i a true → Val i a b → Rep K H4 y b → Rv y H4) →
      g x σw Hb fun σ2 H2 => wipe σ2 vs = σw ∧ tt σ2 H2 fun b H3 => if b = true then te σ2 H3 (fun y H4 => Rv y H4) else R0 H3)
    (Out : Nat → List β → Prop) (hO0 : Out 0 []) (hO1 : ∀ i a bs, as[i]? = some a → Out i bs → Keepd i a false → Out (i + 1) bs) (hO2 : ∀ i a b bs, as[i]? = some a → Out i bs → Keepd i a true → Val i a b → Out (i + 1) (bs ++ [b]))
    (hd : ∀ ys bs H', R H1 H' → I n H' → H' D = some (.lst ys) → RAll K H' ys bs → Out n bs → Qd H') :
    ∃ W : Nat → Nat → Hp → Prop, (∃ m, W 0 m (upd H1 D (.lst []))) ∧ ∀ i m H, W i m H →
      (J.stop i H ∧ Qd H) ∨ (J.go i H ∧ ∃ Nx : Hp → Prop, (∀ H', Nx H' → ∃ m', m' < m ∧ W (i + 1) m' H') ∧ ∀ x H', J.yld i H x H' → g x (wipe σ vs) H' fun σ2 H2 => wipe σ2 vs = wipe σ vs ∧ tt σ2 H2 fun b H3 =>
        if b = true then te σ2 H3 fun y H4 => ∃ acc, H4 D = some (.lst acc) ∧ acc.length < sizeLine ∧ Nx (upd H4 D (.lst (acc ++ [y]))) else Nx H3) := by
  subst hw
  refine lc_it w (fun i H => R H1 H ∧ I i H ∧ ∃ ys bs, H D = some (.lst ys) ∧ ys.length ≤ i ∧ RAll K H ys bs ∧ Out i bs) ⟨rel.chg (rel.refl _) hD, hI _ _ _ hD hI0, [], [], upd_same, Nat.le_refl _, .nil, hO0⟩ (fun i H hi p => hGe i H hi p.1 p.2.1) ?_ ?_
  · rintro i x Ha Hb hi ⟨e, iv, ys, bs, hy, hlen, hr, ho⟩ y
    have hi' : i < as.length := by omega
    have ha := List.getElem?_eq_getElem hi'
    refine hs i as[i] x Ha Hb ha e iv ⟨ys, hy⟩ y _ _ (fun H4 e4 i4 hf => ?_) (fun v b H4 e4 i4 hf hb hv => ?_)
    · exact ⟨rel.trans e e4, i4, ys, bs, hRD e4 hy, by omega, hRR e4 hr, hO1 i _ bs ha ho hf⟩
    · refine ⟨ys, hRD e4 hy, sz_lt (by omega), rel.chg (rel.trans e e4) hD, hI _ _ _ hD i4, ys ++ [v], bs ++ [b], upd_same, by simp; omega, ?_, hO2 i _ b bs ha ho hf hb⟩
      exact RAll.updL (hRD e4 hy) ((hRR e4 hr).snoc hv)
  · rintro H ⟨e, iv, ys, bs, hy, _, hr, ho⟩
    exact hd ys bs H e iv hy hr ho
end My


-- Ra
namespace My
open PySem L2 Evl
/-! ### the whole root -/
section
variable {X : Cx}
noncomputable def sqI (n : Int) : Int := ((Float64.isqrt n.toNat : Nat) : Int)
def rIsqrt : List V → Hp → VK → Prop := fun vs H Q => ∃ a : Int, vs = [.int a] ∧ 0 ≤ a ∧ a < 2 ^ 64 ∧ Q (.int (sqI a)) H
theorem cr_isqrt : CallR X (.builtin "math.isqrt") rIsqrt := by
  intro pins s σ H vs us Q I r h
  obtain ⟨a, rfl, h0, h1, q⟩ := h
  cases r with
  | cons rx rt =>
    cases rt
    obtain ⟨t, rfl⟩ := rx
    exact PySem.W.mg_isqrt h0 h1 ⟨.int _, H, I.tok _, ⟨_, rfl⟩, q⟩
end
theorem sqI_spec {n : Int} (h : 0 ≤ n) : 0 ≤ sqI n ∧ sqI n * sqI n ≤ n ∧ n < (sqI n + 1) * (sqI n + 1) := by
  have z := Float64.isqrt_spec n.toNat
  have e : ((n.toNat : Nat) : Int) = n := Int.toNat_of_nonneg h
  unfold sqI
  generalize Float64.isqrt n.toNat = k at z
  obtain ⟨z1, z2⟩ := z
  have z1 : ((k * k : Nat) : Int) ≤ ((n.toNat : Nat) : Int) := Int.ofNat_le.mpr z1
  have z2 : ((n.toNat : Nat) : Int) < (((k + 1) * (k + 1) : Nat) : Int) := Int.ofNat_lt.mpr z2
  rw [e] at z1 z2
  exact ⟨Int.natCast_nonneg _, by simpa using z1, by simpa using z2⟩
/-- on which rim a cell is: told by the sum of the squares -/
noncomputable def radF (s : Int) : Int := if s ≤ sqI s * sqI s + sqI s then sqI s else sqI s + 1
theorem sq_lt {a b : Int} (ha : 0 ≤ a) (h : a * a < b * b) (hb : 0 ≤ b) : a < b := by
  rcases Int.lt_or_le a b with z | z
  · exact z
  · exact absurd (Int.mul_le_mul z z hb ha) (Int.not_le.mpr h)
theorem sq_le {a b : Int} (ha : 0 ≤ a) (hab : a ≤ b) : a * a ≤ b * b := Int.mul_le_mul hab hab ha (Int.le_trans ha hab)
theorem sq_ne (x : Int) : 0 ≤ x * x := by
  rcases Int.le_total 0 x with h | h
  · exact Int.mul_nonneg h h
  · have := Int.mul_nonneg (a := -x) (b := -x) (by omega) (by omega)
    rwa [Int.neg_mul_neg] at this
theorem sq_in {x b : Int} (h1 : -b ≤ x) (h2 : x ≤ b) : x * x ≤ b * b := by
  rcases Int.le_total 0 x with h | h
  · exact sq_le h h2
  · have := sq_le (a := -x) (b := b) (by omega) (by omega)
    rwa [Int.neg_mul_neg] at this
/-- the rule of [25] -/
def onRim (r s : Int) : Prop := (r = 0 ∧ s = 0) ∨ (0 < r ∧ r * r - r < s ∧ s ≤ r * r + r)
theorem radF_iff {r s : Int} (hs : 0 ≤ s) (hr : 0 ≤ r) : radF s = r ↔ onRim r s := by
  obtain ⟨a0, a1, a2⟩ := sqI_spec hs
  have e : (sqI s + 1) * (sqI s + 1) = sqI s * sqI s + sqI s + sqI s + 1 := by rw [Int.add_mul, Int.mul_add, Int.mul_one, Int.one_mul]; omega
  have key : ∀ q : Int, 0 ≤ q → onRim q s → q = radF s := fun q hq h => by
    have eq : ∀ c : Int, (c + 1) * (c + 1) = c * c + c + c + 1 := fun c => by rw [Int.add_mul, Int.mul_add, Int.mul_one, Int.one_mul]; omega
    unfold radF
    generalize hk : sqI s = k at *
    rcases h with ⟨rfl, rfl⟩ | ⟨h0, h1, h2⟩
    · have : k = 0 := by
        rcases Int.lt_or_le 0 k with z | z
        · have := Int.mul_pos z z
          omega
        · omega
      subst this
      rfl
    · -- k*k ≤ s < (k+1)², q²-q < s ≤ q²+q
      have b1 : k < q + 1 := sq_lt a0 (by rw [eq q]; have := sq_ne q; omega) (by omega)
      have b2 : q - 1 < k + 1 := sq_lt (by omega) (by
        have := eq (q - 1)
        rw [show q - 1 + 1 = q by omega] at this
        omega) (by omega)
      have b3 : k = q ∨ k = q - 1 := by omega
      rcases b3 with rfl | rfl
      · rw [if_pos h2]
      · have := eq (q - 1)
        rw [show q - 1 + 1 = q by omega] at this
        rw [if_neg (by omega)]
        omega
  constructor
  · rintro rfl
    unfold radF
    generalize hk : sqI s = k at *
    by_cases h : s ≤ k * k + k
    · rw [if_pos h]
      rcases Int.lt_or_le 0 k with z | z
      · exact .inr ⟨z, by omega, h⟩
      · obtain rfl : k = 0 := by omega
        exact .inl ⟨rfl, by omega⟩
    · rw [if_neg h]
      exact .inr ⟨by omega, by omega, by omega⟩
  · exact fun h => (key r hr h).symm
/-- how far up, and from where on, a rim goes beside x -/
noncomputable def highF (r x : Int) : Int := sqI (r * r + r - x * x)
noncomputable def lowF (r x : Int) : Int := if x * x ≤ r * r - r then sqI (r * r - r - x * x) + 1 else 0
def upI (lo hi : Int) : List Int := (List.range (hi + 1 - lo).toNat).map fun i => lo + (i : Nat)
theorem mem_upI {lo hi x : Int} : x ∈ upI lo hi ↔ lo ≤ x ∧ x ≤ hi := by
  unfold upI
  rw [List.mem_map]
  constructor
  · rintro ⟨i, hi, rfl⟩
    have := List.mem_range.mp hi
    omega
  · rintro ⟨h1, h2⟩
    exact ⟨(x - lo).toNat, List.mem_range.mpr (by omega), by omega⟩
noncomputable def colF (r x : Int) : List (Int × Int) := ((upI (-(highF r x)) (highF r x)).filter fun y => decide (lowF r x ≤ (if y < 0 then -y else y))).map fun y => (x, y)
noncomputable def rimF (r : Int) : List (Int × Int) := if r = 0 then [(0, 0)] else (upI (-r) r).flatMap (colF r)
end My


-- Rb
namespace My
open PySem L2 Evl
theorem cm_of {i j : Int} (h : -1000000 ≤ i ∧ i ≤ 1000000) : CMul i j := .inl ⟨by omega, by omega⟩
theorem sqI_small {n : Int} (h0 : 0 ≤ n) (h1 : n ≤ 9000000) : 0 ≤ sqI n ∧ sqI n ≤ 3000 := by
  obtain ⟨a, b, _⟩ := sqI_spec h0
  refine ⟨a, ?_⟩
  have := sq_lt (a := sqI n) (b := 3001) a (by show sqI n * sqI n < 3001 * 3001; omega) (by decide)
  omega
section
variable {P : Program} {w : World} {K : PySem.W.Frag} {mg : Str → Option Value} {base : Heap}
def sp_radius_of {K : PySem.W.Frag} {mg : Str → Option Value} (T : Env K mg) : Sp := fun vs H Q _ => ∃ x y : Int, vs = [.int x, .int y] ∧ (-1000 ≤ x ∧ x ≤ 1000) ∧ (-1000 ≤ y ∧ y ≤ 1000) ∧ Q (.int (radF (x * x + y * y))) H
theorem ok_radius_of (T : Env K mg) : FnOk P w K mg base CX0 1 T.d_radius_of.f T.d_radius_of.fd ["x", "y"] (sp_radius_of T) := by
  refine T.d_radius_of.F.ok sc_radius_of (fun vs H Q E h => ?_) (fun cdv A outer s H vs Q E hr h => ?_)
  · obtain ⟨x, y, rfl, hx, hy, q⟩ := h
    rfl
  · obtain ⟨x, y, rfl, hx, hy, q⟩ := h
    refine ⟨_, pss_cons (ps_set (i := 2) sc_radius_of.nd rfl (.inl rfl) (pe_op op_add (pe_op op_mul (pv 0) (pv 0)) (pe_op op_mul (pv 1) (pv 1))))
      (pss_cons (ps_set (i := 3) sc_radius_of.nd rfl (.inl rfl) (pe_callBfun cr_isqrt (by rfl) T.b_isqrt (pa_cons (pv 2) pa_nil)))
      (pss_one (ps_ret (pe_ifExp (pt_cmpR op_le (pv 2) (pe_op op_add (pe_op op_mul (pv 3) (pv 3)) (pv 3)) (nomark _)) (pv 3) (pe_op op_add (pv 3) pe_int))))), ?_⟩
    have x1 := sq_in hx.1 hx.2
    have y1 := sq_in hy.1 hy.2
    have x0 := sq_ne x
    have y0 := sq_ne y
    have sm := sqI_small (n := x * x + y * y) (by omega) (by omega)
    refine ⟨_, rfl, _, rfl, _, _, rfl, rfl, cm_of ⟨by omega, by omega⟩, _, rfl, _, rfl, _, _, rfl, rfl, cm_of ⟨by omega, by omega⟩, _, _, rfl, rfl, ?_⟩
    refine ⟨_, rfl, _, rfl, by omega, by omega, ?_⟩
    refine ⟨_, rfl, _, rfl, _, rfl, _, _, rfl, rfl, cm_of ⟨by omega, by omega⟩, _, rfl, _, _, rfl, rfl, _, _, rfl, rfl, _, rfl, ?_⟩
    unfold radF at q
    refine ite2 (fun h => ?_) (fun h => ?_)
    · rw [if_pos (of_decide_eq_true h)] at q
      exact ⟨_, rfl, q⟩
    · rw [if_neg (fun z => h (decide_eq_true z))] at q
      exact ⟨_, rfl, _, _, rfl, rfl, q⟩
def sp_rim {K : PySem.W.Frag} {mg : Str → Option Value} (T : Env K mg) : Sp := fun vs H Q _ => ∃ r : Int, vs = [.int r] ∧ (0 ≤ r ∧ r ≤ 1000) ∧ ∀ l xs H', Ex H H' → H l = none → H' l = some (.lst xs) → RAll K H' xs (rimF r) → Q (.ref l) H'
theorem ok_rim (T : Env K mg) : FnOk P w K mg base CX0 1 T.d_rim.f T.d_rim.fd ["radius"] (sp_rim T) := by
  refine T.d_rim.F.ok sc_rim (fun vs H Q E h => ?_) (fun cdv A outer s H vs Q E hr h => ?_)
  · obtain ⟨r, rfl, hr, q⟩ := h
    rfl
  · obtain ⟨r, rfl, hr, q⟩ := h
    refine ⟨_, pss_cons (ps_if (pt_cmpR op_eq (pv 0) pe_int (nomark _)) (pss_one (ps_ret (pe_lst (pa_cons (pe_tup (pa_cons pe_int (pa_cons pe_int pa_nil))) pa_nil)))) pss_nil)
      (pss_cons (ps_set (i := 1) sc_rim.nd rfl (.inl rfl) (pe_op op_sub (pe_op op_mul (pv 0) (pv 0)) (pv 0)))
      (pss_cons (ps_set (i := 2) sc_rim.nd rfl (.inl rfl) (pe_op op_add (pe_op op_mul (pv 0) (pv 0)) (pv 0)))
      (pss_cons (ps_set (i := 3) sc_rim.nd rfl (.inl rfl) (pe_lst pa_nil))
      (pss_cons (ps_for PassesOwn.never rfl (pi_range2 rfl T.n_range (pa_cons (pe_un un_neg (pv 0)) (pa_cons (pe_op op_add (pv 0) pe_int) pa_nil))) (pg_name (i := 4) sc_rim.nd rfl (.inr rfl)) (pss_cons (ps_set (i := 5) sc_rim.nd rfl (.inl rfl) (pe_callBfun cr_isqrt (by rfl) T.b_isqrt (pa_cons (pe_op op_sub (pv 2) (pe_op op_mul (pv 4) (pv 4))) pa_nil)))
      (pss_cut (ps_set (i := 6) sc_rim.nd rfl (.inr rfl) (pe_ifExp (pt_cmpR op_le (pe_op op_mul (pv 4) (pv 4)) (pv 1) (nomark _)) (pe_op op_add (pe_callBfun cr_isqrt (by rfl) T.b_isqrt (pa_cons (pe_op op_sub (pv 1) (pe_op op_mul (pv 4) (pv 4))) pa_nil)) pe_int) pe_int))
      (pss_one (ps_expr (pe_bm PySem.F.plainAttrs_list PySem.F.slot_list_extend PySem.F.type_list_extend mt_extend (pv 3) (pa_cons (pe_lc (own := [("y", 7)]) (g := gName 7) rfl sc_rim.nd (pi_range2 rfl T.n_range (pa_cons (pe_un un_neg (pv 5)) (pa_cons (pe_op op_add (pv 5) pe_int) pa_nil))) (blkOk_by (N := ["radius", "inner", "outer", "cells", "x", "high", "low", "y"]) (sc := (defScope s_rim)) (by decide +kernel)) (fun _ _ _ _ _ => (pg_name (i := 7) sc_rim.nd rfl (.inl rfl))) (fun _ _ _ _ _ => (pts_one (pt_cmpR op_ge (pe_callB call_abs (by rfl) T.n_abs (by decide +kernel) (pa_cons (pv 7) pa_nil)) (pv 6) (nomark _)))) (fun _ _ _ _ _ => (pe_tup (pa_cons (pv 4) (pa_cons (pv 7) pa_nil))))) pa_nil)))))))
      (pss_one (ps_ret (pv 3))))))), ?_⟩
    refine ⟨_, rfl, rfl, _, rfl, ite2 (fun h => ?_) (fun h => ?_)⟩
    · obtain rfl := V.int.inj (of_decide_eq_true h)
      refine ⟨by show 2 ≤ sizeLine; decide, fun t ht => ⟨by show 1 ≤ sizeLine; decide, fun l hl => ?_⟩⟩
      refine q l [.ref t] _ ((Ex.new ht).trans (Ex.new hl)) (by
        cases z : H l with
        | none => rfl
        | some o => rw [(Ex.new ht) _ _ z] at hl; cases hl) upd_same ?_
      unfold rimF
      rw [if_pos rfl]
      exact .cons (Rep.p2 (ex_t (Ex.new hl) (st_of upd_same))) .nil
    have r0 : r ≠ 0 := fun z => h (decide_eq_true (by rw [z]))
    have rr := sq_in (x := r) (b := 1000) (by omega) (by omega)
    have r1 := sq_ne r
    have rl : r ≤ r * r := by
      have := Int.mul_le_mul (a := 1) (b := r) (c := r) (d := r) (by omega) (Int.le_refl _) (by omega) (by omega)
      omega
    refine ⟨_, rfl, _, rfl, _, _, rfl, rfl, cm_of ⟨by omega, by omega⟩, _, rfl, _, _, rfl, rfl, ?_⟩
    refine ⟨_, rfl, _, rfl, _, _, rfl, rfl, cm_of ⟨by omega, by omega⟩, _, rfl, _, _, rfl, rfl, ?_⟩
    refine ⟨by show 0 ≤ sizeLine; decide, fun l hl => ?_⟩
    have xl := Ex.new (o := .lst []) hl
    refine ⟨_, rfl, _, rfl, _, rfl, _, _, rfl, rfl, ?_⟩
    have sx : ∀ i : Nat, i < (r + 1 - -r).toNat → -r ≤ -r + (i : Int) ∧ -r + (i : Int) ≤ r := fun i hi => by omega
    have ul : (upI (-r) r).length = (r + 1 - -r).toNat := by unfold upI; rw [List.length_map, List.length_range]
    have ug : ∀ i : Nat, i < (r + 1 - -r).toNat → (upI (-r) r)[i]? = some (-r + (i : Int)) := fun i hi => by
      unfold upI
      rw [List.getElem?_map, List.getElem?_range hi]
      rfl
    refine ⟨-r, r + 1, rfl, ⟨by omega, by omega, by omega, by omega⟩, ?_⟩
    refine for_it walk_range (fun i σ' H' => ∃ v4 v5 v6 ys, σ' = [some (.int r), some (.int (r * r - r)), some (.int (r * r + r)), some (.ref l), v4, v5, v6, none] ∧ Ex H H' ∧ H' l = some (.lst ys) ∧ RAll K H' ys (((upI (-r) r).take i).flatMap (colF r)) ∧ ys.length ≤ 6001 * i)
      ⟨none, none, none, [], rfl, xl, upd_same, .nil, by simp⟩ (fun _ _ _ _ _ => trivial) ?_ ?_
    · rintro i x σ' Ha Hb hi ⟨v4, v5, v6, ys, rfl, e, hl2, ry, hyl⟩ y
      obtain ⟨rfl, rfl⟩ := y
      have hx := sx i hi
      have x1 := sq_in hx.1 hx.2
      have x0 := sq_ne (-r + (i : Int))
      have hx3 : (-r + (i : Int)) * (-r + (i : Int)) ≤ 1000000 := by omega
      have hs := sqI_small (n := r * r + r - (-r + (i : Int)) * (-r + (i : Int))) (by omega) (by omega)
      refine ⟨_, rfl, _, rfl, _, rfl, _, _, rfl, rfl, cm_of ⟨by omega, by omega⟩, _, _, rfl, rfl, _, rfl, by omega, by omega, ?_⟩
      refine ⟨fun σ' H' => σ' = [some (.int r), some (.int (r * r - r)), some (.int (r * r + r)), some (.ref l), some (.int (-r + (i : Int))), some (.int (highF r (-r + (i : Int)))), some (.int (lowF r (-r + (i : Int)))), none] ∧ H' = Hb, ?_, ?_⟩
      · refine ⟨_, rfl, _, rfl, _, _, rfl, rfl, cm_of ⟨by omega, by omega⟩, _, rfl, _, _, rfl, rfl, _, rfl, ite2 (fun h1 => ?_) (fun h1 => ?_)⟩
        · have h1 := of_decide_eq_true h1
          refine ⟨_, rfl, _, rfl, _, rfl, _, _, rfl, rfl, cm_of ⟨by omega, by omega⟩, _, _, rfl, rfl, _, rfl, by omega, by omega, _, _, rfl, rfl, ?_, rfl⟩
          have e9 : lowF r (-r + (i : Int)) = sqI (r * r - r - (-r + (i : Int)) * (-r + (i : Int))) + 1 := by
            unfold lowF
            rw [if_pos h1]
          rw [e9]
          rfl
        · have e9 : lowF r (-r + (i : Int)) = 0 := by
            unfold lowF
            rw [if_neg (fun z => h1 (decide_eq_true z))]
          refine ⟨?_, rfl⟩
          rw [e9]
          rfl
      rintro σ' H' ⟨rfl, rfl⟩
      have hh : 0 ≤ highF r (-r + (i : Int)) ∧ highF r (-r + (i : Int)) ≤ 3000 := hs
      refine ⟨_, rfl, .inl ⟨rfl, _, sq_of hl2⟩, _, rfl, _, rfl, _, rfl, _, _, rfl, rfl, -(highF r (-r + (i : Int))), highF r (-r + (i : Int)) + 1, rfl, ⟨by omega, by omega, by omega, by omega⟩, fun D hD => ?_⟩
      obtain ⟨xx, hxx⟩ : ∃ xx, xx = -r + (i : Int) := ⟨_, rfl⟩
      rw [← hxx] at hh
      have lu : (upI (-(highF r xx)) (highF r xx)).length = (highF r xx + 1 - -(highF r xx)).toNat := by unfold upI; rw [List.length_map, List.length_range]
      have gu : ∀ j : Nat, j < (highF r xx + 1 - -(highF r xx)).toNat → (upI (-(highF r xx)) (highF r xx))[j]? = some (-(highF r xx) + (j : Int)) := fun j hj => by
        unfold upI
        rw [List.getElem?_map, List.getElem?_range hj]
        rfl
      have nlD : l ≠ D := ne_of_none hl2 hD
      rw [← hxx]
      refine lc_rep (K := K) (β := Int × Int) walk_range hD [some (.int r), some (.int (r * r - r)), some (.int (r * r + r)), some (.ref l), some (.int xx), some (.int (highF r xx)), some (.int (lowF r xx)), none] rfl (fun _ _ _ _ => trivial) trivial (upI (-(highF r xx)) (highF r xx)) (fun y => decide (lowF r xx ≤ (if y < 0 then -y else y))) (fun y => (xx, y)) lu (by omega) (fun j a x Hc Hd hj ee y5 R0 R hR0 hR => ?_) (fun ys2 H5 e5 hL5 rL5 => ?_)
      · obtain ⟨rfl, rfl⟩ := y5
        have hjl := (List.getElem?_eq_some_iff.mp hj).1
        rw [lu] at hjl
        rw [gu j hjl] at hj
        obtain rfl := Option.some.inj hj
        refine ⟨rfl, _, rfl, _, rfl, _, rfl, _, _, rfl, rfl, _, rfl, ite2 (fun h1 => ?_) (fun h1 => ?_)⟩
        · exact ⟨_, rfl, _, rfl, by show 2 ≤ sizeLine; decide, fun t ht => hR _ _ (Ex.new ht) h1 (Rep.p2 (st_of upd_same))⟩
        · exact hR0 _ (Ex.refl _) (Bool.eq_false_iff.mpr h1)
      have l2 := rL5.length
      rw [List.length_map] at l2
      have l3 := List.length_filter_le (fun y => decide (lowF r xx ≤ (if y < 0 then -y else y))) (upI (-(highF r xx)) (highF r xx))
      have hi2 : i ≤ 2001 := by omega
      have hl5 := e5 _ _ hl2
      refine ⟨l, D, ys, ys2, rfl, rfl, hl5, hL5, by rw [sizeLine_eq]; omega, ?_⟩
      refine ⟨_, _, _, ys ++ ys2, rfl, (e.trans e5).mut hl, upd_same, ?_, by rw [List.length_append]; omega⟩
      rw [take_get (ug i hi), List.flatMap_append, List.flatMap_cons, List.flatMap_nil, List.append_nil, ← hxx]
      exact (RAll.updL hl5 (ry.ex e5)).append (RAll.updL hl5 rL5)
    · rintro σ' H' ⟨v4, v5, v6, ys, rfl, e, hl2, ry, hyl⟩
      refine ⟨_, rfl, q l ys H' e hl hl2 ?_⟩
      rw [← ul, List.take_length] at ry
      unfold rimF
      rw [if_neg r0]
      exact ry
end
end My


-- Rc
namespace My
open PySem L2 Evl
/-! ### the cells of a rim -/
theorem in_high {n y : Int} (hn : 0 ≤ n) : (-(sqI n) ≤ y ∧ y ≤ sqI n) ↔ y * y ≤ n := by
  obtain ⟨a, b, c⟩ := sqI_spec hn
  constructor
  · rintro ⟨h1, h2⟩
    have := sq_in h1 h2
    omega
  · intro h
    have k : ∀ z : Int, 0 ≤ z → z * z ≤ n → z ≤ sqI n := fun z hz hh => by
      have := sq_lt (a := z) (b := sqI n + 1) hz (by omega) (by omega)
      omega
    rcases Int.le_total 0 y with z | z
    · have := k y z h
      omega
    · have := k (-y) (by omega) (by rw [Int.neg_mul_neg]; exact h)
      omega
theorem mem_rim {r x y : Int} (hr : 0 ≤ r) : (x, y) ∈ rimF r ↔ onRim r (x * x + y * y) := by
  have hx0 := sq_ne x
  have hy0 := sq_ne y
  unfold rimF
  by_cases h : r = 0
  · rw [if_pos h, List.mem_singleton]
    subst h
    constructor
    · rintro e
      obtain ⟨rfl, rfl⟩ := Prod.mk.inj e
      exact .inl ⟨rfl, rfl⟩
    · rintro (⟨_, e⟩ | ⟨e, _⟩)
      · have hx : x * x = 0 := by omega
        have hy : y * y = 0 := by omega
        rcases Int.mul_eq_zero.mp hx with hx | hx <;> rcases Int.mul_eq_zero.mp hy with hy | hy <;> rw [hx, hy]
      · omega
  rw [if_neg h, List.mem_flatMap]
  have rr := sq_ne r
  have r1 : r ≤ r * r := by
    have := Int.mul_le_mul (a := 1) (b := r) (c := r) (d := r) (by omega) (Int.le_refl _) (by omega) (by omega)
    omega
  have e2 : (r + 1) * (r + 1) = r * r + r + r + 1 := by rw [Int.add_mul, Int.mul_add, Int.mul_one, Int.one_mul]; omega
  have low : ∀ n : Int, 0 ≤ n → (sqI n + 1 ≤ (if y < 0 then -y else y) ↔ n < y * y) := fun n hn => by
    have hi := in_high (y := y) hn
    obtain ⟨a, b, c⟩ := sqI_spec hn
    by_cases hy : y < 0
    · rw [if_pos hy]
      constructor
      · intro z
        rcases Int.lt_or_le n (y * y) with q | q
        · exact q
        · have := hi.mpr q
          omega
      · intro z
        rcases Int.lt_or_le (-y) (sqI n + 1) with q | q
        · have := hi.mp ⟨by omega, by omega⟩
          omega
        · exact q
    · rw [if_neg hy]
      constructor
      · intro z
        rcases Int.lt_or_le n (y * y) with q | q
        · exact q
        · have := hi.mpr q
          omega
      · intro z
        rcases Int.lt_or_le y (sqI n + 1) with q | q
        · have := hi.mp ⟨by omega, by omega⟩
          omega
        · exact q
  constructor
  · rintro ⟨x', hx', hm⟩
    unfold colF at hm
    obtain ⟨y', hy', e⟩ := List.mem_map.mp hm
    obtain ⟨rfl, rfl⟩ := Prod.mk.inj e
    rw [mem_upI] at hx'
    obtain ⟨hy', hl⟩ := List.mem_filter.mp hy'
    rw [mem_upI] at hy'
    have hl := of_decide_eq_true hl
    have xr := sq_in hx'.1 hx'.2
    have hh := (in_high (n := r * r + r - x' * x') (y := y') (by omega)).mp hy'
    refine .inr ⟨by omega, ?_, by omega⟩
    unfold lowF at hl
    by_cases h9 : x' * x' ≤ r * r - r
    · rw [if_pos h9] at hl
      have := (low _ (by omega)).mp hl
      omega
    · omega
  · rintro (⟨e, _⟩ | ⟨_, h1, h2⟩)
    · exact absurd e h
    have hxr : -r ≤ x ∧ x ≤ r := by
      have k : ∀ z : Int, 0 ≤ z → z * z ≤ r * r + r → z ≤ r := fun z hz hh => by
        have := sq_lt (a := z) (b := r + 1) hz (by omega) (by omega)
        omega
      rcases Int.le_total 0 x with z | z
      · have := k x z (by omega)
        omega
      · have := k (-x) (by omega) (by rw [Int.neg_mul_neg]; omega)
        omega
    refine ⟨x, mem_upI.mpr hxr, ?_⟩
    unfold colF
    refine List.mem_map.mpr ⟨y, List.mem_filter.mpr ⟨mem_upI.mpr ((in_high (by omega)).mpr (by omega)), decide_eq_true ?_⟩, rfl⟩
    unfold lowF
    by_cases h9 : x * x ≤ r * r - r
    · rw [if_pos h9]
      exact (low _ (by omega)).mpr (by omega)
    · rw [if_neg h9]
      by_cases hy : y < 0
      · rw [if_pos hy]; omega
      · rw [if_neg hy]; omega
theorem mem_rim_rad {r x y : Int} (hr : 0 ≤ r) : (x, y) ∈ rimF r ↔ radF (x * x + y * y) = r :=
  (mem_rim hr).trans (radF_iff (by have := sq_ne x; have := sq_ne y; omega) hr).symm
end My


-- Rv
namespace My
open PySem L2 Evl
abbrev P3 := Int × Int × Int
def szO (m : Nat) : Option V := if m = 0 then none else some (.int (m : Nat))
theorem szO_get (m : Nat) : (szO m).getD (.int 0) = .int (m : Nat) := by
  unfold szO
  by_cases h : m = 0
  · rw [if_pos h, h]
    rfl
  · rw [if_neg h]
    rfl
theorem szO_pos {m : Nat} (h : m ≠ 0) : szO m = some (.int (m : Nat)) := if_neg h
def kt (q : P3) : List Key := [.inl q.1, .inl q.2.1, .inl q.2.2]
theorem kt_inj {q r : P3} (h : kt q = kt r) : q = r := by
  obtain ⟨a, b, c⟩ := q
  obtain ⟨a', b', c'⟩ := r
  injection h with h1 h
  injection h with h2 h
  injection h with h3 h
  injection h1 with h1
  injection h2 with h2
  injection h3 with h3
  have h1 : a = a' := h1
  have h2 : b = b' := h2
  have h3 : c = c' := h3
  rw [h1, h2, h3]
theorem keys_put {κ : Type} [DecidableEq κ] (kvs : List (κ × V)) (k : κ) (v : V) : (putK kvs k v).map (·.1) = if k ∈ kvs.map (·.1) then kvs.map (·.1) else kvs.map (·.1) ++ [k] := by
  unfold putK
  by_cases h : k ∈ kvs.map (·.1)
  · rw [if_pos h, if_pos (by
      obtain ⟨p, hp, e⟩ := List.mem_map.mp h
      exact List.any_eq_true.mpr ⟨p, hp, decide_eq_true e⟩), List.map_map]
    refine List.map_congr_left fun p _ => ?_
    show (if p.1 = k then (p.1, v) else p).1 = p.1
    by_cases e : p.1 = k
    · rw [if_pos e]
    · rw [if_neg e]
  · rw [if_neg h, if_neg (fun z => by
      obtain ⟨p, hp, e⟩ := List.any_eq_true.mp z
      exact h (List.mem_map.mpr ⟨p, hp, of_decide_eq_true e⟩)), List.map_append]
    rfl
/-- a dict of counts by triples -/
structure CntAt (kvs : List (List Key × V)) (f : P3 → Nat) (ks : List P3) : Prop where
  val : ∀ q, valV kvs (kt q) = szO (f q)
  keys : kvs.map (·.1) = ks.map kt
  nd : ks.Nodup
  mem : ∀ q, q ∈ ks ↔ f q ≠ 0
theorem CntAt.nil : CntAt [] (fun _ => 0) [] := ⟨fun _ => rfl, rfl, .nil, fun q => by simp⟩
theorem CntAt.add {kvs : List (List Key × V)} {f : P3 → Nat} {ks : List P3} (h : CntAt kvs f ks) (q : P3) : ∃ ks', CntAt (putK kvs (kt q) (.int ((f q + 1 : Nat) : Int))) (fun x => if x = q then f q + 1 else f x) ks' := by
  have val : ∀ x, valV (putK kvs (kt q) (.int ((f q + 1 : Nat) : Int))) (kt x) = szO (if x = q then f q + 1 else f x) := fun x => by
    rw [valV_put]
    by_cases e : x = q
    · subst e
      rw [if_pos rfl, if_pos rfl, szO_pos (by omega)]
    · rw [if_neg (fun z => e (kt_inj z)), if_neg e]
      exact h.val x
  by_cases hq : q ∈ ks
  · refine ⟨ks, val, ?_, h.nd, fun x => ?_⟩
    · rw [keys_put, h.keys, if_pos (List.mem_map.mpr ⟨q, hq, rfl⟩)]
    · rw [h.mem]
      by_cases e : x = q
      · subst e
        rw [if_pos rfl]
        exact ⟨fun _ => by omega, fun _ => (h.mem x).mp hq⟩
      · rw [if_neg e]
  · refine ⟨ks ++ [q], val, ?_, List.nodup_append.mpr ⟨h.nd, by simp, fun x hx y hy => ?_⟩, fun x => ?_⟩
    · rw [keys_put, h.keys, if_neg (fun z => by
        obtain ⟨y, hy, e⟩ := List.mem_map.mp z
        exact hq (kt_inj e ▸ hy)), List.map_append]
      rfl
    · rw [List.mem_singleton] at hy
      subst hy
      exact fun e => hq (e ▸ hx)
    · rw [List.mem_append, List.mem_singleton, h.mem]
      by_cases e : x = q
      · subst e
        rw [if_pos rfl]
        exact ⟨fun _ => by omega, fun _ => .inr rfl⟩
      · rw [if_neg e]
        exact ⟨fun z => z.elim id (fun z => absurd z e), .inl⟩
theorem CntAt.congr {kvs : List (List Key × V)} {f g : P3 → Nat} {ks : List P3} (h : CntAt kvs f ks) (e : ∀ q, f q = g q) : CntAt kvs g ks := by
  have : f = g := funext e
  rw [← this]
  exact h
theorem CntAt.len {kvs : List (List Key × V)} {f : P3 → Nat} {ks : List P3} (h : CntAt kvs f ks) : kvs.length = ks.length := by
  have := congrArg List.length h.keys
  rw [List.length_map, List.length_map] at this
  exact this
end My


-- Rw
namespace My
open PySem L2 Evl
/-- how many cells of some lot are on the rim about (x, y) -/
noncomputable def hitF (cells : List (Int × Int)) (q : P3) : Nat := ((rimF q.2.2).filter fun o => decide ((q.1 + o.1, q.2.1 + o.2) ∈ cells)).length
theorem nodup_le {α : Type} [DecidableEq α] : ∀ {as bs : List α}, as.Nodup → (∀ a ∈ as, a ∈ bs) → as.length ≤ bs.length
  | [], _, _, _ => Nat.zero_le _
  | a :: r, bs, h, s => by
    obtain ⟨h1, h2⟩ := List.nodup_cons.mp h
    have := nodup_le (as := r) (bs := bs.erase a) h2 fun b hb => (List.mem_erase_of_ne (fun z => h1 (by rw [← z]; exact hb))).mpr (s b (List.mem_cons_of_mem _ hb))
    rw [List.length_erase_of_mem (s a List.mem_cons_self)] at this
    have := List.length_pos_of_mem (s a List.mem_cons_self)
    rw [List.length_cons]
    omega
theorem putK_len {κ : Type} [DecidableEq κ] (kvs : List (κ × V)) (k : κ) (v : V) : (putK kvs k v).length ≤ kvs.length + 1 := by
  have h := congrArg List.length (keys_put kvs k v)
  rw [List.length_map] at h
  rw [h]
  by_cases z : k ∈ kvs.map (·.1)
  · rw [if_pos z, List.length_map]
    omega
  · rw [if_neg z, List.length_append, List.length_map, List.length_singleton]
    omega
theorem none_ex {H H1 : Hp} {a : Addr} (e : Ex H H1) (h : H1 a = none) : H a = none := by
  cases z : H a with
  | none => rfl
  | some o => rw [e _ _ z] at h; cases h
theorem rim_lens : (rimF 1).length = 8 ∧ (rimF 2).length = 12 ∧ (rimF 3).length = 16 := by decide +kernel
theorem rim_few {r : Int} (h : 1 ≤ r ∧ r ≤ 3) : (rimF r).length ≤ 100 := by
  obtain ⟨a, b, c⟩ := rim_lens
  have h : r = 1 ∨ r = 2 ∨ r = 3 := by omega
  rcases h with rfl | rfl | rfl <;> omega
section
variable {P : Program} {w : World} {K : PySem.W.Frag} {mg : Str → Option Value} {base : Heap}
def sp_votes {K : PySem.W.Frag} {mg : Str → Option Value} (T : Env K mg) : Sp := fun vs H Q _ => ∃ (c r : Addr) (xs : List V) (cells : List (Int × Int)) (rs : List Int), vs = [.ref c, .ref r] ∧ SqL K H c xs ∧ RAll K H xs cells ∧ cells.length < 64 ∧ SqL K H r (rs.map V.int) ∧ rs.length ≤ 3 ∧ (∀ x ∈ rs, 1 ≤ x ∧ x ≤ 3) ∧
    ∀ H' v kvs ks, Ex H H' → H v = none → H' v = some (.dT kvs) → kvs.length ≤ 19200 → CntAt kvs (fun q => if q.2.2 ∈ rs then hitF cells q else 0) ks → Q (.ref v) H'
theorem ok_votes (T : Env K mg) : FnOk P w K mg base CX0 2 T.d_votes.f T.d_votes.fd ["cells", "radii"] (sp_votes T) := by
  have G_rim := ok_rim (P := P) (w := w) (base := base) T
  refine T.d_votes.F.ok sc_votes (fun vs H Q E h => ?_) (fun cdv A outer s H vs Q E hr h => ?_)
  · obtain ⟨c, r, xs, cells, rs, rfl, hc, rc, hcl, hrd, hrl, hrs, q⟩ := h
    rfl
  · obtain ⟨c, r, xs, cells, rs, rfl, hc, rc, hcl, hrd, hrl, hrs, q⟩ := h
    have hr_rim : Room 1 _ := hr.mono (by decide)
    have hu := hu_of hr
    refine ⟨_, pss_cons (ps_set (i := 2) sc_votes.nd rfl (.inl rfl) (pe_callB (cr_sortedSA rfl) (by rfl) T.n_sorted (by decide +kernel) (pa_cons (pe_callTy (cr_setA rfl hr.units) (by rfl) T.n_set (by decide +kernel) (pa_cons (pv 0) pa_nil)) pa_nil)))
      (pss_cons (ps_set (i := 3) sc_votes.nd rfl (.inl rfl) pe_dnewT)
      (pss_cons (ps_for PassesOwn.never rfl (pi_list (pe_callB (cr_sortedSet rfl) (by rfl) T.n_sorted (by decide +kernel) (pa_cons (pe_callTy (cr_setI rfl) (by rfl) T.n_set (by decide +kernel) (pa_cons (pv 1) pa_nil)) pa_nil))) (pg_name (i := 4) sc_votes.nd rfl (.inl rfl)) (pss_one (ps_for PassesOwn.never rfl (pi_list (pe_call G_rim hr_rim (by rfl) T.d_rim.m T.d_rim.k T.d_rim.b .nil pass0 (pa_cons (pv 4) pa_nil))) (pg_tup (by rfl) (pgs_cons (pg_name (i := 5) sc_votes.nd rfl (.inl rfl)) (pgs_cons (pg_name (i := 6) sc_votes.nd rfl (.inl rfl)) pgs_nil))) (pss_one (ps_for PassesOwn.never rfl (pi_list (pv 2)) (pg_tup (by rfl) (pgs_cons (pg_name (i := 7) sc_votes.nd rfl (.inl rfl)) (pgs_cons (pg_name (i := 8) sc_votes.nd rfl (.inl rfl)) pgs_nil))) (pss_cons (ps_set (i := 9) sc_votes.nd rfl (.inl rfl) (pe_tup (pa_cons (pe_op op_sub (pv 7) (pv 5)) (pa_cons (pe_op op_sub (pv 8) (pv 6)) (pa_cons (pv 4) pa_nil)))))
      (pss_one (ps_dput hu (pv 3) (pv 9) (pe_op op_add (pe_dget2 hu (pv 3) (pv 9) pe_int ⟨rfl, rfl, rfl, rfl⟩) pe_int) rfl))))))))
      (pss_one (ps_ret (pv 3))))), ?_⟩
    refine ⟨_, rfl, ?_⟩
    dsimp only [tNil]
    refine set_sorted (.inl hc) rc hcl (fun us U u H1 e1 hu1 ru nd mem pw => ?_)
    have lus := ru.length
    have lU : U.length < 64 := Nat.lt_of_le_of_lt (nodup_le nd fun b hb => (mem b).mp hb) hcl
    have hitE : ∀ q, hitF U q = hitF cells q := fun q => by
      unfold hitF
      congr 1
      exact List.filter_congr fun o _ => decide_eq_decide.mpr (mem _)
    intro vd hvd
    have hrd1 := ex_l (e1.trans (Ex.new (o := .dT []) hvd)) hrd
    refine ⟨_, rfl, r, rs, rfl, .inl hrd1, by unfold scanBound; omega, fun a c0 ha hc0 => ⟨a, _, c0, rfl, upd_same, by omega, fun zs p pwz memz lz hp => ⟨p, rfl, ⟨_, sq_of upd_same⟩, ?_⟩⟩⟩
    have memz : ∀ k, k ∈ zs ↔ k ∈ rs := fun k => (memz k).trans (by rw [decide_eq_true_iff])
    have zl : zs.length ≤ 3 := by omega
    have npv : p ≠ vd := fun z => by
      rw [z, upd_ne (fun y => by rw [← y, upd_same] at ha; cases ha), upd_same] at hp
      cases hp
    have nav : vd ≠ a := fun y => by rw [← y, upd_same] at ha; cases ha
    refine for_it walk_list (fun i σ' H' => ∃ v4 v5 v6 v7 v8 v9 kvs ks, σ' = [some (.ref c), some (.ref r), some (.ref u), some (.ref vd), v4, v5, v6, v7, v8, v9] ∧ Ex H1 H' ∧ H' p = some (.lst (zs.map V.int)) ∧ H' vd = some (.dT kvs) ∧ CntAt kvs (fun q => if q.2.2 ∈ zs.take i then hitF U q else 0) ks ∧ kvs.length ≤ 6400 * i)
      ⟨none, none, none, none, none, none, [], [], rfl, ?_, upd_same, ?_, CntAt.nil.congr (fun q => by simp), by simp⟩ (fun i σ' H' _ ⟨_, _, _, _, _, _, _, _, _, _, hp, _⟩ => sq_of hp) ?_ ?_
    · exact (Ex.new hvd).trans ((Ex.new ha).trans (Ex.new hp))
    · rw [upd_ne npv.symm, upd_ne nav, upd_same]
    · rintro i x σ' Ha Hb hi ⟨v4, v5, v6, v7, v8, v9, kvs, ks, rfl, e, hp2, hv2, va, hkl⟩ y
      obtain ⟨rfl, hx⟩ := y
      rw [List.getElem?_map] at hx
      obtain ⟨ρ, hρ, rfl⟩ := Option.map_eq_some_iff.mp hx
      have hr3 := hrs ρ ((memz ρ).mp (List.mem_of_getElem? hρ))
      have i3 := (List.getElem?_eq_some_iff.mp hρ).1
      have nz : ρ ∉ zs.take i := fun h => by
        have h1 : (zs.take (i + 1)).Pairwise (· < ·) := pwz.sublist (List.take_sublist _ _)
        rw [take_get hρ] at h1
        have := (List.pairwise_append.mp h1).2.2 ρ h ρ (by simp)
        omega
      have rl := rim_few hr3
      refine ⟨_, rfl, ρ, rfl, ⟨by omega, by omega⟩, fun l rxs H5 e5 hn5 hl5 rl5 => ⟨l, rfl, ⟨_, sq_of hl5⟩, ?_⟩⟩
      have lrx := rl5.length
      have nlv : l ≠ vd := ne_of hl5 (e5 _ _ hv2) (fun z => by cases z)
      refine for_it walk_list (fun j σ' H' => ∃ v5 v6 v7 v8 v9 kvs ks, σ' = [some (.ref c), some (.ref r), some (.ref u), some (.ref vd), some (.int ρ), v5, v6, v7, v8, v9] ∧ Ex H1 H' ∧ H' p = some (.lst (zs.map V.int)) ∧ H' l = some (.lst rxs) ∧ RAll K H' rxs (rimF ρ) ∧ H' vd = some (.dT kvs) ∧ CntAt kvs (fun q => (if q.2.2 ∈ zs.take i then hitF U q else 0) + if q.2.2 = ρ then (((rimF ρ).take j).filter fun o => decide ((q.1 + o.1, q.2.1 + o.2) ∈ U)).length else 0) ks ∧ kvs.length ≤ 6400 * i + 64 * j)
        ⟨v5, v6, v7, v8, v9, kvs, ks, rfl, e.trans e5, e5 _ _ hp2, hl5, rl5, e5 _ _ hv2, va.congr (fun q => by simp), by omega⟩ (fun j σ' H' _ ⟨_, _, _, _, _, _, _, _, _, _, hl, _⟩ => sq_of hl) ?_ ?_
      · rintro j x σ' Hc Hd hj ⟨v5, v6, v7, v8, v9, kvs, ks, rfl, e, hp2, hl2, rl2, hv2, va, hkl⟩ y
        obtain ⟨rfl, hx⟩ := y
        obtain ⟨o, ho, ro⟩ := rl2.get hx
        obtain ⟨z, rfl, hz⟩ := id ro.p2_inv
        have hjr := (List.getElem?_eq_some_iff.mp ho).1
        refine ⟨z, [_, _], rfl, hz, rfl, _, _, rfl, _, _, rfl, rfl, ?_⟩
        refine ⟨_, rfl, u, rfl, ⟨_, sq_of (e _ _ hu1)⟩, ?_⟩
        refine for_it walk_list (fun m σ' H' => ∃ v7 v8 v9 kvs ks, σ' = [some (.ref c), some (.ref r), some (.ref u), some (.ref vd), some (.int ρ), some (.int o.1), some (.int o.2), v7, v8, v9] ∧ Ex H1 H' ∧ H' p = some (.lst (zs.map V.int)) ∧ H' l = some (.lst rxs) ∧ RAll K H' rxs (rimF ρ) ∧ H' vd = some (.dT kvs) ∧ CntAt kvs (fun q => ((if q.2.2 ∈ zs.take i then hitF U q else 0) + if q.2.2 = ρ then (((rimF ρ).take j).filter fun o => decide ((q.1 + o.1, q.2.1 + o.2) ∈ U)).length else 0) + if q.2.2 = ρ ∧ (q.1 + o.1, q.2.1 + o.2) ∈ U.take m then 1 else 0) ks ∧ kvs.length ≤ 6400 * i + 64 * j + m)
          ⟨v7, v8, v9, kvs, ks, rfl, e, hp2, hl2, rl2, hv2, va.congr (fun q => by simp), by omega⟩ (fun m σ' H' _ ⟨_, _, _, _, _, _, e, _⟩ => sq_of (e _ _ hu1)) ?_ ?_
        · rintro m x σ' He Hf hm ⟨v7, v8, v9, kvs, ks, rfl, e, hp2, hl2, rl2, hv2, va, hkl⟩ y
          obtain ⟨rfl, hx⟩ := y
          obtain ⟨b, hb, rb⟩ := (ru.ex e).get hx
          obtain ⟨zb, rfl, hzb⟩ := id rb.p2_inv
          have hmU := (List.getElem?_eq_some_iff.mp hb).1
          have nb : b ∉ U.take m := fun hm => by
            have h1 : (U.take (m + 1)).Nodup := nd.sublist (List.take_sublist _ _)
            rw [take_get hb] at h1
            exact (List.nodup_append.mp h1).2.2 b hm b (by simp) rfl
          refine ⟨zb, [_, _], rfl, hzb, rfl, _, _, rfl, _, _, rfl, rfl, ?_⟩
          refine ⟨_, rfl, _, rfl, _, _, rfl, rfl, _, rfl, _, rfl, _, _, rfl, rfl, _, rfl, by show 3 ≤ sizeLine; decide, fun t9 ht9 => ?_⟩
          obtain ⟨q0, hq0⟩ : ∃ q0 : P3, q0 = (b.1 - o.1, b.2 - o.2, ρ) := ⟨_, rfl⟩
          have x9 := Ex.new (o := .tup [V.int (b.1 - o.1), V.int (b.2 - o.2), V.int ρ]) ht9
          have hv9 := x9 _ _ hv2
          have hbt : (upd Hf t9 (.tup [V.int (b.1 - o.1), V.int (b.2 - o.2), V.int ρ])) t9 = some (.tup ((kt q0).map kV)) := by
            rw [upd_same, hq0]
            rfl
          have hq1 : (q0.1 + o.1, q0.2.1 + o.2) = b := by
            rw [hq0]
            exact Prod.ext (by show b.1 - o.1 + o.1 = b.1; omega) (by show b.2 - o.2 + o.2 = b.2; omega)
          have hq2 : q0.2.2 = ρ := by rw [hq0]
          generalize upd Hf t9 (.tup [V.int (b.1 - o.1), V.int (b.2 - o.2), V.int ρ]) = H9 at *
          obtain ⟨N, hN⟩ : ∃ N, (((rimF ρ).take j).filter fun o => decide ((q0.1 + o.1, q0.2.1 + o.2) ∈ U)).length = N := ⟨_, rfl⟩
          have e0 : ((if q0.2.2 ∈ zs.take i then hitF U q0 else 0) + if q0.2.2 = ρ then (((rimF ρ).take j).filter fun o => decide ((q0.1 + o.1, q0.2.1 + o.2) ∈ U)).length else 0) + (if q0.2.2 = ρ ∧ (q0.1 + o.1, q0.2.1 + o.2) ∈ U.take m then 1 else 0) = N := by
            rw [if_neg (by rw [hq2]; exact nz), if_pos hq2, if_neg (fun z => nb (by rw [← hq1]; exact z.2)), hN]
            omega
          have hval := va.val q0
          have hval : valV kvs (kt q0) = szO _ := hval
          rw [e0] at hval
          have hg : (valV kvs (kt q0)).getD (.int 0) = .int (N : Nat) := by rw [hval, szO_get]
          obtain ⟨ks', va'⟩ := va.add q0
          refine ⟨_, rfl, vd, rfl, .inr ⟨kvs, .inl hv9⟩, _, rfl, _, DGet.t (k := kt q0) hv9 hbt, ?_⟩
          rw [hg]
          refine ⟨_, 1, rfl, rfl, ?_⟩
          refine ⟨_, rfl, _, rfl, vd, _, rfl, DPut.t (k := kt q0) hv9 hbt (sz_lt (by omega)), ?_⟩
          have kpd : Keep H9 (upd H9 vd (.dT (putK kvs (kt q0) (.int ((N : Nat) + 1 : Int))))) := Keep.upd hv9 rfl
          have ev : ((N : Nat) : Int) + 1 = ((N + 1 : Nat) : Int) := by omega
          refine ⟨_, _, _, _, ks', rfl, (e.trans x9).mut hvd, ?_, ?_, (rl2.ex x9).keep kpd, upd_same, ?_, ?_⟩
          · rw [upd_ne npv]
            exact x9 _ _ hp2
          · rw [upd_ne nlv]
            exact x9 _ _ hl2
          · show CntAt (putK kvs (kt q0) (.int (((N : Nat) : Int) + 1))) _ _
            rw [ev]
            rw [e0] at va'
            refine va'.congr fun q => ?_
            rw [take_get hb]
            by_cases eq : q = q0
            · subst eq
              rw [if_pos rfl, if_neg (by rw [hq2]; exact nz), if_pos hq2, if_pos ⟨hq2, by rw [hq1]; simp⟩, hN]
              omega
            · rw [if_neg eq]
              have : (q.2.2 = ρ ∧ (q.1 + o.1, q.2.1 + o.2) ∈ U.take m ++ [b]) ↔ (q.2.2 = ρ ∧ (q.1 + o.1, q.2.1 + o.2) ∈ U.take m) := by
                constructor
                · rintro ⟨h1, h2⟩
                  refine ⟨h1, (List.mem_append.mp h2).elim id fun z => ?_⟩
                  have z := List.mem_singleton.mp z
                  refine absurd ?_ eq
                  rw [hq0, ← z]
                  exact Prod.ext (by show q.1 = q.1 + o.1 - o.1; omega) (Prod.ext (by show q.2.1 = q.2.1 + o.2 - o.2; omega) h1)
                · rintro ⟨h1, h2⟩
                  exact ⟨h1, List.mem_append.mpr (.inl h2)⟩
              by_cases h9 : (q.2.2 = ρ ∧ (q.1 + o.1, q.2.1 + o.2) ∈ U.take m)
              · rw [if_pos h9, if_pos (this.mpr h9)]
              · rw [if_neg h9, if_neg (fun z => h9 (this.mp z))]
          · exact Nat.le_trans (putK_len _ _ _) (by omega)
        · rintro σ' H7 ⟨v7, v8, v9, kvs, ks, rfl, e, hp2, hl2, rl2, hv2, va, hkl⟩
          refine ⟨_, _, _, _, _, kvs, ks, rfl, e, hp2, hl2, rl2, hv2, va.congr (fun q => ?_), by omega⟩
          rw [lus, List.take_length, take_get ho, List.filter_append, List.length_append, List.filter_cons, List.filter_nil]
          generalize (if q.2.2 ∈ zs.take i then hitF U q else 0) = B
          by_cases h1 : q.2.2 = ρ
          · by_cases h2 : (q.1 + o.1, q.2.1 + o.2) ∈ U
            · rw [if_pos h1, if_pos ⟨h1, h2⟩, if_pos h1, if_pos (decide_eq_true h2)]
              simp only [List.length_cons, List.length_nil]
              omega
            · rw [if_pos h1, if_neg (fun z => h2 z.2), if_pos h1, if_neg (fun z => h2 (of_decide_eq_true z))]
              simp only [List.length_nil, Nat.add_zero]
          · rw [if_neg h1, if_neg (fun z => h1 z.1), if_neg h1]
      · rintro σ' H7 ⟨v5, v6, v7, v8, v9, kvs, ks, rfl, e, hp2, hl2, rl2, hv2, va, hkl⟩
        refine ⟨_, _, _, _, _, _, kvs, ks, rfl, e, hp2, hv2, va.congr (fun q => ?_), by omega⟩
        rw [lrx, List.take_length, take_get hρ]
        by_cases h1 : q.2.2 = ρ
        · rw [if_pos h1, if_neg (by rw [h1]; exact nz), if_pos (by rw [h1]; simp), Nat.zero_add]
          unfold hitF
          rw [h1]
        · rw [if_neg h1, Nat.add_zero]
          by_cases h2 : q.2.2 ∈ zs.take i
          · rw [if_pos h2, if_pos (List.mem_append.mpr (.inl h2))]
          · rw [if_neg h2, if_neg (fun z => (List.mem_append.mp z).elim h2 (fun y => h1 (List.mem_singleton.mp y)))]
    · rintro σ' H7 ⟨v4, v5, v6, v7, v8, v9, kvs, ks, rfl, e, hp2, hv2, va, hkl⟩
      rw [List.length_map] at hkl
      rw [List.length_map, List.take_length] at va
      refine ⟨_, rfl, q H7 vd kvs ks (e1.trans e) ?_ hv2 (by omega) (va.congr fun q => ?_)⟩
      · exact none_ex e1 hvd
      · by_cases h : q.2.2 ∈ rs
        · rw [if_pos h, if_pos ((memz _).mpr h), hitE]
        · rw [if_neg h, if_neg (fun z => h ((memz _).mp z))]
end
end My


-- Rx
namespace My
open PySem L2 Evl
theorem call_len_seqK {X : Cx} (K : PySem.W.Frag) (h : X.K = K := by rfl) : CallR X (.builtin "len") (fun xs H Q => ∃ p ys, xs = [V.ref p] ∧ (SqL K H p ys ∨ SqT K H p ys) ∧ Q (.int (ys.length : Nat)) H) := h ▸ call_len_seq
theorem walk_keysT {d : Addr} {o : Obj} {kvs : List (List Key × V)} : Walk (Itkt d o kvs) kvs.length (fun H => H d = some (.frz o (.dT kvs))) (fun i H x H' => H' = H ∧ ∃ (k : List Key) (v : V) (q : Addr), kvs[i]? = some (k, v) ∧ x = .ref q ∧ H q = some (.tup (k.map kV))) :=
  ⟨fun i H hi q => ⟨q, hi⟩, fun H q => ⟨q, Nat.le_refl _⟩, fun i H x H' _ q y => y⟩
theorem RAll.unlock3 {K : PySem.W.Frag} {H : Hp} {v : Addr} {od : Obj} {kvs : List (List Key × V)} {o : HO} (hv : H v = some (.frz od (.dT kvs))) : ∀ {vs : List V} {qs : List P3}, RAll K H vs qs → RAll K (upd H v o) vs qs
  | _, _, .nil => .nil
  | _, _, .cons r t => .cons (by
      obtain ⟨b, rfl, hb⟩ := r.p3_inv
      refine Rep.p3 ?_
      rcases hb with (h | ⟨ob, h⟩) | h
      · refine .inl (.inl ?_)
        rw [upd_ne (ne_of h hv (fun z => by cases z))]
        exact h
      · refine .inl (.inr ⟨ob, ?_⟩)
        rw [upd_ne (ne_of h hv (fun z => by cases z))]
        exact h
      · exact .inr h) (t.unlock3 hv)
/-- a dict's comprehension over anything that is walked -/
theorem dc_it {J : It} {n : Nat} {G : Hp → Prop} {Y : Nat → Hp → V → Hp → Prop} (w : Walk J n G Y) {g : TG} {tt : TT} {tk tv : TE} {vs : List Nat} {σ : L2.St} {H1 : Hp} {D : Addr} {Qd : Hp → Prop} (Pv : Nat → Hp → Prop) (h0 : Pv 0 (upd H1 D (.dK []))) (hG : ∀ i H, i ≤ n → Pv i H → G H)
    (hs : ∀ i x H H', i < n → Pv i H → Y i H x H' → g x (wipe σ vs) H' fun σ2 H2 => wipe σ2 vs = wipe σ vs ∧ tt σ2 H2 fun b H3 =>
      if b = true then tk σ2 H3 fun y H4 => tv σ2 H4 fun z H5 => ∃ kvs k, y = kV k ∧ H5 D = some (.dK kvs) ∧ kvs.length < sizeLine ∧ Pv (i + 1) (upd H5 D (.dK (putK kvs k z))) else Pv (i + 1) H3) (hd : ∀ H, Pv n H → Qd H) :
    ∃ W : Nat → Nat → Hp → Prop, (∃ m, W 0 m (upd H1 D (.dK []))) ∧ ∀ i m H, W i m H →
      (J.stop i H ∧ Qd H) ∨ (J.go i H ∧ ∃ Nx : Hp → Prop, (∀ H', Nx H' → ∃ m', m' < m ∧ W (i + 1) m' H') ∧ ∀ x H', J.yld i H x H' → g x (wipe σ vs) H' fun σ2 H2 => wipe σ2 vs = wipe σ vs ∧ tt σ2 H2 fun b H3 =>
        if b = true then tk σ2 H3 fun y H4 => tv σ2 H4 fun z H5 => ∃ kvs k, y = kV k ∧ H5 D = some (.dK kvs) ∧ kvs.length < sizeLine ∧ Nx (upd H5 D (.dK (putK kvs k z))) else Nx H3) := by
  refine ⟨fun i m H => m = n - i ∧ i ≤ n ∧ Pv i H, ⟨n, by simp, Nat.zero_le _, h0⟩, ?_⟩
  rintro i m H ⟨rfl, hi, p⟩
  have q := hG i H hi p
  by_cases hlt : i < n
  · exact .inr ⟨w.goes i H hlt q, Pv (i + 1), fun H' p' => ⟨n - (i + 1), by omega, rfl, hlt, p'⟩, fun x H' y => hs i x H H' hlt p (w.yields i H x H' hlt q y)⟩
  · have e : i = n := by omega
    subst e
    exact .inl ⟨w.stops H q, hd H p⟩
theorem rim_many {r : Int} (h : 1 ≤ r ∧ r ≤ 3) : 8 ≤ (rimF r).length := by
  obtain ⟨a, b, c⟩ := rim_lens
  have h : r = 1 ∨ r = 2 ∨ r = 3 := by omega
  rcases h with rfl | rfl | rfl <;> omega
section
variable {P : Program} {w : World} {K : PySem.W.Frag} {mg : Str → Option Value} {base : Heap}
def sp_rims_in {K : PySem.W.Frag} {mg : Str → Option Value} (T : Env K mg) : Sp := fun vs H Q _ => ∃ (c r : Addr) (xs : List V) (cells : List (Int × Int)) (rs : List Int) (mi : Int), vs = [.ref c, .ref r, .int mi] ∧ SqL K H c xs ∧ RAll K H xs cells ∧ cells.length < 64 ∧ SqL K H r (rs.map V.int) ∧ rs.length ≤ 3 ∧ (∀ x ∈ rs, 1 ≤ x ∧ x ≤ 3) ∧ (0 ≤ mi ∧ mi ≤ 3) ∧
    ∀ H' v bs, Ex H H' → Rep K H' v (Tp.mk bs) → (∀ q : P3, q ∈ bs ↔ q.2.2 ∈ rs ∧ (rimF q.2.2).length ≤ hitF cells q + mi) → bs.Pairwise (fun a b => ltK b a = false) → bs.Nodup → Q v H'
theorem ok_rims_in (T : Env K mg) : FnOk P w K mg base CX0 3 T.d_rims_in.f T.d_rims_in.fd ["cells", "radii", "missing"] (sp_rims_in T) := by
  have G_votes := ok_votes (P := P) (w := w) (base := base) T
  have G_rim := ok_rim (P := P) (w := w) (base := base) T
  refine T.d_rims_in.F.ok sc_rims_in (fun vs H Q E h => ?_) (fun cdv A outer s H vs Q E hr h => ?_)
  · obtain ⟨c, r, xs, cells, rs, mi, rfl, hc, rc, hcl, hrd, hrl, hrs, hmi, q⟩ := h
    rfl
  · obtain ⟨c, r, xs, cells, rs, mi, rfl, hc, rc, hcl, hrd, hrl, hrs, hmi, q⟩ := h
    have hr_votes : Room 2 _ := hr.mono (by decide)
    have hr_rim : Room 1 _ := hr.mono (by decide)
    have hu := hu_of hr
    refine ⟨_, pss_cons (ps_set (i := 3) sc_rims_in.nd rfl (.inr rfl) (pe_dc (own := [("radius", 5)]) (g := gName 5) rfl sc_rims_in.nd (pi_list (pv 1)) (blkOk_by (N := ["cells", "radii", "missing", "least", "found", "radius", "key"]) (sc := defScope s_rims_in) (by decide +kernel)) (fun _ _ _ _ _ => (pg_name (i := 5) sc_rims_in.nd rfl (.inl rfl))) (fun _ _ _ _ _ => pts_nil) (fun _ _ _ _ _ => (pv 5)) (fun _ _ _ _ _ => (pe_op op_sub (pe_callB (call_len_seqK K) (by rfl) T.n_len PySem.boot_len (pa_cons (pe_call G_rim hr_rim (by rfl) T.d_rim.m T.d_rim.k T.d_rim.b .nil pass0 (pa_cons (pv 5) pa_nil)) pa_nil)) (pv 2)))))
      (pss_cons (ps_set (i := 4) sc_rims_in.nd rfl (.inr rfl) (pe_call G_votes hr_votes (by rfl) T.d_votes.m T.d_votes.k T.d_votes.b .nil pass0 (pa_cons (pv 0) (pa_cons (pv 1) pa_nil))))
      (pss_one (ps_ret (pe_callTy call_tuple_of (by rfl) T.n_tuple (by decide +kernel) (pa_cons (pe_callB (cr_sortedA (α := Int × Int × Int)) (by rfl) T.n_sorted (by decide +kernel) (pa_cons (pe_lock (pe_lc (own := [("key", 6)]) (g := gName 6) rfl sc_rims_in.nd (pi_keys (pv 4)) (blkOk_by (N := ["cells", "radii", "missing", "least", "found", "radius", "key"]) (sc := (defScope s_rims_in)) (by decide +kernel)) (fun _ _ _ _ _ => (pg_name (i := 6) sc_rims_in.nd rfl (.inl rfl))) (fun _ _ _ _ _ => (pts_one (pt_cmpR op_ge (pe_dget hu (pv 4) (pv 6) (fun _ _ => rfl)) (pe_dget hu (pv 3) (pe_ix (ix_tupK K) (pv 6) pe_int (fun _ _ => rfl)) (fun _ _ => rfl)) (nomark _)))) (fun _ _ _ _ _ => (pv 6)))) pa_nil)) pa_nil))))), ?_⟩
    refine ⟨_, rfl, r, rfl, ⟨_, hrd⟩, fun D hD => ?_⟩
    refine dc_it (walk_list (K := K) (xs := rs.map V.int)) (fun i H' => Ex H H' ∧ ∃ kvs : List (Key × V), H' D = some (.dK kvs) ∧ kvs.length ≤ i ∧ ∀ x ∈ rs.take i, valV kvs (.inl x) = some (.int ((rimF x).length - mi))) ⟨Ex.new hD, [], upd_same, by simp, by simp⟩ (fun i H' _ h => ex_l h.1 hrd) ?_ ?_
    · rintro i x Ha Hb hi ⟨e, kvs, hk, hkl, hv⟩ y
      obtain ⟨rfl, hx⟩ := y
      rw [List.getElem?_map] at hx
      rw [List.length_map] at hi
      obtain ⟨ρ, hρ, rfl⟩ := Option.map_eq_some_iff.mp hx
      have hr3 := hrs ρ (List.mem_of_getElem? hρ)
      refine ⟨rfl, _, rfl, _, rfl, ρ, rfl, ⟨by omega, by omega⟩, fun l rxs H5 e5 hn5 hl5 rl5 => ⟨l, rxs, rfl, .inl (sq_of hl5), _, rfl, _, _, rfl, rfl, kvs, .inl ρ, rfl, e5 _ _ hk, sz_lt (by omega), (e.trans e5).mut hD, _, upd_same, ?_, fun x hx => ?_⟩⟩
      · exact Nat.le_trans (putK_len _ _ _) (by omega)
      · rw [valV_put]
        by_cases h : x = ρ
        · rw [if_pos (by rw [h]), h, rl5.length]
        · rw [if_neg (fun z => h (Sum.inl.inj z))]
          rw [take_get hρ] at hx
          exact hv x ((List.mem_append.mp hx).elim id fun z => absurd (List.mem_singleton.mp z) h)
    rintro H1 ⟨e1, lk, hl1, _, hlv⟩
    rw [List.length_map, List.take_length] at hlv
    refine ⟨_, rfl, _, rfl, c, r, xs, cells, rs, rfl, ex_l e1 hc, rc.ex e1, hcl, ex_l e1 hrd, hrl, hrs, fun H2 v kvs ks e2 hv hd hkv va => ?_⟩
    have hl2 := e2 _ _ hl1
    have hkl : ks.length ≤ 19200 := by
      have := va.len
      omega
    have hne : ∀ q ∈ ks, q.2.2 ∈ rs := fun q hq => by
      have h := (va.mem q).mp hq
      by_cases z : q.2.2 ∈ rs
      · exact z
      · rw [if_neg z] at h
        exact absurd rfl h
    refine ⟨v, .dT kvs, hd, True.intro, fun od => ?_⟩
    refine ⟨_, rfl, v, od, rfl, .inr ⟨kvs, upd_same, fun L hL => ?_⟩⟩
    have dv : L ≠ v := (ne_of_none upd_same hL).symm
    have nDv : D ≠ v := ne_of_none hl1 hv
    have hl3 : (upd H2 v (.frz od (.dT kvs))) D = some (.dK lk) := by rw [upd_ne nDv]; exact hl2
    refine lc_rep (K := K) (β := P3) walk_keysT hL [some (.ref c), some (.ref r), some (.int mi), some (.ref D), some (.ref v), none, none] rfl (fun _ _ e h => e _ _ h) upd_same ks (fun q => decide (((rimF q.2.2).length : Int) - mi ≤ (hitF cells q : Nat))) (fun q => q) va.len.symm (by rw [va.len]; omega) (fun j q0 x Hc Hd hj e5 y5 R0 R hR0 hR => ?_) (fun zs H4 e4 hL4 rL4 => ?_)
    · obtain ⟨rfl, k, v', b, hk, rfl, hbt⟩ := y5
      have ek : k = kt q0 := by
        have h5 := congrArg (fun l => l[j]?) va.keys
        rw [List.getElem?_map, List.getElem?_map, hk, hj] at h5
        exact Option.some.inj h5
      subst ek
      have mq := List.mem_of_getElem? hj
      have hr := hne q0 mq
      have hval := va.val q0
      have hne0 := (va.mem q0).mp mq
      rw [if_pos hr] at hval hne0
      rw [szO_pos hne0] at hval
      have hlq := hlv _ hr
      refine ⟨rfl, _, rfl, _, rfl, v, .int (hitF cells q0 : Nat), rfl, .inr ⟨kvs, kt q0, b, .inr ⟨od, e5 _ _ upd_same⟩, rfl, hbt, hval.symm⟩, ?_⟩
      refine ⟨_, rfl, _, rfl, b, _, 2, _, rfl, rfl, st_of hbt, rfl, D, .int ((rimF q0.2.2).length - mi), rfl, .inl ⟨lk, .inl q0.2.2, .inl (e5 _ _ hl3), rfl, hlq.symm⟩, _, _, rfl, rfl, _, rfl, ite2 (fun h => ?_) (fun h => ?_)⟩
      · exact ⟨_, rfl, hR _ _ (Ex.refl _) h (Rep.p3 (st_of hbt))⟩
      · exact hR0 _ (Ex.refl _) (Bool.eq_false_iff.mpr h)
    · have hfz := e4 _ _ (upd_same (H := H2) (a := v) (o := .frz od (.dT kvs)))
      rw [List.map_id'] at rL4
      have hvH : H v = none := none_ex e1 hv
      have eU : Ex H (upd H4 v (.dT kvs)) := fun a o ha => by
        have na : a ≠ v := ne_of_none ha hvH
        rw [upd_ne na]
        refine e4 _ _ ?_
        rw [upd_ne na]
        exact e2 _ _ (e1 _ _ ha)
      have hLU : (upd H4 v (.dT kvs)) L = some (.lst zs) := by
        rw [upd_ne dv]
        exact hL4
      refine ⟨hfz, L, zs, _, rfl, sq_of hLU, rL4.unlock3 hfz, fun zs2 bs sd hsd rz hso => ?_⟩
      have eS := Ex.new (o := .lst zs2) hsd
      refine ⟨sd, zs2, rfl, .inl ⟨sq_of upd_same, fun tw htw => ?_⟩⟩
      have eW := Ex.new (o := .tup zs2) htw
      refine q _ _ bs ((eU.trans eS).trans eW) (Rep.tp (st_of upd_same) (rz.ex eW)) (fun q9 => ?_) hso.2 (hso.1.nodup_iff.mpr (va.nd.filter _))
      rw [hso.1.mem_iff, List.mem_filter, va.mem]
      constructor
      · rintro ⟨h1, h2⟩
        by_cases z : q9.2.2 ∈ rs
        · exact ⟨z, by have := of_decide_eq_true h2; omega⟩
        · rw [if_neg z] at h1
          exact absurd rfl h1
      · rintro ⟨h1, h2⟩
        have h8 := rim_many (hrs _ h1)
        rw [if_pos h1]
        exact ⟨by omega, decide_eq_true (by omega)⟩
end
end My


-- Rm
namespace My
open PySem L2 Evl
/-- cells that two rims share -/
noncomputable def shrF (p q : P3) : Nat := ((rimF p.2.2).filter fun o => decide ((p.1 + o.1 - q.1, p.2.1 + o.2 - q.2.1) ∈ rimF q.2.2)).length
theorem rim_asc3 : ∀ r ∈ [(0 : Int), 1, 2, 3, 4, 5], (rimF r).Pairwise (fun a b => ltK b a = false) ∧ (rimF r).Nodup ∧ ∀ o ∈ rimF r, (-5 ≤ o.1 ∧ o.1 ≤ 5) ∧ -5 ≤ o.2 ∧ o.2 ≤ 5 := by decide +kernel
theorem rim_asc {r : Int} (h : 0 ≤ r ∧ r ≤ 5) : (rimF r).Pairwise (fun a b => ltK b a = false) ∧ (rimF r).Nodup := by
  have h1 : r = 0 ∨ r = 1 ∨ r = 2 ∨ r = 3 ∨ r = 4 ∨ r = 5 := by omega
  have z := rim_asc3 r (by rcases h1 with rfl | rfl | rfl | rfl | rfl | rfl <;> simp)
  exact ⟨z.1, z.2.1⟩
theorem rim_near3 : ∀ r ∈ [(1 : Int), 2, 3], ∀ o ∈ rimF r, (-3 ≤ o.1 ∧ o.1 ≤ 3) ∧ -3 ≤ o.2 ∧ o.2 ≤ 3 := by decide +kernel
theorem rim_near {r : Int} (h : 1 ≤ r ∧ r ≤ 3) {o : Int × Int} (ho : o ∈ rimF r) : (-3 ≤ o.1 ∧ o.1 ≤ 3) ∧ -3 ≤ o.2 ∧ o.2 ≤ 3 := by
  have h1 : r = 1 ∨ r = 2 ∨ r = 3 := by omega
  exact rim_near3 r (by rcases h1 with rfl | rfl | rfl <;> simp) o ho
theorem rim_half {r : Int} (hr : 0 ≤ r) {x y : Int} : (x, y) ∈ rimF r ↔ (-x, -y) ∈ rimF r := by
  rw [mem_rim hr, mem_rim hr, Int.neg_mul_neg, Int.neg_mul_neg]
/-- counted from either side -/
theorem shr_comm {p q : P3} (hp : 0 ≤ p.2.2 ∧ p.2.2 ≤ 5) (hq : 0 ≤ q.2.2 ∧ q.2.2 ≤ 5) : shrF p q = shrF q p := by
  have half : ∀ {p q : P3}, 0 ≤ p.2.2 ∧ p.2.2 ≤ 5 → 0 ≤ q.2.2 ∧ q.2.2 ≤ 5 → shrF p q ≤ shrF q p := fun {p q} hp hq => by
    unfold shrF
    have e : ((rimF p.2.2).filter fun o => decide ((p.1 + o.1 - q.1, p.2.1 + o.2 - q.2.1) ∈ rimF q.2.2)).length = (((rimF p.2.2).filter fun o => decide ((p.1 + o.1 - q.1, p.2.1 + o.2 - q.2.1) ∈ rimF q.2.2)).map fun o => (p.1 + o.1 - q.1, p.2.1 + o.2 - q.2.1)).length := by rw [List.length_map]
    rw [e]
    refine nodup_le ?_ fun b hb => ?_
    · refine List.Pairwise.map _ (fun a b h z => h ?_) ((rim_asc hp).2.filter _)
      have z1 := congrArg Prod.fst z
      have z2 := congrArg Prod.snd z
      have z1 : p.1 + a.1 - q.1 = p.1 + b.1 - q.1 := z1
      have z2 : p.2.1 + a.2 - q.2.1 = p.2.1 + b.2 - q.2.1 := z2
      exact Prod.ext (by omega) (by omega)
    · obtain ⟨o, ho, rfl⟩ := List.mem_map.mp hb
      obtain ⟨h1, h2⟩ := List.mem_filter.mp ho
      refine List.mem_filter.mpr ⟨of_decide_eq_true h2, decide_eq_true ?_⟩
      have e1 : q.1 + (p.1 + o.1 - q.1) - p.1 = o.1 := by omega
      have e2 : q.2.1 + (p.2.1 + o.2 - q.2.1) - p.2.1 = o.2 := by omega
      rw [e1, e2]
      exact h1
  exact Nat.le_antisymm (half hp hq) (half hq hp)
/-- where a rim shows enough -/
theorem hit_near {cells : List (Int × Int)} (hc : ∀ c ∈ cells, (-3 ≤ c.1 ∧ c.1 ≤ 11) ∧ -3 ≤ c.2 ∧ c.2 ≤ 11) {q : P3} (hr : 1 ≤ q.2.2 ∧ q.2.2 ≤ 3) (h : 0 < hitF cells q) : (-6 ≤ q.1 ∧ q.1 < 20) ∧ -6 ≤ q.2.1 ∧ q.2.1 < 20 := by
  unfold hitF at h
  obtain ⟨o, ho⟩ := List.exists_mem_of_length_pos h
  obtain ⟨h1, h2⟩ := List.mem_filter.mp ho
  have n := rim_near hr h1
  have c := hc _ (of_decide_eq_true h2)
  have c1 : -3 ≤ q.1 + o.1 ∧ q.1 + o.1 ≤ 11 := c.1
  have c2 : -3 ≤ q.2.1 + o.2 ∧ q.2.1 + o.2 ≤ 11 := c.2
  omega
theorem nsum_le {α : Type} (f g : α → Nat) : ∀ l : List α, (∀ x ∈ l, f x ≤ g x) → (l.map f).sum ≤ (l.map g).sum
  | [], _ => Nat.le_refl _
  | x :: l, h => by
    rw [List.map_cons, List.map_cons, List.sum_cons, List.sum_cons]
    have := h x List.mem_cons_self
    have := nsum_le f g l fun y hy => h y (List.mem_cons_of_mem _ hy)
    omega
theorem cover_le {α β : Type} [DecidableEq α] (R : β → α → Bool) : ∀ (l : List α) (bs : List β), (∀ a ∈ l, ∃ b ∈ bs, R b a = true) → l.length ≤ (bs.map fun b => (l.filter (R b)).length).sum
  | [], bs, _ => Nat.zero_le _
  | a :: l, bs, h => by
    have ih := cover_le R l bs fun x hx => h x (List.mem_cons_of_mem _ hx)
    obtain ⟨b, hb, hR⟩ := h a List.mem_cons_self
    have key : ∀ bs : List β, (b ∈ bs → (bs.map fun b => (l.filter (R b)).length).sum + 1 ≤ (bs.map fun b => ((a :: l).filter (R b)).length).sum) ∧ (bs.map fun b => (l.filter (R b)).length).sum ≤ (bs.map fun b => ((a :: l).filter (R b)).length).sum := fun bs => by
      induction bs with
      | nil => exact ⟨fun z => absurd z (by simp), Nat.le_refl _⟩
      | cons c bs ih =>
        rw [List.map_cons, List.map_cons, List.sum_cons, List.sum_cons]
        have hc : (l.filter (R c)).length ≤ ((a :: l).filter (R c)).length := by
          rw [List.filter_cons]
          split
          · rw [List.length_cons]; omega
          · exact Nat.le_refl _
        refine ⟨fun hm => ?_, by have := ih.2; omega⟩
        rcases List.mem_cons.mp hm with rfl | hm
        · have : ((a :: l).filter (R b)).length = (l.filter (R b)).length + 1 := by
            rw [List.filter_cons, if_pos hR, List.length_cons]
          have := ih.2
          omega
        · have := ih.1 hm
          omega
    have := (key bs).1 hb
    rw [List.length_cons]
    omega
/-- a rim that is made of others' cells alone -/
theorem barred_le {cells : List (Int × Int)} {p : P3} {others : List P3} (h : ∀ c ∈ cells, ∃ q ∈ others, (c.1 - q.1, c.2 - q.2.1) ∈ rimF q.2.2) : hitF cells p ≤ (others.map (shrF p)).sum := by
  unfold hitF
  have h1 := cover_le (fun (q : P3) (o : Int × Int) => decide ((p.1 + o.1 - q.1, p.2.1 + o.2 - q.2.1) ∈ rimF q.2.2)) ((rimF p.2.2).filter fun o => decide ((p.1 + o.1, p.2.1 + o.2) ∈ cells)) others fun o ho => by
    obtain ⟨q, hq, hm⟩ := h _ (of_decide_eq_true (List.mem_filter.mp ho).2)
    exact ⟨q, hq, decide_eq_true hm⟩
  refine Nat.le_trans h1 (nsum_le _ _ _ fun q _ => ?_)
  unfold shrF
  exact (List.filter_sublist.filter _).length_le
section
variable {P : Program} {w : World} {K : PySem.W.Frag} {mg : Str → Option Value} {base : Heap}
def sp_by_radius_k {K : PySem.W.Frag} {mg : Str → Option Value} (T : Env K mg) : Sp := fun vs H Q _ => ∃ (t : Addr) (q : P3), vs = [.ref t] ∧ SqT K H t [.int q.1, .int q.2.1, .int q.2.2] ∧ Q (.int q.2.2) H
theorem ok_by_radius_k (T : Env K mg) : FnOk P w K mg base CX0 1 T.d_by_radius.f T.d_by_radius.fd ["circle"] (sp_by_radius_k T) := by
  refine T.d_by_radius.F.ok sc_by_radius (fun vs H Q E h => ?_) (fun cdv A outer s H vs Q E hr h => ?_)
  · obtain ⟨t, q, rfl, ht, k⟩ := h
    rfl
  · obtain ⟨t, q, rfl, ht, k⟩ := h
    refine ⟨_, pss_one (ps_ret (pe_ix ix_tup (pv 0) pe_int (fun _ _ => rfl))), ?_⟩
    exact ⟨_, rfl, t, _, 2, _, rfl, rfl, ht, rfl, k⟩
end
end My


-- Ry
namespace My
open PySem L2 Evl
theorem unlockT {H : Hp} {v : Addr} {od : Obj} {kvs : List (List Key × V)} {o : HO} (hv : H v = some (.frz od (.dT kvs))) (b : Addr) (xs : List V) (h : H b = some (.tup xs)) : (upd H v o) b = some (.tup xs) := by
  rw [upd_ne (ne_of h hv (fun z => by cases z))]
  exact h
section
variable {P : Program} {w : World} {K : PySem.W.Frag} {mg : Str → Option Value} {base : Heap}
def sp_law_unlike {K : PySem.W.Frag} {mg : Str → Option Value} (T : Env K mg) : Sp := fun vs H Q _ => ∃ (c : Addr) (xs : List V) (items : List (Int × Int)), vs = [.ref c] ∧ SqL K H c xs ∧ MkAll H xs items ∧ items.length ≤ 1000 ∧
    ∀ H' v ys bs, Ex H H' → H' v = some (.lst ys) → MkAll H' ys bs → bs.Nodup → (∀ b, b ∈ bs ↔ b ∈ items) → bs.Pairwise (fun a b => ltK b a = false) → Q (.ref v) H'
theorem ok_law_unlike (T : Env K mg) : FnOk P w K mg base CX0 1 T.d_law_unlike.f T.d_law_unlike.fd ["items"] (sp_law_unlike T) := by
  refine T.d_law_unlike.F.ok sc_law_unlike (fun vs H Q E h => ?_) (fun cdv A outer s H vs Q E hr h => ?_)
  · obtain ⟨c, xs, items, rfl, hc, rc, hl, q⟩ := h
    rfl
  · obtain ⟨c, xs, items, rfl, hc, rc, hl, q⟩ := h
    have hu := hu_of hr
    refine ⟨_, pss_cons (ps_set (i := 1) sc_law_unlike.nd rfl (.inl rfl) pe_dnewT)
      (pss_cons (ps_for PassesOwn.never rfl (pi_list (pv 0)) (pg_name (i := 2) sc_law_unlike.nd rfl (.inl rfl)) (pss_one (ps_dput hu (pv 1) (pv 2) pe_bl rfl)))
      (pss_one (ps_ret (pe_lock (pe_callB (cr_sortedDT (α := Int × Int) rfl) (by rfl) T.n_sorted (by decide +kernel) (pa_cons (pv 1) pa_nil)))))), ?_⟩
    have lx := rc.length
    intro vd hvd
    have e1 := Ex.new (o := .dT []) hvd
    refine ⟨_, rfl, c, rfl, ⟨_, ex_l e1 hc⟩, ?_⟩
    refine for_it walk_list (fun i σ' H' => ∃ v2 kvs, ∃ ks : List (Int × Int), σ' = [some (.ref c), some (.ref vd), v2] ∧ Ex H H' ∧ H' vd = some (.dT kvs) ∧ kvs.map (·.1) = ks.map (fun b => (Tupi.key b).map Sum.inl) ∧ ks.Nodup ∧ ks.length ≤ i ∧ ∀ b, b ∈ ks ↔ b ∈ items.take i)
      ⟨none, [], [], rfl, e1, upd_same, rfl, .nil, Nat.le_refl _, by simp⟩ (fun i σ' H' _ ⟨_, _, _, _, e, _⟩ => ex_l e hc) ?_ ?_
    · rintro i x σ' Ha Hb hi ⟨v2, kvs, ks, rfl, e, hv, hk, nd, kl, mem⟩ y
      obtain ⟨rfl, hx⟩ := y
      obtain ⟨b, hb, z, rfl, hz⟩ := paired_get (MkAll.ex e rc) hx
      have hil := (List.getElem?_eq_some_iff.mp hb).1
      have hkl : kvs.length = ks.length := by
        have := congrArg List.length hk
        rwa [List.length_map, List.length_map] at this
      refine ⟨_, rfl, _, rfl, vd, _, rfl, DPut.t (k := (Tupi.key b).map Sum.inl) hv hz (sz_lt (by omega)), ?_⟩
      have inj : ∀ {c d : Int × Int}, (Tupi.key c).map (Sum.inl (β := Str)) = (Tupi.key d).map Sum.inl → c = d := fun {c d} h => by
        injection h with h1 h
        injection h with h2 h
        exact Prod.ext (Sum.inl.inj h1) (Sum.inl.inj h2)
      by_cases hm : b ∈ ks
      · refine ⟨_, _, ks, rfl, e.mut hvd, upd_same, ?_, nd, by omega, fun c => ?_⟩
        · rw [keys_put, hk, if_pos (List.mem_map.mpr ⟨b, hm, rfl⟩)]
        · rw [take_get hb, List.mem_append, List.mem_singleton, ← mem]
          exact ⟨.inl, fun h => h.elim id fun h => h ▸ hm⟩
      · refine ⟨_, _, ks ++ [b], rfl, e.mut hvd, upd_same, ?_, List.nodup_append.mpr ⟨nd, by simp, fun x hx y hy => ?_⟩, by rw [List.length_append, List.length_singleton]; omega, fun c => ?_⟩
        · rw [keys_put, hk, if_neg (fun y => ?_), List.map_append]
          · rfl
          · obtain ⟨c, hc, e⟩ := List.mem_map.mp y
            exact hm (inj e ▸ hc)
        · rw [List.mem_singleton.mp hy]
          exact fun e => hm (e ▸ hx)
        · rw [take_get hb, List.mem_append, List.mem_append, mem]
    · rintro σ' H1 ⟨v2, kvs, ks, rfl, e, hv, hk, nd, kl, mem⟩
      rw [lx, List.take_length] at mem
      refine ⟨vd, .dT kvs, hv, True.intro, fun od => ?_⟩
      refine ⟨_, rfl, vd, od, kvs, ks, rfl, upd_same, hk, fun ys bs p hp rb hso => ⟨?_, ?_⟩⟩
      · have n : vd ≠ p := ne_of_none upd_same hp
        rw [upd_ne n, upd_same]
      · have n : vd ≠ p := ne_of_none upd_same hp
        have fz : (upd (upd H1 vd (.frz od (.dT kvs))) p (.lst ys)) vd = some (.frz od (.dT kvs)) := by rw [upd_ne n, upd_same]
        have hp1 : H1 p = none := by rw [upd_ne n.symm] at hp; exact hp
        refine q _ p ys bs (fun a o ha => ?_) (by rw [upd_ne n.symm, upd_same]) (MkAll.kt (unlockT fz) rb) (hso.1.nodup_iff.mpr nd) (fun b => (hso.1.mem_iff).trans (mem b)) hso.2
        have h1 := e _ _ ha
        rw [upd_ne (ne_of_none ha hvd), upd_ne (ne_of_none h1 hp1), upd_ne (ne_of_none ha hvd)]
        exact h1
end
end My


-- Rz
namespace My
open PySem L2 Evl
def nearR (p : P3) : Prop := (-100 ≤ p.1 ∧ p.1 ≤ 100) ∧ (-100 ≤ p.2.1 ∧ p.2.1 ≤ 100) ∧ 1 ≤ p.2.2 ∧ p.2.2 ≤ 3
theorem byKey_two (x y : V) (k l : Int) : byKey [x, y] [k, l] = if k ≤ l then [(x, k), (y, l)] else [(y, l), (x, k)] := by
  unfold byKey
  by_cases h : k ≤ l
  · rw [if_pos h]
    exact List.mergeSort_of_pairwise (by simp [h])
  · rw [if_neg h]
    have e : [(y, l), (x, k)].mergeSort (fun p q => decide (p.2 ≤ q.2)) = [(y, l), (x, k)] := List.mergeSort_of_pairwise (by simp; omega)
    simp [List.mergeSort, h, List.MergeSort.Internal.splitInTwo]
theorem isum_cast {α : Type} (f : α → Nat) : ∀ l : List α, (l.map fun q => ((f q : Nat) : Int)).sum = (((l.map f).sum : Nat) : Int)
  | [] => rfl
  | x :: l => by
    rw [List.map_cons, List.map_cons, List.sum_cons, List.sum_cons, isum_cast f l]
    omega
section
variable {P : Program} {w : World} {K : PySem.W.Frag} {mg : Str → Option Value} {base : Heap}
def sp_shared_cells {K : PySem.W.Frag} {mg : Str → Option Value} (T : Env K mg) : Sp := fun vs H Q _ => ∃ (a b : Addr) (p q : P3), vs = [.ref a, .ref b] ∧ SqT K H a [.int p.1, .int p.2.1, .int p.2.2] ∧ SqT K H b [.int q.1, .int q.2.1, .int q.2.2] ∧ nearR p ∧ nearR q ∧ ∀ H', Ex H H' → Q (.int (shrF p q : Nat)) H'
theorem ok_shared_cells (T : Env K mg) : FnOk P w K mg base CX0 3 T.d_shared_cells.f T.d_shared_cells.fd ["one", "other"] (sp_shared_cells T) := by
  have G_rim := ok_rim (P := P) (w := w) (base := base) T
  have G_radius_of := ok_radius_of (P := P) (w := w) (base := base) T
  have G_by_radius_k := ok_by_radius_k (P := P) (w := w) (base := base) T
  refine T.d_shared_cells.F.ok sc_shared_cells (fun vs H Q E h => ?_) (fun cdv A outer s H vs Q E hr h => ?_)
  · obtain ⟨a, b, p, q, rfl, ha, hb, np, nq, k⟩ := h
    rfl
  · obtain ⟨a, b, p, q, rfl, ha, hb, np, nq, k⟩ := h
    have hr_rim : Room 1 _ := hr.mono (by decide)
    have hr_radius_of : Room 1 _ := hr.mono (by decide)
    have hr_by_radius_k : Room 1 _ := hr.mono (by decide)
    refine ⟨_, pss_cons (ps_asg (pe_callBK (cr_sortedKF G_by_radius_k (hr.mono (by decide)) T.d_by_radius.b) (by rfl) T.n_sorted (by decide +kernel) (pa_cons (pe_lst (pa_cons (pv 0) (pa_cons (pv 1) pa_nil))) pa_nil) (pk_cons (pe_glob (v := .ref T.d_by_radius.f) rfl T.d_by_radius.m rfl) pk_nil)) (pg_lst (by rfl) (pgs_cons (pg_name (i := 2) sc_shared_cells.nd rfl (.inl rfl)) (pgs_cons (pg_name (i := 3) sc_shared_cells.nd rfl (.inr rfl)) pgs_nil))))
      (pss_cons (ps_asg (pe_tup (pa_cons (pe_op op_sub (pe_ix ix_tup (pv 2) pe_int (fun _ _ => rfl)) (pe_ix ix_tup (pv 3) pe_int (fun _ _ => rfl))) (pa_cons (pe_op op_sub (pe_ix ix_tup (pv 2) pe_int (fun _ _ => rfl)) (pe_ix ix_tup (pv 3) pe_int (fun _ _ => rfl))) pa_nil))) (pg_tup (by rfl) (pgs_cons (pg_name (i := 4) sc_shared_cells.nd rfl (.inr rfl)) (pgs_cons (pg_name (i := 5) sc_shared_cells.nd rfl (.inr rfl)) pgs_nil))))
      (pss_one (ps_ret (pe_callB call_len_seq (by rfl) T.n_len PySem.boot_len (pa_cons (pe_lc (own := [("x", 6), ("y", 7)]) (g := gTup K 2 (gCons (gName 6) (gCons (gName 7) gNil))) rfl sc_shared_cells.nd (pi_list (pe_call G_rim hr_rim (by rfl) T.d_rim.m T.d_rim.k T.d_rim.b .nil pass0 (pa_cons (pe_ix ix_tup (pv 2) pe_int (fun _ _ => rfl)) pa_nil))) (blkOk_by (N := ["one", "other", "small", "great", "right", "down", "x", "y"]) (sc := (defScope s_shared_cells)) (by decide +kernel)) (fun _ _ _ _ _ => (pg_tup (by rfl) (pgs_cons (pg_name (i := 6) sc_shared_cells.nd rfl (.inl rfl)) (pgs_cons (pg_name (i := 7) sc_shared_cells.nd rfl (.inl rfl)) pgs_nil)))) (fun _ _ _ _ _ => (pts_one (pt_cmpR op_eq (pe_call G_radius_of hr_radius_of (by rfl) T.d_radius_of.m T.d_radius_of.k T.d_radius_of.b .nil pass0 (pa_cons (pe_op op_add (pv 6) (pv 4)) (pa_cons (pe_op op_add (pv 7) (pv 5)) pa_nil))) (pe_ix (ix_tupK K) (pv 3) pe_int (fun _ _ => rfl)) (nomark _)))) (fun _ _ _ _ _ => pe_int)) pa_nil))))), ?_⟩
    refine ⟨_, rfl, _, rfl, by show 2 ≤ sizeLine; decide, fun l hl => ?_⟩
    have e1 := Ex.new (o := .lst [V.ref a, V.ref b]) hl
    refine ⟨l, [.ref a, .ref b], [p.2.2, q.2.2], rfl, rfl, sq_of upd_same, rfl, fun i x k h1 h2 => ?_, fun s hs => ?_⟩
    · match i, h1, h2 with
      | 0, h1, h2 =>
        obtain rfl := Option.some.inj h1
        obtain rfl := Option.some.inj h2
        exact ⟨a, p, rfl, ex_t e1 ha, rfl, rfl⟩
      | 1, h1, h2 =>
        obtain rfl := Option.some.inj h1
        obtain rfl := Option.some.inj h2
        exact ⟨b, q, rfl, ex_t e1 hb, rfl, rfl⟩
      | i + 2, h1, _ => simp at h1
    rw [byKey_two]
    have e2 : ∀ o, Ex H (upd (upd H l (.lst [V.ref a, V.ref b])) s o) := fun o => e1.trans (Ex.new hs)
    obtain ⟨x, y, p', q', hxy, hx, hy, nx, ny, hE⟩ : ∃ (x y : Addr) (p' q' : P3), ((if p.2.2 ≤ q.2.2 then [(V.ref a, p.2.2), (V.ref b, q.2.2)] else [(V.ref b, q.2.2), (V.ref a, p.2.2)]).map (·.1)) = [V.ref x, V.ref y] ∧ SqT K H x [.int p'.1, .int p'.2.1, .int p'.2.2] ∧ SqT K H y [.int q'.1, .int q'.2.1, .int q'.2.2] ∧ nearR p' ∧ nearR q' ∧ shrF p' q' = shrF p q := by
      by_cases h : p.2.2 ≤ q.2.2
      · rw [if_pos h]
        exact ⟨a, b, p, q, rfl, ha, hb, np, nq, rfl⟩
      · rw [if_neg h]
        exact ⟨b, a, q, p, rfl, hb, ha, nq, np, shr_comm ⟨by have := nq.2.2; omega, by have := nq.2.2; omega⟩ ⟨by have := np.2.2; omega, by have := np.2.2; omega⟩⟩
    rw [hxy]
    refine ⟨s, [.ref x, .ref y], rfl, sq_of upd_same, rfl, _, _, rfl, _, _, rfl, rfl, ?_⟩
    have e3 := e2 (.lst [.ref x, .ref y])
    generalize upd (upd H l (.lst [V.ref a, V.ref b])) s (.lst [.ref x, .ref y]) = H3 at e3
    have hx3 := ex_t e3 hx
    have hy3 := ex_t e3 hy
    refine ⟨_, rfl, x, _, 0, _, rfl, rfl, hx3, rfl, _, rfl, y, _, 0, _, rfl, rfl, hy3, rfl, _, _, rfl, rfl, ?_⟩
    refine ⟨_, rfl, x, _, 1, _, rfl, rfl, hx3, rfl, _, rfl, y, _, 1, _, rfl, rfl, hy3, rfl, _, _, rfl, rfl, ?_⟩
    refine ⟨by show 2 ≤ sizeLine; decide, fun t ht => ⟨t, [_, _], rfl, st_of upd_same, rfl, _, _, rfl, _, _, rfl, rfl, ?_⟩⟩
    have e4 := e3.trans (Ex.new (o := .tup [V.int (p'.1 - q'.1), V.int (p'.2.1 - q'.2.1)]) ht)
    generalize upd H3 t (.tup [V.int (p'.1 - q'.1), V.int (p'.2.1 - q'.2.1)]) = H4 at e4
    have hx4 := ex_t e4 hx
    have hy4 := ex_t e4 hy
    obtain ⟨⟨a1, a2⟩, ⟨a3, a4⟩, a5, a6⟩ := id nx
    obtain ⟨⟨b1, b2⟩, ⟨b3, b4⟩, b5, b6⟩ := id ny
    refine ⟨_, rfl, x, _, 2, _, rfl, rfl, hx4, rfl, p'.2.2, rfl, ⟨by omega, by omega⟩, fun L rxs H5 e5 hn5 hL5 rL5 => ⟨L, rfl, ⟨_, sq_of hL5⟩, fun D hD => ?_⟩⟩
    refine lc_val (walk_list (K := K) (xs := rxs)) hD [some (.ref a), some (.ref b), some (.ref x), some (.ref y), some (.int (p'.1 - q'.1)), some (.int (p'.2.1 - q'.2.1)), none, none] rfl (fun _ _ e h => ex_l e h) (sq_of hL5) (rimF p'.2.2) (fun o => decide ((p'.1 + o.1 - q'.1, p'.2.1 + o.2 - q'.2.1) ∈ rimF q'.2.2)) (fun _ => .int 1) rL5.length.symm (by have := rim_few ⟨a5, a6⟩; have := rL5.length; omega) (fun j o z Hc Hd hj ee y5 R0 R hR0 hR => ?_) (fun H6 e6 hL6 => ?_)
    · obtain ⟨rfl, hz⟩ := y5
      obtain ⟨o', ho', ro⟩ := (rL5.ex ee).get hz
      rw [hj] at ho'
      obtain rfl := Option.some.inj ho'
      obtain ⟨w9, rfl, hw9⟩ := ro.p2_inv
      have no := rim_near ⟨a5, a6⟩ (List.mem_of_getElem? hj)
      refine ⟨w9, [_, _], rfl, hw9, rfl, _, _, rfl, _, _, rfl, rfl, rfl, ?_⟩
      have hsum1 : o.1 + (p'.1 - q'.1) = p'.1 + o.1 - q'.1 := by omega
      have hsum2 : o.2 + (p'.2.1 - q'.2.1) = p'.2.1 + o.2 - q'.2.1 := by omega
      obtain ⟨⟨n1, n2⟩, n3, n4⟩ := no
      refine ⟨_, rfl, _, rfl, _, _, rfl, rfl, _, rfl, _, rfl, _, _, rfl, rfl, _, _, rfl, ⟨by omega, by omega⟩, ⟨by omega, by omega⟩, ?_⟩
      refine ⟨_, rfl, y, _, 2, _, rfl, rfl, ex_t (e5.trans ee) hy4, rfl, rfl, _, rfl, ite2 (fun h => ?_) (fun h => ?_)⟩
      · have h := V.int.inj (of_decide_eq_true h)
        rw [hsum1, hsum2] at h
        exact hR _ (Ex.refl _) (decide_eq_true ((mem_rim_rad (by omega)).mpr h))
      · refine hR0 _ (Ex.refl _) (decide_eq_false fun z => h (decide_eq_true ?_))
        rw [hsum1, hsum2, (mem_rim_rad (by omega)).mp z]
    · have e6' := (e4.trans e5).trans e6
      refine ⟨D, _, rfl, .inl (sq_of hL6), ?_⟩
      rw [List.length_map]
      have k := k H6 e6'
      rw [← hE] at k
      exact k
def sp_is_barred {K : PySem.W.Frag} {mg : Str → Option Value} (T : Env K mg) : Sp := fun vs H Q _ => ∃ (a l : Addr) (xs : List V) (p : P3) (qs : List P3) (mi : Int), vs = [.ref a, .ref l, .int mi] ∧ SqT K H a [.int p.1, .int p.2.1, .int p.2.2] ∧ SqL K H l xs ∧ RAll K H xs qs ∧ nearR p ∧ (∀ q ∈ qs, nearR q) ∧ qs.length ≤ 100 ∧
    ∀ H', Ex H H' → Q (.bl (decide ((((qs.map (shrF p)).sum : Nat) : Int) < ((rimF p.2.2).length : Nat) - mi))) H'
theorem ok_is_barred (T : Env K mg) : FnOk P w K mg base CX0 4 T.d_is_barred.f T.d_is_barred.fd ["one", "others", "missing"] (sp_is_barred T) := by
  have G_shared_cells := ok_shared_cells (P := P) (w := w) (base := base) T
  have G_rim := ok_rim (P := P) (w := w) (base := base) T
  refine T.d_is_barred.F.ok sc_is_barred (fun vs H Q E h => ?_) (fun cdv A outer s H vs Q E hr h => ?_)
  · obtain ⟨a, l, xs, p, qs, mi, rfl, ha, hl, rl, np, nq, hq, k⟩ := h
    rfl
  · obtain ⟨a, l, xs, p, qs, mi, rfl, ha, hl, rl, np, nq, hq, k⟩ := h
    have hr_shared_cells : Room 3 _ := hr.mono (by decide)
    have hr_rim : Room 1 _ := hr.mono (by decide)
    refine ⟨_, pss_one (ps_ret (pe_cmpR op_lt (pe_callB (cr_sum rfl) (by rfl) T.n_sum (by decide +kernel) (pa_cons (pe_lc (own := [("other", 3)]) (g := gName 3) rfl sc_is_barred.nd (pi_list (pv 1)) (blkOk_by (N := ["one", "others", "missing", "other"]) (sc := (defScope s_is_barred)) (by decide +kernel)) (fun _ _ _ _ _ => (pg_name (i := 3) sc_is_barred.nd rfl (.inl rfl))) (fun _ _ _ _ _ => pts_nil) (fun _ _ _ _ _ => (pe_call G_shared_cells hr_shared_cells (by rfl) T.d_shared_cells.m T.d_shared_cells.k T.d_shared_cells.b .nil pass0 (pa_cons (pv 0) (pa_cons (pv 3) pa_nil))))) pa_nil)) (pe_op op_sub (pe_callB call_len_seq (by rfl) T.n_len PySem.boot_len (pa_cons (pe_call G_rim hr_rim (by rfl) T.d_rim.m T.d_rim.k T.d_rim.b .nil pass0 (pa_cons (pe_ix ix_tup (pv 0) pe_int (fun _ _ => rfl)) pa_nil)) pa_nil)) (pv 2)) (nomark _))), ?_⟩
    refine ⟨_, rfl, l, rfl, ⟨_, hl⟩, fun D hD => ?_⟩
    refine lc_rep (K := K) (β := Int) (walk_list (K := K) (xs := xs)) hD [some (.ref a), some (.ref l), some (.int mi), none] rfl (fun _ _ e h => ex_l e h) hl qs (fun _ => true) (fun q => ((shrF p q : Nat) : Int)) rl.length.symm (by have := rl.length; omega) (fun j o z Hc Hd hj ee y5 R0 R hR0 hR => ?_) (fun ys H6 e6 hL6 rL6 => ?_)
    · obtain ⟨rfl, hz⟩ := y5
      obtain ⟨o', ho', ro⟩ := (rl.ex ee).get hz
      rw [hj] at ho'
      obtain rfl := Option.some.inj ho'
      obtain ⟨w9, rfl, hw9⟩ := ro.p3_inv
      exact ⟨rfl, _, rfl, _, rfl, a, w9, p, o, rfl, ex_t ee ha, hw9, np, nq o (List.mem_of_getElem? hj), fun H7 e7 => hR _ _ e7 rfl (Rep.int _)⟩
    · rw [filter_true] at rL6
      have hys := rL6.ints_inv
      subst hys
      refine ⟨D, _, rfl, sq_of hL6, ?_⟩
      refine ⟨_, rfl, a, _, 2, _, rfl, rfl, ex_t e6 ha, rfl, p.2.2, rfl, ⟨by have := np.2.2; omega, by have := np.2.2; omega⟩, fun L rxs H7 e7 hn7 hL7 rL7 => ⟨L, rxs, rfl, .inl (sq_of hL7), _, rfl, _, _, rfl, rfl, _, _, rfl, rfl, ?_⟩⟩
      have k := k H7 (e6.trans e7)
      rw [rL7.length, isum_cast]
      exact k
end
end My


-- Rl
namespace My
open PySem L2 Evl
theorem ktd_of {d : Addr} {H H' : Hp} (e : ExD d H H') (hd : ∃ ys, H d = some (.lst ys)) : KTd d H H' := ⟨e, fun a o hn ha => by
  obtain ⟨ys, hd⟩ := hd
  exact e _ _ (fun z => by rw [z, hd] at ha; exact hn _ (Option.some.inj ha).symm) ha⟩
theorem Drw.lst' {K : PySem.W.Frag} {H : Hp} {d sc : Addr} {ns : List Int} (h : Drw K H d sc ns) : ∃ ys, H d = some (.lst ys) := by
  obtain ⟨n, h, _⟩ := h
  exact ⟨_, h⟩
theorem Drw.ne {K : PySem.W.Frag} {H : Hp} {d sc p : Addr} {ns : List Int} (h : Drw K H d sc ns) (hp : H p = none) : p ≠ d := by
  obtain ⟨n, h, _⟩ := h
  exact (ne_of_none h hp).symm
theorem Drw.keep {K : PySem.W.Frag} {H : Hp} {d sc : Addr} {ns : List Int} (h : Drw K H d sc ns) {p : Addr} (hp : H p = none) {H1 : Hp} (k : Drw K H1 d sc ns) (o : HO) : Drw K (upd H1 p o) d sc ns := k.mut (h.apart hp) (h.ne hp)
def lawR (b : P3) : Prop := (0 ≤ b.1 ∧ b.1 ≤ 8) ∧ (0 ≤ b.2.1 ∧ b.2.1 ≤ 8) ∧ 1 ≤ b.2.2 ∧ b.2.2 ≤ 3
def okCell (c : Int × Int) : Prop := (-3 ≤ c.1 ∧ c.1 ≤ 11) ∧ -3 ≤ c.2 ∧ c.2 ≤ 11
theorem radF_few {s : Int} (h0 : 0 ≤ s) (h1 : s ≤ 32) : 0 ≤ radF s ∧ radF s ≤ 7 := by
  obtain ⟨a, b, _⟩ := sqI_spec h0
  have := sq_lt (a := sqI s) (b := 6) a (by omega) (by decide)
  unfold radF
  split <;> omega
def kc (c : Int × Int) : List Key := [.inl c.1, .inl c.2]
theorem kc_inj {a b : Int × Int} (h : kc a = kc b) : a = b := by
  injection h with h1 h
  injection h with h2 h
  exact Prod.ext (Sum.inl.inj h1) (Sum.inl.inj h2)
theorem valV_kc (bs : List (Int × Int)) (c : Int × Int) : (valV (bs.map fun c => (kc c, V.bl true)) (kc c)).isSome = decide (c ∈ bs) := by
  unfold valV
  rw [Option.isSome_map]
  by_cases h : c ∈ bs
  · rw [decide_eq_true h, List.find?_isSome]
    exact ⟨(kc c, .bl true), List.mem_map.mpr ⟨c, h, rfl⟩, decide_eq_true rfl⟩
  · rw [decide_eq_false h]
    refine Bool.eq_false_iff.mpr fun z => ?_
    obtain ⟨x, hx, e⟩ := List.find?_isSome.mp z
    obtain ⟨b, hb, rfl⟩ := List.mem_map.mp hx
    exact h (kc_inj (of_decide_eq_true e) ▸ hb)
/-- a pair (cell, True) -/
def PcT (H : Hp) (y : V) (b : Addr × Int × Int) : Prop := ∃ t, y = .ref t ∧ H t = some (.tup [.ref b.1, .bl true]) ∧ H b.1 = some (.tup [.int b.2.1, .int b.2.2])
theorem PcT.kt {H H' : Hp} {y : V} {b : Addr × Int × Int} (e : ∀ b xs, H b = some (.tup xs) → H' b = some (.tup xs)) (h : PcT H y b) : PcT H' y b := by
  obtain ⟨t, h1, h2, h3⟩ := h
  exact ⟨t, h1, e _ _ h2, e _ _ h3⟩
theorem pcs_of {K : PySem.W.Frag} {H : Hp} {sv : List V} {bl : List (Addr × Int × Int)} (h : Paired (PcT H) sv bl) : ∃ ps : List Addr, sv = ps.map V.ref ∧ Paired (PairQ K H) ps (bl.map fun b => (kc b.2, b.1, V.bl true)) := by
  induction h with
  | nil => exact ⟨[], rfl, .nil⟩
  | cons a _ ih =>
    obtain ⟨t, rfl, h2, h3⟩ := a
    obtain ⟨ps, rfl, k⟩ := ih
    exact ⟨t :: ps, rfl, .cons ⟨st_of h2, h3⟩ k⟩
def dueR (bs : List (Int × Int)) (mi : Int) (q : P3) : Prop := ((rimF q.2.2).length : Int) ≤ (hitF bs q : Nat) + mi ∧ (-6 ≤ q.1 ∧ q.1 < 20) ∧ (-6 ≤ q.2.1 ∧ q.2.1 < 20) ∧ 1 ≤ q.2.2 ∧ q.2.2 ≤ 3
section
variable {P : Program} {w : World} {K : PySem.W.Frag} {mg : Str → Option Value} {base : Heap}
def sp_law {K : PySem.W.Frag} {mg : Str → Option Value} (T : Env K mg) : Sp := fun vs H Q _ => ∃ (a : Addr) (ns : List Int), vs = [.ref a] ∧ SqL K H a (ns.map V.int) ∧ ∀ H', Q (.bl true) H'
theorem ok_law (T : Env K mg) : FnOk P w K mg base CX0 5 T.d_law.f T.d_law.fd ["script"] (sp_law T) := by
  have G_rims_in := ok_rims_in (P := P) (w := w) (base := base) T
  have G_law_unlike := ok_law_unlike (P := P) (w := w) (base := base) T
  have G_is_barred := ok_is_barred (P := P) (w := w) (base := base) T
  have G_rim := ok_rim (P := P) (w := w) (base := base) T
  have G_shared_cells := ok_shared_cells (P := P) (w := w) (base := base) T
  have G_law_take := ok_law_take (P := P) (w := w) (base := base) T
  have G_votes := ok_votes (P := P) (w := w) (base := base) T
  have G_radius_of := ok_radius_of (P := P) (w := w) (base := base) T
  refine T.d_law.F.ok sc_law (fun vs H Q E h => ?_) (fun cdv A outer s H vs Q E hr h => ?_)
  · obtain ⟨sc, ns, rfl, hS, q⟩ := h
    rfl
  · obtain ⟨sc, ns, rfl, hS, q⟩ := h
    have hr_rims_in : Room 3 _ := hr.mono (by decide)
    have hr_law_unlike : Room 1 _ := hr.mono (by decide)
    have hr_is_barred : Room 4 _ := hr.mono (by decide)
    have hr_rim : Room 1 _ := hr.mono (by decide)
    have hr_shared_cells : Room 3 _ := hr.mono (by decide)
    have hr_law_take : Room 2 _ := hr.mono (by decide)
    have hr_votes : Room 2 _ := hr.mono (by decide)
    have hr_radius_of : Room 1 _ := hr.mono (by decide)
    have hu := hu_of hr
    refine ⟨_, pss_cons (ps_set (i := 1) sc_law.nd rfl (.inr rfl) (pe_lst (pa_cons (pv 0) (pa_cons pe_int pa_nil))))
      (pss_cons (ps_for PassesOwn.never rfl (pi_range1 rfl T.n_range (pa_cons pe_int pa_nil)) (pg_name (i := 2) sc_law.nd rfl (.inr rfl)) (pss_cons (ps_set (i := 3) sc_law.nd rfl (.inl rfl) (pe_call G_rim hr_rim (by rfl) T.d_rim.m T.d_rim.k T.d_rim.b .nil pass0 (pa_cons (pv 2) pa_nil)))
      (pss_one (ps_if (PW.pt (pw_or (pt_not (pt_val (pe_callB (cr_all rfl) (by rfl) T.n_all (by decide +kernel) (pa_cons (pe_lc (own := [("x", 4), ("y", 5)]) (g := gTup K 2 (gCons (gName 4) (gCons (gName 5) gNil))) rfl sc_law.nd (pi_list (pv 3)) (blkOk_by (N := ["script", "draw", "radius", "cells", "x", "y", "placed", "radii", "missing", "due", "shown", "known", "ring", "many", "one", "others", "whole", "shared", "turn", "other", "right", "down", "cell"]) (sc := (defScope s_law)) (by decide +kernel)) (fun _ _ _ _ _ => (pg_tup (by rfl) (pgs_cons (pg_name (i := 4) sc_law.nd rfl (.inl rfl)) (pgs_cons (pg_name (i := 5) sc_law.nd rfl (.inl rfl)) pgs_nil)))) (fun _ _ _ _ _ => pts_nil) (fun _ _ _ _ _ => (pe_cmpR op_eq (pe_call G_radius_of hr_radius_of (by rfl) T.d_radius_of.m T.d_radius_of.k T.d_radius_of.b .nil pass0 (pa_cons (pv 4) (pa_cons (pv 5) pa_nil))) (pv 2) (nomark _)))) pa_nil)))) (pw_or1 (pt_cmpR (op_neA (α := List (Int × Int)) hr.units) (pv 3) (pe_callB (cr_sortedA (α := Int × Int)) (by rfl) T.n_sorted (by decide +kernel) (pa_cons (pv 3) pa_nil)) (nomark _))))) (pss_one (ps_ret pe_bl)) pss_nil))))
      (pss_cons (ps_for PassesOwn.never rfl (pi_range2 rfl T.n_range (pa_cons (pe_un un_neg pe_int) (pa_cons pe_int pa_nil))) (pg_name (i := 4) sc_law.nd rfl (.inr rfl)) (pss_one (ps_for PassesOwn.never rfl (pi_range2 rfl T.n_range (pa_cons (pe_un un_neg pe_int) (pa_cons pe_int pa_nil))) (pg_name (i := 5) sc_law.nd rfl (.inr rfl)) (pss_one (ps_if (pt_cmpR (op_notInLA (α := Int × Int) (hu65i hr)) (pe_tup (pa_cons (pv 4) (pa_cons (pv 5) pa_nil))) (pe_call G_rim hr_rim (by rfl) T.d_rim.m T.d_rim.k T.d_rim.b .nil pass0 (pa_cons (pe_call G_radius_of hr_radius_of (by rfl) T.d_radius_of.m T.d_radius_of.k T.d_radius_of.b .nil pass0 (pa_cons (pv 4) (pa_cons (pv 5) pa_nil))) pa_nil)) (by rfl)) (pss_one (ps_ret pe_bl)) pss_nil)))))
      (pss_cons (ps_set (i := 3) sc_law.nd rfl (.inl rfl) (pe_lst pa_nil))
      (pss_cons (ps_setLc (i := 6) (own := [("turn", 18)]) (g := gName 18) rfl sc_law.nd rfl rfl (sw_true rfl rfl rfl (by decide +kernel)) (pi_range1 rfl T.n_range (pa_cons (pe_op op_add pe_int (pe_call G_law_take hr_law_take (by rfl) T.d_law_take.m T.d_law_take.k T.d_law_take.b .nil pass0 (pa_cons (pv 1) (pa_cons pe_int pa_nil)))) pa_nil)) (blkOk_by (N := ["script", "draw", "radius", "cells", "x", "y", "placed", "radii", "missing", "due", "shown", "known", "ring", "many", "one", "others", "whole", "shared", "turn", "other", "right", "down", "cell"]) (sc := (defScope s_law)) (by decide +kernel)) (fun _ _ _ _ _ => (pg_name (i := 18) sc_law.nd rfl (.inl rfl))) (fun _ _ _ _ _ => pts_nil) (fun _ _ _ _ _ => (pe_tup (pa_cons (pe_call G_law_take hr_law_take (by rfl) T.d_law_take.m T.d_law_take.k T.d_law_take.b .nil pass0 (pa_cons (pv 1) (pa_cons pe_int pa_nil))) (pa_cons (pe_call G_law_take hr_law_take (by rfl) T.d_law_take.m T.d_law_take.k T.d_law_take.b .nil pass0 (pa_cons (pv 1) (pa_cons pe_int pa_nil))) (pa_cons (pe_op op_add pe_int (pe_call G_law_take hr_law_take (by rfl) T.d_law_take.m T.d_law_take.k T.d_law_take.b .nil pass0 (pa_cons (pv 1) (pa_cons pe_int pa_nil)))) pa_nil))))))
      (pss_cons (ps_for PassesOwn.never rfl (pi_list (pv 6)) (pg_tup (by rfl) (pgs_cons (pg_name (i := 4) sc_law.nd rfl (.inr rfl)) (pgs_cons (pg_name (i := 5) sc_law.nd rfl (.inr rfl)) (pgs_cons (pg_name (i := 2) sc_law.nd rfl (.inr rfl)) pgs_nil)))) (pss_one (ps_aug (i := 3) sc_law.nd rfl (.inl rfl) (pe_lc (own := [("right", 20), ("down", 21)]) (g := gTup K 2 (gCons (gName 20) (gCons (gName 21) gNil))) rfl sc_law.nd (pi_list (pe_call G_rim hr_rim (by rfl) T.d_rim.m T.d_rim.k T.d_rim.b .nil pass0 (pa_cons (pv 2) pa_nil))) (blkOk_by (N := ["script", "draw", "radius", "cells", "x", "y", "placed", "radii", "missing", "due", "shown", "known", "ring", "many", "one", "others", "whole", "shared", "turn", "other", "right", "down", "cell"]) (sc := (defScope s_law)) (by decide +kernel)) (fun _ _ _ _ _ => (pg_tup (by rfl) (pgs_cons (pg_name (i := 20) sc_law.nd rfl (.inl rfl)) (pgs_cons (pg_name (i := 21) sc_law.nd rfl (.inl rfl)) pgs_nil)))) (fun _ _ _ _ _ => (pts_one (pt_cmpR op_gt (pe_call G_law_take hr_law_take (by rfl) T.d_law_take.m T.d_law_take.k T.d_law_take.b .nil pass0 (pa_cons (pv 1) (pa_cons pe_int pa_nil))) pe_int (nomark _)))) (fun _ _ _ _ _ => (pe_tup (pa_cons (pe_op op_add (pv 4) (pv 20)) (pa_cons (pe_op op_add (pv 5) (pv 21)) pa_nil))))) iop_ext)))
      (pss_cons (ps_set (i := 3) sc_law.nd rfl (.inl rfl) (pe_call G_law_unlike hr_law_unlike (by rfl) T.d_law_unlike.m T.d_law_unlike.k T.d_law_unlike.b .nil pass0 (pa_cons (pe_op op_cat (pv 3) (pe_lc (own := [("turn", 18)]) (g := gName 18) rfl sc_law.nd (pi_range1 rfl T.n_range (pa_cons (pe_call G_law_take hr_law_take (by rfl) T.d_law_take.m T.d_law_take.k T.d_law_take.b .nil pass0 (pa_cons (pv 1) (pa_cons pe_int pa_nil))) pa_nil)) (blkOk_by (N := ["script", "draw", "radius", "cells", "x", "y", "placed", "radii", "missing", "due", "shown", "known", "ring", "many", "one", "others", "whole", "shared", "turn", "other", "right", "down", "cell"]) (sc := (defScope s_law)) (by decide +kernel)) (fun _ _ _ _ _ => (pg_name (i := 18) sc_law.nd rfl (.inl rfl))) (fun _ _ _ _ _ => pts_nil) (fun _ _ _ _ _ => (pe_tup (pa_cons (pe_call G_law_take hr_law_take (by rfl) T.d_law_take.m T.d_law_take.k T.d_law_take.b .nil pass0 (pa_cons (pv 1) (pa_cons pe_int pa_nil))) (pa_cons (pe_call G_law_take hr_law_take (by rfl) T.d_law_take.m T.d_law_take.k T.d_law_take.b .nil pass0 (pa_cons (pv 1) (pa_cons pe_int pa_nil))) pa_nil)))))) pa_nil)))
      (pss_cons (ps_asg (pe_tup (pa_cons (pe_lst (pa_cons pe_int (pa_cons pe_int (pa_cons pe_int pa_nil)))) (pa_cons (pe_call G_law_take hr_law_take (by rfl) T.d_law_take.m T.d_law_take.k T.d_law_take.b .nil pass0 (pa_cons (pv 1) (pa_cons pe_int pa_nil))) (pa_cons (pe_lst pa_nil) (pa_cons (pe_callTy (call_dictPT rfl hr.units) (by rfl) T.n_dict (by decide +kernel) (pa_cons (pe_lc (own := [("cell", 22)]) (g := gName 22) rfl sc_law.nd (pi_list (pv 3)) (blkOk_by (N := ["script", "draw", "radius", "cells", "x", "y", "placed", "radii", "missing", "due", "shown", "known", "ring", "many", "one", "others", "whole", "shared", "turn", "other", "right", "down", "cell"]) (sc := (defScope s_law)) (by decide +kernel)) (fun _ _ _ _ _ => (pg_name (i := 22) sc_law.nd rfl (.inl rfl))) (fun _ _ _ _ _ => pts_nil) (fun _ _ _ _ _ => (pe_tup (pa_cons (pv 22) (pa_cons pe_bl pa_nil))))) pa_nil)) pa_nil))))) (pg_tup (by rfl) (pgs_cons (pg_name (i := 7) sc_law.nd rfl (.inl rfl)) (pgs_cons (pg_name (i := 8) sc_law.nd rfl (.inl rfl)) (pgs_cons (pg_name (i := 9) sc_law.nd rfl (.inl rfl)) (pgs_cons (pg_name (i := 10) sc_law.nd rfl (.inr rfl)) pgs_nil))))))
      (pss_cons (ps_set (i := 11) sc_law.nd rfl (.inl rfl) (pe_call G_votes hr_votes (by rfl) T.d_votes.m T.d_votes.k T.d_votes.b .nil pass0 (pa_cons (pv 3) (pa_cons (pv 7) pa_nil))))
      (pss_cons (ps_for PassesOwn.never rfl (pi_list (pv 7)) (pg_name (i := 2) sc_law.nd rfl (.inr rfl)) (pss_cons (ps_set (i := 12) sc_law.nd rfl (.inl rfl) (pe_call G_rim hr_rim (by rfl) T.d_rim.m T.d_rim.k T.d_rim.b .nil pass0 (pa_cons (pv 2) pa_nil)))
      (pss_one (ps_for PassesOwn.never rfl (pi_range2 rfl T.n_range (pa_cons (pe_un un_neg pe_int) (pa_cons pe_int pa_nil))) (pg_name (i := 4) sc_law.nd rfl (.inr rfl)) (pss_one (ps_for PassesOwn.never rfl (pi_range2 rfl T.n_range (pa_cons (pe_un un_neg pe_int) (pa_cons pe_int pa_nil))) (pg_name (i := 5) sc_law.nd rfl (.inr rfl)) (pss_cons (ps_set (i := 13) sc_law.nd rfl (.inl rfl) (pe_callB call_len_seq (by rfl) T.n_len PySem.boot_len (pa_cons (pe_lc (own := [("right", 20), ("down", 21)]) (g := gTup K 2 (gCons (gName 20) (gCons (gName 21) gNil))) rfl sc_law.nd (pi_list (pv 12)) (blkOk_by (N := ["script", "draw", "radius", "cells", "x", "y", "placed", "radii", "missing", "due", "shown", "known", "ring", "many", "one", "others", "whole", "shared", "turn", "other", "right", "down", "cell"]) (sc := (defScope s_law)) (by decide +kernel)) (fun _ _ _ _ _ => (pg_tup (by rfl) (pgs_cons (pg_name (i := 20) sc_law.nd rfl (.inl rfl)) (pgs_cons (pg_name (i := 21) sc_law.nd rfl (.inl rfl)) pgs_nil)))) (fun _ _ _ _ _ => (pts_one (pt_cmp (pc_din hu (pe_tup (pa_cons (pe_op op_add (pv 4) (pv 20)) (pa_cons (pe_op op_add (pv 5) (pv 21)) pa_nil))) (pv 10))))) (fun _ _ _ _ _ => pe_int)) pa_nil)))
      (pss_cons (ps_if (pt_cmpR op_ne (pe_dget2 hu (pv 11) (pe_tup (pa_cons (pv 4) (pa_cons (pv 5) (pa_cons (pv 2) pa_nil)))) pe_int ⟨rfl, rfl, rfl, rfl⟩) (pv 13) (nomark _)) (pss_one (ps_ret pe_bl)) pss_nil)
      (pss_one (ps_if (pt_cmpR op_ge (pv 13) (pe_op op_sub (pe_callB call_len_seq (by rfl) T.n_len PySem.boot_len (pa_cons (pv 12) pa_nil)) (pv 8)) (nomark _)) (pss_one (ps_expr (pe_bm PySem.F.plainAttrs_list PySem.F.slot_list_append PySem.F.type_list_append mt_append (pv 9) (pa_cons (pe_tup (pa_cons (pv 4) (pa_cons (pv 5) (pa_cons (pv 2) pa_nil)))) pa_nil)))) pss_nil))))))))))
      (pss_cons (ps_if (pt_cmpR (op_neA (α := Tp P3) hr.units) (pe_call G_rims_in hr_rims_in (by rfl) T.d_rims_in.m T.d_rims_in.k T.d_rims_in.b .nil pass0 (pa_cons (pv 3) (pa_cons (pv 7) (pa_cons (pv 8) pa_nil)))) (pe_callTy call_tuple_of (by rfl) T.n_tuple (by decide +kernel) (pa_cons (pe_callB (cr_sortedA (α := Int × Int × Int)) (by rfl) T.n_sorted (by decide +kernel) (pa_cons (pv 9) pa_nil)) pa_nil)) (nomark _)) (pss_one (ps_ret pe_bl)) pss_nil)
      (pss_cons (ps_asg (pe_tup (pa_cons (pe_tup (pa_cons (pe_call G_law_take hr_law_take (by rfl) T.d_law_take.m T.d_law_take.k T.d_law_take.b .nil pass0 (pa_cons (pv 1) (pa_cons pe_int pa_nil))) (pa_cons (pe_call G_law_take hr_law_take (by rfl) T.d_law_take.m T.d_law_take.k T.d_law_take.b .nil pass0 (pa_cons (pv 1) (pa_cons pe_int pa_nil))) (pa_cons (pe_op op_add pe_int (pe_call G_law_take hr_law_take (by rfl) T.d_law_take.m T.d_law_take.k T.d_law_take.b .nil pass0 (pa_cons (pv 1) (pa_cons pe_int pa_nil)))) pa_nil)))) (pa_cons (pv 6) pa_nil))) (pg_tup (by rfl) (pgs_cons (pg_name (i := 14) sc_law.nd rfl (.inr rfl)) (pgs_cons (pg_name (i := 15) sc_law.nd rfl (.inl rfl)) pgs_nil))))
      (pss_cons (ps_set (i := 16) sc_law.nd rfl (.inl rfl) (pe_lst pa_nil))
      (pss_cons (ps_for PassesOwn.never rfl (pi_list (pv 15)) (pg_tup (by rfl) (pgs_cons (pg_name (i := 4) sc_law.nd rfl (.inr rfl)) (pgs_cons (pg_name (i := 5) sc_law.nd rfl (.inr rfl)) (pgs_cons (pg_name (i := 2) sc_law.nd rfl (.inr rfl)) pgs_nil)))) (pss_one (ps_aug (i := 16) sc_law.nd rfl (.inl rfl) (pe_lc (own := [("right", 20), ("down", 21)]) (g := gTup K 2 (gCons (gName 20) (gCons (gName 21) gNil))) rfl sc_law.nd (pi_list (pe_call G_rim hr_rim (by rfl) T.d_rim.m T.d_rim.k T.d_rim.b .nil pass0 (pa_cons (pv 2) pa_nil))) (blkOk_by (N := ["script", "draw", "radius", "cells", "x", "y", "placed", "radii", "missing", "due", "shown", "known", "ring", "many", "one", "others", "whole", "shared", "turn", "other", "right", "down", "cell"]) (sc := (defScope s_law)) (by decide +kernel)) (fun _ _ _ _ _ => (pg_tup (by rfl) (pgs_cons (pg_name (i := 20) sc_law.nd rfl (.inl rfl)) (pgs_cons (pg_name (i := 21) sc_law.nd rfl (.inl rfl)) pgs_nil)))) (fun _ _ _ _ _ => pts_nil) (fun _ _ _ _ _ => (pe_tup (pa_cons (pe_op op_add (pv 4) (pv 20)) (pa_cons (pe_op op_add (pv 5) (pv 21)) pa_nil))))) iop_ext)))
      (pss_cons (ps_setLc (i := 17) (own := [("other", 19)]) (g := gName 19) rfl sc_law.nd rfl rfl (sw_true rfl rfl rfl (by decide +kernel)) (pi_list (pv 15)) (blkOk_by (N := ["script", "draw", "radius", "cells", "x", "y", "placed", "radii", "missing", "due", "shown", "known", "ring", "many", "one", "others", "whole", "shared", "turn", "other", "right", "down", "cell"]) (sc := (defScope s_law)) (by decide +kernel)) (fun _ _ _ _ _ => (pg_name (i := 19) sc_law.nd rfl (.inr rfl))) (fun _ _ _ _ _ => pts_nil) (fun _ _ _ _ _ => (pe_callB (call_len_seqK K) (by rfl) T.n_len PySem.boot_len (pa_cons (pe_lc (own := [("x", 4), ("y", 5)]) (g := gTup K 2 (gCons (gName 4) (gCons (gName 5) gNil))) rfl sc_law.nd (pi_listK (K := K) (pe_call G_rim hr_rim (by rfl) T.d_rim.m T.d_rim.k T.d_rim.b .nil pass0 (pa_cons (pe_ix (ix_tupK K) (pv 14) pe_int (fun _ _ => rfl)) pa_nil))) (blkOk_in (N := ["script", "draw", "radius", "cells", "x", "y", "placed", "radii", "missing", "due", "shown", "known", "ring", "many", "one", "others", "whole", "shared", "turn", "other", "right", "down", "cell"]) (sc := ({ kind := PySem.ScopeKind.function, names := [ (PySem.Str.ofString ".0", PySem.NameKind.local), (PySem.Str.ofString "other", PySem.NameKind.cell), (PySem.Str.ofString "len", PySem.NameKind.globalImplicit), (PySem.Str.ofString "rim", PySem.NameKind.globalImplicit), (PySem.Str.ofString "one", PySem.NameKind.free)], isGenerator := false, isCoroutine := false, more := [] : PySem.Scope })) (by decide +kernel)) (fun _ _ _ _ _ => (pg_tup (by rfl) (pgs_cons (pg_name (i := 4) sc_law.nd rfl (.inl rfl)) (pgs_cons (pg_name (i := 5) sc_law.nd rfl (.inl rfl)) pgs_nil)))) (fun _ _ _ _ _ => (pts_one (pt_cmpR (op_inLAK (α := Int × Int) K (hu65i hr)) (pe_tup (pa_cons (pe_op op_sub (pe_op op_add (pe_ix (ix_tupK K) (pv 14) pe_int (fun _ _ => rfl)) (pv 4)) (pe_ix (ix_tupK K) (pv 19) pe_int (fun _ _ => rfl))) (pa_cons (pe_op op_sub (pe_op op_add (pe_ix (ix_tupK K) (pv 14) pe_int (fun _ _ => rfl)) (pv 5)) (pe_ix (ix_tupK K) (pv 19) pe_int (fun _ _ => rfl))) pa_nil))) (pe_call G_rim hr_rim (by rfl) T.d_rim.m T.d_rim.k T.d_rim.b .nil pass0 (pa_cons (pe_ix (ix_tupK K) (pv 19) pe_int (fun _ _ => rfl)) pa_nil)) (by rfl)))) (fun _ _ _ _ _ => pe_int)) pa_nil))))
      (pss_cons (ps_if (pt_cmpR (op_neA (α := List Int) hr.units) (pe_lc (own := [("other", 19)]) (g := gName 19) rfl sc_law.nd (pi_list (pv 15)) (blkOk_by (N := ["script", "draw", "radius", "cells", "x", "y", "placed", "radii", "missing", "due", "shown", "known", "ring", "many", "one", "others", "whole", "shared", "turn", "other", "right", "down", "cell"]) (sc := (defScope s_law)) (by decide +kernel)) (fun _ _ _ _ _ => (pg_name (i := 19) sc_law.nd rfl (.inl rfl))) (fun _ _ _ _ _ => pts_nil) (fun _ _ _ _ _ => (pe_call G_shared_cells hr_shared_cells (by rfl) T.d_shared_cells.m T.d_shared_cells.k T.d_shared_cells.b .nil pass0 (pa_cons (pv 14) (pa_cons (pv 19) pa_nil))))) (pv 17) (nomark _)) (pss_one (ps_ret pe_bl)) pss_nil)
      (pss_cons (ps_if (pt_cmpR op_ne (pe_call G_is_barred hr_is_barred (by rfl) T.d_is_barred.m T.d_is_barred.k T.d_is_barred.b .nil pass0 (pa_cons (pv 14) (pa_cons (pv 15) (pa_cons (pv 8) pa_nil)))) (pe_cmpR op_lt (pe_callB (cr_sum rfl) (by rfl) T.n_sum (by decide +kernel) (pa_cons (pv 17) pa_nil)) (pe_op op_sub (pe_callB call_len_seq (by rfl) T.n_len PySem.boot_len (pa_cons (pe_call G_rim hr_rim (by rfl) T.d_rim.m T.d_rim.k T.d_rim.b .nil pass0 (pa_cons (pe_ix ix_tup (pv 14) pe_int (fun _ _ => rfl)) pa_nil)) pa_nil)) (pv 8)) (nomark _)) (nomark _)) (pss_one (ps_ret pe_bl)) pss_nil)
      (pss_one (ps_ret (pe_or (pe_not (pe_call G_is_barred hr_is_barred (by rfl) T.d_is_barred.m T.d_is_barred.k T.d_is_barred.b .nil pass0 (pa_cons (pv 14) (pa_cons (pv 15) (pa_cons (pv 8) pa_nil))))) (pe_one (pe_cmpR (op_notInTB (α := P3) (hu65i hr)) (pv 14) (pe_call G_rims_in hr_rims_in (by rfl) T.d_rims_in.m T.d_rims_in.k T.d_rims_in.b .nil pass0 (pa_cons (pe_call G_law_unlike hr_law_unlike (by rfl) T.d_law_unlike.m T.d_law_unlike.k T.d_law_unlike.b .nil pass0 (pa_cons (pv 16) pa_nil)) (pa_cons (pv 7) (pa_cons (pv 8) pa_nil)))) (by rfl)))))))))))))))))))))), ?_⟩
    refine ⟨_, rfl, by show 2 ≤ sizeLine; decide, fun d hd => ?_⟩
    have dr0 : Drw K (upd H d (.lst [.ref sc, .int 0])) d sc ns := by
      refine ⟨0, upd_same, ex_l (Ex.new hd) hS, ?_, Int.le_refl _⟩
      rcases hS with (h | ⟨o, h⟩) | h
      · exact .inl (ne_of_none h hd)
      · exact .inl (ne_of_none h hd)
      · exact .inr fun H => .inr h
    refine ⟨6, rfl, by omega, by omega, ?_⟩
    refine for_it walk_range (fun i σ' H' => ∃ v2 v3, σ' = [some (.ref sc), some (.ref d), v2, v3, none, none, none, none, none, none, none, none, none, none, none, none, none, none, none, none, none, none, none] ∧ Drw K H' d sc ns)
      ⟨none, none, rfl, dr0⟩ (fun _ _ _ _ _ => trivial) ?_ ?_
    · rintro i x σ' Ha Hb hi ⟨v2, v3, rfl, dr⟩ y
      obtain ⟨rfl, rfl⟩ := y
      refine ⟨_, rfl, 0 + (i : Int), rfl, ⟨by omega, by omega⟩, fun l rxs H5 e5 hn5 hl5 rl5 => ?_⟩
      have asc := rim_asc3 (0 + (i : Int)) (by have : (0 + (i : Int)) = 0 ∨ (0 + (i : Int)) = 1 ∨ (0 + (i : Int)) = 2 ∨ (0 + (i : Int)) = 3 ∨ (0 + (i : Int)) = 4 ∨ (0 + (i : Int)) = 5 := by omega
                                               rcases this with h | h | h | h | h | h <;> rw [h] <;> simp)
      have few : (rimF (0 + (i : Int))).length ≤ 1000 := by
        have : ∀ r ∈ [(0 : Int), 1, 2, 3, 4, 5], (rimF r).length ≤ 1000 := by decide +kernel
        exact this _ (by have : (0 + (i : Int)) = 0 ∨ (0 + (i : Int)) = 1 ∨ (0 + (i : Int)) = 2 ∨ (0 + (i : Int)) = 3 ∨ (0 + (i : Int)) = 4 ∨ (0 + (i : Int)) = 5 := by omega
                         rcases this with h | h | h | h | h | h <;> rw [h] <;> simp)
      have d5 := dr.ex e5
      refine ⟨_, rfl, l, rfl, ⟨_, sq_of hl5⟩, fun D hD => ?_⟩
      refine lc_val (walk_list (K := K) (xs := rxs)) hD [some (.ref sc), some (.ref d), some (.int (0 + (i : Int))), some (.ref l), none, none, none, none, none, none, none, none, none, none, none, none, none, none, none, none, none, none, none] rfl (fun _ _ e h => ex_l e h) (sq_of hl5) (rimF (0 + (i : Int))) (fun _ => true) (fun _ => .bl true) rl5.length.symm (by have := rl5.length; omega) (fun j o z Hc Hd hj ee y5 R0 R hR0 hR => ?_) (fun H6 e6 hL6 => ?_)
      · obtain ⟨rfl, hz⟩ := y5
        obtain ⟨o', ho', ro⟩ := (rl5.ex ee).get hz
        rw [hj] at ho'
        obtain rfl := Option.some.inj ho'
        obtain ⟨w9, rfl, hw9⟩ := ro.p2_inv
        have mo := List.mem_of_getElem? hj
        obtain ⟨⟨n1, n2⟩, n3, n4⟩ := asc.2.2 o mo
        refine ⟨w9, [_, _], rfl, hw9, rfl, _, _, rfl, _, _, rfl, rfl, rfl, ?_⟩
        refine ⟨_, rfl, _, rfl, _, _, rfl, ⟨by omega, by omega⟩, ⟨by omega, by omega⟩, _, rfl, rfl, ?_⟩
        rw [(mem_rim_rad (by omega)).mp (show (o.1, o.2) ∈ rimF (0 + (i : Int)) from mo), decide_eq_true rfl]
        exact hR _ (Ex.refl _) rfl
      · rw [filter_true] at hL6
        refine ⟨D, (rimF (0 + (i : Int))).map (fun _ => true), rfl, sq_of (by rw [hL6, List.map_map]; rfl), _, rfl, ite2 (fun h => ?_) (fun _ => ?_)⟩
        · exfalso
          rw [show ((rimF (0 + (i : Int))).map (fun _ => true)).all id = true from List.all_eq_true.mpr fun x hx => by obtain ⟨_, _, rfl⟩ := List.mem_map.mp hx; rfl] at h
          exact Bool.noConfusion h
        refine ⟨_, rfl, _, rfl, l, rxs, rimF (0 + (i : Int)), rfl, sq_of (e6 _ _ hl5), rl5.ex e6, fun ys bs p hp rb hso => ?_⟩
        have eb : bs = rimF (0 + (i : Int)) := sorted_uniq hso.2 asc.1 hso.1
        subst eb
        have eP := Ex.new (o := .lst ys) hp
        refine ⟨_, _, Rep.lst (sq_of (eP _ _ (e6 _ _ hl5))) ((rl5.ex e6).ex eP), Rep.lst (sq_of upd_same) rb, _, rfl, ite2 (fun h => ?_) (fun _ => ?_)⟩
        · exfalso
          rw [decide_eq_true rfl] at h
          exact Bool.noConfusion h
        exact ⟨_, _, rfl, (d5.ex e6).ex eP⟩
    rintro σ' H1 ⟨v2, v3, rfl, dr1⟩
    refine ⟨_, rfl, -4, 5, rfl, ⟨by omega, by omega, by omega, by omega⟩, ?_⟩
    refine for_it walk_range (fun i σ' H' => ∃ v4 v5, σ' = [some (.ref sc), some (.ref d), v2, v3, v4, v5, none, none, none, none, none, none, none, none, none, none, none, none, none, none, none, none, none] ∧ Drw K H' d sc ns)
      ⟨none, none, rfl, dr1⟩ (fun _ _ _ _ _ => trivial) ?_ ?_
    · rintro i x σ' Ha Hb hi ⟨v4, v5, rfl, dr⟩ y
      obtain ⟨rfl, rfl⟩ := y
      refine ⟨_, rfl, -4, 5, rfl, ⟨by omega, by omega, by omega, by omega⟩, ?_⟩
      refine for_it walk_range (fun j σ' H' => ∃ v5, σ' = [some (.ref sc), some (.ref d), v2, v3, some (.int (-4 + (i : Int))), v5, none, none, none, none, none, none, none, none, none, none, none, none, none, none, none, none, none] ∧ Drw K H' d sc ns)
        ⟨v5, rfl, dr⟩ (fun _ _ _ _ _ => trivial) ?_ ?_
      · rintro j y σ' Hc Hd hj ⟨v5, rfl, dr⟩ y
        obtain ⟨rfl, rfl⟩ := y
        have xi : -4 ≤ -4 + (i : Int) ∧ -4 + (i : Int) ≤ 4 := by omega
        have yj : -4 ≤ -4 + (j : Int) ∧ -4 + (j : Int) ≤ 4 := by omega
        have x1 := sq_in xi.1 xi.2
        have y1 := sq_in yj.1 yj.2
        have x0 := sq_ne (-4 + (i : Int))
        have y0 := sq_ne (-4 + (j : Int))
        have rf := radF_few (s := (-4 + (i : Int)) * (-4 + (i : Int)) + (-4 + (j : Int)) * (-4 + (j : Int))) (by omega) (by omega)
        refine ⟨_, rfl, _, rfl, by show 2 ≤ sizeLine; decide, fun t ht => ?_⟩
        have et := Ex.new (o := .tup [V.int (-4 + (i : Int)), V.int (-4 + (j : Int))]) ht
        refine ⟨_, rfl, _, rfl, _, _, rfl, ⟨by omega, by omega⟩, ⟨by omega, by omega⟩, _, rfl, ⟨by omega, by omega⟩, fun l rxs H5 e5 hn5 hl5 rl5 => ?_⟩
        refine ⟨(-4 + (i : Int), -4 + (j : Int)), _, Rep.p2 (ex_t e5 (st_of upd_same)), Rep.lst (sq_of hl5) rl5, fun b hb => ⟨_, rfl, ite2 (fun h => ?_) (fun _ => ?_)⟩⟩
        · exact absurd ((mem_rim_rad rf.1).mpr rfl) (hb.mp h)
        · exact ⟨_, rfl, (dr.ex et).ex e5⟩
      · rintro σ' H2 ⟨v5, rfl, dr⟩
        exact ⟨_, _, rfl, dr⟩
    rintro σ' H2 ⟨v4, v5, rfl, dr2⟩
    refine ⟨by show 0 ≤ sizeLine; decide, fun c0 hc0 => ?_⟩
    have hc0d : c0 ≠ d := dr2.ne hc0
    have apc0 := dr2.apart hc0
    have dr3 := dr2.keep hc0 dr2 (.lst [])
    refine ⟨_, rfl, d, 3, sc, ns, rfl, dr3, by decide, fun r1 H3 a1 b1 x3 d3 => ⟨_, _, rfl, rfl, 1 + r1, rfl, by omega, by omega, fun D hD => ?_⟩⟩
    have hDd := d3.ne hD
    have hc3 := x3 _ _ hc0d upd_same
    have hcD : c0 ≠ D := ne_of_none hc3 hD
    refine lc_any (α := Nat) (β := P3) walk_range hD [some (.ref sc), some (.ref d), v2, some (.ref c0), v4, v5, none, none, none, none, none, none, none, none, none, none, none, none, none, none, none, none, none] rfl (MkT (α := P3)) (fun hl h => h.kt (tup_updL hl)) (rel_kt d) (fun e h => e.1 _ _ hDd h) (fun e h => h.kt e.tup) (fun _ H' => Drw K H' d sc ns) (fun _ H' o _ h => d3.keep hD h o) d3 (fun _ _ _ _ _ => trivial) (List.range (1 + r1).toNat) List.length_range (by omega) (fun _ _ b => b = true) (fun _ _ b => lawR b) (fun i a x Ha Hb hia eR iD hDl yy R0 Rv hR0 hRv => ?_) (fun i bs => bs.length = i ∧ ∀ b ∈ bs, lawR b) ⟨rfl, fun b hb => absurd hb (by simp)⟩ (fun i a bs _ ho h => by cases h) (fun i a b bs _ ho _ hv => ⟨by rw [List.length_append, ho.1]; rfl, fun c hc => (List.mem_append.mp hc).elim (ho.2 c) fun z => by rw [List.mem_singleton.mp z]; exact hv⟩) (fun pv placed H4 e4 d4 hD4 rp op => ?_)
    · obtain ⟨rfl, rfl⟩ := yy
      refine ⟨rfl, _, rfl, d, 9, sc, ns, rfl, iD, by decide, fun p1 Hp pa pb e1 k1 => ⟨_, rfl, d, 9, sc, ns, rfl, k1, by decide, fun p2 Hq pa' pb' e2 k2 => ⟨_, rfl, d, 3, sc, ns, rfl, k2, by decide, fun p3 Hr pa'' pb'' e3 k3 => ⟨_, _, rfl, rfl, by show 3 ≤ sizeLine; decide, fun t ht => ?_⟩⟩⟩⟩
      exact hRv _ (p1, p2, 1 + p3) _ ((ktd_of e1 iD.lst').trans ((ktd_of e2 k1.lst').trans ((ktd_of e3 k2.lst').trans (KTd.of (Ex.new ht))))) (k3.ex (Ex.new ht)) rfl ⟨⟨by show 0 ≤ p1; omega, by show p1 ≤ 8; omega⟩, ⟨by show 0 ≤ p2; omega, by show p2 ≤ 8; omega⟩, by show 1 ≤ 1 + p3; omega, by show 1 + p3 ≤ 3; omega⟩ (MkT.p3 upd_same)
    have hc4 := e4.1 _ _ hc0d hc3
    have lp : placed.length ≤ 3 := by rw [op.1]; omega
    have lpv := rp.length
    refine ⟨_, rfl, D, rfl, ⟨_, sq_of hD4⟩, ?_⟩
    refine for_it walk_list (fun i σ' H' => ∃ v2 v4 v5 ys cs, σ' = [some (.ref sc), some (.ref d), v2, some (.ref c0), v4, v5, some (.ref D), none, none, none, none, none, none, none, none, none, none, none, none, none, none, none, none] ∧ Drw K H' d sc ns ∧ H' D = some (.lst pv) ∧ MkAll H' pv placed ∧ H' c0 = some (.lst ys) ∧ MkAll (α := Int × Int) H' ys cs ∧ (∀ c ∈ cs, okCell c) ∧ cs.length ≤ 16 * i)
      ⟨v2, v4, v5, [], [], rfl, d4, hD4, rp, hc4, .nil, fun c hc => absurd hc (by simp), Nat.zero_le _⟩ (fun i σ' H' _ ⟨_, _, _, _, _, _, _, h, _⟩ => sq_of h) ?_ ?_
    · rintro i x σ' Ha Hb hi ⟨v2, v4, v5, ys, cs, rfl, dr, hDa, rpa, hca, rca, okc, lc⟩ y
      obtain ⟨rfl, hx⟩ := y
      obtain ⟨b, hb, z, rfl, hz⟩ := paired_get rpa hx
      obtain ⟨⟨q1, q2⟩, ⟨q3, q4⟩, q5, q6⟩ := op.2 b (List.mem_of_getElem? hb)
      refine ⟨z, [_, _, _], rfl, st_of hz, rfl, _, _, rfl, _, _, rfl, _, _, rfl, rfl, ?_⟩
      refine ⟨_, rfl, _, rfl, b.2.2, rfl, ⟨by omega, by omega⟩, fun l rxs H5 e5 hn5 hl5 rl5 => ⟨l, rfl, ⟨_, sq_of hl5⟩, fun L hL => ?_⟩⟩
      have d5 := dr.ex e5
      have hLd := d5.ne hL
      have rm := rim_many ⟨q5, q6⟩
      have rfw := rim_lens
      have rle : (rimF b.2.2).length ≤ 16 := by
        have h : b.2.2 = 1 ∨ b.2.2 = 2 ∨ b.2.2 = 3 := by omega
        rcases h with h | h | h <;> rw [h] <;> omega
      have hld : l ≠ d := dr.ne hn5
      refine lc_any (α := Int × Int) (β := Int × Int) (walk_list (K := K) (xs := rxs)) hL [some (.ref sc), some (.ref d), some (.int b.2.2), some (.ref c0), some (.int b.1), some (.int b.2.1), some (.ref D), none, none, none, none, none, none, none, none, none, none, none, none, none, none, none, none] rfl (MkT (α := Int × Int)) (fun hl h => h.kt (tup_updL hl)) (rel_kt d) (fun e h => e.1 _ _ hLd h) (fun e h => h.kt e.tup) (fun _ H' => Drw K H' d sc ns) (fun _ H' o _ h => d5.keep hL h o) d5 (fun _ _ _ e _ => e.l hld (sq_of hl5)) (rimF b.2.2) rl5.length.symm (by have := rl5.length; omega) (fun _ _ _ => True) (fun _ a y => y = (b.1 + a.1, b.2.1 + a.2)) (fun j a x Hc He hja eR iD hLl yy R0 Rv hR0 hRv => ?_) (fun i bs => bs.length ≤ i ∧ ∀ y ∈ bs, okCell y) ⟨Nat.le_refl _, fun b hb => absurd hb (by simp)⟩ (fun i a bs _ ho h => ⟨by omega, ho.2⟩) (fun i a b' bs hia ho _ hv => ⟨by rw [List.length_append, List.length_singleton]; omega, fun c hc => (List.mem_append.mp hc).elim (ho.2 c) fun z => ?_⟩) (fun ys2 cs2 H6 e6 d6 hL6 r6 o6 => ?_)
      · obtain ⟨rfl, hx2⟩ := yy
        obtain ⟨a', ha', ra⟩ := (eR.all2 rl5).get hx2
        rw [hja] at ha'
        obtain rfl := Option.some.inj ha'
        obtain ⟨w9, rfl, hw9⟩ := ra.p2_inv
        refine ⟨w9, [_, _], rfl, hw9, rfl, _, _, rfl, _, _, rfl, rfl, rfl, ?_⟩
        refine ⟨_, rfl, d, 12, sc, ns, rfl, iD, by decide, fun r H6 a0 b0 e k => ⟨_, _, rfl, rfl, _, rfl, ite2 (fun h => ?_) (fun h => ?_)⟩⟩
        · exact ⟨_, rfl, _, rfl, _, _, rfl, rfl, _, rfl, _, rfl, _, _, rfl, rfl, by show 2 ≤ sizeLine; decide, fun t ht => hRv _ (b.1 + a.1, b.2.1 + a.2) _ ((ktd_of e iD.lst').trans (KTd.of (Ex.new ht))) (k.ex (Ex.new ht)) trivial rfl (MkT.p2 upd_same)⟩
        · exact hR0 _ (ktd_of e iD.lst') k trivial
      · obtain ⟨⟨n1, n2⟩, n3, n4⟩ := rim_near ⟨q5, q6⟩ (List.mem_of_getElem? hia)
        rw [List.mem_singleton.mp z, hv]
        exact ⟨⟨by show -3 ≤ b.1 + a.1; omega, by show b.1 + a.1 ≤ 11; omega⟩, by show -3 ≤ b.2.1 + a.2; omega, by show b.2.1 + a.2 ≤ 11; omega⟩
      have hc6 := e6.1 _ _ hc0d (e5 _ _ hca)
      have l1 := rca.length
      have l2 := r6.length
      have l3 := rl5.length
      refine ⟨c0, L, ys, ys2, rfl, rfl, hc6, hL6, Nat.le_of_lt (sz_lt (by omega)), ?_⟩
      refine ⟨_, _, _, ys ++ ys2, cs ++ cs2, rfl, d6.mut apc0 hc0d, ?_, ?_, upd_same, ?_, fun c hc => (List.mem_append.mp hc).elim (okc c) (o6.2 c), ?_⟩
      · rw [upd_ne hcD.symm]
        exact e6.1 _ _ hDd (e5 _ _ hDa)
      · exact MkAll.kt (tup_updL hc6) (MkAll.kt e6.tup (MkAll.ex e5 rpa))
      · exact paired_app (MkAll.kt (tup_updL hc6) (MkAll.kt e6.tup (MkAll.ex e5 rca))) (MkAll.kt (tup_updL hc6) r6)
      · rw [List.length_append]
        omega
    rintro σ' H5 ⟨v2, v4, v5, ys, cs, rfl, d5, hD5, rp5, hc5, rc5, okc, lc⟩
    rw [← lpv] at lp
    refine ⟨_, rfl, _, rfl, d, 5, sc, ns, rfl, d5, by decide, fun r2 H6 a2 b2 x6 d6 => ⟨r2, rfl, by omega, by omega, fun E hE => ?_⟩⟩
    have hEd := d6.ne hE
    have k6 := ktd_of x6 d5.lst'
    have hcE : c0 ≠ E := ne_of_none (k6.1 _ _ hc0d hc5) hE
    refine lc_any (α := Nat) (β := Int × Int) walk_range hE [some (.ref sc), some (.ref d), v2, some (.ref c0), v4, v5, some (.ref D), none, none, none, none, none, none, none, none, none, none, none, none, none, none, none, none] rfl (MkT (α := Int × Int)) (fun hl h => h.kt (tup_updL hl)) (rel_kt d) (fun e h => e.1 _ _ hEd h) (fun e h => h.kt e.tup) (fun _ H' => Drw K H' d sc ns) (fun _ H' o _ h => d6.keep hE h o) d6 (fun _ _ _ _ _ => trivial) (List.range r2.toNat) List.length_range (by omega) (fun _ _ b => b = true) (fun _ _ b => okCell b) (fun i a x Ha Hb hia eR iD hDl yy R0 Rv hR0 hRv => ?_) (fun i bs => bs.length = i ∧ ∀ b ∈ bs, okCell b) ⟨rfl, fun b hb => absurd hb (by simp)⟩ (fun i a bs _ ho h => by cases h) (fun i a b bs _ ho _ hv => ⟨by rw [List.length_append, ho.1]; rfl, fun c hc => (List.mem_append.mp hc).elim (ho.2 c) fun z => by rw [List.mem_singleton.mp z]; exact hv⟩) (fun ev es H7 e7 d7 hE7 r7 o7 => ?_)
    · obtain ⟨rfl, rfl⟩ := yy
      refine ⟨rfl, _, rfl, d, 12, sc, ns, rfl, iD, by decide, fun p1 Hp pa pb e1 k1 => ⟨_, rfl, d, 12, sc, ns, rfl, k1, by decide, fun p2 Hq pa' pb' e2 k2 => ⟨by show 2 ≤ sizeLine; decide, fun t ht => ?_⟩⟩⟩
      exact hRv _ (p1, p2) _ ((ktd_of e1 iD.lst').trans ((ktd_of e2 k1.lst').trans (KTd.of (Ex.new ht)))) (k2.ex (Ex.new ht)) rfl ⟨⟨by show -3 ≤ p1; omega, by show p1 ≤ 11; omega⟩, by show -3 ≤ p2; omega, by show p2 ≤ 11; omega⟩ (MkT.p2 upd_same)
    have k7 := k6.trans e7
    have hc7 := k7.1 _ _ hc0d hc5
    have hD7 := k7.1 _ _ hDd hD5
    have rp7 := MkAll.kt k7.tup rp5
    have rc7 := MkAll.kt k7.tup rc5
    have lc7 := rc7.length
    have le7 := r7.length
    have lo7 := o7.1
    refine ⟨c0, E, ys, ev, rfl, rfl, hc7, hE7, Nat.le_of_lt (sz_lt (by omega)), fun p hp => ?_⟩
    have eP := Ex.new (o := .lst (ys ++ ev)) hp
    refine ⟨p, ys ++ ev, cs ++ es, rfl, sq_of upd_same, MkAll.ex eP (paired_app rc7 r7), by rw [List.length_append]; omega, fun H8 v us bs e8 hv8 r8 nd8 mem8 pw8 => ?_⟩
    have e78 := eP.trans e8
    have hD8 := e78 _ _ hD7
    have rp8 := MkAll.ex e78 rp7
    have d8 := d7.ex e78
    have okb : ∀ c ∈ bs, okCell c := fun c hc => (List.mem_append.mp ((mem8 c).mp hc)).elim (okc c) (o7.2 c)
    have few : bs.length < 64 := by
      have := nodup_le nd8 fun b hb => (mem8 b).mp hb
      rw [List.length_append] at this
      omega
    have lus := r8.length
    clear rc7 r7 hc7 hE7 rc5 hc5 mem8 okc o7
    refine ⟨by show 3 ≤ sizeLine; decide, fun rl hrl => ⟨_, rfl, d, 4, sc, ns, rfl, d8.ex (Ex.new hrl), by decide, fun mi H9 a9 b9 x9 d9 => ⟨by show 0 ≤ sizeLine; decide, fun du hdu => ?_⟩⟩⟩
    have eL := Ex.new (o := .lst [.int 1, .int 2, .int 3]) hrl
    have k9 := (KTd.of (d := d) eL).trans (ktd_of x9 (d8.ex eL).lst')
    have hrld := d8.ne hrl
    have hrl9 := x9 _ _ hrld upd_same
    have eDu := Ex.new (o := .lst []) hdu
    have hvd : v ≠ d := fun z => by
      obtain ⟨n, h, _⟩ := id d8
      rw [z, h] at hv8
      have e := HO.lst.inj (Option.some.inj hv8)
      cases r8 with
      | nil => cases e
      | cons a t =>
        cases t with
        | nil => cases e
        | cons b t =>
          obtain ⟨_, rfl, _⟩ := b
          injection e with _ e
          injection e with e _
          cases e
    have hv9 := k9.1 _ _ hvd hv8
    have hD9 := k9.1 _ _ hDd hD8
    have r9 := MkAll.kt k9.tup r8
    have rp9 := MkAll.kt k9.tup rp8
    have d10 := d9.ex eDu
    refine ⟨_, rfl, v, rfl, ⟨_, sq_of (eDu _ _ hv9)⟩, fun S hS => ?_⟩
    refine lc_any (α := Int × Int) (β := Addr × Int × Int) (walk_list (K := K) (xs := us)) hS [some (.ref sc), some (.ref d), v2, some (.ref v), v4, v5, some (.ref D), none, none, none, none, none, none, none, none, none, none, none, none, none, none, none, none] rfl PcT (fun hl h => h.kt (tup_updL hl)) rel_ex (fun e h => e _ _ h) (fun e h => h.kt (fun _ _ z => e _ _ z)) (fun _ _ => True) (fun _ _ _ _ _ => trivial) trivial (fun _ _ _ e _ => ex_l e (sq_of (eDu _ _ hv9))) bs lus.symm (by omega) (fun _ _ b => b = true) (fun _ a b => b.2 = a) (fun i a x Ha Hb hia eR _ hDl yy R0 Rv hR0 hRv => ?_) (fun i ls => ls.map (·.2) = bs.take i) rfl (fun i a ls _ ho h => by cases h) (fun i a b ls hia ho _ hv => by rw [List.map_append, ho, take_get hia, ← hv]; rfl) (fun sv bl H11 e11 _ hS11 r11 o11 => ?_)
    · obtain ⟨rfl, hx⟩ := yy
      obtain ⟨c, hc, t0, rfl, ht0⟩ := paired_get (MkAll.ex (eDu.trans eR) r9) hx
      rw [hia] at hc
      obtain rfl := Option.some.inj hc
      exact ⟨rfl, _, rfl, by show 2 ≤ sizeLine; decide, fun t ht => hRv _ (t0, a) _ (Ex.new ht) trivial rfl rfl ⟨t, rfl, upd_same, (Ex.new ht) _ _ ht0⟩⟩
    obtain ⟨ps, rfl, pq⟩ := pcs_of (K := K) r11
    rw [lus, List.take_length] at o11
    have eqs : ((bl.map fun b => (kc b.2, b.1, V.bl true)).map fun q => (q.1, q.2.2)) = bs.map fun c => (kc c, V.bl true) := by
      rw [← o11, List.map_map, List.map_map]
      rfl
    refine ⟨S, ps, _, rfl, sq_of hS11, pq, ?_, fun sh hsh => ?_⟩
    · have : (bl.map fun b => (kc b.2, b.1, V.bl true)).map (·.1) = bs.map kc := by
        rw [← o11, List.map_map, List.map_map]
        rfl
      rw [this]
      exact List.Pairwise.map _ (fun a b h z => h (kc_inj z)) nd8
    rw [eqs]
    refine ⟨by show 4 ≤ sizeLine; decide, fun t4 ht4 => ⟨t4, [_, _, _, _], rfl, st_of upd_same, rfl, _, _, rfl, _, _, rfl, _, _, rfl, _, _, rfl, rfl, ?_⟩⟩
    have eS := Ex.new (o := .dT (bs.map fun c => (kc c, V.bl true))) hsh
    have e12 := (e11.trans eS).trans (Ex.new (o := .tup [V.ref rl, V.int mi, V.ref du, V.ref sh]) ht4)
    have hsh12 := (Ex.new (o := .tup [V.ref rl, V.int mi, V.ref du, V.ref sh]) ht4) _ _ (upd_same (H := H11) (a := sh) (o := .dT (bs.map fun c => (kc c, V.bl true))))
    have hdu12 := e12 _ _ (upd_same (H := H9) (a := du) (o := .lst []))
    have e912 := eDu.trans e12
    generalize upd (upd H11 sh (.dT (bs.map fun c => (kc c, V.bl true)))) t4 (.tup [V.ref rl, V.int mi, V.ref du, V.ref sh]) = H12 at e12 hsh12 hdu12 e912
    have hv12 := e912 _ _ hv9
    have hD12 := e912 _ _ hD9
    have r12 := MkAll.ex e912 r9
    have rp12 := MkAll.ex e912 rp9
    have hrl12 := e912 _ _ hrl9
    have d12 := d9.ex e912
    have r13 : ∀ x ∈ [(1 : Int), 2, 3], 1 ≤ x ∧ x ≤ 3 := fun x hx => by
      have : x = 1 ∨ x = 2 ∨ x = 3 := by simpa using hx
      omega
    refine ⟨_, rfl, _, rfl, v, rl, us, bs, [1, 2, 3], rfl, sq_of hv12, MkAll.r2 r12, few, sq_of hrl12, Nat.le_refl _, r13, fun H13 kn kvs ks e13 hkn0 hkn hkl va => ?_⟩
    have hv13 := e13 _ _ hv12
    have hD13 := e13 _ _ hD12
    have hrl13 := e13 _ _ hrl12
    have hsh13 := e13 _ _ hsh12
    have hdu13 := e13 _ _ hdu12
    have r13' := MkAll.ex e13 r12
    have rp13 := MkAll.ex e13 rp12
    have d13 := d12.ex e13
    have hvu : v ≠ du := ne_of_none hv9 hdu
    have hru : rl ≠ du := ne_of_none hrl9 hdu
    have hDu : D ≠ du := ne_of_none hD9 hdu
    have hdud : du ≠ d := d9.ne hdu
    have apdu := d9.apart hdu
    refine ⟨_, rfl, rl, rfl, ⟨_, sq_of hrl13⟩, ?_⟩
    refine for_it walk_list (fun i σ' H' => ∃ v2 v4 v5 v12 v13 dys dues, σ' = [some (.ref sc), some (.ref d), v2, some (.ref v), v4, v5, some (.ref D), some (.ref rl), some (.int mi), some (.ref du), some (.ref sh), some (.ref kn), v12, v13, none, none, none, none, none, none, none, none, none] ∧ KTd du H13 H' ∧ Drw K H' d sc ns ∧ H' du = some (.lst dys) ∧ MkAll (α := P3) H' dys dues ∧ dues.Nodup ∧ (∀ q, q ∈ dues ↔ dueR bs mi q ∧ q.2.2 ≤ (i : Int)) ∧ dues.length ≤ 676 * i)
      ⟨v2, v4, v5, none, none, [], [], rfl, KTd.refl _ _, d13, hdu13, .nil, .nil, fun q => ⟨fun z => absurd z (by simp), fun z => by have := z.1.2.2.2.1; have := z.2; omega⟩, Nat.zero_le _⟩ (fun i σ' H' _ ⟨_, _, _, _, _, _, _, _, k, _⟩ => sq_of (k.1 _ _ hru hrl13)) ?_ ?_
    · rintro i x σ' Ha Hb hi ⟨v2, v4, v5, v12, v13, dys, dues, rfl, kk, dr, hdu, rdu, ndu, mdu, ldu⟩ y
      obtain ⟨rfl, hx⟩ := y
      obtain ⟨ρ, rfl, hρ, h13⟩ : ∃ ρ : Int, x = .int ρ ∧ ρ = i + 1 ∧ 1 ≤ ρ ∧ ρ ≤ 3 := by
        match i, hx, hi with
        | 0, hx, _ => exact ⟨1, (Option.some.inj hx).symm, by decide, by decide, by decide⟩
        | 1, hx, _ => exact ⟨2, (Option.some.inj hx).symm, by decide, by decide, by decide⟩
        | 2, hx, _ => exact ⟨3, (Option.some.inj hx).symm, by decide, by decide, by decide⟩
        | i + 3, _, h => exact absurd h (by simp)
      refine ⟨_, rfl, ρ, rfl, ⟨by omega, by omega⟩, fun l rxs H5 e5 hn5 hl5 rl5 => ?_⟩
      have hlu : l ≠ du := (ne_of_none hdu hn5).symm
      have rfw := rim_few h13
      have lrx := rl5.length
      refine ⟨_, rfl, -6, 20, rfl, ⟨by omega, by omega, by omega, by omega⟩, ?_⟩
      refine for_it walk_range (fun j σ' H' => ∃ v4 v5 v13 dys dues, σ' = [some (.ref sc), some (.ref d), some (.int ρ), some (.ref v), v4, v5, some (.ref D), some (.ref rl), some (.int mi), some (.ref du), some (.ref sh), some (.ref kn), some (.ref l), v13, none, none, none, none, none, none, none, none, none] ∧ KTd du H5 H' ∧ Drw K H' d sc ns ∧ H' du = some (.lst dys) ∧ MkAll (α := P3) H' dys dues ∧ dues.Nodup ∧ (∀ q, q ∈ dues ↔ dueR bs mi q ∧ (q.2.2 ≤ (i : Int) ∨ (q.2.2 = ρ ∧ q.1 < -6 + (j : Int)))) ∧ dues.length ≤ 676 * i + 26 * j)
        ⟨v4, v5, v13, dys, dues, rfl, KTd.refl _ _, dr.ex e5, e5 _ _ hdu, MkAll.ex e5 rdu, ndu, fun q => (mdu q).trans ⟨fun z => ⟨z.1, .inl z.2⟩, fun z => ⟨z.1, z.2.elim id fun y => by have := z.1.2.1.1; omega⟩⟩, by omega⟩ (fun _ _ _ _ _ => trivial) ?_ ?_
      · rintro j x σ' Hc Hd hj ⟨v4, v5, v13, dys, dues, rfl, kk5, dr, hdu, rdu, ndu, mdu, ldu⟩ y
        obtain ⟨rfl, rfl⟩ := y
        refine ⟨_, rfl, -6, 20, rfl, ⟨by omega, by omega, by omega, by omega⟩, ?_⟩
        refine for_it walk_range (fun k σ' H' => ∃ v5 v13 dys dues, σ' = [some (.ref sc), some (.ref d), some (.int ρ), some (.ref v), some (.int (-6 + (j : Int))), v5, some (.ref D), some (.ref rl), some (.int mi), some (.ref du), some (.ref sh), some (.ref kn), some (.ref l), v13, none, none, none, none, none, none, none, none, none] ∧ KTd du H5 H' ∧ Drw K H' d sc ns ∧ H' du = some (.lst dys) ∧ MkAll (α := P3) H' dys dues ∧ dues.Nodup ∧ (∀ q, q ∈ dues ↔ dueR bs mi q ∧ (q.2.2 ≤ (i : Int) ∨ (q.2.2 = ρ ∧ (q.1 < -6 + (j : Int) ∨ (q.1 = -6 + (j : Int) ∧ q.2.1 < -6 + (k : Int)))))) ∧ dues.length ≤ 676 * i + 26 * j + k)
          ⟨v5, v13, dys, dues, rfl, kk5, dr, hdu, rdu, ndu, fun q => (mdu q).trans ⟨fun z => ⟨z.1, z.2.elim .inl fun y => .inr ⟨y.1, .inl y.2⟩⟩, fun z => ⟨z.1, z.2.elim .inl fun y => .inr ⟨y.1, y.2.elim id fun u => by have := z.1.2.2.1.1; omega⟩⟩⟩, by omega⟩ (fun _ _ _ _ _ => trivial) ?_ ?_
        · rintro k x σ' He Hf hk ⟨v5, v13, dys, dues, rfl, kk5, dr, hdu, rdu, ndu, mdu, ldu⟩ y
          obtain ⟨rfl, rfl⟩ := y
          obtain ⟨xx, hxx⟩ : ∃ xx, xx = -6 + (j : Int) := ⟨_, rfl⟩
          obtain ⟨yy, hyy⟩ : ∃ yy, yy = -6 + (k : Int) := ⟨_, rfl⟩
          dsimp only
          rw [← hxx, ← hyy]
          rw [← hxx] at mdu
          have hl := kk5.1 _ _ hlu hl5
          have rlx := kk5.all2 rl5
          have hsh := kk5.2 _ _ (fun ys z => by cases z) (e5 _ _ (kk.2 _ _ (fun ys z => by cases z) hsh13))
          have hkn := kk5.2 _ _ (fun ys z => by cases z) (e5 _ _ (kk.2 _ _ (fun ys z => by cases z) hkn))
          refine ⟨_, rfl, l, rfl, ⟨_, sq_of hl⟩, fun L hL => ?_⟩
          refine lc_val (walk_list (K := K) (xs := rxs)) hL [some (.ref sc), some (.ref d), some (.int ρ), some (.ref v), some (.int xx), some (.int yy), some (.ref D), some (.ref rl), some (.int mi), some (.ref du), some (.ref sh), some (.ref kn), some (.ref l), v13, none, none, none, none, none, none, none, none, none] rfl (fun _ _ e h => ex_l e h) (sq_of hl) (rimF ρ) (fun o => decide ((xx + o.1, yy + o.2) ∈ bs)) (fun _ => .int 1) lrx.symm (by omega) (fun m o z Hg Hh hm ee y5 R0 R hR0 hR => ?_) (fun H6 e6 hL6 => ?_)
          · obtain ⟨rfl, hz⟩ := y5
            obtain ⟨o', ho', ro⟩ := (rlx.ex ee).get hz
            rw [hm] at ho'
            obtain rfl := Option.some.inj ho'
            obtain ⟨w9, rfl, hw9⟩ := ro.p2_inv
            refine ⟨w9, [_, _], rfl, hw9, rfl, _, _, rfl, _, _, rfl, rfl, rfl, ?_⟩
            refine ⟨_, rfl, _, rfl, _, _, rfl, rfl, _, rfl, _, rfl, _, _, rfl, rfl, by show 2 ≤ sizeLine; decide, fun t ht => ?_⟩
            have eT := Ex.new (o := .tup [V.int (xx + o.1), V.int (yy + o.2)]) ht
            refine ⟨_, rfl, sh, _, rfl, DGet.t (k := kc (xx + o.1, yy + o.2)) (eT _ _ (ee _ _ hsh)) upd_same, _, rfl, ite2 (fun h => ?_) (fun h => ?_)⟩
            · rw [valV_kc] at h
              exact hR _ eT h
            · rw [valV_kc] at h
              exact hR0 _ eT (Bool.eq_false_iff.mpr h)
          have hcnt : ((((rimF ρ).filter fun o => decide ((xx + o.1, yy + o.2) ∈ bs)).map fun _ => V.int 1).length : Int) = (hitF bs (xx, yy, ρ) : Nat) := by
            rw [List.length_map]
            rfl
          refine ⟨L, _, rfl, .inl (sq_of hL6), ?_⟩
          rw [hcnt]
          have hkn6 := e6 _ _ hkn
          refine ⟨_, rfl, kn, rfl, .inr ⟨kvs, .inl hkn6⟩, _, rfl, _, rfl, _, rfl, by show 3 ≤ sizeLine; decide, fun t ht => ?_⟩
          have eT := Ex.new (o := .tup [V.int xx, V.int yy, V.int ρ]) ht
          have hval := va.val (xx, yy, ρ)
          have hval : valV kvs (kt (xx, yy, ρ)) = szO _ := hval
          rw [if_pos (show ρ ∈ [(1 : Int), 2, 3] by simp; omega)] at hval
          refine ⟨_, DGet.t (k := kt (xx, yy, ρ)) (eT _ _ hkn6) upd_same, _, rfl, ?_⟩
          rw [hval, szO_get]
          refine ⟨rfl, _, rfl, ite2 (fun h => absurd h (by simp)) (fun _ => ?_)⟩
          have e6t := e6.trans eT
          have hdu6 := e6t _ _ hdu
          have rdu6 := MkAll.ex e6t rdu
          have kk6 := kk5.trans (KTd.of e6t)
          have dr6 := dr.ex e6t
          refine ⟨_, rfl, _, rfl, l, rxs, rfl, .inl (sq_of (e6t _ _ hl)), _, rfl, _, _, rfl, rfl, _, _, rfl, rfl, _, rfl, ?_⟩
          have hinR : dueR bs mi (xx, yy, ρ) ↔ ((rimF ρ).length : Int) ≤ (hitF bs (xx, yy, ρ) : Nat) + mi := ⟨fun z => z.1, fun z => ⟨z, ⟨by show -6 ≤ xx; omega, by show xx < 20; omega⟩, ⟨by show -6 ≤ yy; omega, by show yy < 20; omega⟩, h13⟩⟩
          have hnot : (xx, yy, ρ) ∉ dues := fun z => by
            have := ((mdu _).mp z).2
            have : ρ ≤ (i : Int) ∨ (ρ = ρ ∧ (xx < xx ∨ (xx = xx ∧ yy < -6 + (k : Int)))) := this
            omega
          have hstep : ∀ q : P3, (q.2.2 ≤ (i : Int) ∨ (q.2.2 = ρ ∧ (q.1 < xx ∨ (q.1 = xx ∧ q.2.1 < -6 + ((k + 1 : Nat) : Int))))) ↔ ((q.2.2 ≤ (i : Int) ∨ (q.2.2 = ρ ∧ (q.1 < xx ∨ (q.1 = xx ∧ q.2.1 < -6 + (k : Int))))) ∨ q = (xx, yy, ρ)) := fun q => by
            have hq : q = (xx, yy, ρ) ↔ q.1 = xx ∧ q.2.1 = yy ∧ q.2.2 = ρ := ⟨fun z => by rw [z]; exact ⟨rfl, rfl, rfl⟩, fun z => Prod.ext z.1 (Prod.ext z.2.1 z.2.2)⟩
            rw [hq]
            omega
          refine ite2 (fun h => ?_) (fun h => ?_)
          · have h := of_decide_eq_true h
            refine ⟨_, rfl, .inl ⟨rfl, _, sq_of hdu6⟩, _, rfl, _, rfl, _, rfl, by show 3 ≤ sizeLine; decide, fun t2 ht2 => ?_⟩
            have eT2 := Ex.new (o := .tup [V.int xx, V.int yy, V.int ρ]) ht2
            have ldy := rdu.length
            have i3 : i ≤ 3 := by have := hi; simp at this; omega
            have h26 : ((20 - -6 : Int).toNat) = 26 := by decide
            refine ⟨du, _, _, rfl, rfl, eT2 _ _ hdu6, sz_lt (by omega), ?_⟩
            refine ⟨_, _, _, dues ++ [(xx, yy, ρ)], rfl, ?_, ?_, upd_same, ?_, ?_, fun q => ?_, ?_⟩
            · refine ⟨fun a o na ha => ?_, fun a o na ha => ?_⟩
              · rw [upd_ne na]
                exact eT2 _ _ (kk6.1 _ _ na ha)
              · have h9 := eT2 _ _ (kk6.2 _ _ na ha)
                rw [upd_ne (fun z => by rw [z, eT2 _ _ hdu6] at h9; exact na _ (Option.some.inj h9).symm)]
                exact h9
            · exact (dr6.ex eT2).mut apdu hdud
            · exact Paired.snoc (MkAll.kt (tup_updL (eT2 _ _ hdu6)) (MkAll.ex eT2 rdu6)) (MkT.p3 (tup_updL (eT2 _ _ hdu6) _ _ upd_same))
            · exact List.nodup_append.mpr ⟨ndu, by simp, fun a ha b hb z => hnot (by rw [← List.mem_singleton.mp hb, ← z]; exact ha)⟩
            · rw [List.mem_append, List.mem_singleton, mdu, hstep]
              constructor
              · rintro (z | z)
                · exact ⟨z.1, .inl z.2⟩
                · exact ⟨by rw [z]; exact hinR.mpr (by omega), .inr z⟩
              · rintro ⟨z1, z2⟩
                exact z2.elim (fun y => .inl ⟨z1, y⟩) .inr
            · rw [List.length_append, List.length_singleton]
              omega
          · have h : ¬ ((rimF ρ).length : Int) - mi ≤ (hitF bs (xx, yy, ρ) : Nat) := fun z => h (decide_eq_true (by have := lrx; rw [this]; exact z))
            refine ⟨_, _, dys, dues, rfl, kk6, dr6, hdu6, rdu6, ndu, fun q => ?_, by omega⟩
            rw [mdu, hstep]
            constructor
            · rintro ⟨z1, z2⟩
              exact ⟨z1, .inl z2⟩
            · rintro ⟨z1, z2⟩
              refine ⟨z1, z2.elim id fun y => ?_⟩
              rw [y] at z1
              exact absurd (hinR.mp z1) (by omega)
        · rintro σ' H6 ⟨v5, v13, dys, dues, rfl, kk5, dr, hdu, rdu, ndu, mdu, ldu⟩
          refine ⟨_, _, _, dys, dues, rfl, kk5, dr, hdu, rdu, ndu, fun q => (mdu q).trans ⟨fun z => ⟨z.1, z.2.elim .inl fun y => .inr ⟨y.1, by omega⟩⟩, fun z => ⟨z.1, z.2.elim .inl fun y => .inr ⟨y.1, ?_⟩⟩⟩, by simp at ldu; omega⟩
          have := z.1.2.2.1.2
          have h26 : ((20 - -6 : Int).toNat : Int) = 26 := by decide
          omega
      · rintro σ' H6 ⟨v4, v5, v13, dys, dues, rfl, kk5, dr, hdu, rdu, ndu, mdu, ldu⟩
        refine ⟨_, _, _, _, _, dys, dues, rfl, (kk.trans (KTd.of e5)).trans kk5, dr, hdu, rdu, ndu, fun q => (mdu q).trans ⟨fun z => ⟨z.1, by have := z.2; omega⟩, fun z => ⟨z.1, ?_⟩⟩, by simp at ldu; omega⟩
        have := z.1.2.1.2
        have := z.2
        have h26 : ((20 - -6 : Int).toNat : Int) = 26 := by decide
        omega
    rintro σ' H14 ⟨v2, v4, v5, v12, v13, dys, dues, rfl, k14, d14, hdu14, rdu, ndu, mdu, ldu⟩
    have hv14 := k14.1 _ _ hvu hv13
    have hrl14 := k14.1 _ _ hru hrl13
    have hD14 := k14.1 _ _ hDu hD13
    have r14 := MkAll.kt k14.tup r13'
    have rp14 := MkAll.kt k14.tup rp13
    have ldu : dues.length ≤ 676 * 3 := ldu
    refine ⟨_, rfl, _, rfl, _, rfl, v, rl, us, bs, [1, 2, 3], mi, rfl, sq_of hv14, MkAll.r2 r14, few, sq_of hrl14, Nat.le_refl _, r13, ⟨by omega, by omega⟩, fun H15 rv ts e15 rrt memt pwt ndt => ?_⟩
    refine ⟨_, rfl, du, dys, dues, rfl, sq_of (e15 _ _ hdu14), MkAll.r3 (MkAll.ex e15 rdu), fun ys2 bs2 sd hsd rz hso => ⟨sd, ys2, rfl, .inl ⟨sq_of upd_same, fun tw htw => ?_⟩⟩⟩
    have eS2 := Ex.new (o := .lst ys2) hsd
    have eW := Ex.new (o := .tup ys2) htw
    have ets : ts = bs2 := by
      refine sorted_uniq pwt hso.2 (((List.perm_ext_iff_of_nodup ndt ndu).mpr fun q => ?_).trans hso.1.symm)
      rw [memt, mdu]
      constructor
      · rintro ⟨h1, h2⟩
        have h3 := r13 _ h1
        have h8 := rim_many h3
        have hp : 0 < hitF bs q := by omega
        have hn := hit_near okb h3 hp
        exact ⟨⟨h2, hn.1, hn.2, h3⟩, h3.2⟩
      · rintro ⟨h1, _⟩
        have h3 := h1.2.2.2
        exact ⟨by simp; omega, h1.1⟩
    subst ets
    refine ⟨Tp.mk ts, Tp.mk ts, rrt.ex (eS2.trans eW), Rep.tp (st_of upd_same) (rz.ex eW), _, rfl, ite2 (fun h => ?_) (fun _ => ?_)⟩
    · exfalso
      rw [decide_eq_true rfl] at h
      exact Bool.noConfusion h
    have e16 := (e15.trans eS2).trans eW
    have d16 := d14.ex e16
    have hrl16 := e16 _ _ hrl14
    have hD16 := e16 _ _ hD14
    have rp16 := MkAll.ex e16 rp14
    generalize upd (upd H15 sd (.lst ys2)) tw (.tup ys2) = H16 at *
    clear eS2 eW hso rz memt pwt ndt rrt mdu rdu
    refine ⟨_, rfl, d, 9, sc, ns, rfl, d16, by decide, fun o1 Ho1 oa1 ob1 ox1 od1 => ⟨_, rfl, d, 9, sc, ns, rfl, od1, by decide, fun o2 Ho2 oa2 ob2 ox2 od2 => ⟨_, rfl, d, 3, sc, ns, rfl, od2, by decide, fun o3 Ho3 oa3 ob3 ox3 od3 => ⟨_, _, rfl, rfl, by show 3 ≤ sizeLine; decide, fun t1 ht1 => ?_⟩⟩⟩⟩
    have kO := (ktd_of ox1 d16.lst').trans ((ktd_of ox2 od1.lst').trans (ktd_of ox3 od2.lst'))
    have hrld : rl ≠ d := hrld
    have hrl17 := kO.1 _ _ hrld hrl16
    have hD17 := kO.1 _ _ hDd hD16
    have rp17 := MkAll.kt kO.tup rp16
    have eT1 := Ex.new (o := .tup [V.int o1, V.int o2, V.int (1 + o3)]) ht1
    refine ⟨_, rfl, by show 2 ≤ sizeLine; decide, fun t2 ht2 => ⟨t2, [_, _], rfl, st_of upd_same, rfl, _, _, rfl, _, _, rfl, rfl, ?_⟩⟩
    have eT2 := Ex.new (o := .tup [V.ref t1, V.ref D]) ht2
    have e18 := eT1.trans eT2
    have hrl18 := e18 _ _ hrl17
    have hD18 := e18 _ _ hD17
    have rp18 := MkAll.ex e18 rp17
    have ht18 := eT2 _ _ (upd_same (H := Ho3) (a := t1) (o := .tup [V.int o1, V.int o2, V.int (1 + o3)]))
    generalize upd (upd Ho3 t1 (.tup [V.int o1, V.int o2, V.int (1 + o3)])) t2 (.tup [V.ref t1, V.ref D]) = H18 at *
    obtain ⟨one, hone⟩ : ∃ one : P3, one = (o1, o2, 1 + o3) := ⟨_, rfl⟩
    have hot : SqT K H18 t1 [.int one.1, .int one.2.1, .int one.2.2] := by rw [hone]; exact st_of ht18
    have hnone : nearR one := by
      rw [hone]
      exact ⟨⟨by show -100 ≤ o1; omega, by show o1 ≤ 100; omega⟩, ⟨by show -100 ≤ o2; omega, by show o2 ≤ 100; omega⟩, by show 1 ≤ 1 + o3; omega, by show 1 + o3 ≤ 3; omega⟩
    have hnear : ∀ q ∈ placed, nearR q := fun q hq => by
      obtain ⟨⟨q1, q2⟩, ⟨q3, q4⟩, q5, q6⟩ := op.2 q hq
      exact ⟨⟨by omega, by omega⟩, ⟨by omega, by omega⟩, q5, q6⟩
    clear hone ht18
    refine ⟨by show 0 ≤ sizeLine; decide, fun wh hwh => ?_⟩
    have eWh := Ex.new (o := .lst []) hwh
    have hDw : D ≠ wh := ne_of_none hD18 hwh
    have hrw : rl ≠ wh := ne_of_none hrl18 hwh
    refine ⟨_, rfl, D, rfl, ⟨_, sq_of (eWh _ _ hD18)⟩, ?_⟩
    refine for_it walk_list (fun i σ' H' => ∃ v2 v4 v5 ys ws, σ' = [some (.ref sc), some (.ref d), v2, some (.ref v), v4, v5, some (.ref D), some (.ref rl), some (.int mi), some (.ref du), some (.ref sh), some (.ref kn), v12, v13, some (.ref t1), some (.ref D), some (.ref wh), none, none, none, none, none, none] ∧ KTd wh (upd H18 wh (.lst [])) H' ∧ H' wh = some (.lst ys) ∧ MkAll (α := Int × Int) H' ys ws ∧ (∀ c ∈ ws, ∃ q ∈ placed, (c.1 - q.1, c.2 - q.2.1) ∈ rimF q.2.2) ∧ ws.length ≤ 16 * i)
      ⟨v2, v4, v5, [], [], rfl, KTd.refl _ _, upd_same, .nil, fun c hc => absurd hc (by simp), Nat.zero_le _⟩ (fun i σ' H' _ ⟨_, _, _, _, _, _, k, _⟩ => sq_of (k.1 _ _ hDw (eWh _ _ hD18))) ?_ ?_
    · rintro i x σ' Ha Hb hi ⟨v2, v4, v5, ys, ws, rfl, kk, hwa, rwa, okw, lw⟩ y
      obtain ⟨rfl, hx⟩ := y
      obtain ⟨b, hb, z, rfl, hz⟩ := paired_get (MkAll.kt kk.tup (MkAll.ex eWh rp18)) hx
      have mb := List.mem_of_getElem? hb
      obtain ⟨⟨q1, q2⟩, ⟨q3, q4⟩, q5, q6⟩ := op.2 b mb
      refine ⟨z, [_, _, _], rfl, st_of hz, rfl, _, _, rfl, _, _, rfl, _, _, rfl, rfl, ?_⟩
      refine ⟨_, rfl, _, rfl, b.2.2, rfl, ⟨by omega, by omega⟩, fun l rxs H5 e5 hn5 hl5 rl5 => ⟨l, rfl, ⟨_, sq_of hl5⟩, fun L hL => ?_⟩⟩
      have rfw := rim_lens
      have rle : (rimF b.2.2).length ≤ 16 := by
        have h : b.2.2 = 1 ∨ b.2.2 = 2 ∨ b.2.2 = 3 := by omega
        rcases h with h | h | h <;> rw [h] <;> omega
      refine lc_any (α := Int × Int) (β := Int × Int) (walk_list (K := K) (xs := rxs)) hL [some (.ref sc), some (.ref d), some (.int b.2.2), some (.ref v), some (.int b.1), some (.int b.2.1), some (.ref D), some (.ref rl), some (.int mi), some (.ref du), some (.ref sh), some (.ref kn), v12, v13, some (.ref t1), some (.ref D), some (.ref wh), none, none, none, none, none, none] rfl (MkT (α := Int × Int)) (fun hl h => h.kt (tup_updL hl)) rel_ex (fun e h => e _ _ h) (fun e h => h.kt (fun _ _ z => e _ _ z)) (fun _ _ => True) (fun _ _ _ _ _ => trivial) trivial (fun _ _ _ e _ => ex_l e (sq_of hl5)) (rimF b.2.2) rl5.length.symm (by have := rl5.length; omega) (fun _ _ b => b = true) (fun _ a y => y = (b.1 + a.1, b.2.1 + a.2)) (fun j a x Hc He hja eR iD hLl yy R0 Rv hR0 hRv => ?_) (fun i bs => bs.length = i ∧ ∀ y ∈ bs, (y.1 - b.1, y.2 - b.2.1) ∈ rimF b.2.2) ⟨rfl, fun b hb => absurd hb (by simp)⟩ (fun i a bs _ ho h => by cases h) (fun i a b' bs hia ho _ hv => ⟨by rw [List.length_append, List.length_singleton, ho.1], fun c hc => (List.mem_append.mp hc).elim (ho.2 c) fun z => ?_⟩) (fun ys2 cs2 H6 e6 d6 hL6 r6 o6 => ?_)
      · obtain ⟨rfl, hx2⟩ := yy
        obtain ⟨a', ha', ra⟩ := (rl5.ex eR).get hx2
        rw [hja] at ha'
        obtain rfl := Option.some.inj ha'
        obtain ⟨w9, rfl, hw9⟩ := ra.p2_inv
        refine ⟨w9, [_, _], rfl, hw9, rfl, _, _, rfl, _, _, rfl, rfl, rfl, ?_⟩
        exact ⟨_, rfl, _, rfl, _, _, rfl, rfl, _, rfl, _, rfl, _, _, rfl, rfl, by show 2 ≤ sizeLine; decide, fun t ht => hRv _ (b.1 + a.1, b.2.1 + a.2) _ (Ex.new ht) trivial rfl rfl (MkT.p2 upd_same)⟩
      · rw [List.mem_singleton.mp z, hv]
        have e1 : b.1 + a.1 - b.1 = a.1 := by omega
        have e2 : b.2.1 + a.2 - b.2.1 = a.2 := by omega
        show (b.1 + a.1 - b.1, b.2.1 + a.2 - b.2.1) ∈ _
        rw [e1, e2]
        exact List.mem_of_getElem? hia
      have e56 := e5.trans e6
      have hw6 := e56 _ _ hwa
      have l1 := rwa.length
      have l2 := r6.length
      have l3 := rl5.length
      have l4 := o6.1
      refine ⟨wh, L, ys, ys2, rfl, rfl, hw6, hL6, Nat.le_of_lt (sz_lt (by omega)), ?_⟩
      refine ⟨_, _, _, ys ++ ys2, ws ++ cs2, rfl, ?_, upd_same, paired_app (MkAll.kt (tup_updL hw6) (MkAll.ex e56 rwa)) (MkAll.kt (tup_updL hw6) r6), fun c hc => (List.mem_append.mp hc).elim (okw c) fun z => ⟨b, mb, o6.2 c z⟩, by rw [List.length_append]; omega⟩
      refine ⟨fun a o na ha => ?_, fun a o na ha => ?_⟩
      · rw [upd_ne na]
        exact e56 _ _ (kk.1 _ _ na ha)
      · have h9 := e56 _ _ (kk.2 _ _ na ha)
        rw [upd_ne (fun z => by rw [z, hw6] at h9; exact na _ (Option.some.inj h9).symm)]
        exact h9
    rintro σ' H19 ⟨v2, v4, v5, wys, ws, rfl, k19, hw19, rw19, okw, lw⟩
    have hrl19 := k19.1 _ _ hrw (eWh _ _ hrl18)
    have hD19 := k19.1 _ _ hDw (eWh _ _ hD18)
    have rp19 := MkAll.kt k19.tup (MkAll.ex eWh rp18)
    have ho19 := k19.t (ex_t eWh hot)
    rw [lpv] at lw
    refine ⟨_, rfl, D, rfl, ⟨_, sq_of hD19⟩, fun S hS => ?_⟩
    have os := hnone.2.2
    have orf := rim_few os
    refine lc_rep (K := K) (β := Int) (walk_list (K := K) (xs := pv)) hS [some (.ref sc), some (.ref d), v2, some (.ref v), v4, v5, some (.ref D), some (.ref rl), some (.int mi), some (.ref du), some (.ref sh), some (.ref kn), v12, v13, some (.ref t1), some (.ref D), some (.ref wh), none, none, none, none, none, none] rfl (fun _ _ e h => ex_l e h) (sq_of hD19) placed (fun _ => true) (fun q => ((shrF one q : Nat) : Int)) lpv.symm (by omega) (fun j a x Hc He hj ee y5 R0 R hR0 hR => ?_) (fun ss H20 e20 hS20 rS20 => ?_)
    · obtain ⟨rfl, hx⟩ := y5
      obtain ⟨b, hb, z, rfl, hz⟩ := paired_get (MkAll.ex ee rp19) hx
      rw [hj] at hb
      obtain rfl := Option.some.inj hb
      obtain ⟨_, _, na5, na6⟩ := hnear a (List.mem_of_getElem? hj)
      refine ⟨rfl, _, rfl, t1, _, 2, _, rfl, rfl, ex_t ee ho19, rfl, one.2.2, rfl, ⟨by omega, by omega⟩, fun l rxs H5 e5 hn5 hl5 rl5 => ⟨l, rfl, ⟨_, sq_of hl5⟩, fun L hL => ?_⟩⟩
      refine lc_val (walk_list (K := K) (xs := rxs)) hL [some (.ref sc), some (.ref d), v2, some (.ref v), none, none, some (.ref D), some (.ref rl), some (.int mi), some (.ref du), some (.ref sh), some (.ref kn), v12, v13, some (.ref t1), some (.ref D), some (.ref wh), none, none, some (.ref z), none, none, none] rfl (fun _ _ e h => ex_l e h) (sq_of hl5) (rimF one.2.2) (fun o => decide ((one.1 + o.1 - a.1, one.2.1 + o.2 - a.2.1) ∈ rimF a.2.2)) (fun _ => .int 1) rl5.length.symm (by have := rl5.length; omega) (fun m o y Hg Hh hm e2 y6 R1 R2 hR1 hR2 => ?_) (fun H6 e6 hL6 => ?_)
      · obtain ⟨rfl, hy⟩ := y6
        obtain ⟨o', ho', ro⟩ := (rl5.ex e2).get hy
        rw [hm] at ho'
        obtain rfl := Option.some.inj ho'
        obtain ⟨w9, rfl, hw9⟩ := ro.p2_inv
        have hoe := ex_t ((ee.trans e5).trans e2) ho19
        have hze := ex_t (K := K) (e5.trans e2) (st_of hz)
        refine ⟨w9, [_, _], rfl, hw9, rfl, _, _, rfl, _, _, rfl, rfl, rfl, ?_⟩
        refine ⟨_, rfl, t1, _, 0, _, rfl, rfl, hoe, rfl, _, rfl, _, _, rfl, rfl, _, rfl, z, _, 0, _, rfl, rfl, hze, rfl, _, _, rfl, rfl, ?_⟩
        refine ⟨_, rfl, t1, _, 1, _, rfl, rfl, hoe, rfl, _, rfl, _, _, rfl, rfl, _, rfl, z, _, 1, _, rfl, rfl, hze, rfl, _, _, rfl, rfl, ?_⟩
        refine ⟨by show 2 ≤ sizeLine; decide, fun t ht => ?_⟩
        have eT := Ex.new (o := .tup [V.int (one.1 + o.1 - a.1), V.int (one.2.1 + o.2 - a.2.1)]) ht
        refine ⟨_, rfl, z, _, 2, _, rfl, rfl, ex_t eT hze, rfl, a.2.2, rfl, ⟨by omega, by omega⟩, fun l2 rxs2 H7 e7 hn7 hl7 rl7 => ?_⟩
        refine ⟨(one.1 + o.1 - a.1, one.2.1 + o.2 - a.2.1), rimF a.2.2, Rep.p2 (ex_t e7 (st_of upd_same)), Rep.lst (sq_of hl7) rl7, fun b hb => ⟨_, rfl, ite2 (fun h => ?_) (fun h => ?_)⟩⟩
        · exact hR2 _ (eT.trans e7) (decide_eq_true (hb.mp h))
        · exact hR1 _ (eT.trans e7) (decide_eq_false fun y => h (hb.mpr y))
      · refine ⟨L, _, rfl, .inl (sq_of hL6), hR _ _ (e5.trans e6) rfl ?_⟩
        rw [List.length_map]
        exact Rep.int _
    rw [filter_true] at rS20
    have hss := rS20.ints_inv
    subst hss
    have hD20 := e20 _ _ hD19
    have rp20 := MkAll.ex e20 rp19
    have ho20 := ex_t e20 ho19
    refine ⟨_, rfl, D, rfl, ⟨_, sq_of hD20⟩, fun S2 hS2 => ?_⟩
    refine lc_rep (K := K) (β := Int) (walk_list (K := K) (xs := pv)) hS2 [some (.ref sc), some (.ref d), v2, some (.ref v), v4, v5, some (.ref D), some (.ref rl), some (.int mi), some (.ref du), some (.ref sh), some (.ref kn), v12, v13, some (.ref t1), some (.ref D), some (.ref wh), some (.ref S), none, none, none, none, none] rfl (fun _ _ e h => ex_l e h) (sq_of hD20) placed (fun _ => true) (fun q => ((shrF one q : Nat) : Int)) lpv.symm (by omega) (fun j a x Hc He hj ee y5 R0 R hR0 hR => ?_) (fun ss H21 e21 hS21 rS21 => ?_)
    · obtain ⟨rfl, hx⟩ := y5
      obtain ⟨b, hb, z, rfl, hz⟩ := paired_get (MkAll.ex ee rp20) hx
      rw [hj] at hb
      obtain rfl := Option.some.inj hb
      exact ⟨rfl, _, rfl, _, rfl, t1, z, one, a, rfl, ex_t ee ho20, st_of hz, hnone, hnear a (List.mem_of_getElem? hj), fun H7 e7 => hR _ _ e7 rfl (Rep.int _)⟩
    rw [filter_true] at rS21
    refine ⟨_, rfl, _, _, Rep.lst (sq_of hS21) rS21, Rep.lst (sq_of (e21 _ _ hS20)) (rS20.ex e21), _, rfl, ite2 (fun h => ?_) (fun _ => ?_)⟩
    · exfalso
      rw [decide_eq_true rfl] at h
      exact Bool.noConfusion h
    have hD21 := e21 _ _ hD20
    have rp21 := MkAll.ex e21 rp20
    have ho21 := ex_t e21 ho20
    have hSx := e21 _ _ hS20
    refine ⟨_, rfl, _, rfl, _, rfl, t1, D, pv, one, placed, mi, rfl, ho21, sq_of hD21, MkAll.r3 rp21, hnone, hnear, by omega, fun H22 e22 => ?_⟩
    refine ⟨_, rfl, S, _, rfl, sq_of (e22 _ _ hSx), _, rfl, t1, _, 2, _, rfl, rfl, ex_t e22 ho21, rfl, one.2.2, rfl, ⟨by omega, by omega⟩, fun l rxs H23 e23 hn23 hl23 rl23 => ⟨l, rxs, rfl, .inl (sq_of hl23), _, rfl, _, _, rfl, rfl, _, _, rfl, rfl, rfl, _, rfl, ite2 (fun h => ?_) (fun _ => ?_)⟩⟩
    · exfalso
      rw [rl23.length, isum_cast, decide_eq_true rfl] at h
      exact Bool.noConfusion h
    have e223 := e22.trans e23
    refine ⟨_, rfl, _, rfl, _, rfl, t1, D, pv, one, placed, mi, rfl, ex_t e223 ho21, sq_of (e223 _ _ hD21), MkAll.r3 (MkAll.ex e223 rp21), hnone, hnear, by omega, fun H24 e24 => ⟨_, rfl, _, rfl, ite2 (fun _ => q _) (fun h => ?_)⟩⟩
    have hbar : (((placed.map (shrF one)).sum : Nat) : Int) < ((rimF one.2.2).length : Nat) - mi := by
      by_cases z : (((placed.map (shrF one)).sum : Nat) : Int) < ((rimF one.2.2).length : Nat) - mi
      · exact z
      · exact absurd (by rw [decide_eq_false z]; rfl) h
    have e1924 := ((e20.trans e21).trans e223).trans e24
    refine ⟨_, rfl, _, rfl, wh, wys, ws, rfl, sq_of (e1924 _ _ hw19), MkAll.ex e1924 rw19, by omega, fun H25 vz us2 bs2 e25 hv25 r25 nd25 mem25 pw25 => ?_⟩
    have few2 : bs2.length < 64 := by
      have := nodup_le nd25 fun b hb => (mem25 b).mp hb
      omega
    refine ⟨_, rfl, _, rfl, vz, rl, us2, bs2, [1, 2, 3], mi, rfl, sq_of hv25, MkAll.r2 r25, few2, sq_of ((e1924.trans e25) _ _ hrl19), Nat.le_refl _, r13, ⟨by omega, by omega⟩, fun H26 rv2 ts2 e26 rrt2 memt2 pwt2 ndt2 => ?_⟩
    refine ⟨one, ts2, Rep.p3 (ex_t ((e1924.trans e25).trans e26) ho19), rrt2, fun b hb => ?_⟩
    have hbt : b = true := hb.mpr fun hm => by
      have h1 := ((memt2 one).mp hm).2
      have h2 := barred_le (p := one) (cells := bs2) (others := placed) fun c hc => okw c ((mem25 c).mp hc)
      omega
    rw [hbt]
    exact q _
end
end My


-- End
namespace My
open PySem L2 Evl
def spL (K : PySem.W.Frag) : Sp := fun vs H Q _ => ∃ (a : Addr) (ns : List Int), vs = [.ref a] ∧ SqL K H a (ns.map V.int) ∧ ∀ H', Q (.bl true) H'
theorem all_mk {l : PySem.W.OpenLaw} {w : World} {K : PySem.W.Frag} {h : Heap} {mg : Str → Option Value} {fa : Addr} (X : K.In h) (G : h.Ns mainGlobals mg) (hfa : mg "law" = some (.ref fa))
    {f_rim : Addr} {od_rim an_rim : Option Addr} {sl_rim : Array (Option Value)} {oc_rim kV_rim dc_rim pm_rim cd_rim ct_rim : Value}
    {f_radius_of : Addr} {od_radius_of an_radius_of : Option Addr} {sl_radius_of : Array (Option Value)} {oc_radius_of kV_radius_of dc_radius_of pm_radius_of cd_radius_of ct_radius_of : Value}
    {f_votes : Addr} {od_votes an_votes : Option Addr} {sl_votes : Array (Option Value)} {oc_votes kV_votes dc_votes pm_votes cd_votes ct_votes : Value}
    {f_rims_in : Addr} {od_rims_in an_rims_in : Option Addr} {sl_rims_in : Array (Option Value)} {oc_rims_in kV_rims_in dc_rims_in pm_rims_in cd_rims_in ct_rims_in : Value}
    {f_shared_cells : Addr} {od_shared_cells an_shared_cells : Option Addr} {sl_shared_cells : Array (Option Value)} {oc_shared_cells kV_shared_cells dc_shared_cells pm_shared_cells cd_shared_cells ct_shared_cells : Value}
    {f_by_radius : Addr} {od_by_radius an_by_radius : Option Addr} {sl_by_radius : Array (Option Value)} {oc_by_radius kV_by_radius dc_by_radius pm_by_radius cd_by_radius ct_by_radius : Value}
    {f_is_barred : Addr} {od_is_barred an_is_barred : Option Addr} {sl_is_barred : Array (Option Value)} {oc_is_barred kV_is_barred dc_is_barred pm_is_barred cd_is_barred ct_is_barred : Value}
    {f_law_number : Addr} {od_law_number an_law_number : Option Addr} {sl_law_number : Array (Option Value)} {oc_law_number kV_law_number dc_law_number pm_law_number cd_law_number ct_law_number : Value}
    {f_law_take : Addr} {od_law_take an_law_take : Option Addr} {sl_law_take : Array (Option Value)} {oc_law_take kV_law_take dc_law_take pm_law_take cd_law_take ct_law_take : Value}
    {f_law_unlike : Addr} {od_law_unlike an_law_unlike : Option Addr} {sl_law_unlike : Array (Option Value)} {oc_law_unlike kV_law_unlike dc_law_unlike pm_law_unlike cd_law_unlike ct_law_unlike : Value}
    {f_law : Addr} {od_law an_law : Option Addr} {sl_law : Array (Option Value)} {oc_law kV_law dc_law pm_law cd_law ct_law : Value}
    (zn_abs : PySem.W.nsIn K mainGlobals "abs" = some none)
    (zn_all : PySem.W.nsIn K mainGlobals "all" = some none)
    (zn_bool : PySem.W.nsIn K mainGlobals "bool" = some none)
    (zn_dict : PySem.W.nsIn K mainGlobals "dict" = some none)
    (zn_enumerate : PySem.W.nsIn K mainGlobals "enumerate" = some none)
    (zn_int : PySem.W.nsIn K mainGlobals "int" = some none)
    (zn_isinstance : PySem.W.nsIn K mainGlobals "isinstance" = some none)
    (zn_len : PySem.W.nsIn K mainGlobals "len" = some none)
    (zn_list : PySem.W.nsIn K mainGlobals "list" = some none)
    (zn_range : PySem.W.nsIn K mainGlobals "range" = some none)
    (zn_set : PySem.W.nsIn K mainGlobals "set" = some none)
    (zn_sorted : PySem.W.nsIn K mainGlobals "sorted" = some none)
    (zn_sum : PySem.W.nsIn K mainGlobals "sum" = some none)
    (zn_tuple : PySem.W.nsIn K mainGlobals "tuple" = some none)
    (zn_zip : PySem.W.nsIn K mainGlobals "zip" = some none)
    (zb_isqrt : PySem.W.nsIn K mainGlobals "isqrt" = some (some (.builtin "math.isqrt")))
    (za_rim : PySem.W.nsIn K mainGlobals "rim" = some (some (.ref f_rim)))
    (zl_rim : K.lookup f_rim = some ⟨oc_rim, od_rim, .func (PySem.W.fnOf "rim" "rim" (defArgs s_rim) (defBody s_rim) (defScope s_rim) .none kV_rim dc_rim pm_rim an_rim cd_rim ct_rim), sl_rim⟩)
    (zd_rim : PySem.W.codeIn K cd_rim "rim" = true)
    (zk_rim : PySem.W.keepIn K (.ref f_rim) = true)
    (za_radius_of : PySem.W.nsIn K mainGlobals "radius_of" = some (some (.ref f_radius_of)))
    (zl_radius_of : K.lookup f_radius_of = some ⟨oc_radius_of, od_radius_of, .func (PySem.W.fnOf "radius_of" "radius_of" (defArgs s_radius_of) (defBody s_radius_of) (defScope s_radius_of) .none kV_radius_of dc_radius_of pm_radius_of an_radius_of cd_radius_of ct_radius_of), sl_radius_of⟩)
    (zd_radius_of : PySem.W.codeIn K cd_radius_of "radius_of" = true)
    (zk_radius_of : PySem.W.keepIn K (.ref f_radius_of) = true)
    (za_votes : PySem.W.nsIn K mainGlobals "votes" = some (some (.ref f_votes)))
    (zl_votes : K.lookup f_votes = some ⟨oc_votes, od_votes, .func (PySem.W.fnOf "votes" "votes" (defArgs s_votes) (defBody s_votes) (defScope s_votes) .none kV_votes dc_votes pm_votes an_votes cd_votes ct_votes), sl_votes⟩)
    (zd_votes : PySem.W.codeIn K cd_votes "votes" = true)
    (zk_votes : PySem.W.keepIn K (.ref f_votes) = true)
    (za_rims_in : PySem.W.nsIn K mainGlobals "rims_in" = some (some (.ref f_rims_in)))
    (zl_rims_in : K.lookup f_rims_in = some ⟨oc_rims_in, od_rims_in, .func (PySem.W.fnOf "rims_in" "rims_in" (defArgs s_rims_in) (defBody s_rims_in) (defScope s_rims_in) .none kV_rims_in dc_rims_in pm_rims_in an_rims_in cd_rims_in ct_rims_in), sl_rims_in⟩)
    (zd_rims_in : PySem.W.codeIn K cd_rims_in "rims_in" = true)
    (zk_rims_in : PySem.W.keepIn K (.ref f_rims_in) = true)
    (za_shared_cells : PySem.W.nsIn K mainGlobals "shared_cells" = some (some (.ref f_shared_cells)))
    (zl_shared_cells : K.lookup f_shared_cells = some ⟨oc_shared_cells, od_shared_cells, .func (PySem.W.fnOf "shared_cells" "shared_cells" (defArgs s_shared_cells) (defBody s_shared_cells) (defScope s_shared_cells) .none kV_shared_cells dc_shared_cells pm_shared_cells an_shared_cells cd_shared_cells ct_shared_cells), sl_shared_cells⟩)
    (zd_shared_cells : PySem.W.codeIn K cd_shared_cells "shared_cells" = true)
    (zk_shared_cells : PySem.W.keepIn K (.ref f_shared_cells) = true)
    (za_by_radius : PySem.W.nsIn K mainGlobals "_by_radius" = some (some (.ref f_by_radius)))
    (zl_by_radius : K.lookup f_by_radius = some ⟨oc_by_radius, od_by_radius, .func (PySem.W.fnOf "_by_radius" "_by_radius" (defArgs s_by_radius) (defBody s_by_radius) (defScope s_by_radius) .none kV_by_radius dc_by_radius pm_by_radius an_by_radius cd_by_radius ct_by_radius), sl_by_radius⟩)
    (zd_by_radius : PySem.W.codeIn K cd_by_radius "_by_radius" = true)
    (zk_by_radius : PySem.W.keepIn K (.ref f_by_radius) = true)
    (za_is_barred : PySem.W.nsIn K mainGlobals "is_barred" = some (some (.ref f_is_barred)))
    (zl_is_barred : K.lookup f_is_barred = some ⟨oc_is_barred, od_is_barred, .func (PySem.W.fnOf "is_barred" "is_barred" (defArgs s_is_barred) (defBody s_is_barred) (defScope s_is_barred) .none kV_is_barred dc_is_barred pm_is_barred an_is_barred cd_is_barred ct_is_barred), sl_is_barred⟩)
    (zd_is_barred : PySem.W.codeIn K cd_is_barred "is_barred" = true)
    (zk_is_barred : PySem.W.keepIn K (.ref f_is_barred) = true)
    (za_law_number : PySem.W.nsIn K mainGlobals "_law_number" = some (some (.ref f_law_number)))
    (zl_law_number : K.lookup f_law_number = some ⟨oc_law_number, od_law_number, .func (PySem.W.fnOf "_law_number" "_law_number" (defArgs s_law_number) (defBody s_law_number) (defScope s_law_number) .none kV_law_number dc_law_number pm_law_number an_law_number cd_law_number ct_law_number), sl_law_number⟩)
    (zd_law_number : PySem.W.codeIn K cd_law_number "_law_number" = true)
    (zk_law_number : PySem.W.keepIn K (.ref f_law_number) = true)
    (za_law_take : PySem.W.nsIn K mainGlobals "_law_take" = some (some (.ref f_law_take)))
    (zl_law_take : K.lookup f_law_take = some ⟨oc_law_take, od_law_take, .func (PySem.W.fnOf "_law_take" "_law_take" (defArgs s_law_take) (defBody s_law_take) (defScope s_law_take) .none kV_law_take dc_law_take pm_law_take an_law_take cd_law_take ct_law_take), sl_law_take⟩)
    (zd_law_take : PySem.W.codeIn K cd_law_take "_law_take" = true)
    (zk_law_take : PySem.W.keepIn K (.ref f_law_take) = true)
    (za_law_unlike : PySem.W.nsIn K mainGlobals "_law_unlike" = some (some (.ref f_law_unlike)))
    (zl_law_unlike : K.lookup f_law_unlike = some ⟨oc_law_unlike, od_law_unlike, .func (PySem.W.fnOf "_law_unlike" "_law_unlike" (defArgs s_law_unlike) (defBody s_law_unlike) (defScope s_law_unlike) .none kV_law_unlike dc_law_unlike pm_law_unlike an_law_unlike cd_law_unlike ct_law_unlike), sl_law_unlike⟩)
    (zd_law_unlike : PySem.W.codeIn K cd_law_unlike "_law_unlike" = true)
    (zk_law_unlike : PySem.W.keepIn K (.ref f_law_unlike) = true)
    (za_law : PySem.W.nsIn K mainGlobals "law" = some (some (.ref f_law)))
    (zl_law : K.lookup f_law = some ⟨oc_law, od_law, .func (PySem.W.fnOf "law" "law" (defArgs s_law) (defBody s_law) (defScope s_law) .none kV_law dc_law pm_law an_law cd_law ct_law), sl_law⟩)
    (zd_law : PySem.W.codeIn K cd_law "law" = true)
    (zk_law : PySem.W.keepIn K (.ref f_law) = true) :
    ∃ fd : FuncData, (∀ (s : Shared) (v : Value), BindsTo s fd ⟨[v], []⟩ [("script", v)]) ∧ ∀ base : Heap, K.In base → base.Ns mainGlobals mg → FnOk l.prog w K mg base CX0 5 fa fd ["script"] (spL K) := by
  have e := hfa.symm.trans (PySem.W.mg_of X G za_law)
  cases e
  exact ⟨PySem.W.fnOf "law" "law" (defArgs s_law) (defBody s_law) (defScope s_law) .none kV_law dc_law pm_law an_law cd_law ct_law, fun s v => .of_eq rfl, fun base _ _ => ok_law (P := l.prog) (w := w) (base := base) ({
    n_abs := PySem.W.mg_none_of X G zn_abs
    n_all := PySem.W.mg_none_of X G zn_all
    n_bool := PySem.W.mg_none_of X G zn_bool
    n_dict := PySem.W.mg_none_of X G zn_dict
    n_enumerate := PySem.W.mg_none_of X G zn_enumerate
    n_int := PySem.W.mg_none_of X G zn_int
    n_isinstance := PySem.W.mg_none_of X G zn_isinstance
    n_len := PySem.W.mg_none_of X G zn_len
    n_list := PySem.W.mg_none_of X G zn_list
    n_range := PySem.W.mg_none_of X G zn_range
    n_set := PySem.W.mg_none_of X G zn_set
    n_sorted := PySem.W.mg_none_of X G zn_sorted
    n_sum := PySem.W.mg_none_of X G zn_sum
    n_tuple := PySem.W.mg_none_of X G zn_tuple
    n_zip := PySem.W.mg_none_of X G zn_zip
    b_isqrt := PySem.W.mg_of X G zb_isqrt
    d_rim := ⟨_, _, fun_mk (st := s_rim) zl_rim zd_rim zk_rim, PySem.W.mg_of X G za_rim, zk_rim, (fun_mk (st := s_rim) zl_rim zd_rim zk_rim).binds (ps := ["radius"]) fun _ _ _ _ _ _ us hl => match us, hl with | [_], _ => rfl⟩
    d_radius_of := ⟨_, _, fun_mk (st := s_radius_of) zl_radius_of zd_radius_of zk_radius_of, PySem.W.mg_of X G za_radius_of, zk_radius_of, (fun_mk (st := s_radius_of) zl_radius_of zd_radius_of zk_radius_of).binds (ps := ["x", "y"]) fun _ _ _ _ _ _ us hl => match us, hl with | [_, _], _ => rfl⟩
    d_votes := ⟨_, _, fun_mk (st := s_votes) zl_votes zd_votes zk_votes, PySem.W.mg_of X G za_votes, zk_votes, (fun_mk (st := s_votes) zl_votes zd_votes zk_votes).binds (ps := ["cells", "radii"]) fun _ _ _ _ _ _ us hl => match us, hl with | [_, _], _ => rfl⟩
    d_rims_in := ⟨_, _, fun_mk (st := s_rims_in) zl_rims_in zd_rims_in zk_rims_in, PySem.W.mg_of X G za_rims_in, zk_rims_in, (fun_mk (st := s_rims_in) zl_rims_in zd_rims_in zk_rims_in).binds (ps := ["cells", "radii", "missing"]) fun _ _ _ _ _ _ us hl => match us, hl with | [_, _, _], _ => rfl⟩
    d_shared_cells := ⟨_, _, fun_mk (st := s_shared_cells) zl_shared_cells zd_shared_cells zk_shared_cells, PySem.W.mg_of X G za_shared_cells, zk_shared_cells, (fun_mk (st := s_shared_cells) zl_shared_cells zd_shared_cells zk_shared_cells).binds (ps := ["one", "other"]) fun _ _ _ _ _ _ us hl => match us, hl with | [_, _], _ => rfl⟩
    d_by_radius := ⟨_, _, fun_mk (st := s_by_radius) zl_by_radius zd_by_radius zk_by_radius, PySem.W.mg_of X G za_by_radius, zk_by_radius, (fun_mk (st := s_by_radius) zl_by_radius zd_by_radius zk_by_radius).binds (ps := ["circle"]) fun _ _ _ _ _ _ us hl => match us, hl with | [_], _ => rfl⟩
    d_is_barred := ⟨_, _, fun_mk (st := s_is_barred) zl_is_barred zd_is_barred zk_is_barred, PySem.W.mg_of X G za_is_barred, zk_is_barred, (fun_mk (st := s_is_barred) zl_is_barred zd_is_barred zk_is_barred).binds (ps := ["one", "others", "missing"]) fun _ _ _ _ _ _ us hl => match us, hl with | [_, _, _], _ => rfl⟩
    d_law_number := ⟨_, _, fun_mk (st := s_law_number) zl_law_number zd_law_number zk_law_number, PySem.W.mg_of X G za_law_number, zk_law_number, (fun_mk (st := s_law_number) zl_law_number zd_law_number zk_law_number).binds (ps := ["script", "index"]) fun _ _ _ _ _ _ us hl => match us, hl with | [_, _], _ => rfl⟩
    d_law_take := ⟨_, _, fun_mk (st := s_law_take) zl_law_take zd_law_take zk_law_take, PySem.W.mg_of X G za_law_take, zk_law_take, (fun_mk (st := s_law_take) zl_law_take zd_law_take zk_law_take).binds (ps := ["draw", "many"]) fun _ _ _ _ _ _ us hl => match us, hl with | [_, _], _ => rfl⟩
    d_law_unlike := ⟨_, _, fun_mk (st := s_law_unlike) zl_law_unlike zd_law_unlike zk_law_unlike, PySem.W.mg_of X G za_law_unlike, zk_law_unlike, (fun_mk (st := s_law_unlike) zl_law_unlike zd_law_unlike zk_law_unlike).binds (ps := ["items"]) fun _ _ _ _ _ _ us hl => match us, hl with | [_], _ => rfl⟩
    d_law := ⟨_, _, fun_mk (st := s_law) zl_law zd_law zk_law, PySem.W.mg_of X G za_law, zk_law, (fun_mk (st := s_law) zl_law zd_law zk_law).binds (ps := ["script"]) fun _ _ _ _ _ _ us hl => match us, hl with | [_], _ => rfl⟩ } : Env K mg)⟩
theorem walk {l : PySem.W.OpenLaw} {q : Program} {loose : List Str} {XP : (Str → Option Value) → Heap → Prop} {YP : World → Heap → Prop} {d : DefRec} {K : Params → PySem.W.Frag} (hn : l.most = some 63) (hdf : d.params.defaults = [])
    (hY : ∀ (w : World) (h : Heap), YP w h → (K w.params).In h)
    (F : ∀ (w : World) (mg : Str → Option Value) (fa : Addr) (h : Heap), (K w.params).In h → h.Ns mainGlobals mg → mg d.name = some (.ref fa) →
      ∃ fd : FuncData, (∀ (s : Shared) (u : Value), BindsTo s fd ⟨[u], []⟩ [("script", u)]) ∧ ∀ base : Heap, (K w.params).In base → base.Ns mainGlobals mg → FnOk l.prog w (K w.params) mg base CX0 5 fa fd ["script"] (spL (K w.params))) :
    PySem.W.WalkO q loose XP YP l.row.toRowW d [] (fun f vs => PySem.call f vs) :=
  L2.walk_of (n := 63) (k := 5) (x := "script") (CX := fun _ => CX0) (sp := fun w => spL (K w.params)) hn (by decide) hdf ⟨rfl, by decide, by decide⟩ hY F (fun _ _ a ns hl _ hS => ⟨a, ns, rfl, hS, fun _ => rfl⟩) fun _ _ _ _ _ z => z
end My
open PySem PySem.W PyProof.Rows
set_option maxRecDepth 100000 in
set_option maxHeartbeats 0 in
theorem PySem.Challenge.cw_moonfall_k60_whole_rims_holds : PySem.Challenge.rw_moonfall_k60_whole_rims.Holds := by
  w_on; o_law; k_head; (case hw => w_witness2)
  k_fill
  refine My.walk (l := PySem.Challenge.rw_moonfall_k60_whole_rims) rfl rfl (fun w h Y => PySem.W.kIn_of Y) ?F
  case F =>
    intro w mg fa h KX G hmg
    refine' My.all_mk KX G hmg ?zn_abs ?zn_all ?zn_bool ?zn_dict ?zn_enumerate ?zn_int ?zn_isinstance ?zn_len ?zn_list ?zn_range ?zn_set ?zn_sorted ?zn_sum ?zn_tuple ?zn_zip ?zb_isqrt ?za_rim ?zl_rim ?zd_rim ?zk_rim ?za_radius_of ?zl_radius_of ?zd_radius_of ?zk_radius_of ?za_votes ?zl_votes ?zd_votes ?zk_votes ?za_rims_in ?zl_rims_in ?zd_rims_in ?zk_rims_in ?za_shared_cells ?zl_shared_cells ?zd_shared_cells ?zk_shared_cells ?za_by_radius ?zl_by_radius ?zd_by_radius ?zk_by_radius ?za_is_barred ?zl_is_barred ?zd_is_barred ?zk_is_barred ?za_law_number ?zl_law_number ?zd_law_number ?zk_law_number ?za_law_take ?zl_law_take ?zd_law_take ?zk_law_take ?za_law_unlike ?zl_law_unlike ?zd_law_unlike ?zk_law_unlike ?za_law ?zl_law ?zd_law ?zk_law
    (case zn_abs => k_is)
    (case zn_all => k_is)
    (case zn_bool => k_is)
    (case zn_dict => k_is)
    (case zn_enumerate => k_is)
    (case zn_int => k_is)
    (case zn_isinstance => k_is)
    (case zn_len => k_is)
    (case zn_list => k_is)
    (case zn_range => k_is)
    (case zn_set => k_is)
    (case zn_sorted => k_is)
    (case zn_sum => k_is)
    (case zn_tuple => k_is)
    (case zn_zip => k_is)
    (case zb_isqrt => k_is)
    (case za_rim => k_is)
    (case zl_rim => k_is)
    (case zd_rim => k_is)
    (case zk_rim => k_is)
    (case za_radius_of => k_is)
    (case zl_radius_of => k_is)
    (case zd_radius_of => k_is)
    (case zk_radius_of => k_is)
    (case za_votes => k_is)
    (case zl_votes => k_is)
    (case zd_votes => k_is)
    (case zk_votes => k_is)
    (case za_rims_in => k_is)
    (case zl_rims_in => k_is)
    (case zd_rims_in => k_is)
    (case zk_rims_in => k_is)
    (case za_shared_cells => k_is)
    (case zl_shared_cells => k_is)
    (case zd_shared_cells => k_is)
    (case zk_shared_cells => k_is)
    (case za_by_radius => k_is)
    (case zl_by_radius => k_is)
    (case zd_by_radius => k_is)
    (case zk_by_radius => k_is)
    (case za_is_barred => k_is)
    (case zl_is_barred => k_is)
    (case zd_is_barred => k_is)
    (case zk_is_barred => k_is)
    (case za_law_number => k_is)
    (case zl_law_number => k_is)
    (case zd_law_number => k_is)
    (case zk_law_number => k_is)
    (case za_law_take => k_is)
    (case zl_law_take => k_is)
    (case zd_law_take => k_is)
    (case zk_law_take => k_is)
    (case za_law_unlike => k_is)
    (case zl_law_unlike => k_is)
    (case zd_law_unlike => k_is)
    (case zk_law_unlike => k_is)
    (case za_law => k_is)
    (case zl_law => k_is)
    (case zd_law => k_is)
    (case zk_law => k_is)

