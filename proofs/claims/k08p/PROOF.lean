import PyProof.Rows.All
import Wide.All
import OpenK.AllK
import Wide.FinOn
import HandS.ForMost
import HandS.Flow
import HandS.IsInst
import HandS.Zip
import HandS.TupAny
import HandS.SortOrd
import HandS.SortInts
import HandS.Evl
import HandS.Zip0
import PyProof.Draws
import PyProof.EnumMake
import HandS.TupSets
import HandS.SortKw
import HandS.Walk
import HandS.Exc
import HandS.ExcInit
import HandS.ExcSuper
import HandS.ExcField
import KE.KExcInit
import HandS.SetFor
import HandS.Strs
import HandS.OwnEq
import PyProof.TupleOfSeq
import PyProof.ListCopy
import HandS.WideBits
import PySem.Challenge.RW_moonfall_k08_whole_ways
import HandS.Deep
set_option Elab.async false
set_option maxRecDepth 100000
set_option linter.all false
set_option maxHeartbeats 4000000
-- Dat
namespace My
open PySem L2 Evl
/-! ### data: what a Python value is as a value of Lean -/
class Py (α : Type) where
  enc : α → PyData
  eq : ∀ a b, PyData.eqv (enc a) (enc b) = true ↔ a = b
  lay : ∀ a, (enc a).canLay0 = true
  dep : Nat
  depth : ∀ a, (enc a).depth ≤ dep
theorem Py.shaped {α : Type} [Py α] (h : Py.dep α ≤ 64) (a : α) : SeqAt.shaped (Py.enc a) = true := by
  unfold SeqAt.shaped
  rw [Py.lay a, decide_eq_true (Nat.le_trans (Py.depth a) h)]
  rfl
theorem Py.eqv {α : Type} [DecidableEq α] [Py α] (a b : α) : PyData.eqv (Py.enc a) (Py.enc b) = decide (a = b) := by
  by_cases h : a = b
  · rw [decide_eq_true h]
    exact (Py.eq a b).mpr h
  · rw [decide_eq_false h]
    cases e : PyData.eqv (Py.enc a) (Py.enc b) with
    | false => rfl
    | true => exact absurd ((Py.eq a b).mp e) h
instance : Py Int where
  enc := .int
  eq := fun a b => by simp [PyData.eqv]
  lay := fun a => rfl
  dep := 0
  depth := fun a => Nat.le_refl _
theorem encAll_eq {α : Type} [Py α] : ∀ xs ys : List α, PyData.eqvAll (xs.map Py.enc) (ys.map Py.enc) = true ↔ xs = ys
  | [], [] => by simp [PyData.eqvAll]
  | [], y :: ys => by simp [PyData.eqvAll]
  | x :: xs, [] => by simp [PyData.eqvAll]
  | x :: xs, y :: ys => by
    have h := encAll_eq xs ys
    simp only [List.map_cons, PyData.eqvAll, Bool.and_eq_true, List.cons.injEq, h, Py.eq]
theorem encAll_lay {α : Type} [Py α] : ∀ xs : List α, PyData.canLayAll0 (xs.map Py.enc) = true
  | [] => rfl
  | x :: xs => by
    simp only [List.map_cons, PyData.canLayAll0, Py.lay, encAll_lay xs, Bool.and_self]
theorem encAll_dep {α : Type} [Py α] : ∀ xs : List α, PyData.depthAll (xs.map Py.enc) ≤ Py.dep α
  | [] => Nat.zero_le _
  | x :: xs => by
    simp only [List.map_cons, PyData.depthAll]
    exact Nat.max_le.mpr ⟨Py.depth x, encAll_dep xs⟩
instance {α : Type} [Py α] : Py (List α) where
  enc := fun xs => .list (xs.map Py.enc)
  eq := fun a b => by
    simp only [PyData.eqv]
    exact encAll_eq a b
  lay := fun a => by
    simp only [PyData.canLay0]
    exact encAll_lay a
  dep := Py.dep α + 1
  depth := fun a => by
    simp only [PyData.depth]
    exact Nat.succ_le_succ (encAll_dep a)
/-- a tuple of any length -/
structure Tp (α : Type) where
  l : List α
  deriving DecidableEq
instance {α : Type} [Py α] : Py (Tp α) where
  enc := fun xs => .tuple (xs.l.map Py.enc)
  eq := fun a b => by
    simp only [PyData.eqv]
    rw [encAll_eq a.l b.l]
    cases a; cases b; simp
  lay := fun a => by
    simp only [PyData.canLay0]
    exact encAll_lay a.l
  dep := Py.dep α + 1
  depth := fun a => by
    simp only [PyData.depth]
    exact Nat.succ_le_succ (encAll_dep a.l)
instance : Py (Int × Int) where
  enc := fun p => .tuple [.int p.1, .int p.2]
  eq := fun a b => by
    cases a; cases b
    simp [PyData.eqv, PyData.eqvAll]
  lay := fun a => rfl
  dep := 1
  depth := fun a => by simp [PyData.depth, PyData.depthAll]
instance : Py (Int × Int × Int) where
  enc := fun p => .tuple [.int p.1, .int p.2.1, .int p.2.2]
  eq := fun a b => by
    obtain ⟨a1, a2, a3⟩ := a
    obtain ⟨b1, b2, b3⟩ := b
    simp [PyData.eqv, PyData.eqvAll]
  lay := fun a => rfl
  dep := 1
  depth := fun a => by simp [PyData.depth, PyData.depthAll]
instance : Py (Int × Int × Int × Int) where
  enc := fun p => .tuple [.int p.1, .int p.2.1, .int p.2.2.1, .int p.2.2.2]
  eq := fun a b => by
    obtain ⟨a1, a2, a3, a4⟩ := a
    obtain ⟨b1, b2, b3, b4⟩ := b
    simp [PyData.eqv, PyData.eqvAll]
  lay := fun a => rfl
  dep := 1
  depth := fun a => by simp [PyData.depth, PyData.depthAll]
instance : Py (Int × Int × Int × Int × Int) where
  enc := fun p => .tuple [.int p.1, .int p.2.1, .int p.2.2.1, .int p.2.2.2.1, .int p.2.2.2.2]
  eq := fun a b => by
    obtain ⟨a1, a2, a3, a4, a5⟩ := a
    obtain ⟨b1, b2, b3, b4, b5⟩ := b
    simp [PyData.eqv, PyData.eqvAll]
  lay := fun a => rfl
  dep := 1
  depth := fun a => by simp [PyData.depth, PyData.depthAll]
/-- a value as a Lean value, in a heap -/
def Rep {α : Type} [Py α] (K : PySem.W.Frag) (H : Hp) (v : V) (a : α) : Prop := Dp K H v (Py.enc a)
mutual
theorem Dp.ex {K : PySem.W.Frag} {H H' : Hp} (e : Ex H H') : ∀ {v : V} {d : PyData}, Dp K H v d → Dp K H' v d
  | _, _, .non => .non
  | _, _, .bl b => .bl b
  | _, _, .int i => .int i
  | _, _, .str x => .str x
  | _, _, .lst h t => .lst (ex_l e h) (Dp.exAll e t)
  | _, _, .tup h t => .tup (ex_t e h) (Dp.exAll e t)
theorem Dp.exAll {K : PySem.W.Frag} {H H' : Hp} (e : Ex H H') : ∀ {vs : List V} {ds : List PyData}, DpAll K H vs ds → DpAll K H' vs ds
  | _, _, .nil => .nil
  | _, _, .cons h t => .cons (Dp.ex e h) (Dp.exAll e t)
end
theorem Rep.ex {α : Type} [Py α] {K : PySem.W.Frag} {H H' : Hp} {v : V} {a : α} (e : Ex H H') (h : Rep K H v a) : Rep K H' v a := Dp.ex e h
section
variable {K : PySem.W.Frag} {H H' : Hp} {v : V}
theorem Rep.int (i : Int) : Rep K H (.int i) i := Dp.int i
theorem Rep.int_inv {i : Int} (h : Rep K H v i) : v = .int i := by
  cases h
  rfl
/-- the items of a list or tuple -/
inductive RAll {α : Type} [Py α] (K : PySem.W.Frag) (H : Hp) : List V → List α → Prop where
  | nil : RAll K H [] []
  | cons {v : V} {vs : List V} {a : α} {as : List α} : Rep K H v a → RAll K H vs as → RAll K H (v :: vs) (a :: as)
theorem RAll.dp {α : Type} [Py α] : ∀ {vs : List V} {as : List α}, RAll K H vs as → DpAll K H vs (as.map Py.enc)
  | _, _, .nil => .nil
  | _, _, .cons h t => .cons h t.dp
theorem RAll.of_dp {α : Type} [Py α] : ∀ {vs : List V} {as : List α}, DpAll K H vs (as.map Py.enc) → RAll K H vs as
  | [], [], _ => .nil
  | [], a :: as, h => nomatch h
  | v :: vs, [], h => nomatch h
  | v :: vs, a :: as, .cons h t => .cons h (RAll.of_dp t)
theorem RAll.ex {α : Type} [Py α] (e : Ex H H') : ∀ {vs : List V} {as : List α}, RAll K H vs as → RAll K H' vs as
  | _, _, .nil => .nil
  | _, _, .cons h t => .cons (h.ex e) (t.ex e)
theorem RAll.length {α : Type} [Py α] : ∀ {vs : List V} {as : List α}, RAll K H vs as → vs.length = as.length
  | _, _, .nil => rfl
  | _, _, .cons _ t => congrArg (· + 1) t.length
theorem RAll.get {α : Type} [Py α] : ∀ {vs : List V} {as : List α} {i : Nat} {x : V}, RAll K H vs as → vs[i]? = some x → ∃ a, as[i]? = some a ∧ Rep K H x a
  | _, _, _, _, .nil, e => by simp at e
  | _, _, 0, _, .cons r _, e => by simp at e; subst e; exact ⟨_, rfl, r⟩
  | _, _, i + 1, x, .cons _ t, e => by
    obtain ⟨u, h1, h2⟩ := RAll.get (i := i) (x := x) t (by simpa using e)
    exact ⟨u, by simpa using h1, h2⟩
theorem RAll.get' {α : Type} [Py α] : ∀ {vs : List V} {as : List α} {i : Nat} {a : α}, RAll K H vs as → as[i]? = some a → ∃ x, vs[i]? = some x ∧ Rep K H x a
  | _, _, _, _, .nil, e => by simp at e
  | _, _, 0, _, .cons r _, e => by simp at e; subst e; exact ⟨_, rfl, r⟩
  | _, _, i + 1, x, .cons _ t, e => by
    obtain ⟨u, h1, h2⟩ := RAll.get' (i := i) (a := x) t (by simpa using e)
    exact ⟨u, by simpa using h1, h2⟩
theorem RAll.append {α : Type} [Py α] : ∀ {vs ws : List V} {as bs : List α}, RAll K H vs as → RAll K H ws bs → RAll K H (vs ++ ws) (as ++ bs)
  | _, _, _, _, .nil, s => s
  | _, _, _, _, .cons r t, s => .cons r (RAll.append t s)
theorem RAll.ints : ∀ ns : List Int, RAll K H (ns.map V.int) ns
  | [] => .nil
  | n :: r => .cons (.int n) (RAll.ints r)
theorem RAll.ints_inv : ∀ {vs : List V} {ns : List Int}, RAll K H vs ns → vs = ns.map V.int
  | _, _, .nil => rfl
  | _, _, .cons h t => by rw [h.int_inv, t.ints_inv]; rfl
theorem Rep.lst {α : Type} [Py α] {p : Addr} {vs : List V} {as : List α} (h : SqL K H p vs) (t : RAll K H vs as) : Rep K H (.ref p) as := Dp.lst h t.dp
theorem Rep.lst_inv {α : Type} [Py α] {as : List α} (h : Rep K H v as) : ∃ p vs, v = .ref p ∧ SqL K H p vs ∧ RAll K H vs as := by
  have h : Dp K H v (.list (as.map Py.enc)) := h
  cases h with
  | lst h1 t => exact ⟨_, _, rfl, h1, RAll.of_dp t⟩
theorem Rep.tp {α : Type} [Py α] {p : Addr} {vs : List V} {as : List α} (h : SqT K H p vs) (t : RAll K H vs as) : Rep K H (.ref p) (Tp.mk as) := Dp.tup h t.dp
theorem Rep.tp_inv {α : Type} [Py α] {as : List α} (h : Rep K H v (Tp.mk as)) : ∃ p vs, v = .ref p ∧ SqT K H p vs ∧ RAll K H vs as := by
  have h : Dp K H v (.tuple (as.map Py.enc)) := h
  cases h with
  | tup h1 t => exact ⟨_, _, rfl, h1, RAll.of_dp t⟩
theorem Rep.p2 {p : Addr} {a b : Int} (h : SqT K H p [.int a, .int b]) : Rep K H (.ref p) (a, b) := Dp.tup h (.cons (.int a) (.cons (.int b) .nil))
theorem Rep.p2_inv {q : Int × Int} (h : Rep K H v q) : ∃ p, v = .ref p ∧ SqT K H p [.int q.1, .int q.2] := by
  have h : Dp K H v (.tuple [.int q.1, .int q.2]) := h
  cases h with
  | tup h t => cases t with | cons h1 t => cases h1; cases t with | cons h1 t => cases h1; cases t; exact ⟨_, rfl, h⟩
theorem Rep.p3 {p : Addr} {a b c : Int} (h : SqT K H p [.int a, .int b, .int c]) : Rep K H (.ref p) (a, b, c) := Dp.tup h (.cons (.int a) (.cons (.int b) (.cons (.int c) .nil)))
theorem Rep.p3_inv {q : Int × Int × Int} (h : Rep K H v q) : ∃ p, v = .ref p ∧ SqT K H p [.int q.1, .int q.2.1, .int q.2.2] := by
  have h : Dp K H v (.tuple [.int q.1, .int q.2.1, .int q.2.2]) := h
  cases h with
  | tup h t => cases t with | cons h1 t => cases h1; cases t with | cons h1 t => cases h1; cases t with | cons h1 t => cases h1; cases t; exact ⟨_, rfl, h⟩
theorem Rep.p4 {p : Addr} {a b c d : Int} (h : SqT K H p [.int a, .int b, .int c, .int d]) : Rep K H (.ref p) (a, b, c, d) := Dp.tup h (.cons (.int a) (.cons (.int b) (.cons (.int c) (.cons (.int d) .nil))))
theorem Rep.p4_inv {q : Int × Int × Int × Int} (h : Rep K H v q) : ∃ p, v = .ref p ∧ SqT K H p [.int q.1, .int q.2.1, .int q.2.2.1, .int q.2.2.2] := by
  have h : Dp K H v (.tuple [.int q.1, .int q.2.1, .int q.2.2.1, .int q.2.2.2]) := h
  cases h with
  | tup h t => cases t with | cons h1 t => cases h1; cases t with | cons h1 t => cases h1; cases t with | cons h1 t => cases h1; cases t with | cons h1 t => cases h1; cases t; exact ⟨_, rfl, h⟩
end
/-! ### rules of my own -/
section
variable {X : Cx}
def rGetL (K : PySem.W.Frag) : V → V → Hp → VK → Prop := fun o i H Q => ∃ (p : Addr) (xs : List V) (j : Nat) (v : V), o = .ref p ∧ i = .int (j : Int) ∧ SqL K H p xs ∧ xs[j]? = some v ∧ Q v H
theorem get_list : PGet X (rGetL X.K) := by
  intro pins s σ H o i ov iv Q I ro ri h
  obtain ⟨p, xs, j, v, rfl, rfl, hq, he, q⟩ := h
  cases ro
  obtain ⟨t, rfl⟩ := ri
  obtain ⟨its, r, pl, hz⟩ := I.list hq
  obtain ⟨w, ew, rw'⟩ := r.get he
  have hj : j < its.length := (List.getElem?_eq_some_iff.mp ew).1
  have hl := r.length
  have hn := line63
  exact wpAny_getItem_list pl.isList (by omega) (by omega) (by simpa using ew) ⟨v, H, I, rw', q⟩
/-- == and != of data -/
def rEqA (K : PySem.W.Frag) (α : Type) [Py α] [DecidableEq α] : R2 := fun x y H Q => ∃ a b : α, Rep K H x a ∧ Rep K H y b ∧ Q (.bl (decide (a = b))) H
def rNeA (K : PySem.W.Frag) (α : Type) [Py α] [DecidableEq α] : R2 := fun x y H Q => ∃ a b : α, Rep K H x a ∧ Rep K H y b ∧ Q (.bl (!decide (a = b))) H
theorem op_eqA {α : Type} [Py α] [DecidableEq α] (hu : X.A.units + 64 < cLine) (h : Py.dep α ≤ 64 := by decide) : OpR X (compareOp .Eq) (rEqA X.K α) := by
  intro pins s σ H x y v u Q I rx ry hq
  obtain ⟨a, b, ha, hb, q⟩ := hq
  exact op_eqD hu pins s σ H x y v u Q I rx ry ⟨_, _, ha, hb, Py.shaped h a, Py.shaped h b, by rw [Py.eqv]; exact q⟩
theorem op_neA {α : Type} [Py α] [DecidableEq α] (hu : X.A.units + 64 < cLine) (h : Py.dep α ≤ 64 := by decide) : OpR X (compareOp .NotEq) (rNeA X.K α) := by
  intro pins s σ H x y v u Q I rx ry hq
  obtain ⟨a, b, ha, hb, q⟩ := hq
  exact op_neD hu pins s σ H x y v u Q I rx ry ⟨_, _, ha, hb, Py.shaped h a, Py.shaped h b, by rw [Py.eqv]; exact q⟩
end
/-- a def of the top: where it stands, how it is called -/
structure DefAt (K : PySem.W.Frag) (mg : Str → Option Value) (x qual : Str) (st : Stmt) (ps : List Str) where
  f : Addr
  fd : FuncData
  F : Fun K x qual st f fd
  m : mg x = some (.ref f)
  k : PySem.W.keepIn K (.ref f) = true
  b : Binds K fd ps []
structure ClsAt (K : PySem.W.Frag) (mg : Str → Option Value) (x : Str) where
  C : Addr
  cl : Cls K C
  m : mg x = some (.ref C)
  kp : PySem.W.keepIn K (.ref C) = true
  mks : PySem.W.makesIn K C = true
structure MethAt (K : PySem.W.Frag) (C : Addr) (x qual : Str) (st : Stmt) (ps : List Str) where
  f : Addr
  fd : FuncData
  F : Fun K x qual st f fd
  me : Meth K C x f
  b : Binds K fd ps []
theorem mkOf {K : PySem.W.Frag} {mg : Str → Option Value} {x qual : Str} {st : Stmt} {ps : List Str} (c : ClsAt K mg x) (m : MethAt K c.C "__init__" qual st ps) : Mk K c.C m.f := ⟨c.mks, m.me.at_, m.me.fn, c.kp⟩
end My

-- EnT
namespace PySem
open Sem (wp)
open AutoSeq1 (wpAny_loadPart')
theorem my_enumerate_newT (l : Addr) (items : Array Value) (n : Nat) (dct : Option Addr) (sl : Array (Option Value)) :
    Meets (Builtin.«enumerate.__new__» ⟨[.type "enumerate", .ref l], []⟩) (fun _ R s => s.heap.get? l = some { cls := .type "tuple", dict := dct, data := .seq items n, slots := sl } ∧
      R (.ok (.ret (.ref (s.heap.push { cls := .type "tuple_iterator", data := .fields #[.ref l, .int 0 0] }).objs.size)))
        { s with heap := (s.heap.push { cls := .type "tuple_iterator", data := .fields #[.ref l, .int 0 0] }).push { cls := .type "enumerate", data := .fields #[.none, .bool false, .ref s.heap.objs.size, rawInt 0, .none, .none] } }) :=
  .of_wp fun prog w A R s h => by
    obtain ⟨hp, g, d, tk, os⟩ := s
    obtain ⟨hl, h⟩ := h
    have hsub := sub_enumerate
    have hT : Heap.IsTuple (Shared.heap ⟨hp, g, d, tk, os⟩) l items := ⟨_, hl, rfl, n, rfl⟩
    wp_walk using wpAny_loadPart' hl
    refine wpAny_stack_any fun st => wpAny_pure ?_
    split
    · rename_i c _ _ _ _ _
      cases (c == Value.type "enumerate")
      · wp_walk using wpAny_loadPart' hl, wpAny_pyIter_tuple hT
        exact ⟨_, rfl, h⟩
      · wp_walk using wpAny_loadPart' hl, wpAny_pyIter_tuple hT
        exact ⟨_, rfl, h⟩
    · wp_walk using wpAny_loadPart' hl, wpAny_pyIter_tuple hT
      exact ⟨_, rfl, h⟩
section
variable {prog : Program} {w : World} {A : Around} {E : Value → Shared → Prop} {s : Shared}
theorem my_call_enumerate_tup {l : Addr} {items : Array Value} {Q : Value → Shared → Prop} (hL : s.heap.IsTuple l items)
    (h : ∀ h', IsEnum h' (s.heap.objs.size + 1) s.heap.objs.size 0 .none → h'.IsTupleIter s.heap.objs.size l 0 → h'.objs.size = s.heap.objs.size + 2 →
      (∀ b o, s.heap.get? b = some o → h'.get? b = some o) → Q (.ref (s.heap.objs.size + 1)) { s with heap := h' }) :
    wpAny (model prog w) A (call (.type "enumerate") [.ref l]) Q E s := by
  obtain ⟨⟨c, dct, dt, sl⟩, hl, hc, n, hd⟩ := hL
  replace hc : c = .type "tuple" := hc
  replace hd : dt = .seq items n := hd
  subst hc hd
  refine callType_new F.called_enumerate (by decide) (F.typeCall_enumerate_1 _) (F.newCall_enumerate_1 _) (fun obj => F.args_object_init_2 obj _) F.entry_enumerate_new
    (my_enumerate_newT l items n dct sl) ⟨hl, ?_⟩
  have hz : (s.heap.push { cls := .type "tuple_iterator", data := .fields #[.ref l, .int 0 0] }).objs.size = s.heap.objs.size + 1 := Heap.size_push ..
  show _ ∧ _
  rw [hz]
  have he : IsEnum ((s.heap.push { cls := .type "tuple_iterator", data := .fields #[.ref l, .int 0 0] }).push
      { cls := .type "enumerate", data := .fields #[.none, .bool false, .ref s.heap.objs.size, rawInt 0, .none, .none] }) (s.heap.objs.size + 1) s.heap.objs.size 0 .none := by
    have := Heap.get?_push_size (s.heap.push { cls := .type "tuple_iterator", data := .fields #[.ref l, .int 0 0] })
      (o := { cls := .type "enumerate", data := .fields #[.none, .bool false, .ref s.heap.objs.size, rawInt 0, .none, .none] }) rfl
    rw [hz] at this
    exact this
  refine ⟨⟨_, he, rfl⟩, h _ he ⟨_, Heap.get?_push_of_some _ (Heap.get?_push_size _ rfl), rfl, rfl⟩ (by rw [Heap.size_push, hz]) fun b o x => Heap.get?_push_of_some _ (Heap.get?_push_of_some _ x)⟩
end
theorem Draws.tup {prog : Program} {w : World} {A : Around} (hh : A.handled = none) (it l : Addr) (hne : l ≠ it) (items : Array Value) :
    Draws prog w A it [it, l] items.size (fun i v => items[i]? = some v) (fun i h => h.IsTupleIter it l i ∧ h.IsTuple l items) where
  live := fun _ _ st => let ⟨o, ho, _⟩ := st.1; ⟨o, ho⟩
  frame := fun _ _ _ st hk => ⟨st.1.at fun o e => hk it (by simp) o e, let ⟨o, ho, r⟩ := st.2; ⟨o, hk l (by simp) o ho, r⟩⟩
  item := fun i s Q E hi st hQ => by
    refine RZ.nextOf_tuple_item st.1 st.2 (x := items[i]) (by simp [hi]) fun h' hit' hs' => ?_
    exact hQ _ h' s.toks (by simp [hi]) ⟨hit', st.2.extBut hs'.extBut hne⟩ hs'
  done := fun s Q E st hE => RZ.nextOf_tuple_end hh st.1 st.2 (by simp) hE
end PySem
namespace My
open PySem PySem.Spec PyProof.Rows L2
def IteT (K : PySem.W.Frag) (a : Addr) : It :=
  ⟨fun i H => ∃ (xs : List V) (x : V), SqT K H a xs ∧ xs[i]? = some x, fun i H v H' => ∃ T x, v = .ref T ∧ H T = none ∧ H' = upd H T (.tup [.int (i : Nat), x]) ∧ ∀ xs, SqT K H a xs → xs[i]? = some x, fun i H => ∃ xs : List V, SqT K H a xs ∧ xs.length ≤ i⟩
theorem turn_enumT {P : Program} {w : World} {K : PySem.W.Frag} {elts : List Expr} {kk : Nat} {tpos : Pos} (a e it : Addr) :
    Turn P w K (.Tuple elts kk tpos) (IteT K a) [e, it] e (fun i h => (∃ old, IsEnum h e it ((i : Nat) : Int) old) ∧ h.IsTupleIter it a i ∧ e ≠ it ∧ a ≠ it ∧ a ≠ e) where
  mem := by simp
  obj := fun i h st b hb => by
    obtain ⟨⟨old, he⟩, ⟨o, ho, hc, hd⟩, _⟩ := st
    have e' : b = e ∨ b = it := by simpa using hb
    rcases e' with z | z
    · rw [z]; exact ⟨_, he, fun v q => nomatch q⟩
    · rw [z]; exact ⟨o, ho, fun v q => by rw [hd] at q; cases q⟩
  keep := fun i h h' st k => let ⟨⟨old, he⟩, hi, hne⟩ := st; ⟨⟨old, k e (by simp) _ he⟩, hi.at fun o q => k it (by simp) o q, hne⟩
  item := by
    intro X hP hw hK hc i pins s σ H E I hf st hg
    subst hP hw hK
    obtain ⟨⟨old, he⟩, hit, hne, hai, hae⟩ := st
    obtain ⟨xs, x, hq, hx⟩ := hg
    obtain ⟨its, rv, p, hz⟩ := I.tuple hq
    obtain ⟨u, hu, ru⟩ := rv.get hx
    have hel : e < s.heap.objs.size := Heap.lt_size he
    have hil : it < s.heap.objs.size := by obtain ⟨_, q, _⟩ := hit; exact Heap.lt_size q
    have hlt : i < its.toArray.size := by
      have := (List.getElem?_eq_some_iff.mp hu).1
      simpa using this
    have p' : s.heap.IsTuple a its.toArray := p
    refine wpAny_pyNext_enum_itemD (Draws.tup (A := X.A.in1) (I.ok.hd hc) it a hai its.toArray) he ⟨hit, p'⟩ hlt hne (by simp [hne, Ne.symm hae]) fun x' h' tk hx' ho hst' hT hsz hk => ?_
    have ex : x' = u := by
      have q : its.toArray[i]? = some u := by simpa using hu
      rw [q] at hx'
      exact (Option.some.inj hx').symm
    subst ex
    obtain ⟨hit', hp'⟩ := hst'
    refine ⟨_, rfl, wpAny_letOwnedTupleGo_enum (s := { s with heap := h', toks := tk + 1 }) ho fun h'' he' sb => ?_⟩
    have hT2 : h''.get? s.heap.objs.size = some { cls := .type "tuple", data := .seq #[.int i tk, x'] } := (sb.2 _ (Nat.ne_of_gt hel)).trans hT
    have new : ObjOk X.prog X.w (upd H s.heap.objs.size (.tup [.int (i : Nat), x])) h'' s.heap.objs.size (.tup [.int (i : Nat), x]) :=
      ⟨by show 2 ≤ sizeLine; decide, [.int i tk, x'], .cons ⟨_, rfl⟩ (.cons ru .nil), ⟨_, hT2, rfl, _, rfl⟩⟩
    have I1 : Inv X pins σ (upd H s.heap.objs.size (.tup [.int (i : Nat), x])) { s with heap := h'', toks := tk + 1 } :=
      I.turnedNew (ch := [e, it]) (fun b ob hb q => (sb.2 b (fun z => hb (by simp [z]))).trans (hk b ob (fun z => hb (by simp [z])) (fun z => hb (by simp [z])) q)) hf (Nat.le_refl _) new
    refine ⟨.ref s.heap.objs.size, _, I1, rfl, ⟨_, x, rfl, I.hok.fresh (Nat.le_refl _), rfl, fun ys hy => by rw [I.tuple_inj hy hq]; exact hx⟩, ⟨⟨x', ?_⟩, hit'.at fun o q => (sb.2 it (Ne.symm hne)).trans q, hne, hai, hae⟩, fun b hb => ?_⟩
    · have e1 : ((i + 1 : Nat) : Int) = (i : Int) + 1 := by omega
      rw [e1]; exact he'
    · have hb' : b < s.heap.objs.size := by
        have e' : b = e ∨ b = it := by simpa using hb
        rcases e' with z | z
        · rw [z]; exact hel
        · rw [z]; exact hil
      rw [upd_ne (Nat.ne_of_lt hb')]
      exact (hf b hb).1
  done := by
    intro X hP hw hK hc i pins s σ H E I hf st hg
    subst hP hw hK
    obtain ⟨⟨old, he⟩, hit, hne, hai, hae⟩ := st
    obtain ⟨xs, hq, hx⟩ := hg
    obtain ⟨its, rv, p, hz⟩ := I.tuple hq
    obtain ⟨f0, f1, f2, f3, f4, f5⟩ := hf it (by simp)
    have hl := rv.length
    have hT : s.TypeIs (.ref e) "enumerate" := ⟨_, he, rfl⟩
    have p' : s.heap.IsTuple a its.toArray := p
    unfold pyNext
    refine wpAny_bind (wpAny_attempt (wpAny_callSpecial?_slot (name := Str.ofString "__next__") hT F.slot_enumerate_next
      (wpAny_call_entry F.slot_enumerate_next hT F.entry_enumerate_next ?_ (F.args_enumerate_next_1 _))))
    show wpAny _ _ (field (.ref e) 2 >>= _) _ _ _
    refine wpAny_bind (wpAny_field he rfl (x := .ref it) rfl ?_)
    refine wpAny_bind (RZ.nextOf_tuple_end (I.ok.hd hc) hit p' (by simp; omega) fun h' x he' hx' => ?_)
    obtain ⟨o, ho, hc'⟩ := hx'
    refine wpAny_bind (wpAny_isInstance (T := "StopIteration") (b := true) ⟨o, ho, hc'⟩ isSubtype_stop ?_)
    exact wpAny_pure ⟨rfl, I.turned (t' := s.toks) (fun b o hb q => he' b o hb q) f0 f1 f3 f4 f5⟩
  self := fun A i s Q E st h => let ⟨⟨_, he⟩, _⟩ := st; wpAny_pyIter_enum he h
def iEnumT (K : PySem.W.Frag) (ta : TA) : TI := fun σ H R => ta σ H fun vs H1 => ∃ a xs, vs = [.ref a] ∧ SqT K H1 a xs ∧ R (IteT K a) H1
theorem pi_enumT {X : Cx} {e : Expr} {ta : TA} {p pos tpos : Pos} {elts : List Expr} {kk : Nat} (hg : Gl X "enumerate") (hm : X.mg "enumerate" = none) (ha : PA X [e] ta) (hs : starEach [e] X.env = [(false, eval e X.env)] := by rfl) :
    PI X (.Tuple elts kk tpos) (.Call (.Name "enumerate" p) [e] [] pos) (iEnumT X.K ta) := by
  refine ⟨fun pins s σ H R I h => ?_⟩
  refine Call_ (ld_blt I hg hm boot_enumerate (PyProof.Rows.callWith_type1 (thn (ha.run pos pins s σ H _ I h) fun us s1 ⟨vs, H1, I1, r1, q1⟩ => ?_) hs rfl))
  obtain ⟨a, xs, ex, hq, q⟩ := q1
  subst ex
  cases r1 with
  | cons r rr =>
    cases rr
    cases r
    obtain ⟨its, rv, p', hz⟩ := I1.tuple hq
    have p2 : s1.heap.IsTuple a its.toArray := p'
    have hal : a < s1.heap.objs.size := by obtain ⟨_, q, _⟩ := p2; exact Heap.lt_size q
    refine my_call_enumerate_tup p2 fun h' he hit hsz hk => wpAny_pyIter_enum he ?_
    have I2 : Inv X pins σ H1 { s1 with heap := h' } := I1.kept (t' := s1.toks) hk
    refine ⟨s1.heap.objs.size + 1, [s1.heap.objs.size + 1, s1.heap.objs.size], _, _, H1, rfl, I2, turn_enumT a (s1.heap.objs.size + 1) s1.heap.objs.size, ⟨⟨.none, he⟩, hit, Nat.succ_ne_self _, Nat.ne_of_lt hal, Nat.ne_of_lt (Nat.lt_succ_of_lt hal)⟩, fun b hb => ?_, q⟩
    have e' : b = s1.heap.objs.size + 1 ∨ b = s1.heap.objs.size := by simpa using hb
    have hle : s1.heap.objs.size ≤ b := by
      rcases e' with z | z
      · rw [z]; exact Nat.le_add_right _ _
      · rw [z]; exact Nat.le_refl _
    exact I1.fpOk hle (I1.hok.fresh hle)
end My

-- SrT
namespace My
open PySem PySem.Spec PyProof.Rows L2
/-! ### the order of lists of ints -/
theorem lx_asym : ∀ a b : List Int, HT.lexLt a b = true → HT.lexLt b a = false
  | [], [], h => by rw [HT.lexLt_nil_nil] at h; cases h
  | [], y :: ys, _ => HT.lexLt_cons_nil y ys
  | x :: xs, [], h => by rw [HT.lexLt_cons_nil] at h; cases h
  | x :: xs, y :: ys, h => by
    rw [HT.lexLt_cons] at h ⊢
    by_cases e : x = y
    · rw [if_pos e] at h
      rw [if_pos e.symm]
      exact lx_asym xs ys h
    · rw [if_neg e] at h
      rw [if_neg (fun q => e q.symm)]
      have := of_decide_eq_true h
      exact decide_eq_false (by omega)
theorem lx_tr : ∀ a b c : List Int, HT.lexLt b a = false → HT.lexLt c b = false → HT.lexLt c a = false
  | [], [], c, _, h2 => h2
  | a, b, [], h1, h2 => by
    cases a with
    | nil => rfl
    | cons x xs =>
      cases b with
      | nil => exact h1
      | cons y ys => rw [HT.lexLt_nil_cons] at h2; cases h2
  | [], y :: ys, z :: zs, h1, h2 => HT.lexLt_cons_nil z zs
  | x :: xs, [], c, h1, _ => by rw [HT.lexLt_nil_cons] at h1; cases h1
  | x :: xs, y :: ys, z :: zs, h1, h2 => by
    rw [HT.lexLt_cons] at h1 h2 ⊢
    by_cases e1 : y = x
    · rw [if_pos e1] at h1
      by_cases e2 : z = y
      · rw [if_pos e2] at h2
        rw [if_pos (e2.trans e1)]
        exact lx_tr xs ys zs h1 h2
      · rw [if_neg e2] at h2
        rw [if_neg (fun q => e2 (q.trans e1.symm)), ← e1]
        exact h2
    · rw [if_neg e1] at h1
      have q1 := of_decide_eq_false h1
      by_cases e2 : z = y
      · rw [if_neg (fun q => e1 (e2.symm.trans q)), e2]
        exact h1
      · rw [if_neg e2] at h2
        have q2 := of_decide_eq_false h2
        rw [if_neg (by omega)]
        exact decide_eq_false (by omega)
theorem lx_eq : ∀ a b : List Int, a.length = b.length → HT.lexLt a b = false → HT.lexLt b a = false → a = b
  | [], [], _, _, _ => rfl
  | [], y :: ys, h, _, _ => by simp at h
  | x :: xs, [], h, _, _ => by simp at h
  | x :: xs, y :: ys, h, h1, h2 => by
    rw [HT.lexLt_cons] at h1 h2
    by_cases e : x = y
    · rw [if_pos e] at h1
      rw [if_pos e.symm] at h2
      rw [e, lx_eq xs ys (by simpa using h) h1 h2]
    · rw [if_neg e] at h1
      rw [if_neg (fun q => e q.symm)] at h2
      have q1 := of_decide_eq_false h1
      have q2 := of_decide_eq_false h2
      omega
theorem swo_lx (k : Value → List Int) : SrtO.Swo fun v u => HT.lexLt (k v) (k u) := ⟨fun x y h => lx_asym _ _ h, fun x y z h1 h2 => lx_tr _ _ _ h1 h2⟩
section
variable {prog : Program} {w : World} {A : Around} {E : Value → Shared → Prop} {s : Shared}
theorem lex_any {b : Bool} {Q : Bool → Shared → Prop} {xs ys : List Value} {ns ms : List Int} (i : Nat) (hx : IntsAre xs ns) (hy : IntsAre ys ms) (hl : ns.length = ms.length)
    (h : Q (HT.lexLt ns ms) s) : PySem.W.KatLex prog w A b false Q (xs.zip ys) i s := by
  induction hx generalizing ys ms i with
  | nil =>
    cases hy with
    | nil => exact PySem.W.kat_nil h
    | cons q u hy => simp at hl
  | @cons p t xs ns hx ih =>
    cases hy with
    | nil => simp at hl
    | @cons q u ys ms hy =>
      have hl' : ns.length = ms.length := by simpa using hl
      rw [HT.lexLt_cons] at h
      show PySem.W.KatLex prog w A b false Q ((Value.int p t, Value.int q u) :: xs.zip ys) i s
      refine PySem.W.kat_cons (wpAny_eqBool_int ?_)
      by_cases e : p = q
      · subst e
        rw [if_pos rfl] at h
        rw [beq_self_eq_true]
        refine PySem.W.kat_yes ?_
        first
          | exact ih (i + 1) hy hl' h
          | exact ih _ _ (i + 1) hy hl' h
      · rw [if_neg e] at h
        rw [show (p == q) = false from beq_eq_false_iff_ne.mpr e]
        exact PySem.W.kat_no (TS.oneLt_ints _ h)
theorem tups_firsts {h : Heap} {k : Value → List Int} : ∀ vs : List Value, (∀ v ∈ vs, TS.TupInts h v (k v) ∧ 1 ≤ (k v).length) → ∃ fs, PySem.W.KatTups h vs fs ∧ fs.length = vs.length ∧ ∀ f, f ∈ fs → ∃ n t, f = Value.int n t
  | [], _ => ⟨[], PySem.W.KatTups.nil, rfl, fun f hf => by simp at hf⟩
  | v :: vs, x => by
    obtain ⟨fs, kt, hl, hi⟩ := tups_firsts vs fun u hu => x u (List.mem_cons_of_mem _ hu)
    obtain ⟨⟨a, xs, e, ⟨o, ho, hc, n, hdt⟩, i⟩, hn⟩ := x v (List.mem_cons_self ..)
    subst e
    obtain ⟨y, ys, e⟩ : ∃ y ys, xs.toList = y :: ys := by
      cases q : xs.toList with
      | nil =>
        rw [q] at i
        have l := i.length
        rw [List.length_nil] at l
        omega
      | cons y ys => exact ⟨y, ys, rfl⟩
    obtain ⟨m, t, hy⟩ := i.all y (by rw [e]; exact List.mem_cons_self ..)
    refine ⟨y :: fs, PySem.W.KatTups.cons ho hc hdt ?_ kt, by simp [hl], ?_⟩
    · have z := congrArg (fun l : List Value => l[0]?) e
      simpa using z
    · intro f hf
      rcases List.mem_cons.mp hf with rfl | hf
      · exact ⟨m, t, hy⟩
      · exact hi f hf
theorem tups_cmp {vs : List Value} {k : Value → List Int} {d : Nat} (hp : ∀ v ∈ vs, TS.TupInts s.heap v (k v) ∧ (k v).length = d) : SrtO.Cmp prog w A s (tuples' true) (fun p => p.1 ∈ vs) (SrtO.lt2 fun v u => HT.lexLt (k v) (k u)) := by
  intro p q hm hm'
  obtain ⟨⟨a, xs, e, ⟨o, ho, hc, n, hd⟩, i⟩, l⟩ := hp _ hm
  obtain ⟨⟨a', ys, e', ⟨o', ho', hc', n', hd'⟩, i'⟩, l'⟩ := hp _ hm'
  show wpAny (model prog w) A (keyLt' (tuples' true) p.1 q.1) (fun r s' => s' = s ∧ r = HT.lexLt (k p.1) (k q.1)) (fun _ _ => False) s
  generalize k p.1 = ns at i l ⊢
  generalize k q.1 = ms at i' l' ⊢
  rw [e, e']
  refine PySem.W.kat_lt ho hd ho' hd' ?_
  have sz : decide (xs.size < ys.size) = false := by
    have l1 := i.length
    have l2 := i'.length
    rw [Array.length_toList] at l1 l2
    exact decide_eq_false (by omega)
  rw [sz]
  exact lex_any 0 i i' (by omega) ⟨rfl, rfl⟩
theorem tups_sortable {a : Addr} {vs : List Value} {k : Value → List Int} {d : Nat} (hd1 : 1 ≤ d) (h0 : 0 < vs.length) (hp : ∀ v ∈ vs, TS.TupInts s.heap v (k v) ∧ (k v).length = d) (ha : ∀ o, s.heap.get? a = some o → o.cls ≠ .type "tuple") :
    SrtO.SortableO prog w A s a vs fun v u => HT.lexLt (k v) (k u) := by
  intro h' keep
  have hp' : ∀ v ∈ vs, TS.TupInts h' v (k v) ∧ (k v).length = d := fun v hm => ⟨(hp v hm).1.keeps fun b o e c => keep b o (fun z => by subst z; exact ha o e c) e, (hp v hm).2⟩
  obtain ⟨fs, h1, h2, h3⟩ := tups_firsts (k := k) vs fun v hm => ⟨(hp' v hm).1, by rw [(hp' v hm).2]; exact hd1⟩
  refine ⟨tuples' true, fun Q E hq => ?_, tups_cmp hp'⟩
  refine PySem.W.kat_kind (T := .type "int") h1 (by omega) (fun f hm => ?_) (by rfl) ?_
  · obtain ⟨x, t, rfl⟩ := h3 f hm
    exact PySem.W.Looks.now
  · have e : (Value.type "int" != Value.type "tuple") = true := by first | decide +kernel | rfl | decide
    rw [e]
    exact hq
theorem sorted_anyT {l : Addr} {vs : List Value} {k : Value → List Int} {d : Nat} {Q : Value → Shared → Prop} (hd1 : 1 ≤ d) (hl : s.heap.IsList l vs.toArray) (hz : vs.length ≤ sizeLine) (hp : ∀ v ∈ vs, TS.TupInts s.heap v (k v) ∧ (k v).length = d)
    (h : ∀ (h' : Heap) (dd : Addr) (out : List Value), SrtO.Srtd (fun v u => HT.lexLt (k v) (k u)) out → SrtO.Stb (fun v u => HT.lexLt (k v) (k u)) out vs → (∀ b o, s.heap.get? b = some o → h'.get? b = some o) → s.heap.objs.size ≤ dd → (∃ n, h'.get? dd = some (seqObj "list" out.toArray n)) → Q (.ref dd) { s with heap := h' }) :
    wpAny (model prog w) A (call (.builtin "sorted") [.ref l]) Q E s := by
  refine SrtO.sorted_ord (swo_lx k) hl hz (fun h2 h₁ a ha kk => ?_) fun out hs hb => ?_
  · refine tups_sortable (s := { s with heap := h₁ }) hd1 (by omega) (fun v hm => ⟨(hp v hm).1.keeps fun b o e _ => (kk b o e).2, (hp v hm).2⟩) fun o e => ?_
    have e' : some o = some (seqObj "list" vs.toArray 0) := e.symm.trans ha
    cases e'
    intro c
    exact absurd (Value.type.inj c) (by decide)
  · exact h _ _ out hs hb (fun b o e => sortedAll_old e) (Nat.le_succ _) (sortedAll_at s.heap vs out.toArray)
end
/-! ### tuples of ints as data -/
class Tupi (α : Type) extends Py α where
  key : α → List Int
  dec : List Int → α
  dk : ∀ a, dec (key a) = a
  d : Nat
  d1 : 1 ≤ d
  len : ∀ a, (key a).length = d
  isT : ∀ a, Py.enc a = .tuple ((key a).map PyData.int)
instance : Tupi (Int × Int) where
  key := fun p => [p.1, p.2]
  dec := fun l => (l.getD 0 0, l.getD 1 0)
  dk := fun a => rfl
  d := 2
  d1 := by decide
  len := fun a => rfl
  isT := fun a => rfl
instance : Tupi (Int × Int × Int) where
  key := fun p => [p.1, p.2.1, p.2.2]
  dec := fun l => (l.getD 0 0, l.getD 1 0, l.getD 2 0)
  dk := fun a => rfl
  d := 3
  d1 := by decide
  len := fun a => rfl
  isT := fun a => rfl
theorem dpAll_ints {K : PySem.W.Frag} {H : Hp} : ∀ {vs : List V} {ns : List Int}, DpAll K H vs (ns.map PyData.int) → vs = ns.map V.int
  | [], [], _ => rfl
  | [], n :: r, h => nomatch h
  | v :: vs, [], h => nomatch h
  | v :: vs, n :: r, .cons h t => by
    cases h
    rw [dpAll_ints t]
    rfl
theorem ints_dpAll {K : PySem.W.Frag} {H : Hp} : ∀ ns : List Int, DpAll K H (ns.map V.int) (ns.map PyData.int)
  | [] => .nil
  | n :: r => .cons (.int n) (ints_dpAll r)
theorem Tupi.inv {α : Type} [Tupi α] {K : PySem.W.Frag} {H : Hp} {v : V} {a : α} (h : Rep K H v a) : ∃ p, v = .ref p ∧ SqT K H p ((Tupi.key a).map V.int) := by
  have h : Dp K H v (Py.enc a) := h
  rw [Tupi.isT] at h
  cases h with
  | tup h1 t => exact ⟨_, rfl, by rw [← dpAll_ints t]; exact h1⟩
theorem Tupi.rep {α : Type} [Tupi α] {K : PySem.W.Frag} {H : Hp} {p : Addr} {a : α} (h : SqT K H p ((Tupi.key a).map V.int)) : Rep K H (.ref p) a := by
  show Dp K H (.ref p) (Py.enc a)
  rw [Tupi.isT]
  exact Dp.tup h (ints_dpAll _)
abbrev ltK {α : Type} [Tupi α] (a b : α) : Bool := HT.lexLt (Tupi.key a) (Tupi.key b)
/-- the sorted list of xs -/
def IsSorted {α : Type} [Tupi α] (ys xs : List α) : Prop := ys.Perm xs ∧ ys.Pairwise fun a b => ltK b a = false
theorem ltK_eq {α : Type} [Tupi α] {a b : α} (h1 : ltK a b = false) (h2 : ltK b a = false) : a = b := by
  have e := lx_eq (Tupi.key a) (Tupi.key b) (by rw [Tupi.len, Tupi.len]) h1 h2
  rw [← Tupi.dk a, e, Tupi.dk]
theorem sorted_uniq {α : Type} [Tupi α] : ∀ {ys zs : List α}, ys.Pairwise (fun a b => ltK b a = false) → zs.Pairwise (fun a b => ltK b a = false) → ys.Perm zs → ys = zs
  | [], zs, _, _, h => (List.Perm.eq_nil h.symm).symm
  | y :: ys, [], _, _, h => absurd h.length_eq (by simp)
  | y :: ys, z :: zs, h1, h2, h => by
    have e : y = z := by
      have m1 : y ∈ z :: zs := h.mem_iff.mp (List.mem_cons_self ..)
      have m2 : z ∈ y :: ys := h.mem_iff.mpr (List.mem_cons_self ..)
      rcases List.mem_cons.mp m1 with e | m1
      · exact e
      rcases List.mem_cons.mp m2 with e | m2
      · exact e.symm
      exact ltK_eq ((List.pairwise_cons.mp h2).1 _ m1) ((List.pairwise_cons.mp h1).1 _ m2)
    subst e
    rw [sorted_uniq (List.pairwise_cons.mp h1).2 (List.pairwise_cons.mp h2).2 h.cons_inv]
theorem RAll.mem {α : Type} [Py α] {K : PySem.W.Frag} {H : Hp} : ∀ {vs : List V} {as : List α} {x : V}, RAll K H vs as → x ∈ vs → ∃ a, a ∈ as ∧ Rep K H x a
  | _, _, x, .nil, h => absurd h (by simp)
  | _, _, x, .cons r t, h => by
    rcases List.mem_cons.mp h with e | h
    · subst e
      exact ⟨_, List.mem_cons_self .., r⟩
    · obtain ⟨a, m, r⟩ := t.mem h
      exact ⟨a, List.mem_cons_of_mem _ m, r⟩
theorem RAll.map_dec {α : Type} [Tupi α] {K : PySem.W.Frag} {H : Hp} {k : V → List Int} : ∀ {vs : List V} {as : List α}, RAll K H vs as → (∀ x ∈ vs, ∀ a : α, Rep K H x a → k x = Tupi.key a) → vs.map (fun v => (Tupi.dec (k v) : α)) = as
  | _, _, .nil, _ => rfl
  | _, _, .cons r t, h => by
    rw [List.map_cons, h _ (List.mem_cons_self ..) _ r, Tupi.dk, t.map_dec fun x m => h x (List.mem_cons_of_mem _ m)]
theorem RAll.of_dec {α : Type} [Tupi α] {K : PySem.W.Frag} {H : Hp} {k : V → List Int} : ∀ {vs : List V}, (∀ x ∈ vs, ∃ a : α, Rep K H x a ∧ k x = Tupi.key a) → RAll K H vs (vs.map fun v => (Tupi.dec (k v) : α))
  | [], _ => .nil
  | v :: vs, h => by
    obtain ⟨a, r, e⟩ := h v (List.mem_cons_self ..)
    refine .cons ?_ (RAll.of_dec fun x m => h x (List.mem_cons_of_mem _ m))
    show Rep K H v (Tupi.dec (k v))
    rw [e, Tupi.dk]
    exact r
/-- sorted(xs): xs a list of such tuples -/
def rSortedA (K : PySem.W.Frag) (α : Type) [Tupi α] : List V → Hp → VK → Prop := fun vs H Q => ∃ (a : Addr) (xs : List V) (as : List α), vs = [V.ref a] ∧ SqL K H a xs ∧ RAll K H xs as ∧
  ∀ (ys : List V) (bs : List α) p, H p = none → RAll K (upd H p (.lst ys)) ys bs → IsSorted bs as → Q (.ref p) (upd H p (.lst ys))
section
variable {X : Cx}
open Classical in
theorem cr_sortedA {α : Type} [Tupi α] : CallR X (.builtin "sorted") (rSortedA X.K α) := by
  intro pins s σ H vs us Q I r h
  obtain ⟨a, xs, as, rfl, hs, ha, q⟩ := h
  obtain ⟨its, rv, hl, hz⟩ := I.list hs
  obtain ⟨u, rfl, ru⟩ := vals1 r
  obtain rfl : u = Value.ref a := ru
  obtain ⟨e1, e2⟩ := refs_back rv fun x m => by
    obtain ⟨a, _, hr⟩ := ha.mem m
    obtain ⟨p, e, _⟩ := Tupi.inv hr
    exact ⟨p, e⟩
  let k : V → List Int := fun v => if h : ∃ b : α, Rep X.K H v b then Tupi.key h.choose else []
  have kk : ∀ (v : V) (b : α), Rep X.K H v b → k v = Tupi.key b := fun v b hb => by
    have h : ∃ b : α, Rep X.K H v b := ⟨b, hb⟩
    show (if h : ∃ b : α, Rep X.K H v b then Tupi.key h.choose else []) = _
    rw [dif_pos h]
    obtain ⟨p, e, h1⟩ := Tupi.inv h.choose_spec
    obtain ⟨p', e', h2⟩ := Tupi.inv hb
    subst e
    cases e'
    have e3 := I.tuple_inj h1 h2
    have inj : ∀ {l m : List Int}, l.map V.int = m.map V.int → l = m := fun {l m} e => by
      have := List.map_inj_right (f := V.int) (fun x y z => by cases z; rfl) |>.mp e
      exact this
    exact inj e3
  refine sorted_anyT (k := fun u => k (backV u)) (Tupi.d1 (α := α)) hl.isList (by rw [← rv.length]; exact hz) (fun v hv => ?_) fun h' d out h1 h2 kp hd hn => ?_
  · obtain ⟨t, rfl⟩ := e2 v hv
    have hm : V.ref t ∈ xs := by rw [e1]; exact List.mem_map.mpr ⟨_, hv, rfl⟩
    obtain ⟨b, _, hb⟩ := ha.mem hm
    obtain ⟨p, e, ht⟩ := Tupi.inv hb
    cases e
    show TS.TupInts s.heap (.ref t) (k (.ref t)) ∧ (k (.ref t)).length = _
    rw [kk _ b hb]
    exact ⟨tupI_raw I ht, Tupi.len b⟩
  · have h3 : ∀ u ∈ out, ∃ a, u = Value.ref a := fun u hu => e2 u (h2.perm.mem_iff.mp hu)
    obtain ⟨n, hn⟩ := hn
    have hperm : (out.map backV).Perm xs := by
      rw [e1]
      exact h2.perm.map backV
    have hfree : H d = none := I.hok.fresh hd
    have hlen : (out.map backV).length ≤ sizeLine := by
      rw [hperm.length_eq]
      exact hz
    have ex : Evl.Ex H (upd H d (.lst (out.map backV))) := Evl.Ex.new hfree
    have all : ∀ x ∈ out.map backV, ∃ b : α, Rep X.K H x b ∧ k x = Tupi.key b := fun x m => by
      obtain ⟨b, _, hb⟩ := ha.mem (hperm.mem_iff.mp m)
      exact ⟨b, hb, kk x b hb⟩
    refine ⟨.ref d, upd H d (.lst (out.map backV)), I.laid (t' := s.toks) kp hd ⟨hlen, out, n, vals_back h3, hn⟩, rfl, q _ ((out.map backV).map fun v => Tupi.dec (k v)) d hfree ?_ ⟨?_, ?_⟩⟩
    · exact (RAll.of_dec all).ex ex
    · have e := ha.map_dec (k := k) (fun x _ a hr => kk x a hr)
      rw [← e]
      exact hperm.map _
    · have h5 : (out.map backV).Pairwise fun x y => HT.lexLt (k y) (k x) = false := List.pairwise_map.mpr (show out.Pairwise (fun x y => HT.lexLt (k (backV y)) (k (backV x)) = false) from h1)
      refine List.pairwise_map.mpr (h5.imp_of_mem ?_)
      intro x y hx hy hxy
      obtain ⟨b, _, eb⟩ := all x hx
      obtain ⟨c, _, ec⟩ := all y hy
      show HT.lexLt (Tupi.key (Tupi.dec (k y) : α)) (Tupi.key (Tupi.dec (k x) : α)) = false
      rw [eb, ec, Tupi.dk, Tupi.dk, ← eb, ← ec]
      exact hxy
end
end My

-- SrR
namespace My
open PySem PyProof.Rows L2
section
variable {prog : Program} {w : World} {A : Around} {E : Value → Shared → Prop} {s : Shared}
theorem sorted_anyTR {l : Addr} {vs : List Value} {k : Value → List Int} {d : Nat} {Q : Value → Shared → Prop} (hd1 : 1 ≤ d) (hl : s.heap.IsList l vs.toArray) (hz : vs.length ≤ sizeLine) (hp : ∀ v ∈ vs, TS.TupInts s.heap v (k v) ∧ (k v).length = d)
    (h : ∀ (h' : Heap) (dd : Addr) (out : List Value), SrtO.Srtd (fun v u => HT.lexLt (k v) (k u)) out → SrtO.Stb (fun v u => HT.lexLt (k v) (k u)) out vs.reverse → (∀ b o, s.heap.get? b = some o → h'.get? b = some o) → s.heap.objs.size ≤ dd → (∃ n, h'.get? dd = some (seqObj "list" out.reverse.toArray n)) → Q (.ref dd) { s with heap := h' }) :
    wpAny (model prog w) A (call (.builtin "sorted") [.ref l] [(Str.ofString "reverse", .bool true)]) Q E s := by
  refine SrtR.sorted_ordK (b := true) (fun _ => rfl) (args_sorted_rev _ _) (fun _ => args_list_sort_rev _ _) (swo_lx k) hl hz (fun h2 h₁ a ha kk => ?_) fun out hs hb => ?_
  · refine tups_sortable (s := { s with heap := h₁ }) hd1 (by omega) (fun v hm => ⟨(hp v hm).1.keeps fun b o e _ => (kk b o e).2, (hp v hm).2⟩) fun o e => ?_
    have e' : some o = some (seqObj "list" vs.toArray 0) := e.symm.trans ha
    cases e'
    intro c
    exact absurd (Value.type.inj c) (by decide)
  · refine h _ _ out hs hb (fun b o e => sortedAll_old e) (Nat.le_succ _) ?_
    have := sortedAll_at s.heap vs (if true = true then out.toArray.reverse else out.toArray)
    simpa using this
end
/-- sorted(xs, reverse=True): xs a list of such tuples -/
def rSortedRA (K : PySem.W.Frag) (α : Type) [Tupi α] : List V → List V → Hp → VK → Prop := fun vs zs H Q => ∃ (a : Addr) (xs : List V) (as : List α), vs = [V.ref a] ∧ zs = [.bl true] ∧ SqL K H a xs ∧ RAll K H xs as ∧
  ∀ (ys : List V) (bs : List α) p, H p = none → RAll K (upd H p (.lst ys)) ys bs → IsSorted bs.reverse as → Q (.ref p) (upd H p (.lst ys))
section
variable {X : Cx}
open Classical in
theorem cr_sortedRA {α : Type} [Tupi α] : CallRK X (.builtin "sorted") [Str.ofString "reverse"] (rSortedRA X.K α) := by
  intro pins s σ H vs zs us ws Q I r rz h
  obtain ⟨a, xs, as, rfl, rfl, hs, ha, q⟩ := h
  obtain ⟨its, rv, hl, hz⟩ := I.list hs
  obtain ⟨u, rfl, ru⟩ := vals1 r
  obtain rfl : u = Value.ref a := ru
  obtain ⟨w1, rfl, e0⟩ := vals1 rz
  obtain rfl : w1 = Value.bool true := e0
  obtain ⟨e1, e2⟩ := refs_back rv fun x m => by
    obtain ⟨a, _, hr⟩ := ha.mem m
    obtain ⟨p, e, _⟩ := Tupi.inv hr
    exact ⟨p, e⟩
  let k : V → List Int := fun v => if h : ∃ b : α, Rep X.K H v b then Tupi.key h.choose else []
  have kk : ∀ (v : V) (b : α), Rep X.K H v b → k v = Tupi.key b := fun v b hb => by
    have h : ∃ b : α, Rep X.K H v b := ⟨b, hb⟩
    show (if h : ∃ b : α, Rep X.K H v b then Tupi.key h.choose else []) = _
    rw [dif_pos h]
    obtain ⟨p, e, h1⟩ := Tupi.inv h.choose_spec
    obtain ⟨p', e', h2⟩ := Tupi.inv hb
    subst e
    cases e'
    have e3 := I.tuple_inj h1 h2
    have inj : ∀ {l m : List Int}, l.map V.int = m.map V.int → l = m := fun {l m} e => by
      have := List.map_inj_right (f := V.int) (fun x y z => by cases z; rfl) |>.mp e
      exact this
    exact inj e3
  refine sorted_anyTR (k := fun u => k (backV u)) (Tupi.d1 (α := α)) hl.isList (by rw [← rv.length]; exact hz) (fun v hv => ?_) fun h' d out h1 h2 kp hd hn => ?_
  · obtain ⟨t, rfl⟩ := e2 v hv
    have hm : V.ref t ∈ xs := by rw [e1]; exact List.mem_map.mpr ⟨_, hv, rfl⟩
    obtain ⟨b, _, hb⟩ := ha.mem hm
    obtain ⟨p, e, ht⟩ := Tupi.inv hb
    cases e
    show TS.TupInts s.heap (.ref t) (k (.ref t)) ∧ (k (.ref t)).length = _
    rw [kk _ b hb]
    exact ⟨tupI_raw I ht, Tupi.len b⟩
  · have h3 : ∀ u ∈ out, ∃ a, u = Value.ref a := fun u hu => e2 u (List.mem_reverse.mp (h2.perm.mem_iff.mp hu))
    obtain ⟨n, hn⟩ := hn
    have hperm : (out.map backV).Perm xs := by
      rw [e1]
      exact (h2.perm.trans (List.reverse_perm _)).map backV
    have hfree : H d = none := I.hok.fresh hd
    have hlen : (out.map backV).length ≤ sizeLine := by
      rw [hperm.length_eq]
      exact hz
    have ex : Evl.Ex H (upd H d (.lst (out.reverse.map backV))) := Evl.Ex.new hfree
    have all : ∀ x ∈ out.map backV, ∃ b : α, Rep X.K H x b ∧ k x = Tupi.key b := fun x m => by
      obtain ⟨b, _, hb⟩ := ha.mem (hperm.mem_iff.mp m)
      exact ⟨b, hb, kk x b hb⟩
    refine ⟨.ref d, upd H d (.lst (out.reverse.map backV)), I.laid (t' := s.toks) kp hd ⟨by rw [List.map_reverse, List.length_reverse]; exact hlen, out.reverse, n, vals_back (fun u hu => h3 u (List.mem_reverse.mp hu)), hn⟩, rfl, q _ ((out.reverse.map backV).map fun v => Tupi.dec (k v)) d hfree ?_ ?_⟩
    rotate_left
    rw [List.map_reverse, List.map_reverse, List.reverse_reverse]
    refine ⟨?_, ?_⟩
    rotate_right
    · refine (RAll.of_dec fun x m => all x ?_).ex ex
      rw [List.map_reverse] at m
      exact List.mem_reverse.mp m
    · have e := ha.map_dec (k := k) (fun x _ a hr => kk x a hr)
      rw [← e]
      exact hperm.map _
    · have h5 : (out.map backV).Pairwise fun x y => HT.lexLt (k y) (k x) = false := List.pairwise_map.mpr (show out.Pairwise (fun x y => HT.lexLt (k (backV y)) (k (backV x)) = false) from h1)
      refine List.pairwise_map.mpr (h5.imp_of_mem ?_)
      intro x y hx hy hxy
      obtain ⟨b, _, eb⟩ := all x hx
      obtain ⟨c, _, ec⟩ := all y hy
      show HT.lexLt (Tupi.key (Tupi.dec (k y) : α)) (Tupi.key (Tupi.dec (k x) : α)) = false
      rw [eb, ec, Tupi.dk, Tupi.dk, ← eb, ← ec]
      exact hxy
end
end My

-- Ev
namespace My
open PySem L2 Evl
theorem walk_enumT {K : PySem.W.Frag} {a : Addr} {xs : List V} : Walk (IteT K a) xs.length (fun H => SqT K H a xs) (YPair (fun i => some (.int (i : Nat))) (fun i => xs[i]?)) := by
  refine ⟨fun i _ hi q => ⟨xs, xs[i], q, by simp [hi]⟩, fun _ q => ⟨xs, q, Nat.le_refl _⟩, fun i H v H' _ q y => ?_⟩
  obtain ⟨T, x, h1, h2, h3, h4⟩ := y
  exact ⟨T, .int (i : Nat), x, h1, h2, h3, rfl, h4 xs q⟩
theorem tyX_t {K : PySem.W.Frag} {H : Hp} {a : Addr} {xs : List V} (h : SqT K H a xs) : TyX K H (.ref a) (.type "tuple") := by
  rcases h with (h | ⟨o, h⟩) | ⟨o, its, n, h, hc, _⟩
  · exact .base (.tup h)
  · exact .fTuple h
  · exact .kTuple h hc
/-- v: a list of its own, made behind H, with what bs says -/
def NewL {β : Type} [Py β] (K : PySem.W.Frag) (H H2 : Hp) (v : V) (bs : List β) : Prop := ∃ p ys, v = .ref p ∧ H p = none ∧ H2 p = some (.lst ys) ∧ RAll K H2 ys bs
theorem NewL.rep {β : Type} [Py β] {K : PySem.W.Frag} {H H2 : Hp} {v : V} {bs : List β} (h : NewL K H H2 v bs) : Rep K H2 v bs := by
  obtain ⟨p, ys, rfl, _, h1, h2⟩ := h
  exact Rep.lst (sq_of h1) h2
theorem RAll.snoc {α : Type} [Py α] {K : PySem.W.Frag} {H : Hp} {vs : List V} {as : List α} {v : V} {a : α} (h : RAll K H vs as) (r : Rep K H v a) : RAll K H (vs ++ [v]) (as ++ [a]) := h.append (.cons r .nil)
theorem take_get {α : Type} {as : List α} {i : Nat} {a : α} (h : as[i]? = some a) : as.take (i + 1) = as.take i ++ [a] := by
  rw [List.take_add_one, h]
  rfl
/-! ### data without lists: no list's change is seen in it -/
mutual
def tOnly : PyData → Bool
  | .list _ => false
  | .dict _ => false
  | .tuple xs => tOnlyAll xs
  | _ => true
def tOnlyAll : List PyData → Bool
  | [] => true
  | x :: xs => tOnly x && tOnlyAll xs
end
mutual
theorem Dp.updL {K : PySem.W.Frag} {H : Hp} {D : Addr} {ys : List V} {o : HO} (hD : H D = some (.lst ys)) : ∀ {v : V} {d : PyData}, tOnly d = true → Dp K H v d → Dp K (upd H D o) v d
  | _, _, _, .non => .non
  | _, _, _, .bl b => .bl b
  | _, _, _, .int i => .int i
  | _, _, _, .str x => .str x
  | _, _, h, .lst _ _ => by simp [tOnly] at h
  | _, _, h, .tup hs t => by
    refine .tup ?_ (Dp.updLAll hD (by simpa [tOnly] using h) t)
    rcases hs with (h1 | ⟨ob, h1⟩) | h1
    · exact .inl (.inl (by rw [upd_ne (fun e => by rw [e, hD] at h1; cases h1)]; exact h1))
    · exact .inl (.inr ⟨ob, by rw [upd_ne (fun e => by rw [e, hD] at h1; cases h1)]; exact h1⟩)
    · exact .inr h1
theorem Dp.updLAll {K : PySem.W.Frag} {H : Hp} {D : Addr} {ys : List V} {o : HO} (hD : H D = some (.lst ys)) : ∀ {vs : List V} {ds : List PyData}, tOnlyAll ds = true → DpAll K H vs ds → DpAll K (upd H D o) vs ds
  | _, _, _, .nil => .nil
  | _, d :: ds, h, .cons h1 t => by
    have h' : tOnly d = true ∧ tOnlyAll ds = true := by simpa [tOnlyAll] using h
    exact .cons (Dp.updL hD h'.1 h1) (Dp.updLAll hD h'.2 t)
end
/-- what a datum stands on is kept -/
def isData : HO → Bool
  | .lst _ => true
  | .tup _ => true
  | .frz _ _ => true
  | _ => false
def Keep (H H' : Hp) : Prop := ∀ a o, isData o = true → H a = some o → H' a = some o
mutual
theorem Dp.keep {K : PySem.W.Frag} {H H' : Hp} (e : Keep H H') : ∀ {v : V} {d : PyData}, Dp K H v d → Dp K H' v d
  | _, _, .non => .non
  | _, _, .bl b => .bl b
  | _, _, .int i => .int i
  | _, _, .str x => .str x
  | _, _, .lst h t => .lst (by
      rcases h with (h | ⟨o, h⟩) | h
      · exact .inl (.inl (e _ _ rfl h))
      · exact .inl (.inr ⟨o, e _ _ rfl h⟩)
      · exact .inr h) (Dp.keepAll e t)
  | _, _, .tup h t => .tup (by
      rcases h with (h | ⟨o, h⟩) | h
      · exact .inl (.inl (e _ _ rfl h))
      · exact .inl (.inr ⟨o, e _ _ rfl h⟩)
      · exact .inr h) (Dp.keepAll e t)
theorem Dp.keepAll {K : PySem.W.Frag} {H H' : Hp} (e : Keep H H') : ∀ {vs : List V} {ds : List PyData}, DpAll K H vs ds → DpAll K H' vs ds
  | _, _, .nil => .nil
  | _, _, .cons h t => .cons (Dp.keep e h) (Dp.keepAll e t)
end
theorem Rep.keep {α : Type} [Py α] {K : PySem.W.Frag} {H H' : Hp} {v : V} {a : α} (e : Keep H H') (h : Rep K H v a) : Rep K H' v a := Dp.keep e h
theorem RAll.keep {α : Type} [Py α] {K : PySem.W.Frag} {H H' : Hp} (e : Keep H H') : ∀ {vs : List V} {as : List α}, RAll K H vs as → RAll K H' vs as
  | _, _, .nil => .nil
  | _, _, .cons h t => .cons (h.keep e) (t.keep e)
/-- a thing that is no datum is changed -/
theorem Keep.upd {H : Hp} {p : Addr} {u o : HO} (h : H p = some u) (d : isData u = false) : Keep H (upd H p o) := fun a x hx hd => by
  have n : a ≠ p := fun e => by
    rw [e, h] at hd
    cases hd
    rw [d] at hx
    cases hx
  rw [upd_ne n]
  exact hd
theorem Keep.of {H H' : Hp} (e : Ex H H') : Keep H H' := fun a o _ h => e a o h
theorem Keep.trans {H H1 H2 : Hp} (x : Keep H H1) (y : Keep H1 H2) : Keep H H2 := fun a o d h => y a o d (x a o d h)
theorem kp_l {K : PySem.W.Frag} {H H' : Hp} {a : Addr} {xs : List V} (e : Keep H H') (h : SqL K H a xs) : SqL K H' a xs := by
  rcases h with (h | ⟨o, h⟩) | h
  · exact .inl (.inl (e _ _ rfl h))
  · exact .inl (.inr ⟨o, e _ _ rfl h⟩)
  · exact .inr h
theorem kp_t {K : PySem.W.Frag} {H H' : Hp} {a : Addr} {xs : List V} (e : Keep H H') (h : SqT K H a xs) : SqT K H' a xs := by
  rcases h with (h | ⟨o, h⟩) | h
  · exact .inl (.inl (e _ _ rfl h))
  · exact .inl (.inr ⟨o, e _ _ rfl h⟩)
  · exact .inr h
class TOnly (α : Type) [Py α] : Prop where
  t : ∀ a : α, tOnly (Py.enc a) = true
instance : TOnly Int := ⟨fun _ => rfl⟩
instance : TOnly (Int × Int) := ⟨fun _ => rfl⟩
instance : TOnly (Int × Int × Int) := ⟨fun _ => rfl⟩
instance : TOnly (Int × Int × Int × Int) := ⟨fun _ => rfl⟩
instance {α : Type} [Py α] [TOnly α] : TOnly (Tp α) := ⟨fun a => by
  show tOnlyAll (a.l.map Py.enc) = true
  induction a.l with
  | nil => rfl
  | cons x xs ih => simp [tOnlyAll, ih, TOnly.t x]⟩
theorem Rep.updL {α : Type} [Py α] [TOnly α] {K : PySem.W.Frag} {H : Hp} {D : Addr} {ys : List V} {o : HO} {v : V} {a : α} (hD : H D = some (.lst ys)) (h : Rep K H v a) : Rep K (upd H D o) v a := Dp.updL hD (TOnly.t a) h
theorem RAll.updL {α : Type} [Py α] [TOnly α] {K : PySem.W.Frag} {H : Hp} {D : Addr} {ys : List V} {o : HO} (hD : H D = some (.lst ys)) : ∀ {vs : List V} {as : List α}, RAll K H vs as → RAll K (upd H D o) vs as
  | _, _, .nil => .nil
  | _, _, .cons h t => .cons (h.updL hD) (t.updL hD)
/-- a comprehension: what it makes, by what each item is worth -/
theorem lc_rep {α β : Type} [Py β] [TOnly β] {K : PySem.W.Frag} {J : It} {n : Nat} {G : Hp → Prop} {Y : Nat → Hp → V → Hp → Prop} (w : Walk J n G Y) {g : TG} {tt : TT} {te : TE} {vs : List Nat} {σ : L2.St} {H1 : Hp} {D : Addr} {Qd : Hp → Prop} (hD : H1 D = none) (σw : L2.St) (hw : wipe σ vs = σw)
    (hGe : ∀ Ha Hb, Ex Ha Hb → G Ha → G Hb) (hG : G H1) (as : List α) (f : α → Bool) (F : α → β) (hl : as.length = n) (hn : n ≤ 100000)
    (hs : ∀ i a x Ha Hb, as[i]? = some a → Ex H1 Ha → Y i Ha x Hb → ∀ (R0 : Hp → Prop) (R : V → Hp → Prop), (∀ H4, Ex Ha H4 → f a = false → R0 H4) → (∀ y H4, Ex Ha H4 → f a = true → Rep K H4 y (F a) → R y H4) →
      g x σw Hb fun σ2 H2 => wipe σ2 vs = σw ∧ tt σ2 H2 fun b H3 => if b = true then te σ2 H3 (fun y H4 => R y H4) else R0 H3)
    (hd : ∀ ys H', Ex H1 H' → H' D = some (.lst ys) → RAll K H' ys ((as.filter f).map F) → Qd H') :
    ∃ W : Nat → Nat → Hp → Prop, (∃ m, W 0 m (upd H1 D (.lst []))) ∧ ∀ i m H, W i m H →
      (J.stop i H ∧ Qd H) ∨ (J.go i H ∧ ∃ Nx : Hp → Prop, (∀ H', Nx H' → ∃ m', m' < m ∧ W (i + 1) m' H') ∧ ∀ x H', J.yld i H x H' → g x (wipe σ vs) H' fun σ2 H2 => wipe σ2 vs = wipe σ vs ∧ tt σ2 H2 fun b H3 =>
        if b = true then te σ2 H3 fun y H4 => ∃ acc, H4 D = some (.lst acc) ∧ acc.length < sizeLine ∧ Nx (upd H4 D (.lst (acc ++ [y]))) else Nx H3) := by
  subst hw
  refine lc_it w (fun i H => Ex H1 H ∧ ∃ ys, H D = some (.lst ys) ∧ ys.length ≤ i ∧ RAll K H ys (((as.take i).filter f).map F)) ⟨Ex.new hD, [], upd_same, Nat.le_refl _, .nil⟩ (fun i H _ p => hGe _ _ p.1 hG) ?_ ?_
  · rintro i x Ha Hb hi ⟨e, ys, hy, hlen, hr⟩ y
    have hi' : i < as.length := by omega
    have ha := List.getElem?_eq_getElem hi'
    refine hs i as[i] x Ha Hb ha e y _ _ (fun H4 e4 hf => ?_) (fun v H4 e4 hf hv => ?_)
    · refine ⟨e.trans e4, ys, e4 _ _ hy, by omega, ?_⟩
      rw [take_get ha, List.filter_append, List.filter_cons, if_neg (by rw [hf]; decide)]
      simpa using hr.ex e4
    · refine ⟨ys, e4 _ _ hy, sz_lt (by omega), Ex.mut (e.trans e4) hD, ys ++ [v], upd_same, by simp; omega, ?_⟩
      rw [take_get ha, List.filter_append, List.filter_cons, if_pos hf, List.map_append]
      exact RAll.updL (e4 _ _ hy) ((hr.ex e4).snoc hv)
  · rintro H ⟨e, ys, hy, _, hr⟩
    rw [← hl, List.take_length] at hr
    exact hd ys H e hy hr
/-- the same where each item is a value told at once (a number, True, False) -/
theorem lc_val {α : Type} {J : It} {n : Nat} {G : Hp → Prop} {Y : Nat → Hp → V → Hp → Prop} (w : Walk J n G Y) {g : TG} {tt : TT} {te : TE} {vs : List Nat} {σ : L2.St} {H1 : Hp} {D : Addr} {Qd : Hp → Prop} (hD : H1 D = none) (σw : L2.St) (hw : wipe σ vs = σw)
    (hGe : ∀ Ha Hb, Ex Ha Hb → G Ha → G Hb) (hG : G H1) (as : List α) (f : α → Bool) (F : α → V) (hl : as.length = n) (hn : n ≤ 100000)
    (hs : ∀ i a x Ha Hb, as[i]? = some a → Ex H1 Ha → Y i Ha x Hb → ∀ (R0 : Hp → Prop) (R : V → Hp → Prop), (∀ H4, Ex Ha H4 → f a = false → R0 H4) → (∀ H4, Ex Ha H4 → f a = true → R (F a) H4) →
      g x σw Hb fun σ2 H2 => wipe σ2 vs = σw ∧ tt σ2 H2 fun b H3 => if b = true then te σ2 H3 (fun y H4 => R y H4) else R0 H3)
    (hd : ∀ H', Ex H1 H' → H' D = some (.lst ((as.filter f).map F)) → Qd H') :
    ∃ W : Nat → Nat → Hp → Prop, (∃ m, W 0 m (upd H1 D (.lst []))) ∧ ∀ i m H, W i m H →
      (J.stop i H ∧ Qd H) ∨ (J.go i H ∧ ∃ Nx : Hp → Prop, (∀ H', Nx H' → ∃ m', m' < m ∧ W (i + 1) m' H') ∧ ∀ x H', J.yld i H x H' → g x (wipe σ vs) H' fun σ2 H2 => wipe σ2 vs = wipe σ vs ∧ tt σ2 H2 fun b H3 =>
        if b = true then te σ2 H3 fun y H4 => ∃ acc, H4 D = some (.lst acc) ∧ acc.length < sizeLine ∧ Nx (upd H4 D (.lst (acc ++ [y]))) else Nx H3) := by
  subst hw
  refine lc_it w (fun i H => Ex H1 H ∧ H D = some (.lst (((as.take i).filter f).map F))) ⟨Ex.new hD, upd_same⟩ (fun i H _ p => hGe _ _ p.1 hG) ?_ ?_
  · rintro i x Ha Hb hi ⟨e, hy⟩ y
    have hi' : i < as.length := by omega
    have ha := List.getElem?_eq_getElem hi'
    refine hs i as[i] x Ha Hb ha e y _ _ (fun H4 e4 hf => ?_) (fun H4 e4 hf => ?_)
    · refine ⟨e.trans e4, ?_⟩
      rw [take_get ha, List.filter_append, List.filter_cons, if_neg (by rw [hf]; decide)]
      simpa using e4 _ _ hy
    · refine ⟨_, e4 _ _ hy, sz_lt ?_, Ex.mut (e.trans e4) hD, ?_⟩
      · have h1 := List.length_filter_le f (as.take i)
        rw [List.length_take] at h1
        rw [List.length_map]
        omega
      · rw [take_get ha, List.filter_append, List.filter_cons, if_pos hf, List.map_append]
        exact upd_same
  · rintro H ⟨e, hy⟩
    rw [← hl, List.take_length] at hy
    exact hd H e hy
theorem filter_true {α : Type} (as : List α) : as.filter (fun _ => true) = as := List.filter_eq_self.mpr fun _ _ => rfl
/-! ### attributes of an instance, as a written list -/
theorem lk_ne {f g : Str} {v : V} {r : List (Str × V)} (h : (f == g) = false) : List.lookup f ((g, v) :: r) = List.lookup f r := by
  show (match f == g with | true => some v | false => List.lookup f r) = _
  rw [h]
theorem lk_eq {f : Str} {v : V} {r : List (Str × V)} : List.lookup f ((f, v) :: r) = some v := by
  show (match f == f with | true => some v | false => List.lookup f r) = _
  rw [show (f == f) = true from beq_self_eq_true f]
theorem putF_new {f : Str} {v : V} : ∀ {fs : List (Str × V)} (ns : List Str), fs.map (·.1) = ns → ns.contains f = false → putF f v fs = fs ++ [(f, v)]
  | [], _, _, _ => rfl
  | (g, x) :: r, ns, hn, h => by
    subst hn
    have h' : (f == g) = false ∧ (r.map (·.1)).contains f = false := by simpa [List.contains_cons] using h
    have hne : ¬ g = f := fun e => by rw [e, beq_self_eq_true f] at h'; cases h'.1
    show (if g = f then (g, v) :: r else (g, x) :: putF f v r) = _
    rw [if_neg hne, putF_new _ rfl h'.2]
    rfl
theorem putF_old {f : Str} {v x : V} {pre post : List (Str × V)} (ns : List Str) (hn : pre.map (·.1) = ns) (h : ns.contains f = false) : putF f v (pre ++ (f, x) :: post) = pre ++ (f, v) :: post := by
  subst hn
  induction pre with
  | nil =>
    show (if f = f then (f, v) :: post else _) = _
    rw [if_pos rfl]
    rfl
  | cons p r ih =>
    obtain ⟨g, y⟩ := p
    have h' : (f == g) = false ∧ (r.map (·.1)).contains f = false := by simpa [List.contains_cons] using h
    have hne : ¬ g = f := fun e => by rw [e, beq_self_eq_true f] at h'; cases h'.1
    show (if g = f then _ else (g, y) :: putF f v (r ++ (f, x) :: post)) = _
    rw [if_neg hne, ih h'.2]
    rfl
theorem dp_tup_inv {K : PySem.W.Frag} {H : Hp} {v : V} {ds : List PyData} (h : Dp K H v (.tuple ds)) : ∃ p vs, v = .ref p ∧ SqT K H p vs ∧ DpAll K H vs ds := by
  cases h with
  | tup a b => exact ⟨_, _, rfl, a, b⟩
theorem dpAll_get {K : PySem.W.Frag} {H : Hp} : ∀ {vs : List V} {ds : List PyData} {i : Nat} {x : V}, DpAll K H vs ds → vs[i]? = some x → ∃ d, ds[i]? = some d ∧ Dp K H x d
  | _, _, _, _, .nil, e => by simp at e
  | _, _, 0, _, .cons r _, e => by
    simp at e
    subst e
    exact ⟨_, rfl, r⟩
  | _, _, i + 1, x, .cons _ t, e => by
    obtain ⟨u, h1, h2⟩ := dpAll_get (i := i) (x := x) t (by simpa using e)
    exact ⟨u, by simpa using h1, h2⟩
theorem dpAll_len {K : PySem.W.Frag} {H : Hp} : ∀ {vs : List V} {ds : List PyData}, DpAll K H vs ds → vs.length = ds.length
  | _, _, .nil => rfl
  | _, _, .cons _ t => congrArg (· + 1) (dpAll_len t)
theorem walk_zipT {K : PySem.W.Frag} {a b : Addr} {xs ys : List V} {n : Nat} (hn : n = min xs.length ys.length) : Walk (RZ.ItzT K a b) n (fun H => SqT K H a xs ∧ SqT K H b ys) (YPair (fun i => xs[i]?) (fun i => ys[i]?)) := by
  subst hn
  refine ⟨fun i _ hi q => ?_, fun _ q => ⟨xs, ys, q.1, q.2, by omega⟩, fun i H v H' _ q y => ?_⟩
  · have h1 : i < xs.length := by omega
    have h2 : i < ys.length := by omega
    exact ⟨xs, ys, xs[i], ys[i], q.1, q.2, by simp [h1], by simp [h2]⟩
  · obtain ⟨T, x, z, h1, h2, h3, h4, h5⟩ := y
    exact ⟨T, x, z, h1, h2, h3, h4 xs q.1, h5 ys q.2⟩
/-- the inner walk of a comprehension with two fors -/
theorem in_it {J : It} {n : Nat} {G : Hp → Prop} {Y : Nat → Hp → V → Hp → Prop} (w : Walk J n G Y) {H : Hp} {Nx : Hp → Prop} {Body : V → Hp → (Hp → Prop) → Prop} (Pv : Nat → Hp → Prop) (h0 : Pv 0 H) (hG : ∀ i H, i ≤ n → Pv i H → G H)
    (hs : ∀ i x Ha Hb, i < n → Pv i Ha → Y i Ha x Hb → Body x Hb (Pv (i + 1))) (hd : ∀ H, Pv n H → Nx H) :
    ∃ W1 : Nat → Nat → Hp → Prop, (∃ m, W1 0 m H) ∧ ∀ j k H, W1 j k H →
      (J.stop j H ∧ Nx H) ∨ (J.go j H ∧ ∃ Nx1 : Hp → Prop, (∀ H', Nx1 H' → ∃ k', k' < k ∧ W1 (j + 1) k' H') ∧ ∀ x H', J.yld j H x H' → Body x H' Nx1) := by
  refine ⟨fun i m H => m = n - i ∧ i ≤ n ∧ Pv i H, ⟨n, by simp, Nat.zero_le _, h0⟩, ?_⟩
  rintro i m H ⟨rfl, hi, p⟩
  have q := hG i H hi p
  by_cases hlt : i < n
  · exact .inr ⟨w.goes i H hlt q, Pv (i + 1), fun H' p' => ⟨n - (i + 1), by omega, rfl, hlt, p'⟩, fun x H' y => hs i x H H' hlt p (w.yields i H x H' hlt q y)⟩
  · have e : i = n := by omega
    subst e
    exact .inl ⟨w.stops H q, hd H p⟩
/-- [F a b for a in as for b in bs a] -/
theorem lc2_rep {α β γ : Type} [Py γ] [TOnly γ] {K : PySem.W.Frag} {J : It} {n : Nat} {G : Hp → Prop} {Y : Nat → Hp → V → Hp → Prop} (w : Walk J n G Y) {g g1 : TG} {tt tt1 : TT} {wi1 : TI} {te : TE} {vs vs1 : List Nat} {σ : L2.St} {H1 : Hp} {D : Addr} {Qd : Hp → Prop} (hD : H1 D = none) (σw : L2.St) (hw : wipe σ vs = σw)
    (hGe : ∀ Ha Hb, Ex Ha Hb → G Ha → G Hb) (hG : G H1) (as : List α) (bs : α → List β) (F : α → β → γ) (hl : as.length = n) (hn : (as.flatMap fun a => (bs a).map (F a)).length ≤ 100000)
    (hs : ∀ i a x Ha Hb, as[i]? = some a → Ex H1 Ha → Y i Ha x Hb → ∀ (R0 : Hp → Prop) (R : It → L2.St → Hp → Prop),
      (∀ J1 σ2 H4 n1 G1 Y1 σv, wipe σ2 vs1 = σv → Walk J1 n1 G1 Y1 → Ex Ha H4 → (∀ Hc, Ex H1 Hc → G1 Hc) → (bs a).length = n1 →
        (∀ j b x' Hc Hd, (bs a)[j]? = some b → Ex H1 Hc → Y1 j Hc x' Hd → ∀ (R02 : Hp → Prop) (R2 : V → Hp → Prop), (∀ y H7, Ex Hc H7 → Rep K H7 y (F a b) → R2 y H7) →
          g1 x' σv Hd fun σ3 H5 => wipe σ3 vs1 = σv ∧ tt1 σ3 H5 fun b H6 => if b = true then te σ3 H6 (fun y H7 => R2 y H7) else R02 H6) → R J1 σ2 H4) →
      g x σw Hb fun σ2 H2 => wipe σ2 vs = σw ∧ tt σ2 H2 fun b H3 => if b = true then wi1 σ2 H3 (fun J1 H4 => R J1 σ2 H4) else R0 H3)
    (hd : ∀ ys H', Ex H1 H' → H' D = some (.lst ys) → RAll K H' ys (as.flatMap fun a => (bs a).map (F a)) → Qd H') :
    ∃ W : Nat → Nat → Hp → Prop, (∃ m, W 0 m (upd H1 D (.lst []))) ∧ ∀ i m H, W i m H →
      (J.stop i H ∧ Qd H) ∨ (J.go i H ∧ ∃ Nx : Hp → Prop, (∀ H', Nx H' → ∃ m', m' < m ∧ W (i + 1) m' H') ∧ ∀ x H', J.yld i H x H' → g x (wipe σ vs) H' fun σ2 H2 => wipe σ2 vs = wipe σ vs ∧ tt σ2 H2 fun b H3 =>
        if b = true then wi1 σ2 H3 fun J1 H4 => ∃ W1 : Nat → Nat → Hp → Prop, (∃ m, W1 0 m H4) ∧ ∀ j k H, W1 j k H →
          (J1.stop j H ∧ Nx H) ∨ (J1.go j H ∧ ∃ Nx1 : Hp → Prop, (∀ H', Nx1 H' → ∃ k', k' < k ∧ W1 (j + 1) k' H') ∧ ∀ x H', J1.yld j H x H' → g1 x (wipe σ2 vs1) H' fun σ3 H5 => wipe σ3 vs1 = wipe σ2 vs1 ∧ tt1 σ3 H5 fun b H6 =>
            if b = true then te σ3 H6 fun y H7 => ∃ acc, H7 D = some (.lst acc) ∧ acc.length < sizeLine ∧ Nx1 (upd H7 D (.lst (acc ++ [y]))) else Nx1 H6)
        else Nx H3) := by
  subst hw
  refine in_it w (Body := fun x H' Nx => g x (wipe σ vs) H' fun σ2 H2 => wipe σ2 vs = wipe σ vs ∧ tt σ2 H2 fun b H3 =>
        if b = true then wi1 σ2 H3 fun J1 H4 => ∃ W1 : Nat → Nat → Hp → Prop, (∃ m, W1 0 m H4) ∧ ∀ j k H, W1 j k H →
          (J1.stop j H ∧ Nx H) ∨ (J1.go j H ∧ ∃ Nx1 : Hp → Prop, (∀ H', Nx1 H' → ∃ k', k' < k ∧ W1 (j + 1) k' H') ∧ ∀ x H', J1.yld j H x H' → g1 x (wipe σ2 vs1) H' fun σ3 H5 => wipe σ3 vs1 = wipe σ2 vs1 ∧ tt1 σ3 H5 fun b H6 =>
            if b = true then te σ3 H6 fun y H7 => ∃ acc, H7 D = some (.lst acc) ∧ acc.length < sizeLine ∧ Nx1 (upd H7 D (.lst (acc ++ [y]))) else Nx1 H6)
        else Nx H3) (fun i H => Ex H1 H ∧ ∃ ys, H D = some (.lst ys) ∧ RAll K H ys ((as.take i).flatMap fun a => (bs a).map (F a))) ⟨Ex.new hD, [], upd_same, .nil⟩ (fun i H _ p => hGe _ _ p.1 hG) ?_ ?_
  · rintro i x Ha Hb hi ⟨e, ys, hy, hr⟩ y
    have hi' : i < as.length := by omega
    have ha := List.getElem?_eq_getElem hi'
    have hle : ∀ k, ((as.take i).flatMap fun a => (bs a).map (F a)).length + k ≤ ((as.take i).flatMap fun a => (bs a).map (F a)).length + ((bs as[i]).length) → ((as.take i).flatMap fun a => (bs a).map (F a)).length + k ≤ 100000 := fun k hk => by
      have e1 : as = as.take i ++ as[i] :: as.drop (i + 1) := by
        rw [List.getElem_cons_drop, List.take_append_drop]
      have e2 := congrArg (fun l => (l.flatMap fun a => (bs a).map (F a)).length) e1
      simp only [List.flatMap_append, List.flatMap_cons, List.length_append, List.length_map] at e2
      omega
    refine hs i as[i] x Ha Hb ha e y _ _ (fun J1 σ2 H4 n1 G1 Y1 σv hv w1 e4 hG1 hl1 hel => ?_)
    subst hv
    refine in_it w1 (Body := fun x H' Nx1 => g1 x (wipe σ2 vs1) H' fun σ3 H5 => wipe σ3 vs1 = wipe σ2 vs1 ∧ tt1 σ3 H5 fun b H6 =>
            if b = true then te σ3 H6 fun y H7 => ∃ acc, H7 D = some (.lst acc) ∧ acc.length < sizeLine ∧ Nx1 (upd H7 D (.lst (acc ++ [y]))) else Nx1 H6)
      (fun j H => Ex H1 H ∧ ∃ zs, H D = some (.lst zs) ∧ RAll K H zs (((as.take i).flatMap fun a => (bs a).map (F a)) ++ ((bs as[i]).take j).map (F as[i]))) ⟨e.trans e4, ys, e4 _ _ hy, by simpa using hr.ex e4⟩ (fun j H _ p => hG1 _ p.1) ?_ ?_
    · rintro j x' Hc Hd hj ⟨ec, zs, hz, hrz⟩ y1
      have hj' : j < (bs as[i]).length := by omega
      have hb := List.getElem?_eq_getElem hj'
      refine hel j _ x' Hc Hd hb ec y1 _ _ (fun v H7 e7 hv => ?_)
      have hzl : zs.length < 100000 := by
        have q := hrz.length
        rw [List.length_append, List.length_map, List.length_take] at q
        have q2 := hle (bs as[i]).length (Nat.le_refl _)
        omega
      refine ⟨zs, e7 _ _ hz, sz_lt hzl, Ex.mut (ec.trans e7) hD, zs ++ [v], upd_same, ?_⟩
      rw [take_get hb, List.map_append, ← List.append_assoc]
      exact RAll.updL (e7 _ _ hz) ((hrz.ex e7).snoc hv)
    · rintro H ⟨ec, zs, hz, hrz⟩
      refine ⟨ec, zs, hz, ?_⟩
      rw [take_get ha, List.flatMap_append, List.flatMap_cons, List.flatMap_nil, List.append_nil]
      rw [← hl1, List.take_length] at hrz
      exact hrz
  · rintro H ⟨e, ys, hy, hr⟩
    rw [← hl, List.take_length] at hr
    exact hd ys H e hy hr
/-! ### all but dicts is kept -/
def isDict : HO → Bool
  | .dK _ => true
  | .dT _ => true
  | _ => false
def Kd (H H' : Hp) : Prop := ∀ a o, isDict o = false → H a = some o → H' a = some o
theorem Kd.refl (H : Hp) : Kd H H := fun _ _ _ h => h
theorem Kd.trans {H H1 H2 : Hp} (x : Kd H H1) (y : Kd H1 H2) : Kd H H2 := fun a o d h => y a o d (x a o d h)
theorem Kd.of {H H' : Hp} (e : Ex H H') : Kd H H' := fun a o _ h => e a o h
theorem Kd.keep {H H' : Hp} (k : Kd H H') : Keep H H' := fun a o d h => k a o (by cases o <;> first | rfl | (exact absurd d (by decide)) | (simp [isData] at d)) h
theorem Kd.upd {H : Hp} {p : Addr} {u o : HO} (h : H p = some u) (d : isDict u = true) : Kd H (upd H p o) := fun a x hx hd => by
  have n : a ≠ p := fun e => by
    rw [e, h] at hd
    cases hd
    rw [d] at hx
    cases hx
  rw [upd_ne n]
  exact hd
theorem Kd.chg {H H' : Hp} {p : Addr} {o : HO} (k : Kd H H') (h : H p = none) : Kd H (L2.upd H' p o) := fun a u d ha => by
  rw [upd_ne (ne_of_none ha h)]
  exact k a u d ha
/-- what is kept between two moments, said once for comprehensions -/
structure Rel (R : Hp → Hp → Prop) : Prop where
  refl : ∀ H, R H H
  trans : ∀ {H H1 H2}, R H H1 → R H1 H2 → R H H2
  of : ∀ {H H'}, Ex H H' → R H H'
  chg : ∀ {H H' : Hp} {p : Addr} {o : HO}, R H H' → H p = none → R H (L2.upd H' p o)
theorem rel_ex : Rel Ex := ⟨Ex.refl, Ex.trans, fun h => h, fun x h => Ex.mut x h⟩
theorem rel_kd : Rel Kd := ⟨Kd.refl, Kd.trans, Kd.of, fun x h => Kd.chg x h⟩
/-- a comprehension with an invariant of its own (a draw, a chart) -/
theorem lc_gen {α β : Type} [Py β] [TOnly β] {K : PySem.W.Frag} {J : It} {n : Nat} {G : Hp → Prop} {Y : Nat → Hp → V → Hp → Prop} (w : Walk J n G Y) {g : TG} {tt : TT} {te : TE} {vs : List Nat} {σ : L2.St} {H1 : Hp} {D : Addr} {Qd : Hp → Prop} (hD : H1 D = none) (σw : L2.St) (hw : wipe σ vs = σw)
    {R : Hp → Hp → Prop} (rel : Rel R) (hRD : ∀ {H H' ys}, R H H' → H D = some (.lst ys) → H' D = some (.lst ys)) (hRR : ∀ {H H'} {ys : List V} {bs : List β}, R H H' → RAll K H ys bs → RAll K H' ys bs)
    (I : Nat → Hp → Prop) (hI : ∀ i H o, H1 D = none → I i H → I i (L2.upd H D o)) (hI0 : I 0 H1)
    (hGe : ∀ i H, i ≤ n → R H1 H → I i H → G H) (as : List α) (hl : as.length = n) (hn : n ≤ 100000)
    (Keepd : Nat → α → Bool → Prop) (Val : Nat → α → β → Prop)
    (hs : ∀ i a x Ha Hb, as[i]? = some a → R H1 Ha → I i Ha → Y i Ha x Hb → ∀ (R0 : Hp → Prop) (Rv : V → Hp → Prop), (∀ H4, R Ha H4 → I (i + 1) H4 → Keepd i a false → R0 H4) → (∀ y b H4, R Ha H4 → I (i + 1) H4 → Keepd i a true → Val i a b → Rep K H4 y b → Rv y H4) →
      g x σw Hb fun σ2 H2 => wipe σ2 vs = σw ∧ tt σ2 H2 fun b H3 => if b = true then te σ2 H3 (fun y H4 => Rv y H4) else R0 H3)
    (Out : Nat → List β → Prop) (hO0 : Out 0 []) (hO1 : ∀ i a bs, as[i]? = some a → Out i bs → Keepd i a false → Out (i + 1) bs) (hO2 : ∀ i a b bs, as[i]? = some a → Out i bs → Keepd i a true → Val i a b → Out (i + 1) (bs ++ [b]))
    (hd : ∀ ys bs H', R H1 H' → I n H' → H' D = some (.lst ys) → RAll K H' ys bs → Out n bs → Qd H') :
    ∃ W : Nat → Nat → Hp → Prop, (∃ m, W 0 m (upd H1 D (.lst []))) ∧ ∀ i m H, W i m H →
      (J.stop i H ∧ Qd H) ∨ (J.go i H ∧ ∃ Nx : Hp → Prop, (∀ H', Nx H' → ∃ m', m' < m ∧ W (i + 1) m' H') ∧ ∀ x H', J.yld i H x H' → g x (wipe σ vs) H' fun σ2 H2 => wipe σ2 vs = wipe σ vs ∧ tt σ2 H2 fun b H3 =>
        if b = true then te σ2 H3 fun y H4 => ∃ acc, H4 D = some (.lst acc) ∧ acc.length < sizeLine ∧ Nx (upd H4 D (.lst (acc ++ [y]))) else Nx H3) := by
  subst hw
  refine lc_it w (fun i H => R H1 H ∧ I i H ∧ ∃ ys bs, H D = some (.lst ys) ∧ ys.length ≤ i ∧ RAll K H ys bs ∧ Out i bs) ⟨rel.chg (rel.refl _) hD, hI _ _ _ hD hI0, [], [], upd_same, Nat.le_refl _, .nil, hO0⟩ (fun i H hi p => hGe i H hi p.1 p.2.1) ?_ ?_
  · rintro i x Ha Hb hi ⟨e, iv, ys, bs, hy, hlen, hr, ho⟩ y
    have hi' : i < as.length := by omega
    have ha := List.getElem?_eq_getElem hi'
    refine hs i as[i] x Ha Hb ha e iv y _ _ (fun H4 e4 i4 hf => ?_) (fun v b H4 e4 i4 hf hb hv => ?_)
    · exact ⟨rel.trans e e4, i4, ys, bs, hRD e4 hy, by omega, hRR e4 hr, hO1 i _ bs ha ho hf⟩
    · refine ⟨ys, hRD e4 hy, sz_lt (by omega), rel.chg (rel.trans e e4) hD, hI _ _ _ hD i4, ys ++ [v], bs ++ [b], upd_same, by simp; omega, ?_, hO2 i _ b bs ha ho hf hb⟩
      exact RAll.updL (hRD e4 hy) ((hRR e4 hr).snoc hv)
  · rintro H ⟨e, iv, ys, bs, hy, _, hr, ho⟩
    exact hd ys bs H e iv hy hr ho
/-! ### rules within a comprehension's block: the written part by its name -/
section
variable {X : Cx}
theorem ix_tupK (K : PySem.W.Frag) (h : X.K = K := by rfl) : IxR X (rIxT K) := h ▸ ix_tup
theorem ix_listK (K : PySem.W.Frag) (h : X.K = K := by rfl) : IxR X (rIxL K) := h ▸ ix_list
theorem op_in_seqK (K : PySem.W.Frag) (h : X.K = K := by rfl) : OpR X (compareOp .In) (rIn K false) := h ▸ op_in_seq
theorem op_notIn_seqK (K : PySem.W.Frag) (h : X.K = K := by rfl) : OpR X (compareOp .NotIn) (rIn K true) := h ▸ op_notIn_seq
theorem cr_allK (K : PySem.W.Frag) (hc : X.calm = true) (h : X.K = K := by rfl) : CallR X (.builtin "all") (rAll K) := h ▸ cr_all hc
theorem cr_anyK (K : PySem.W.Frag) (hc : X.calm = true) (h : X.K = K := by rfl) : CallR X (.builtin "any") (rAny K) := h ▸ cr_any hc
theorem call_isiK' (K : PySem.W.Frag) (h : X.K = K := by rfl) : CallR X (.builtin "isinstance") (rIsi K) := h ▸ call_isi
theorem pe_fldK {K : PySem.W.Frag} {o : Expr} {ta : TE} {f : Str} {pos : Pos} (he : PE X o ta) (ht : attributeBase o f X.env (eval o X.env) = eval o X.env := by rfl) (h : X.K = K := by rfl) : PE X (.Attribute o f pos) (tFld K ta f) := h ▸ pe_fld he ht
end
section
variable {X : Cx} {tg : Expr}
theorem pi_listK {K : PySem.W.Frag} {l : Expr} {tl : TE} (hl : PE X l tl) (h : X.K = K := by rfl) : PI X tg l (iList K tl) := h ▸ pi_list hl
theorem pi_tupK {K : PySem.W.Frag} {l : Expr} {tl : TE} (hl : PE X l tl) (h : X.K = K := by rfl) : PI X tg l (iTup K tl) := h ▸ pi_tup hl
end
end My
local macro_rules | `(tactic| walk_at "lk") => `(tactic| (repeat (first | exact My.lk_eq | exact rfl | refine (My.lk_ne (by decide +kernel)).trans ?_)))
open PySem in
example : List.lookup ("b" : Str) [(("a" : Str), L2.V.int 1), ("b", .int 2)] = some (.int 2) := by walk_at "lk"
open PySem in
example : List.lookup ("c" : Str) [(("a" : Str), L2.V.int 1), ("b", .int 2)] = none := by walk_at "lk"

-- Er
/-! own errors over Exception, by way of other own classes too, with an own __init__ that stores its argument -/
namespace My
open PySem PyProof.Rows
section
open PySem.W PySem.Calls
open Builtin Builtin.ObjectAttr
variable {pr : Program} {wd : World} {A : Around} {R : Result → Shared → Prop} {hp : Heap} {ge : Array GenState} {dr : Drawn} {tm : Nat} {os : OsState}
/-- self.f = v on an error that has no dict as yet -/
theorem er_store {K : Frag} {f : Str} {tk : Tok} {v : Value} {x C : Addr} {fv : Array Value} {cd : ClassData} (kin : K.In hp) (hx : hp.get? x = some { cls := .ref C, data := .fields fv })
    (hcd : clsIn K C = some cd) (ht : excTail ESX.exTail cd.mro = true) (hD : cd.hasDict = true) (hno : findIn K (.ref C) f = some none)
    (hq : ∀ h' tk' dx, (∀ b o, b ≠ x → hp.get? b = some o → h'.get? b = some o) → hp.objs.size ≤ dx → dx ≠ x → h'.get? x = some { cls := .ref C, dict := some dx, data := .fields fv } → h'.Ns1 dx (fun y => if y = f then some v else none) → R (.ok (.ret .none)) ⟨h', ge, dr, tk', os⟩) :
    codeAny (model pr wd) A (.call (.builtin "object.__setattr__") ⟨[.ref x, .str f tk, v], []⟩) R ⟨hp, ge, dr, tm, os⟩ := by
  have at_ : InstAt hp x { cls := .ref C, data := .fields fv } C none := ⟨hx, rfl, rfl, trivial⟩
  have far : x ≠ hp.objs.size := Nat.ne_of_lt (Heap.lt_size hx)
  have objIn : cd.mro.contains (.type "object") = true := by
    rw [excTail_contains "object" _ ht]
    decide +kernel
  have nonempty : cd.mro.isEmpty = false := by
    cases e : cd.mro with
    | nil => rw [e] at ht; exact absurd ht (by decide)
    | cons _ _ => rfl
  have inMro : mroIn K C (.type "object") = some true := by
    unfold mroIn
    rw [hcd, Option.bind_some, nonempty, objIn]
    rfl
  have isObj : Looks (model pr wd) hp (isInstance (.ref x) (.type "object")) true := at_.type.andThen (looks_mroIn kin inMro)
  refine codeAny_call_builtin PySem.F.store_object.slot.plain PySem.F.store_object.entry ?_
  refine @check_slot (model pr wd) _ _ ⟨hp, ge, dr, tm, os⟩ "object.__setattr__" "object" "__setattr__" (.ref x) [.str f tk, v] [] _ PySem.F.store_object.kind PySem.F.store_object.split isObj (PySem.F.store_object.args (.ref x) (.str f tk) v) ?_
  have lookMro : Looks (model pr wd) hp (mroOf (.ref C)) cd.mro := (looks_clsIn kin hcd).andThen .now
  have lookTaker : Looks (model pr wd) hp (storeTaker? none) none := .now
  have lookCls : Looks (model pr wd) hp (classData C) cd := looks_clsIn kin hcd
  rw [osa_eq, refuse_eq]
  refine wpAny_bind (wpAny_bind (at_.type.at (wpAny_bind (lookMro.at ?_))))
  rw [excTail_pass (.ref x) (PySem.F.store_Exception.passes _) _ ht]
  refine wpAny_pure (wpAny_bind (at_.type.at (wpAny_bind ((looks_findIn kin hno).at (wpAny_bind (lookTaker.at ?_))))))
  show wpAny _ _ (storeInOwnDict (.ref x) (.ref C) (.str f tk) f v false) _ _ _
  obtain ⟨nm, bs, mro, ns, qn, hd, sn, sb, ab, col, del⟩ := cd
  dsimp only at hD
  subst hD
  unfold storeInOwnDict ownDictForStores
  repeat (first | with_reducible refine HandSPX.store_in_new ?_ ?_ | with_reducible refine wpAny_loadPart_at hx ?_ | with_reducible refine lookCls.at ?_ | wp_step)
  · exact ⟨_, #[], _,
      (Heap.get?_update_ne _ _ _ _ far.symm).trans (Heap.get?_push_at rfl rfl),
      rfl, fun e he => absurd he (by simp), fun _ => rfl⟩
  · intro h' tk' hn' same
    have hx₁ : (hp.push { cls := .type "dict", data := .dict #[] }).get? x = some { cls := .ref C, data := .fields fv } := Heap.get?_push_of_some _ hx
    refine hq h' tk' hp.objs.size (fun b o hb ho => ?_) (Nat.le_refl _) far.symm ?_ hn'
    · have e1 := same.2 b (Nat.ne_of_lt (Heap.lt_size ho))
      exact e1.trans ((Heap.get?_update_ne _ _ _ _ hb).trans (Heap.get?_push_of_some _ ho))
    · exact (same.2 x far).trans (Heap.get?_update_self _ hx₁ rfl)
end
end My
namespace My
open PySem L2
open PySem.W (clsIn findIn subIn typeIn keepIn excTail Frag set_plain callWith_K kdv_tup looks_findIn bind_fn)
/-- what the top has of such a class, at C -/
structure ErC (K : Frag) (C : Addr) : Prop where
  cls : ∃ nm q N bs bm sn sub ab col dd k0 k1 k2 k3 k5, K.lookup C = some (excClassObj nm q C N bs bm true sn sub ab col dd k0 k1 k2 k3 k5 "Exception.__new__") ∧ excTail ESX.exTail bm = true
  sa : findIn K (.ref C) "__setattr__" = some (some (.builtin "object.__setattr__"))
  ex : subIn K (.ref C) (.type "BaseException") = some true
  ty : typeIn K (.ref C) = some (.type "type")
  kp : keepIn K (.ref C) = true
section
variable {X : Cx} {pins : List (Addr × Obj)} {σ : St} {H : Hp} {s : Shared} {a C : Addr} {f : Str} {y : V} {u : Value}
theorem er_set {A : Around} {E : Value → Shared → Prop} {Q : Unit → Shared → Prop} (T : ErC X.K C) (I : Inv X pins σ H s) (e : H a = some (exo a C none)) (hno : findIn X.K (.ref C) f = some none) (ry : RelV y u)
    (h : ∀ dx s', H dx = none → dx ≠ a → Inv X pins σ (upd (upd H dx (exd dx [(f, y)])) a (exo a C (some dx))) s' → Q () s') : wpAny (model X.prog X.w) A (setAttr (.ref a) f u) Q E s := by
  obtain ⟨nm, q, N, bs, bm, sn, sub, ab, col, dd, k0, k1, k2, k3, k5, hC, hbm⟩ := T.cls
  have hcl : clsIn X.K C = some { name := nm, bases := bs, mro := .ref C :: bm, ns := N, qualname := q, hasDict := true, slotNames := sn, subclasses := sub, abstract := ab, collection := col, hasDel := false } := by
    unfold clsIn
    rw [hC]
  obtain ⟨t1, ho⟩ := exo_at I.hok e
  obtain ⟨hp, ge, dr, tm, os⟩ := s
  refine set_plain I.kIn (ox := { cls := .ref C, dict := none, data := .fields #[.ref t1, .none, .none, .none, .bool false, .none] }) (od := none) ⟨ho, rfl, rfl, trivial⟩ T.sa ?_
  refine er_store I.kIn ho hcl (show excTail ESX.exTail (.ref C :: bm) = true from hbm) rfl hno (fun h' tk' dx kept dn dne hx hn => ?_)
  have dNew : H dx = none := I.hok.fresh dn
  have offD : ∀ {b : Addr} {o : Obj}, hp.get? b = some o → b ≠ dx := fun {b o} z => Nat.ne_of_lt (Nat.lt_of_lt_of_le (Heap.lt_size z) dn)
  have offA : ∀ {b : Addr}, H b = none → b ≠ a := fun {b} n z => by
    rw [z, e] at n
    exact nomatch n
  have changed : Un X.fs [] H (upd (upd H dx (exd dx [(f, y)])) a (exo a C (some dx))) hp h' :=
    { keep := fun b o z n _ _ => kept b o (offA n) z
      slot := fun b o z n _ _ => ⟨o.slots, kept b o (offA n) z⟩
      free := fun b o z n _ => by rw [upd_ne (offA n), upd_ne (offD z)]; exact n
      there := fun b o z _ => if hb : b = a then ⟨_, hb ▸ hx⟩ else ⟨o, kept b o hb z⟩
      tups := fun b xs z => by rw [upd_ne (at_ne e z exo_tup), upd_ne (ne_of_none z dNew)]; exact z
      frzs := fun b o v z => by rw [upd_ne (at_ne e z exo_frz), upd_ne (ne_of_none z dNew)]; exact z
      tbls := fun b ps z => ⟨#[], by rw [upd_ne (at_ne e z exo_tbl), upd_ne (ne_of_none z dNew), z]; simp⟩ }
  refine h dx _ dNew dne (I.un (t' := tk') changed fun b o z => ?_)
  by_cases hb : b = a
  · subst hb
    rw [upd_same] at z
    cases z
    exact exo_ok hx
  rw [upd_ne hb] at z
  by_cases hd : b = dx
  · subst hd
    rw [upd_same] at z
    cases z
    exact exd_ok hn (relO_put (fs := []) ry fun _ => True.intro)
  rw [upd_ne hd] at z
  refine (I.hok b o z).stay (fun c v hc z2 => kept c v ?_ z2) (fun c hc => ?_) (fun c xs hc => ?_)
  · rcases hc with hc | hc
    · rw [hc]
      exact hb
    · exact at_ne e hc exo_own
  · rw [upd_ne (at_ne e hc exo_own), upd_ne (ne_of_none hc dNew)]
    exact hc
  · rw [upd_ne (at_ne e hc exo_tup), upd_ne (ne_of_none hc dNew)]
    exact hc
end
/-- self.f = e in the own __init__ -/
def tErS (K : Frag) (f : Str) (to te : TE) : TS := fun D σ H => te σ H fun y H1 => to σ H1 fun x H2 => ∃ a C : Addr, x = .ref a ∧ ErC K C ∧ findIn K (.ref C) f = some none ∧
  H2 a = some (exo a C none) ∧ ∀ dx, H2 dx = none → dx ≠ a → D.nx σ (upd (upd H2 dx (exd dx [(f, y)])) a (exo a C (some dx)))
/-- C(e, ..), its __init__ keeping sp -/
def tErM (C : Addr) (sp : Sp) (ta : TA) : St → Hp → XK → Prop := fun σ H Q => ta σ H fun vs H1 => vs.length ≤ 1000 ∧ ∀ a, H1 a = none → sp (.ref a :: vs) (upd H1 a (exo a C none))
  (fun v H2 => v = .non ∧ ∃ (d : Addr) (fs : List (Str × V)), H2 a = some (exo a C (some d)) ∧ H2 d = some (exd d fs) ∧ H1 d = none ∧ Q (.ref C) (some d) (upd (del H2 a) d (.xd fs))) (fun _ _ _ => False)
section
variable {X : Cx} {o e : Expr} {es : List Expr} {to te : TE} {ta : TA} {f : Str} {p p' pos : Pos}
theorem ps_erS (ho : PE X o to) (he : PE X e te) (hs : swapsWith e (some (.Attribute o f p')) pos.line X.env = pure false := by rfl) : PS X (.Assign [.Attribute o f p'] e pos) (tErS X.K f to te) :=
  ⟨fun pins s σ H D I h => by
    refine plainObj_wpAny_Assign_Attribute (thn (he.run pins s σ H _ I h) fun v s1 ⟨y, H1, I1, r1, q1⟩ => ?_) hs
    refine thn (ho.run pins s1 σ H1 _ I1 q1) fun u s2 ⟨x, H2, I2, r2, a, C, ex, T, hno, ea, q⟩ => ?_
    subst ex
    obtain rfl : u = Value.ref a := r2
    exact er_set T I2 ea hno r1 fun dx s' n ne J => ⟨σ, _, J, q dx n ne⟩⟩
theorem pmk_er {x : Str} {C fI : Addr} {k : Nat} {fd : FuncData} {ps : List Str} {sp : Sp} (T : ErC X.K C) (iC : findIn X.K (.ref C) "__init__" = some (some (.ref fI))) (tI : typeIn X.K (.ref fI) = some (.type "function"))
    (F1 : FnOk X.prog X.w X.K X.mg X.base CX0 k fI fd ps sp) (hr : Room (k + 1) X.A) (hb : Binds X.K fd ps []) (hg : Gl X x) (hm : X.mg x = some (.ref C)) (ha : PA X (e :: es) ta)
    (hdb : (x == ("__debug__" : Str)) = false := by decide) (he : starEach (e :: es) X.env = (false, eval e X.env) :: starEach es X.env := by rfl) (hpl : (backTo pos (starEach es X.env)).any (·.1) = false := by rfl) :
    PMk X (.Call (.Name x p) (e :: es) [] pos) (tErM C sp ta) := by
  intro pins s σ H Q I h
  obtain ⟨nm, q, N, bs, bm, sn, sub, ab, col, dd, k0, k1, k2, k3, k5, hC, hbm⟩ := T.cls
  have hT : ∀ Y : String, bm.contains (.type Y) = ESX.exTail.contains (.type Y) := fun Y => PySem.W.excTail_contains Y bm hbm
  refine wpAny_Call_Name_kw (ld_glob I hg hm ?_ hdb)
  refine callWith_K (h₀ := X.base) I.ok.mod.kin T.kp (thn (ha.run pos pins s σ H _ I h) fun us s1 ⟨vs, H1, I1, r1, hz, q1⟩ => ⟨I1.kIn, ?_⟩) he hpl
  show wpAny _ _ (call (.ref C) us) _ _ _
  obtain ⟨hp, ge, dr, tk, os⟩ := s1
  have beyond : hp.objs.size ≤ hp.objs.size + 1 := Nat.le_succ _
  have hq := q1 (hp.objs.size + 1) (I1.hok.fresh beyond)
  have keeps : ∀ b o, hp.get? b = some o → ((hp.push (kdv_tup us)).push (HandSPX.excO C hp.objs.size)).get? b = some o := fun b o z => Heap.get?_push_of_some _ (Heap.get?_push_of_some _ z)
  have there : ((hp.push (kdv_tup us)).push (HandSPX.excO C hp.objs.size)).get? (hp.objs.size + 1) = some (HandSPX.excO C hp.objs.size) := by heap_get
  have I2 := I1.laid (t' := tk) (a := hp.objs.size + 1) (o := exo (hp.objs.size + 1) C none) keeps beyond (exo_ok there)
  have r2 : Vals (V.ref (hp.objs.size + 1) :: vs) (Value.ref (hp.objs.size + 1) :: us) := .cons rfl r1
  have many : (Value.ref (hp.objs.size + 1) :: us).length = ps.length := by
    rw [← r2.length]
    exact F1.len _ _ _ _ hq
  have small : us.length ≤ sizeLine := by
    rw [← Paired.length r1, sizeLine_eq]
    omega
  refine wpAny_call (HandSPX.call_own PySem.F.excBase_Exception hT (I1.kIn _ _ hC) (looks_findIn I1.kIn iC) (fun self => bind_fn I1.kIn self tI) small ?_)
  have bound := hb _ (Value.ref (hp.objs.size + 1) :: us) I2.kIn (by rw [List.append_nil]; exact many)
  rw [List.append_nil] at bound
  refine codeAny_mono (F1.run _ X.stack _ _ ⟨Value.ref (hp.objs.size + 1) :: us, []⟩ (Value.ref (hp.objs.size + 1) :: us) _ _ (fun _ _ _ => False) (hr.make C us []) (I2.env0.make C us []) bound r2 hq) fun r s' hq' => ?_
  cases r with
  | error er => exact hq'.elim
  | ok fl =>
    cases fl with
    | ret u =>
      obtain ⟨v, H2, os2, bare2, un2, hok2, rv, ev, d, fs, ea, ed, hd1, q2⟩ := hq'
      subst ev
      obtain ⟨h2, g2, d2, t2, os'⟩ := s'
      exact ⟨rv, mk_end (raises_own T.ex T.ty) I1 beyond keeps un2 hok2 os2 bare2 ea ed hd1 q2⟩
    | next => exact False.elim hq'
    | brk => exact False.elim hq'
    | cont => exact False.elim hq'
end
end My
namespace My
open PySem L2
theorem exm_own {K : PySem.W.Frag} {S : Addr} (h1 : PySem.W.subIn K (.ref S) (.type "BaseException") = some true) (h2 : PySem.W.isClsIn K S = true) (h3 : PySem.W.typeIn K (.ref S) = some (.type "type")) (h4 : PySem.W.subIn K (.ref S) (.ref S) = some true) :
    PySem.W.exmOne K (.ref S) (.ref S) = some true := by
  have some_ : (PySem.W.clsIn K S).isSome = true := h2
  unfold PySem.W.exmOne
  simp [h1, h3, h4, some_, PySem.W.kitCls]
/-- a class of errors of the top -/
structure ErrAt (K : PySem.W.Frag) (mg : Str → Option Value) (x : Str) where
  C : Addr
  er : ErC K C
  xf : XfC K C
  m : mg x = some (.ref C)
  te : PySem.W.exmOne K (.ref C) (.ref C) = some true
end My

-- St
/-! set(xs) of lists and of tuples; sorted(set) of tuples of ints -/
namespace My
open PySem PySem.Spec PyProof.Rows L2
/-- an empty set, and what goes over a list, over a tuple -/
abbrev voidS (w : World) : Obj := { cls := .type "set", dict := none, data := .set #[] 0 (.fresh 0 0 (!w.params.followText "set-order")) }
abbrev listIt (l : Addr) : Obj := { cls := .type "list_iterator", data := .fields #[.ref l, .int 0 0] }
abbrev tupleIt (l : Addr) : Obj := { cls := .type "tuple_iterator", data := .fields #[.ref l, .int 0 0] }
section
variable {P : Program} {w : World} {A : Around} {E : Value → Shared → Prop} {s : Shared}
theorem set_of_list {l : Addr} {items : Array Value} (Pz : Heap → Prop) {Q : Value → Shared → Prop} (hh : A.handled = none) (hl : s.heap.IsList l items)
    (turns : ∀ R : Result → Shared → Prop, (∀ h' tk, (∀ b o, s.heap.get? b = some o → h'.get? b = some o) → Pz h' → R (.ok (.ret .none)) { s with heap := h', toks := tk }) →
      codeAny (model P w) A.in1.in1 (.builtin "set.update.loop" ⟨[.ref s.heap.objs.size, .ref (s.heap.push (voidS w)).objs.size], []⟩) R { s with heap := (s.heap.push (voidS w)).push (listIt l) })
    (fin : ∀ h' tk, (∀ b o, s.heap.get? b = some o → h'.get? b = some o) → Pz h' → Q (.ref s.heap.objs.size) { s with heap := h', toks := tk }) :
    wpAny (model P w) A (call (.type "set") [.ref l]) Q E s := by
  obtain ⟨c, tl, mro_⟩ := F.called_set.mro
  have made_ := F.called_set.made
  have sub_ := F.called_set.sub
  have notTy := F.called_set.notType
  have create := F.called_set.canCreate
  have typed := F.typeCall_set_1 (.ref l)
  refine wpAny_call (codeAny_of_tree ?_)
  show wpAny _ _ (callAny (.type "set") ⟨[.ref l], []⟩) _ _ _
  refine wpAny_pure ⟨Code.quiet_builtin _ (by decide +kernel), ?_⟩
  refine codeAny_builtin F.entry_type_call ?_
  rw [Around.under_plain (weight_type_call_type "set" [.ref l] []) rfl]
  repeat (any_goals (first | assumption | wp_step))
  refine codeAny_mono (code_set_led1 (.ref l) (E := E) (Q₁ := fun obj s₁ => obj = .ref s.heap.objs.size ∧ s₁ = { s with heap := s.heap.push (voidS w) }) ⟨rfl, rfl⟩) fun r s₁ hr => ?_
  rcases r with e | (obj | _ | _ | _)
  · exact hr
  · exact hr.elim
  · exact hr.elim
  · exact hr.elim
  obtain ⟨rfl, rfl⟩ := hr
  have there : (s.heap.push (voidS w)).get? s.heap.objs.size = some (voidS w) := Heap.get?_push_size _ rfl
  have isSet : Shared.TypeIs { s with heap := s.heap.push (voidS w) } (.ref s.heap.objs.size) "set" := ⟨_, there, rfl⟩
  have look_ := F.called_set.init.lookup
  have bind_ := F.called_set.init.bind (.ref s.heap.objs.size)
  repeat (any_goals (first | assumption | wp_step))
  refine codeAny_mono (codeAny_call_builtin (R := wants (fun r s₂ => r = .none ∧ ∃ h' tk, s₂ = { s with heap := h', toks := tk } ∧ Pz h' ∧ ∀ b o, s.heap.get? b = some o → h'.get? b = some o) E) F.called_set.init.plain F.entry_set_init (check_set_init_1 isSet ?_)) fun r₂ s₂ hr₂ => ?_
  · obtain ⟨⟨ocls, odict, odata, oslots⟩, at_, cls_, many, data_⟩ := hl
    simp only at cls_ data_
    subst cls_; subst data_
    have late : (s.heap.push (voidS w)).get? l = some { cls := .type "list", dict := odict, data := .seq items many, slots := oslots } := Heap.get?_push_of_some _ at_
    have notSet := F.sub_list_set
    have notFrozen := F.sub_list_frozenset
    have noDict : (Value.type "list" == Value.type "dict") = false := by decide
    have isSeq : (s.heap.push (voidS w)).IsList l items := ⟨_, late, rfl, many, rfl⟩
    unfold Builtin.«set.__init__» noKeywords Builtin.Frozenset.updateFrom
    generalize named : pyIter = walkOf
    wp_walk
    subst named
    refine wpAny_pyIter_list isSeq ?_
    refine wpAny_bind (wpAny_runValue ?_)
    refine turns _ fun h' tk kept z => ?_
    show wpAny _ _ _ _ _ _
    refine wpAny_pure ?_
    show wpAny _ _ (ret Value.none) _ _ _
    exact wpAny_pure ⟨rfl, h', tk, rfl, z, kept⟩
  · rcases r₂ with e | (r | _ | _ | _)
    · exact hr₂
    · exact hr₂.elim
    · exact hr₂.elim
    · exact hr₂.elim
    obtain ⟨rfl, h', tk, rfl, z, kept⟩ := hr₂
    repeat (any_goals (first | assumption | wp_step))
    exact fin _ _ kept z
theorem set_of_tuple {l : Addr} {items : Array Value} (Pz : Heap → Prop) {Q : Value → Shared → Prop} (hh : A.handled = none) (hl : s.heap.IsTuple l items)
    (turns : ∀ R : Result → Shared → Prop, (∀ h' tk, (∀ b o, s.heap.get? b = some o → h'.get? b = some o) → Pz h' → R (.ok (.ret .none)) { s with heap := h', toks := tk }) →
      codeAny (model P w) A.in1.in1 (.builtin "set.update.loop" ⟨[.ref s.heap.objs.size, .ref (s.heap.push (voidS w)).objs.size], []⟩) R { s with heap := (s.heap.push (voidS w)).push (tupleIt l) })
    (fin : ∀ h' tk, (∀ b o, s.heap.get? b = some o → h'.get? b = some o) → Pz h' → Q (.ref s.heap.objs.size) { s with heap := h', toks := tk }) :
    wpAny (model P w) A (call (.type "set") [.ref l]) Q E s := by
  obtain ⟨c, tl, mro_⟩ := F.called_set.mro
  have made_ := F.called_set.made
  have sub_ := F.called_set.sub
  have notTy := F.called_set.notType
  have create := F.called_set.canCreate
  have typed := F.typeCall_set_1 (.ref l)
  refine wpAny_call (codeAny_of_tree ?_)
  show wpAny _ _ (callAny (.type "set") ⟨[.ref l], []⟩) _ _ _
  refine wpAny_pure ⟨Code.quiet_builtin _ (by decide +kernel), ?_⟩
  refine codeAny_builtin F.entry_type_call ?_
  rw [Around.under_plain (weight_type_call_type "set" [.ref l] []) rfl]
  repeat (any_goals (first | assumption | wp_step))
  refine codeAny_mono (code_set_led1 (.ref l) (E := E) (Q₁ := fun obj s₁ => obj = .ref s.heap.objs.size ∧ s₁ = { s with heap := s.heap.push (voidS w) }) ⟨rfl, rfl⟩) fun r s₁ hr => ?_
  rcases r with e | (obj | _ | _ | _)
  · exact hr
  · exact hr.elim
  · exact hr.elim
  · exact hr.elim
  obtain ⟨rfl, rfl⟩ := hr
  have there : (s.heap.push (voidS w)).get? s.heap.objs.size = some (voidS w) := Heap.get?_push_size _ rfl
  have isSet : Shared.TypeIs { s with heap := s.heap.push (voidS w) } (.ref s.heap.objs.size) "set" := ⟨_, there, rfl⟩
  have look_ := F.called_set.init.lookup
  have bind_ := F.called_set.init.bind (.ref s.heap.objs.size)
  repeat (any_goals (first | assumption | wp_step))
  refine codeAny_mono (codeAny_call_builtin (R := wants (fun r s₂ => r = .none ∧ ∃ h' tk, s₂ = { s with heap := h', toks := tk } ∧ Pz h' ∧ ∀ b o, s.heap.get? b = some o → h'.get? b = some o) E) F.called_set.init.plain F.entry_set_init (check_set_init_1 isSet ?_)) fun r₂ s₂ hr₂ => ?_
  · obtain ⟨⟨ocls, odict, odata, oslots⟩, at_, cls_, many, data_⟩ := hl
    simp only at cls_ data_
    subst cls_; subst data_
    have late : (s.heap.push (voidS w)).get? l = some { cls := .type "tuple", dict := odict, data := .seq items many, slots := oslots } := Heap.get?_push_of_some _ at_
    have notSet := F.sub_tuple_set
    have notFrozen := F.sub_tuple_frozenset
    have noDict : (Value.type "tuple" == Value.type "dict") = false := by decide
    have isSeq : (s.heap.push (voidS w)).IsTuple l items := ⟨_, late, rfl, many, rfl⟩
    unfold Builtin.«set.__init__» noKeywords Builtin.Frozenset.updateFrom
    generalize named : pyIter = walkOf
    wp_walk
    subst named
    refine wpAny_pyIter_tuple isSeq ?_
    refine wpAny_bind (wpAny_runValue ?_)
    refine turns _ fun h' tk kept z => ?_
    show wpAny _ _ _ _ _ _
    refine wpAny_pure ?_
    show wpAny _ _ (ret Value.none) _ _ _
    exact wpAny_pure ⟨rfl, h', tk, rfl, z, kept⟩
  · rcases r₂ with e | (r | _ | _ | _)
    · exact hr₂
    · exact hr₂.elim
    · exact hr₂.elim
    · exact hr₂.elim
    obtain ⟨rfl, h', tk, rfl, z, kept⟩ := hr₂
    repeat (any_goals (first | assumption | wp_step))
    exact fin _ _ kept z
end
end My

-- St2
namespace My
open PySem PySem.Spec PyProof.Rows L2
section
variable {P : Program} {w : World} {A : Around} {E : Value → Shared → Prop} {s : Shared}
theorem none_at {h : Heap} {b : Addr} (hb : h.objs.size ≤ b) : h.get? b = none := by
  cases q : h.get? b with
  | none => rfl
  | some o => exact absurd (Nat.lt_of_lt_of_le (Heap.lt_size q) hb) (Nat.lt_irrefl _)
/-- set(t) of a tuple of tuples of ints -/
theorem set_tupT {l : Addr} {items : Array Value} (ks : List (Addr × List Int)) {Q : Value → Shared → Prop} (hh : A.handled = none) (hl : s.heap.IsTuple l items) (hit : items.toList = ks.map fun p => Value.ref p.1)
    (hk : ∀ p ∈ ks, IsT P w s.heap p.2 p.1) (hfew : ks.length < 64) (hu : A.units + 3 < cLine)
    (fin : ∀ (h' : Heap) (tk : Nat) L es ep t, SetTR P w h' s.heap.objs.size L es ep t → Got ks ks.length L → (∀ b o, s.heap.get? b = some o → h'.get? b = some o) → Q (.ref s.heap.objs.size) { s with heap := h', toks := tk }) :
    wpAny (model P w) A (call (.type "set") [.ref l]) Q E s := by
  refine set_of_tuple (fun h' => ∃ L es ep t, SetTR P w h' s.heap.objs.size L es ep t ∧ Got ks ks.length L) hh hl (fun R hR => ?_) fun h' tk kept ⟨L, es, ep, t, z, g⟩ => fin h' tk L es ep t z g kept
  have many : items.size = ks.length := by
    have q := congrArg List.length hit
    rwa [Array.length_toList, List.length_map] at q
  have lS : l < s.heap.objs.size := by
    obtain ⟨o, ho, _⟩ := hl
    exact Heap.lt_size ho
  have nI : l ≠ (s.heap.push (voidS w)).objs.size := by
    rw [Heap.size_push]
    exact Nat.ne_of_lt (Nat.lt_succ_of_lt lS)
  have off : s.heap.objs.size ∉ [(s.heap.push (voidS w)).objs.size, l] := by
    rw [Heap.size_push]
    simp only [List.mem_cons, List.not_mem_nil, or_false, not_or]
    exact ⟨Nat.ne_of_lt (Nat.lt_succ_self _), Nat.ne_of_gt lS⟩
  have vals : ∀ (i : Nat) (v : Value), items[i]? = some v → ∃ p, ks[i]? = some p ∧ v = .ref p.1 := fun i v hv => by
    have q : (ks.map fun p => Value.ref p.1)[i]? = some v := by
      rw [← hit, Array.getElem?_toList]
      exact hv
    rw [List.getElem?_map] at q
    obtain ⟨p, h1, h2⟩ := Option.map_eq_some_iff.mp q
    exact ⟨p, h1, h2.symm⟩
  have h3 : A.in1.in1.in1.handled = none := by simp [hh]
  have isT : (s.heap.push (voidS w)).IsTuple l items := by
    obtain ⟨o, ho, r⟩ := hl
    exact ⟨o, Heap.get?_push_of_some _ ho, r⟩
  have isT2 : ((s.heap.push (voidS w)).push (tupleIt l)).IsTuple l items := by
    obtain ⟨o, ho, r⟩ := isT
    exact ⟨o, Heap.get?_push_of_some _ ho, r⟩
  have there : ((s.heap.push (voidS w)).push (tupleIt l)).get? s.heap.objs.size = some (voidS w) := Heap.get?_push_of_some _ (Heap.get?_push_size _ rfl)
  refine set_update_tups (s := { s with heap := (s.heap.push (voidS w)).push (tupleIt l) }) ((Walks.tuple h3 _ l nI items).toS) s.heap.objs.size off ks many hfew vals s.heap hk (none_at (Nat.le_refl _)) (fun b hb => none_at (by
    rw [List.mem_singleton.mp hb, Heap.size_push]
    exact Nat.le_succ _)) hu (items.size - 0) 0 (by omega) (Nat.zero_le _) ⟨⟨_, Heap.get?_push_size _ rfl, rfl, rfl⟩, isT2⟩ (fun b o e => Heap.get?_push_of_some _ (Heap.get?_push_of_some _ e)) ⟨[], #[], 0, _, setTR_fresh there, Got.zero ks⟩ fun s' L es ep t hm z g kept => ?_
  obtain ⟨h', g2, d', tk', os'⟩ := s'
  obtain rfl : g2 = s.gens := hm.gens
  obtain rfl : d' = s.drawn := hm.drawn
  obtain rfl : os' = s.os := hm.os
  rw [many] at g
  exact hR h' tk' kept ⟨L, es, ep, t, z, g⟩
/-- set(xs) of ints -/
theorem set_ints {l : Addr} {items : Array Value} (ns : List Int) {Q : Value → Shared → Prop} (hh : A.handled = none) (hl : s.heap.IsList l items) (hit : IntsAre items.toList ns) (hb : ns.length + 1 < scanBound)
    (fin : ∀ (h' : Heap) (tk c : Nat), SetR w h' s.heap.objs.size (fun j => decide (j ∈ ns)) c → c ≤ ns.length → (∀ b o, s.heap.get? b = some o → h'.get? b = some o) → Q (.ref s.heap.objs.size) { s with heap := h', toks := tk }) :
    wpAny (model P w) A (call (.type "set") [.ref l]) Q E s := by
  refine set_of_list (fun h' => ∃ c, SetR w h' s.heap.objs.size (fun j => decide (j ∈ ns)) c ∧ c ≤ ns.length) hh hl (fun R hR => ?_) fun h' tk kept ⟨c, z, g⟩ => fin h' tk c z g kept
  have many : items.size = ns.length := by
    have q := IntsAre.length hit
    rwa [Array.length_toList] at q
  have lS : l < s.heap.objs.size := by
    obtain ⟨o, ho, _⟩ := hl
    exact Heap.lt_size ho
  have nI : l ≠ (s.heap.push (voidS w)).objs.size := by
    rw [Heap.size_push]
    exact Nat.ne_of_lt (Nat.lt_succ_of_lt lS)
  have off : s.heap.objs.size ∉ [(s.heap.push (voidS w)).objs.size, l] := by
    rw [Heap.size_push]
    simp only [List.mem_cons, List.not_mem_nil, or_false, not_or]
    exact ⟨Nat.ne_of_lt (Nat.lt_succ_self _), Nat.ne_of_gt lS⟩
  have vals : ∀ (i : Nat) (v : Value), items[i]? = some v → ∃ k t, ns[i]? = some k ∧ v = .int k t := fun i v hv => by
    have hi : i < ns.length := by
      rw [← many]
      exact (Array.getElem?_eq_some_iff.mp hv).1
    obtain ⟨t, e⟩ := PyProof.Rows.IntsAre.int_at hit i v (by rw [Array.getElem?_toList]; exact hv)
    refine ⟨ns[i], t, List.getElem?_eq_getElem hi, ?_⟩
    rw [e, List.getD_eq_getElem?_getD, List.getElem?_eq_getElem hi]
    rfl
  have h3 : A.in1.in1.in1.handled = none := by simp [hh]
  have isL : (s.heap.push (voidS w)).IsList l items := by
    obtain ⟨o, ho, r⟩ := hl
    exact ⟨o, Heap.get?_push_of_some _ ho, r⟩
  have isL2 : ((s.heap.push (voidS w)).push (listIt l)).IsList l items := by
    obtain ⟨o, ho, r⟩ := isL
    exact ⟨o, Heap.get?_push_of_some _ ho, r⟩
  have there : ((s.heap.push (voidS w)).push (listIt l)).get? s.heap.objs.size = some (voidS w) := Heap.get?_push_of_some _ (Heap.get?_push_size _ rfl)
  refine set_update_ints (s := { s with heap := (s.heap.push (voidS w)).push (listIt l) }) ((Walks.list h3 _ l nI items).toS) s.heap.objs.size off ns many hb vals (items.size - 0) 0 (by omega) (Nat.zero_le _) ⟨⟨_, Heap.get?_push_size _ rfl, rfl, rfl⟩, isL2⟩ ⟨0, Nat.le_refl 0, setR_new_at there⟩ fun s' c hm hc z => ?_
  obtain ⟨h', g2, d', tk', os'⟩ := s'
  obtain rfl : g2 = s.gens := hm.gens
  obtain rfl : d' = s.drawn := hm.drawn
  obtain rfl : os' = s.os := hm.os
  rw [many] at hc
  refine hR h' tk' (fun b o e => ?_) ⟨c, z, hc⟩
  have b0 : b < s.heap.objs.size := Heap.lt_size e
  refine hm.heap b o ?_ (Heap.get?_push_of_some _ (Heap.get?_push_of_some _ e))
  rw [Heap.size_push]
  simp only [List.mem_cons, List.not_mem_nil, or_false, not_or]
  exact ⟨Nat.ne_of_lt b0, Nat.ne_of_lt (Nat.lt_succ_of_lt b0)⟩
end
end My

-- St3
namespace My
open PySem PySem.Spec PyProof.Rows L2
section
variable {P : Program} {w : World} {A : Around} {E : Value → Shared → Prop} {s : Shared}
theorem refs_from {L : List (Addr × List Int)} : ∀ vs : List Value, (∀ v ∈ vs, ∃ q ∈ L, v = Value.ref q.1) → ∃ L1 : List (Addr × List Int), vs = L1.map (fun q => Value.ref q.1) ∧ ∀ q ∈ L1, q ∈ L
  | [], _ => ⟨[], rfl, fun q h => nomatch h⟩
  | v :: vs, hv => by
    obtain ⟨q, hq, e⟩ := hv v List.mem_cons_self
    obtain ⟨L1, e1, hs⟩ := refs_from vs fun u hu => hv u (List.mem_cons_of_mem _ hu)
    refine ⟨q :: L1, by rw [List.map_cons, e, e1], fun r hr => ?_⟩
    rcases List.mem_cons.mp hr with rfl | z
    · exact hq
    · exact hs r z
/-- sorted(set), tuples of d ints -/
theorem sorted_setA {a : Addr} {L : List (Addr × List Int)} {es : Array (Int × Value)} {ep : Nat} {t : SetTable} {Q : Value → Shared → Prop} (R : SetTR P w s.heap a L es ep t) (hh : A.handled = none) {d : Nat} (hd1 : 1 ≤ d) (hd : ∀ p ∈ L, p.2.length = d)
    (fin : ∀ s' p (out : Array Value) (c : Nat) (L' : List (Addr × List Int)), (∀ b o, s.heap.get? b = some o → s'.heap.get? b = some o) → s'.gens = s.gens → s'.os = s.os → s.heap.objs.size ≤ p →
      s'.heap.get? p = some (seqObj "list" out c) → out.toList = L'.map (fun q => Value.ref q.1) → L'.Perm L → L'.Pairwise (fun q r => HT.lexLt r.2 q.2 = false) → Q (.ref p) s') :
    wpAny (model P w) A (call (.builtin "sorted") [.ref a]) Q E s := by
  obtain ⟨o, ho, hex, hdat⟩ := R.ob
  have many := R.size
  have few := R.few
  refine Calls.call_function_entry kind_sorted plain_sorted entry_sorted (args_sorted1 _) ?_
  unfold Builtin.«sorted»
  refine wpAny_bind (m := checkCount "sorted" 1 1 _) (wpAny_pure ?_)
  refine wpAny_bind (collect_set (A := A.in1) hh ⟨o, ho, hex.1, hdat⟩ R.fits (by unfold scanBound; omega) R.tab.ris R.led fun s1 vs kept szs gens_ os_ pm => ?_)
  have rows_ : es.toList.map (·.2) = L.map fun q => Value.ref q.1 := by
    rw [R.rows]
    unfold L2.rowsOf
    rw [List.map_map]
    rfl
  rw [rows_] at pm
  have one : ∀ q ∈ L, ∀ r ∈ L, q.1 = r.1 → q = r := fun q hq r hr e => by
    have aq := R.tup q hq
    rw [e] at aq
    exact Prod.ext e (aq.inj (R.tup r hr))
  have nodL : L.Nodup := nodup_of_map R.nd
  have nodR : (L.map fun q => Value.ref q.1).Nodup := by
    refine List.pairwise_map.mpr (List.Pairwise.imp_of_mem (fun {q r} hq hr hne e => ?_) nodL)
    injection e with e
    exact hne (one q hq r hr e)
  have short : vs.length < 64 := by
    rw [pm.length_eq, List.length_map]
    exact few
  have line : vs.length ≤ sizeLine := by
    rw [sizeLine_eq]
    omega
  refine wpAny_bind (wpAny_newList ?_ line)
  have newL : (s1.heap.push (seqObj "list" vs.toArray 0)).get? s1.heap.objs.size = some (seqObj "list" vs.toArray 0) := Heap.get?_push_size _ rfl
  have tup_ : ∀ q ∈ L, TS.TupInts (s1.heap.push (seqObj "list" vs.toArray 0)) (.ref q.1) q.2 := fun q hq => tupInts_of (P := P) (w := w) (isT_keep (R.tup q hq) fun b u e => Heap.get?_push_of_some _ (kept b u e))
  have all_ : ∀ v ∈ vs, TS.TupInts (s1.heap.push (seqObj "list" vs.toArray 0)) v (TS.intsOf (s1.heap.push (seqObj "list" vs.toArray 0)) v) ∧ (TS.intsOf (s1.heap.push (seqObj "list" vs.toArray 0)) v).length = d := fun v hv => by
    obtain ⟨q, hq, e⟩ := List.mem_map.mp (pm.mem_iff.mp hv)
    rw [← e, (tup_ q hq).ints]
    exact ⟨tup_ q hq, hd q hq⟩
  have noTup : ∀ o, (s1.heap.push (seqObj "list" vs.toArray 0)).get? s1.heap.objs.size = some o → o.cls ≠ .type "tuple" := fun o e c => by
    rw [newL] at e
    cases e
    exact absurd (Value.type.inj c) (by decide)
  refine wpAny_bind (wpAny_holding (wpAny_call_entry (s := { s1 with heap := s1.heap.push (seqObj "list" vs.toArray 0) }) slot_list_sort ⟨_, newL, rfl⟩ entry_list_sort
    (SrtO.list_sort_ord (swo_lx (TS.intsOf (s1.heap.push (seqObj "list" vs.toArray 0)))) newL line (fun h2 => tups_sortable hd1 (by omega) all_ noTup) fun out so sb => ⟨_, rfl, ?_⟩) (args_list_sort _)))
  obtain ⟨c, at_⟩ := sortedHeap_at (vs := vs) (out := out.toArray) newL
  obtain ⟨L', e', sub_⟩ := refs_from (L := L) out fun v hv => by
    obtain ⟨q, hq, e⟩ := List.mem_map.mp (pm.mem_iff.mp (sb.perm.mem_iff.mp hv))
    exact ⟨q, hq, e.symm⟩
  have permR : (L'.map fun q => Value.ref q.1).Perm (L.map fun q => Value.ref q.1) := by
    rw [← e']
    exact sb.perm.trans pm
  have permL : L'.Perm L := by
    have n1 : L'.Nodup := nodup_of_map (permR.nodup_iff.mpr nodR)
    refine (List.perm_ext_iff_of_nodup n1 nodL).mpr fun q => ⟨sub_ q, fun hq => ?_⟩
    obtain ⟨r, hr, e⟩ := List.mem_map.mp (permR.mem_iff.mpr (List.mem_map.mpr ⟨q, hq, rfl⟩))
    injection e with e
    rw [← one r (sub_ r hr) q hq e]
    exact hr
  have ordered : L'.Pairwise (fun q r => HT.lexLt r.2 q.2 = false) := by
    have so' : (L'.map fun q => Value.ref q.1).Pairwise (fun v u => HT.lexLt (TS.intsOf (s1.heap.push (seqObj "list" vs.toArray 0)) u) (TS.intsOf (s1.heap.push (seqObj "list" vs.toArray 0)) v) = false) := by
      rw [← e']
      exact so
    refine List.Pairwise.imp_of_mem (fun {q r} hq hr hle => ?_) (List.pairwise_map.mp so')
    rw [(tup_ q (sub_ q hq)).ints, (tup_ r (sub_ r hr)).ints] at hle
    exact hle
  refine wpAny_pure ⟨_, rfl, fin _ s1.heap.objs.size out.toArray c L' (fun b u e => ?_) gens_ os_ szs at_ (by simpa using e') permL ordered⟩
  have there := kept b u e
  have lt_ := Heap.lt_size there
  show (sortedHeap (s1.heap.push (seqObj "list" vs.toArray 0)) s1.heap.objs.size vs out.toArray).get? b = some u
  rw [sortedHeap_old (Nat.ne_of_lt lt_) (by rw [size_push']; exact Nat.lt_succ_of_lt lt_)]
  exact Heap.get?_push_of_some _ there
end
section
variable {X : Cx}
/-- set(xs), xs a list or a tuple of tuples of ints -/
def rSetA (K : PySem.W.Frag) (P : Program) (w : World) : List V → Hp → VK → Prop := fun vs H Q => ∃ (l : Addr) (ks : List (Addr × List Int)), vs = [V.ref l] ∧ (SqL K H l (ks.map fun p => V.ref p.1) ∨ SqT K H l (ks.map fun p => V.ref p.1)) ∧ (∀ p ∈ ks, SqT K H p.1 (p.2.map V.int)) ∧ ks.length < 64 ∧
  ∀ a L, H a = none → (∀ p ∈ L, p ∈ ks) → (∀ p ∈ ks, p.2 ∈ L.map (·.2)) → Q (.ref a) (upd H a (SetTO P w a L))
theorem cr_setA (hc : X.calm = true) (hu : X.A.units + 64 < cLine) : CallR X (.type "set") (rSetA X.K X.prog X.w) := by
  intro pins s σ H xs us Q I r h
  obtain ⟨l, ks, rfl, hl, hk, hf, q⟩ := h
  rcases hl with hl | hl
  · exact cr_setOfT hc hu pins s σ H _ us Q I r ⟨l, ks, rfl, hl, hk, hf, q⟩
  rw [Vals.ref1 r]
  obtain ⟨its, rv, pl, hz⟩ := I.tuple hl
  have fresh_ : H s.heap.objs.size = none := I.hok.fresh (Nat.le_refl _)
  refine set_tupT (P := X.prog) (w := X.w) ks (I.ok.hd hc) pl (by simpa using refs_of_vals rv) (fun p hp => I.isT (hk p hp)) hf (by omega) fun h' tk L es ep t R g k => ?_
  refine ⟨.ref s.heap.objs.size, _, I.laid (t' := tk) (o := SetTO X.prog X.w s.heap.objs.size L) k (Nat.le_refl _) (setTO_new R.t0), rfl, ?_⟩
  refine q _ L fresh_ (fun p hp => List.mem_of_mem_take (g.sub p hp)) fun p hp => g.all p ?_
  rw [List.take_length]
  exact hp
/-- sorted(set) of such -/
def rSortedSA (K : PySem.W.Frag) (P : Program) (w : World) : List V → Hp → VK → Prop := fun vs H Q => ∃ (a : Addr) (L : List (Addr × List Int)) (d : Nat), vs = [V.ref a] ∧ H a = some (SetTO P w a L) ∧ (∀ p ∈ L, SqT K H p.1 (p.2.map V.int)) ∧ 1 ≤ d ∧ (∀ p ∈ L, p.2.length = d) ∧
  ∀ (L' : List (Addr × List Int)) (p : Addr), L'.Perm L → (L'.map (·.2)).Nodup → L'.Pairwise (fun q r => HT.lexLt r.2 q.2 = false) → H p = none → Q (.ref p) (upd H p (.lst (L'.map fun q => V.ref q.1)))
theorem cr_sortedSA (hc : X.calm = true) : CallR X (.builtin "sorted") (rSortedSA X.K X.prog X.w) := by
  intro pins s σ H vs us Q I r h
  obtain ⟨a, L, d, rfl, ha, hk, hd1, hd, q⟩ := h
  have R0 : SetT0 X.prog X.w s.heap a L := (I.hok a _ ha).1
  obtain ⟨es, ep, t, R⟩ := R0.full fun p hp => I.isT (hk p hp)
  rw [Vals.ref1 r]
  refine sorted_setA R (I.ok.hd hc) hd1 hd fun s' p out c L' kept g o hp hg hout pm pw => ?_
  have line : (L'.map fun q => V.ref q.1).length ≤ sizeLine := by
    rw [List.length_map, sizeLine_eq, pm.length_eq]
    have := R.few
    omega
  have fresh_ : H p = none := I.hok.fresh hp
  have rel : Vals (L'.map fun q => V.ref q.1) out.toList := by
    rw [hout]
    exact vals_of_refs L'
  have J : Inv X pins σ (upd H p (.lst (L'.map fun q => V.ref q.1))) { s with heap := s'.heap, gens := s'.gens, drawn := s'.drawn, toks := s'.toks } :=
    I.call (ch := []) (Un.laid kept hp fresh_) (I.hok.laid kept hp ⟨line, out.toList, c, rel, hg⟩) (by rw [g]; exact I.bare) (fun _ z => nomatch z)
  have e : s' = { s with heap := s'.heap, gens := s'.gens, drawn := s'.drawn, toks := s'.toks } := by
    cases s'
    cases s
    cases o
    rfl
  rw [e]
  exact ⟨.ref p, _, J, rfl, q L' p pm ((pm.map (·.2)).nodup_iff.mpr R.nd) pw fresh_⟩
/-- set(xs) of ints, xs a list or a tuple -/
def rSetI (K : PySem.W.Frag) (w : World) : List V → Hp → VK → Prop := fun vs H Q => ∃ (l : Addr) (ns : List Int), vs = [V.ref l] ∧ (SqL K H l (ns.map V.int) ∨ SqT K H l (ns.map V.int)) ∧ ns.length + 1 < scanBound ∧
  ∀ a c, H a = none → c ≤ ns.length → Q (.ref a) (upd H a (SetO w a (fun j => decide (j ∈ ns)) c))
theorem cr_setI (hc : X.calm = true) : CallR X (.type "set") (rSetI X.K X.w) := by
  intro pins s σ H xs us Q I r h
  obtain ⟨l, ns, rfl, hl, hf, q⟩ := h
  rw [Vals.ref1 r]
  have fresh_ : H s.heap.objs.size = none := I.hok.fresh (Nat.le_refl _)
  rcases hl with hl | hl
  · obtain ⟨its, rv, pl, hz⟩ := I.list hl
    exact set_ints (P := X.prog) (w := X.w) ns (I.ok.hd hc) pl.isList (by simpa using rv.ints) hf fun h' tk c R hcn k =>
      ⟨.ref s.heap.objs.size, _, I.laid (t' := tk) (o := SetO X.w s.heap.objs.size _ c) k (Nat.le_refl _) (setO_new R), rfl, q _ c fresh_ hcn⟩
  · obtain ⟨its, rv, pl, hz⟩ := I.tuple hl
    exact call_set_tupI (P := X.prog) (w := X.w) ns (I.ok.hd hc) pl (by simpa using rv.ints) hf fun h' tk c R hcn k =>
      ⟨.ref s.heap.objs.size, _, I.laid (t' := tk) (o := SetO X.w s.heap.objs.size _ c) k (Nat.le_refl _) (setO_new R), rfl, q _ c fresh_ hcn⟩
end
/-- rows of tuples, by their addresses -/
theorem RAll.addrs {α : Type} [Tupi α] {K : PySem.W.Frag} {H : Hp} : ∀ {vs : List V} {as : List α}, RAll K H vs as → ∃ ks : List (Addr × List Int), vs = (ks.map fun p => V.ref p.1) ∧ ks.map (·.2) = as.map Tupi.key ∧ ∀ p ∈ ks, SqT K H p.1 (p.2.map V.int)
  | _, _, .nil => ⟨[], rfl, rfl, fun p h => nomatch h⟩
  | _, _, .cons (a := a) r t => by
    obtain ⟨p, rfl, hp⟩ := Tupi.inv r
    obtain ⟨ks, e1, e2, h⟩ := t.addrs
    refine ⟨(p, Tupi.key a) :: ks, by rw [List.map_cons, e1], by rw [List.map_cons, List.map_cons, e2], fun q hq => ?_⟩
    rcases List.mem_cons.mp hq with rfl | hq
    · exact hp
    · exact h q hq
theorem RAll.of_addrs {α : Type} [Tupi α] {K : PySem.W.Frag} {H : Hp} : ∀ (L : List (Addr × List Int)), (∀ p ∈ L, ∃ a : α, p.2 = Tupi.key a ∧ SqT K H p.1 (p.2.map V.int)) → RAll K H (L.map fun p => V.ref p.1) (L.map fun p => (Tupi.dec p.2 : α))
  | [], _ => .nil
  | p :: L, h => by
    obtain ⟨a, e, hp⟩ := h p List.mem_cons_self
    refine .cons ?_ (RAll.of_addrs L fun q hq => h q (List.mem_cons_of_mem _ hq))
    show Rep K H (V.ref p.1) (Tupi.dec p.2 : α)
    rw [e, Tupi.dk]
    rw [e] at hp
    exact Tupi.rep hp
/-- sorted(set(xs)) as data -/
theorem set_sorted {α : Type} [Tupi α] {K : PySem.W.Frag} {P : Program} {w : World} {H : Hp} {l : Addr} {xs : List V} {as : List α} {Q : VK} (hl : SqL K H l xs ∨ SqT K H l xs) (ra : RAll K H xs as) (few : as.length < 64)
    (q : ∀ ys (bs : List α) p H', Evl.Ex H H' → H' p = some (.lst ys) → RAll K H' ys bs → bs.Nodup → (∀ b, b ∈ bs ↔ b ∈ as) → bs.Pairwise (fun a b => ltK b a = false) → Q (.ref p) H') :
    rSetA K P w [V.ref l] H fun v H1 => rSortedSA K P w [v] H1 Q := by
  obtain ⟨ks, rfl, e2, hk⟩ := ra.addrs
  have many : ks.length = as.length := by
    have := congrArg List.length e2
    rwa [List.length_map, List.length_map] at this
  have keyOf : ∀ p ∈ ks, ∃ a ∈ as, p.2 = Tupi.key a := fun p hp => by
    have : p.2 ∈ as.map Tupi.key := by
      rw [← e2]
      exact List.mem_map.mpr ⟨p, hp, rfl⟩
    obtain ⟨a, ha, e⟩ := List.mem_map.mp this
    exact ⟨a, ha, e.symm⟩
  refine ⟨l, ks, rfl, hl, hk, by omega, fun sa L hsa sub all => ?_⟩
  have eS : Evl.Ex H (upd H sa (SetTO P w sa L)) := Evl.Ex.new hsa
  refine ⟨sa, L, Tupi.d α, rfl, upd_same, fun p hp => Evl.ex_t eS (hk p (sub p hp)), Tupi.d1, fun p hp => ?_, fun L' p pm nd pw hp => ?_⟩
  · obtain ⟨a, _, e⟩ := keyOf p (sub p hp)
    rw [e, Tupi.len]
  have eP : Evl.Ex (upd H sa (SetTO P w sa L)) (upd (upd H sa (SetTO P w sa L)) p (.lst (L'.map fun q => V.ref q.1))) := Evl.Ex.new hp
  have sub' : ∀ r ∈ L', r ∈ ks := fun r hr => sub r (pm.mem_iff.mp hr)
  have key' : ∀ r ∈ L', ∃ a ∈ as, r.2 = Tupi.key a := fun r hr => keyOf r (sub' r hr)
  refine q _ (L'.map fun r => (Tupi.dec r.2 : α)) p _ (eS.trans eP) upd_same (RAll.of_addrs L' fun r hr => ?_) ?_ (fun b => ⟨fun hb => ?_, fun hb => ?_⟩) ?_
  · obtain ⟨a, _, e⟩ := key' r hr
    exact ⟨a, e, Evl.ex_t (eS.trans eP) (hk r (sub' r hr))⟩
  · refine List.pairwise_map.mpr (List.Pairwise.imp_of_mem (fun {x y} hx hy hne e => hne ?_) (List.pairwise_map.mp nd))
    obtain ⟨a, _, ea⟩ := key' x hx
    obtain ⟨b, _, eb⟩ := key' y hy
    rw [ea, eb, Tupi.dk, Tupi.dk] at e
    rw [ea, eb, e]
  · obtain ⟨r, hr, rfl⟩ := List.mem_map.mp hb
    obtain ⟨a, ha, e⟩ := key' r hr
    rw [e, Tupi.dk]
    exact ha
  · have : Tupi.key b ∈ ks.map (·.2) := by
      rw [e2]
      exact List.mem_map.mpr ⟨b, hb, rfl⟩
    obtain ⟨r, hr, e⟩ := List.mem_map.mp this
    obtain ⟨r2, hr2, e3⟩ := List.mem_map.mp (all r hr)
    refine List.mem_map.mpr ⟨r2, pm.mem_iff.mpr hr2, ?_⟩
    rw [e3, e, Tupi.dk]
  · refine List.pairwise_map.mpr (List.Pairwise.imp_of_mem (fun {x y} hx hy h => ?_) pw)
    obtain ⟨a, _, ea⟩ := key' x hx
    obtain ⟨b, _, eb⟩ := key' y hy
    show HT.lexLt (Tupi.key (Tupi.dec y.2 : α)) (Tupi.key (Tupi.dec x.2 : α)) = false
    rw [ea, eb, Tupi.dk, Tupi.dk, ← ea, ← eb]
    exact h
end My

-- Oe
/-! == and != by a class's own __eq__, with either answer; == and != of two tuples of the same objects -/
namespace My
open PySem PySem.Spec PyProof.Rows
section
open PySem.W PySem.Calls
variable {prog : Program} {w : World} {A : Around} {E : Value → Shared → Prop} {s : Shared} {K : Frag} {x C L f : Addr} {h₀ : Heap} {m : Str → Option Value} {ox : Obj} {od : Option Obj} {b tb : Value}
theorem objNe_K (X : K.In s.heap) (I : InstAt s.heap x ox C od) (hs : findIn K (.ref C) "__eq__" = some (some (.ref f))) (hf : isFn K (.ref f) = true) (hu : A.units < cLine) {Q : Fin → Shared → Prop}
    (hcall : wpAny (model prog w) A (call (.ref f) [.ref x, b]) (fun v s' => ∃ r, v = .bool r ∧ Q (.done (.ret (.bool (!r)))) s') E s) :
    wpAny (model prog w) A (Builtin.«object.__ne__» ⟨[.ref x, b], []⟩) Q E s := by
  unfold Builtin.«object.__ne__»
  repeat (first
    | with_reducible refine wpAny_cRoomFor hu ?_
    | (refine wpAny_bind (m := callSpecialIfBound? (.ref x) (Str.ofString "__eq__") [b])
        (ifBound_K X I hs hf (wpAny_mono hcall (fun v s' hr => by
          obtain ⟨r, rfl, hq⟩ := hr
          repeat (first | exact hq | exact wpAny_pure hq | exact wpAny_truthy_bool hq | (refine wpAny_bind (m := truthy (.bool _)) (wpAny_truthy_bool ?_)) | wp_step)) fun _ _ e => e)))
    | wp_step)
theorem ifBound_ne {M : Model} {args : List Value} {Q : Option Value → Shared → Prop} (X : K.In s.heap) (I : InstAt s.heap x ox C od) (hs : findIn K (.ref C) "__ne__" = some (some (.builtin "object.__ne__")))
    (h : wpAny M A (call (.builtin "object.__ne__") (.ref x :: args)) (fun v => Q (some v)) E s) : wpAny M A (callSpecialIfBound? (.ref x) "__ne__" args) Q E s := by
  simp only [callSpecialIfBound?, bindSpecialIfBound?]
  refine wpAny_holding (wpAny_bind (wpAny_bind (wpAny_bind (I.type.here ((looks_findIn X hs).here ?_)))))
  simp only [PySem.F.cmp_object.ne.bind]
  refine wpAny_bind (wpAny_askSetting (wpAny_ite ?_))
  have fin : wpAny M A (call (.builtin "object.__ne__") ([.ref x] ++ args) >>= fun v => pure (some v)) Q E s := wpAny_bind (wpAny_mono h (fun v s' h' => wpAny_pure h') fun _ _ h' => h')
  split
  · exact wpAny_bind (wpAny_pure (wpAny_pure fin))
  · exact wpAny_tryCatch (wpAny_bind (wpAny_pure (wpAny_pure fin)))
theorem ne_K {Q : Value → Shared → Prop} (hu : A.units + 1 < cLine) (F : Fr h₀ L s.heap m) (X₀ : K.In h₀) (I : InstAt s.heap x ox C od) (hb : Looks (model prog w) s.heap (typeOf b) tb) (hn : notFirst K C tb = true)
    (hne : findIn K (.ref C) "__ne__" = some (some (.builtin "object.__ne__"))) (hs : findIn K (.ref C) "__eq__" = some (some (.ref f))) (hf : isFn K (.ref f) = true) (hob : subIn K (.ref C) (.type "object") = some true)
    (h : wpAny (model prog w) A.in1 (call (.ref f) [.ref x, b]) (fun v s' => ∃ r, v = .bool r ∧ Q (.bool (!r)) s') E s) : wpAny (model prog w) A (richCompare .NotEq (.ref x) b) Q E s := by
  have X := X₀.keeps F.keep
  have hi : Looks (model prog w) s.heap (isInstance (.ref x) (.type "object")) true := I.type.andThen (looks_subIn X hob)
  have one : wpAny (model prog w) A (tryCompare (.ref x) "__ne__" b) (fun r s' => ∃ v, r = some v ∧ Q v s') E s := by
    unfold tryCompare
    refine wpAny_bind (ifBound_ne X I hne (wpAny_call (codeAny_call_builtin PySem.F.cmp_object.ne.plain PySem.F.cmpEntry_ne
      (check_slot PySem.F.cmpKind_ne PySem.F.cmpSplit_ne hi (PySem.F.cmpArgs_ne _ _) (objNe_K X I hs hf (by
        show A.units + 1 < cLine
        exact hu) (wpAny_mono h (fun v s' hv => ?_) fun _ _ e => e))))))
    obtain ⟨r, rfl, hq⟩ := hv
    exact ⟨r, rfl, wpAny_pure ⟨_, rfl, hq⟩⟩
  unfold richCompare
  simp only [oneThing_ref]
  refine wpAny_holding (wpAny_bind (wpAny_cRoomFor (Nat.lt_of_succ_lt hu) ?_))
  rw [cmpInfo_NotEq]
  dsimp only
  refine wpAny_bind (I.type.here (wpAny_bind (hb.here ?_)))
  split
  · rename_i q
    have e : subIn K tb (.ref C) = some false := by
      rcases Bool.or_eq_true_iff.mp hn with e | e
      · rw [beq_iff_eq.mp e] at q; simp at q
      · exact beq_iff_eq.mp e
    refine wpAny_bind ((looks_subIn X e).here ?_)
    simp only [Bool.false_eq_true, if_false]
    refine wpAny_bind (wpAny_mono one (fun r s' z => ?_) fun _ _ e => e)
    obtain ⟨v, rfl, hq⟩ := z
    exact wpAny_pure hq
  · refine wpAny_bind (wpAny_pure ?_)
    simp only [Bool.false_eq_true, if_false]
    refine wpAny_bind (wpAny_mono one (fun r s' z => ?_) fun _ _ e => e)
    obtain ⟨v, rfl, hq⟩ := z
    exact wpAny_pure hq
end
open L2
/-- a class with an own == of the text and none for != -/
structure EqAtC (K : PySem.W.Frag) (C : Addr) : Prop where
  ne : PySem.W.findIn K (.ref C) "__ne__" = some (some (.builtin "object.__ne__"))
  ob : PySem.W.mroIn K C (.type "object") = some true
  cls : PySem.W.findIn K (.ref C) "__class__" = some (some (.builtin "object.__class__"))
  gt : PySem.W.specialIn K (.builtin "object.__class__") "__get__" = some (some (.builtin "getset_descriptor.__get__"))
  tk : PySem.W.takesIn K (.builtin "object.__class__") = some true
theorem EqAtC.ty {K : PySem.W.Frag} {C a dx : Addr} {fs : List (Str × V)} {H : Hp} (e : EqAtC K C) (cl : Cls K C) (h : H a = some (.ins C dx fs)) : TyX K H (.ref a) (.ref C) := .base (.ins h cl e.cls e.gt e.tk e.ob)
theorem kit_self {K : PySem.W.Frag} {C : Addr} : PySem.W.kitOne K (.ref C) (.ref C) = some true := by
  unfold PySem.W.kitOne
  rw [if_pos (by simp)]
section
variable {X : Cx} {n : Nat} {CX : CXT} {C f : Addr} {fd : FuncData} {ps : List Str} {sp : Sp}
/-- == of two objects of the class at C by the own one -/
def rOwnEq (C : Addr) (sp : Sp) : R2 := fun x y H Q => ∃ a b dx dy fs gs, x = .ref a ∧ y = .ref b ∧ H a = some (.ins C dx fs) ∧ H b = some (.ins C dy gs) ∧ sp [.ref a, .ref b] H (fun v H' => ∃ r, v = .bl r ∧ Q (.bl r) H') (fun _ _ _ => False)
def rOwnNe (C : Addr) (sp : Sp) : R2 := fun x y H Q => ∃ a b dx dy fs gs, x = .ref a ∧ y = .ref b ∧ H a = some (.ins C dx fs) ∧ H b = some (.ins C dy gs) ∧ sp [.ref a, .ref b] H (fun v H' => ∃ r, v = .bl r ∧ Q (.bl (!r)) H') (fun _ _ _ => False)
theorem op_ownEq (F : FnOk X.prog X.w X.K X.mg X.base CX0 n f fd ps sp) (hr : Room n X.A) (hm : PySem.W.findIn X.K (.ref C) "__eq__" = some (some (.ref f))) (hf : PySem.W.isFn X.K (.ref f) = true) (hb : Binds X.K fd ps []) : OpR X (compareOp .Eq) (rOwnEq C sp) := by
  intro pins s σ H x y v u Q I rx ry hq
  obtain ⟨a, b, dx, dy, fs, gs, rfl, rfl, ha, hb', q⟩ := hq
  cases rx
  cases ry
  obtain ⟨mA, J, _⟩ := ins_get I.hok ha
  obtain ⟨mB, J', _⟩ := ins_get I.hok hb'
  obtain ⟨od, J, _⟩ := J.look
  obtain ⟨od', J', _⟩ := J'.look
  obtain ⟨m, hF⟩ := I.fr
  show wpAny (model X.prog X.w) X.A (richCompare .Eq (.ref a) (.ref b)) (EP X pins σ Q) X.xe s
  refine PySem.W.cmp_K (op := .Eq) (tb := .ref C) hr.units0 hF I.ok.mod.kin J J'.type (by simp [PySem.W.notFirst]) hm hf ?_
  refine wpAny_mono (run_fn F hr hb .nil pass0 I (show Vals [V.ref a, V.ref b] [Value.ref a, Value.ref b] from .cons rfl (.cons rfl .nil)) q) (fun v s' z => ?_) fun _ _ e => e
  obtain ⟨y, H', I', r, k, rfl, hq⟩ := z
  cases r
  exact ⟨.bl k, H', I', rfl, hq⟩
theorem op_ownNe (F : FnOk X.prog X.w X.K X.mg X.base CX0 n f fd ps sp) (hr : Room (n + 1) X.A) (hm : PySem.W.findIn X.K (.ref C) "__eq__" = some (some (.ref f))) (hf : PySem.W.isFn X.K (.ref f) = true) (hb : Binds X.K fd ps []) (c : EqAtC X.K C) : OpR X (compareOp .NotEq) (rOwnNe C sp) := by
  intro pins s σ H x y v u Q I rx ry hq
  obtain ⟨a, b, dx, dy, fs, gs, rfl, rfl, ha, hb', q⟩ := hq
  cases rx
  cases ry
  obtain ⟨mA, J, _⟩ := ins_get I.hok ha
  obtain ⟨mB, J', _⟩ := ins_get I.hok hb'
  obtain ⟨od, J, _⟩ := J.look
  obtain ⟨od', J', _⟩ := J'.look
  obtain ⟨m, hF⟩ := I.fr
  show wpAny (model X.prog X.w) X.A (richCompare .NotEq (.ref a) (.ref b)) (EP X pins σ Q) X.xe s
  refine ne_K (tb := .ref C) (by have := hr.in1.units0; exact this) hF I.ok.mod.kin J J'.type (by simp [PySem.W.notFirst]) c.ne hm hf c.ob ?_
  have e0 : Env0 X.prog X.w X.K X.mg X.base X.A.in1 X.stack s H := by
    have e := I.env0
    exact ⟨e.frames, e.mod, e.bs, e.bsz, e.funs, e.frf, e.hok, e.bare⟩
  have hl := F.len _ _ _ _ q
  refine wpAny_call (codeAny_mono (F.run X.A.in1 X.stack s H ⟨[.ref a, .ref b], []⟩ [.ref a, .ref b] [.ref a, .ref b] _ _ hr.in1 e0 (by
    have := hb s [.ref a, .ref b] I.kIn (by simpa using hl)
    simpa using this) (show Vals [V.ref a, V.ref b] [Value.ref a, Value.ref b] from .cons rfl (.cons rfl .nil)) q) fun r s' hq => ?_)
  cases r with
  | error e => exact (show False from hq).elim
  | ok fl =>
    cases fl with
    | ret w =>
      obtain ⟨z, H', I', rz, k, ez, hq2⟩ := I.after hq
      subst ez
      cases rz
      exact ⟨k, rfl, .bl _, H', I', rfl, hq2⟩
    | next => exact False.elim hq
    | brk => exact False.elim hq
    | cont => exact False.elim hq
/-- two tuples of the same objects -/
def rEqSame (K : PySem.W.Frag) : R2 := fun x y H Q => ∃ (a b : Addr) (as : List Addr), x = .ref a ∧ y = .ref b ∧ SqT K H a (as.map V.ref) ∧ SqT K H b (as.map V.ref) ∧ Q (.bl true) H
def rNeSame (K : PySem.W.Frag) : R2 := fun x y H Q => ∃ (a b : Addr) (as : List Addr), x = .ref a ∧ y = .ref b ∧ SqT K H a (as.map V.ref) ∧ SqT K H b (as.map V.ref) ∧ Q (.bl false) H
theorem vals_refs : ∀ {as : List Addr} {us : List Value}, Vals (as.map V.ref) us → us = as.map Value.ref
  | [], _, .nil => rfl
  | _ :: _, _, .cons h r => by
    cases h
    rw [vals_refs r]
    rfl
theorem op_eqSame (hu : X.A.units + 64 < cLine) : OpR X (compareOp .Eq) (rEqSame X.K) := by
  intro pins s σ H x y v u Q I rx ry h
  obtain ⟨a, b, as, rfl, rfl, ha, hb, q⟩ := h
  cases rx
  cases ry
  obtain ⟨its, r, e, z⟩ := I.tuple ha
  obtain ⟨its2, r2, e2, z2⟩ := I.tuple hb
  have e1 := vals_refs r
  have e3 := vals_refs r2
  subst e1
  subst e3
  show wpAny (model X.prog X.w) X.A (richCompare .Eq (.ref a) (.ref b)) (EP X pins σ Q) X.xe s
  exact GQ.rc_tupG rfl (by omega) (fun _ s' => s' = s) e e2 (fun i h1 h2 s' l => by
    subst l
    exact SeqAt.EqAt.same (A := X.A.in1) (s := s') _ X.prog X.w X.xe _ ⟨rfl, rfl⟩) (fun s' l => by
    subst l
    exact ⟨.bl true, H, I, rfl, q⟩) rfl
theorem op_neSame (hu : X.A.units + 64 < cLine) : OpR X (compareOp .NotEq) (rNeSame X.K) := by
  intro pins s σ H x y v u Q I rx ry h
  obtain ⟨a, b, as, rfl, rfl, ha, hb, q⟩ := h
  cases rx
  cases ry
  obtain ⟨its, r, e, z⟩ := I.tuple ha
  obtain ⟨its2, r2, e2, z2⟩ := I.tuple hb
  have e1 := vals_refs r
  have e3 := vals_refs r2
  subst e1
  subst e3
  have k := SeqAt.RcNeAt.tuples (A := X.A) (e := fun _ => true) e e2 (by omega) (fun j h1 h2 => SeqAt.EqAt.same (A := X.A.in1) (s := s) _)
  refine k X.prog X.w X.xe _ ?_
  refine ⟨.bl false, H, I, ?_, q⟩
  rw [show ((List.range (min (List.map Value.ref as).toArray.size (List.map Value.ref as).toArray.size)).all fun _ => true) = true from by simp]
  simp [L2.RelV]
end
section
variable {X : Cx}
theorem op_eqAK (K : PySem.W.Frag) {α : Type} [Py α] [DecidableEq α] (hu : X.A.units + 64 < cLine) (e : X.K = K := by rfl) (h : Py.dep α ≤ 64 := by decide) : OpR X (compareOp .Eq) (rEqA K α) := e ▸ op_eqA hu h
end
end My

-- SrU
/-! sorted(a tuple of tuples of ints) -/
namespace My
open PySem PySem.Spec PyProof.Rows L2
section
variable {prog : Program} {w : World} {A : Around} {E : Value → Shared → Prop} {s : Shared}
theorem collect_tupH {l : Addr} {vs : List Value} {Q : List Value → Shared → Prop} (hl : s.heap.IsTuple l vs.toArray) (hz : vs.length ≤ sizeLine)
    (h : Q vs { s with heap := (s.heap.push (seqObj "list" #[] 0)).update s.heap.objs.size (Obj.mapSeq (· ++ vs.toArray)) }) : wpAny (model prog w) A (collect (.ref l)) Q E s := by
  obtain ⟨o, ho, hc, n, hd⟩ := id hl
  have made : (s.heap.push (seqObj "list" #[] 0)).get? s.heap.objs.size = some (seqObj "list" #[] 0) := Heap.get?_push_size _ rfl
  have full := Heap.get?_update_self (Obj.mapSeq (· ++ vs.toArray)) made rfl
  have more : ((#[] : Array Value) ++ vs.toArray).toList = vs := by simp
  have tail : wpAny (model prog w) A (match Value.ref s.heap.objs.size with
      | Value.ref a => do
        match (← load a).data with
          | Data.seq xs _ => pure xs.toList
          | _ => unsupported "internal:collect"
      | _ => unsupported "internal:collect") Q E { s with heap := (s.heap.push (seqObj "list" #[] 0)).update s.heap.objs.size (Obj.mapSeq (· ++ vs.toArray)) } := by
    show wpAny _ A (load s.heap.objs.size >>= _) _ _ _
    refine wpAny_bind (wpAny_load full (wpAny_pure ?_))
    show Q ((#[] : Array Value) ++ vs.toArray).toList _
    rw [more]
    exact h
  unfold collect
  refine wpAny_bind (wpAny_runValue (codeAny_builtin F.entry_proto_collect ?_))
  rw [Around.under_plainId F.plain_proto_collect _]
  show wpAny _ A.in1 (newList [] >>= fun l' => again (.builtin "list.__iadd__" ⟨[l', .ref l], []⟩)) _ _ s
  refine wpAny_bind (wpAny_newObj_type (wpAny_pure ⟨plainId_quiet F.plain_list_iadd _, codeAny_builtin F.entry_list_iadd ?_⟩))
  rw [Around.under_plainId F.plain_list_iadd _]
  show wpAny _ A.in1 (Builtin.List.listExtendWith (.ref s.heap.objs.size) (.ref l) (.ref s.heap.objs.size)) _ _ _
  refine wpAny_mono (wpAny_extend_seq (hsz := by simpa using hz) (A := A) (R := fun r s' => r = .ok (.ret (.ref s.heap.objs.size)) ∧ s' = { s with heap := (s.heap.push (seqObj "list" #[] 0)).update s.heap.objs.size (Obj.mapSeq (· ++ vs.toArray)) })
    (s := { s with heap := s.heap.push (seqObj "list" #[] 0) }) _ l _ 0 (.inr rfl) made (Heap.get?_push_of_some _ ho) hc hd ⟨rfl, rfl⟩) (fun fin s' q => ?_) (fun e s' q => absurd q.1 (by simp))
  cases fin with
  | done f =>
    obtain ⟨e, rfl⟩ := q
    cases e
    exact tail
  | again c' => exact ⟨q.1, codeAny_mono q.2 fun r s'' hr => by
      obtain ⟨rfl, rfl⟩ := hr
      exact tail⟩
theorem sorted_tupT {l : Addr} {vs : List Value} {k : Value → List Int} {d : Nat} {Q : Value → Shared → Prop} (hd1 : 1 ≤ d) (hl : s.heap.IsTuple l vs.toArray) (hz : vs.length ≤ sizeLine) (hp : ∀ v ∈ vs, TS.TupInts s.heap v (k v) ∧ (k v).length = d)
    (h : ∀ (h' : Heap) (dd : Addr) (out : List Value), SrtO.Srtd (fun v u => HT.lexLt (k v) (k u)) out → SrtO.Stb (fun v u => HT.lexLt (k v) (k u)) out vs → (∀ b o, s.heap.get? b = some o → h'.get? b = some o) → s.heap.objs.size ≤ dd → (∃ n, h'.get? dd = some (seqObj "list" out.toArray n)) → Q (.ref dd) { s with heap := h' }) :
    wpAny (model prog w) A (call (.builtin "sorted") [.ref l]) Q E s := by
  refine Calls.call_function_entry kind_sorted plain_sorted entry_sorted (args_sorted1 _) ?_
  unfold Builtin.«sorted»
  refine wpAny_bind (m := checkCount "sorted" 1 1 _) (wpAny_pure ?_)
  refine wpAny_bind (collect_tupH hl hz ?_)
  refine wpAny_bind (wpAny_newList ?_ hz)
  have size1 : ((s.heap.push (seqObj "list" #[] 0)).update s.heap.objs.size (Obj.mapSeq (· ++ vs.toArray))).objs.size = s.heap.objs.size + 1 := by
    rw [Heap.size_update, size_push']
  have kept : ∀ b o, s.heap.get? b = some o → ((s.heap.push (seqObj "list" #[] 0)).update s.heap.objs.size (Obj.mapSeq (· ++ vs.toArray))).get? b = some o := fun b o q => by
    rw [Heap.get?_update_ne _ _ _ _ (Nat.ne_of_lt (Heap.lt_size q))]
    exact Heap.get?_push_of_some _ q
  have grown : s.heap.objs.size ≤ ((s.heap.push (seqObj "list" #[] 0)).update s.heap.objs.size (Obj.mapSeq (· ++ vs.toArray))).objs.size := by omega
  revert kept grown
  generalize (s.heap.push (seqObj "list" #[] 0)).update s.heap.objs.size (Obj.mapSeq (· ++ vs.toArray)) = g
  intro kept grown
  have newL : (g.push (seqObj "list" vs.toArray 0)).get? g.objs.size = some (seqObj "list" vs.toArray 0) := Heap.get?_push_size _ rfl
  have all_ : ∀ v ∈ vs, TS.TupInts (g.push (seqObj "list" vs.toArray 0)) v (k v) ∧ (k v).length = d := fun v hv => ⟨(hp v hv).1.keeps fun b o e _ => Heap.get?_push_of_some _ (kept b o e), (hp v hv).2⟩
  have noTup : ∀ o, (g.push (seqObj "list" vs.toArray 0)).get? g.objs.size = some o → o.cls ≠ .type "tuple" := fun o e c => by
    rw [newL] at e
    cases e
    exact absurd (Value.type.inj c) (by decide)
  refine wpAny_bind (wpAny_holding (wpAny_call_entry (s := { s with heap := g.push (seqObj "list" vs.toArray 0) }) slot_list_sort ⟨_, newL, rfl⟩ entry_list_sort
    (SrtO.list_sort_ord (swo_lx k) newL hz (fun h2 => tups_sortable hd1 (by omega) all_ noTup) fun out so sb => ⟨_, rfl, ?_⟩) (args_list_sort _)))
  obtain ⟨c, at_⟩ := sortedHeap_at (vs := vs) (out := out.toArray) newL
  refine wpAny_pure ⟨_, rfl, h _ g.objs.size out so sb (fun b o q => ?_) grown ⟨c, at_⟩⟩
  have there := kept b o q
  have lt_ := Heap.lt_size there
  show (sortedHeap (g.push (seqObj "list" vs.toArray 0)) g.objs.size vs out.toArray).get? b = some o
  rw [sortedHeap_old (Nat.ne_of_lt lt_) (by rw [size_push']; exact Nat.lt_succ_of_lt lt_)]
  exact Heap.get?_push_of_some _ there
end
/-- sorted(xs): xs a tuple of such tuples -/
def rSortedU (K : PySem.W.Frag) (α : Type) [Tupi α] : List V → Hp → VK → Prop := fun vs H Q => ∃ (a : Addr) (xs : List V) (as : List α), vs = [V.ref a] ∧ SqT K H a xs ∧ RAll K H xs as ∧
  ∀ (ys : List V) (bs : List α) p, H p = none → RAll K (upd H p (.lst ys)) ys bs → IsSorted bs as → Q (.ref p) (upd H p (.lst ys))
theorem cr_sortedU {X : Cx} {α : Type} [Tupi α] : CallR X (.builtin "sorted") (rSortedU X.K α) := by
  intro pins s σ H vs us Q I r h
  obtain ⟨a, xs, as, rfl, hs, ha, q⟩ := h
  obtain ⟨ks, rfl, e2, hk⟩ := ha.addrs
  obtain ⟨its, rv, hl, hz⟩ := I.tuple hs
  rw [Vals.ref1 r]
  have eits := refs_of_vals rv
  have keyOf : ∀ p ∈ ks, ∃ b ∈ as, p.2 = Tupi.key b := fun p hp => by
    have : p.2 ∈ as.map Tupi.key := by
      rw [← e2]
      exact List.mem_map.mpr ⟨p, hp, rfl⟩
    obtain ⟨b, hb, e⟩ := List.mem_map.mp this
    exact ⟨b, hb, e.symm⟩
  have isI : ∀ p ∈ ks, TS.TupInts s.heap (.ref p.1) p.2 := fun p hp => tupInts_of (P := X.prog) (w := X.w) (I.isT (hk p hp))
  refine sorted_tupT (k := TS.intsOf s.heap) (Tupi.d1 (α := α)) hl (by rw [← rv.length]; exact hz) (fun v hv => ?_) fun h' d out h1 h2 kp hd hn => ?_
  · rw [eits] at hv
    obtain ⟨p, hp, e⟩ := List.mem_map.mp hv
    obtain ⟨b, _, eb⟩ := keyOf p hp
    rw [← e, (isI p hp).ints]
    exact ⟨isI p hp, by rw [eb, Tupi.len]⟩
  have perm : out.Perm (ks.map fun p => Value.ref p.1) := by
    rw [← eits]
    exact h2.perm
  obtain ⟨L', e', sub_⟩ := refs_from (L := ks) out fun v hv => by
    obtain ⟨p, hp, e⟩ := List.mem_map.mp (perm.mem_iff.mp hv)
    exact ⟨p, hp, e.symm⟩
  obtain ⟨n, hn⟩ := hn
  have key' : ∀ p ∈ L', ∃ b ∈ as, p.2 = Tupi.key b := fun p hp => keyOf p (sub_ p hp)
  have hfree : H d = none := I.hok.fresh hd
  have ex : Evl.Ex H (upd H d (.lst (L'.map fun p => V.ref p.1))) := Evl.Ex.new hfree
  have hlen : (L'.map fun p => V.ref p.1).length ≤ sizeLine := by
    have := perm.length_eq
    rw [e', List.length_map, List.length_map] at this
    rw [List.length_map] at hz ⊢
    omega
  have permK : (L'.map (·.2)).Perm (ks.map (·.2)) := by
    have z := (perm.map (TS.intsOf s.heap))
    rw [e', List.map_map, List.map_map] at z
    have f1 : L'.map ((TS.intsOf s.heap) ∘ fun p => Value.ref p.1) = L'.map (·.2) := List.map_congr_left fun p hp => (isI p (sub_ p hp)).ints
    have f2 : ks.map ((TS.intsOf s.heap) ∘ fun p => Value.ref p.1) = ks.map (·.2) := List.map_congr_left fun p hp => (isI p hp).ints
    rw [f1, f2] at z
    exact z
  refine ⟨.ref d, upd H d (.lst (L'.map fun p => V.ref p.1)), I.laid (t' := s.toks) kp hd ⟨hlen, out, n, by rw [e']; exact vals_of_refs L', hn⟩, rfl, q _ (L'.map fun p => Tupi.dec p.2) d hfree (RAll.of_addrs L' fun p hp => ?_) ⟨?_, ?_⟩⟩
  · obtain ⟨b, _, e⟩ := key' p hp
    exact ⟨b, e, Evl.ex_t ex (hk p (sub_ p hp))⟩
  · have z := permK.map (Tupi.dec (α := α))
    rw [e2, List.map_map, List.map_map] at z
    have f : as.map ((Tupi.dec (α := α)) ∘ Tupi.key) = as := by
      conv => rhs; rw [← List.map_id as]
      exact List.map_congr_left fun b _ => Tupi.dk b
    rw [f] at z
    exact z
  · have h5 : L'.Pairwise fun x y => HT.lexLt (TS.intsOf s.heap (.ref y.1)) (TS.intsOf s.heap (.ref x.1)) = false := by
      have : (L'.map fun p => Value.ref p.1).Pairwise fun v u => HT.lexLt (TS.intsOf s.heap u) (TS.intsOf s.heap v) = false := by
        rw [← e']
        exact h1
      exact List.pairwise_map.mp this
    refine List.pairwise_map.mpr (h5.imp_of_mem fun {x y} hx hy hxy => ?_)
    obtain ⟨b, _, eb⟩ := key' x hx
    obtain ⟨c, _, ec⟩ := key' y hy
    rw [(isI x (sub_ x hx)).ints, (isI y (sub_ y hy)).ints] at hxy
    show HT.lexLt (Tupi.key (Tupi.dec y.2 : α)) (Tupi.key (Tupi.dec x.2 : α)) = false
    rw [eb, ec, Tupi.dk, Tupi.dk, ← eb, ← ec]
    exact hxy
end My

-- Top
namespace My
open PySem L2 Evl
def top (i : Nat) : Stmt := PySem.Challenge.pw_moonfall_k08_whole_ways.main.body.getD i (.Pass ⟨0, 0, 0, 0⟩)
abbrev s_is_whole : Stmt := top 11
theorem sc_is_whole : FnScope ["thing"] ["thing"] (defScope s_is_whole) := ⟨rfl, rfl, rfl, by decide +kernel, rfl, by decide +kernel, by decide +kernel⟩
abbrev s_is_between : Stmt := top 12
theorem sc_is_between : FnScope ["thing", "low", "high"] ["thing", "low", "high"] (defScope s_is_between) := ⟨rfl, rfl, rfl, by decide +kernel, rfl, by decide +kernel, by decide +kernel⟩
abbrev s_is_triple : Stmt := top 13
theorem sc_is_triple : FnScope ["thing", "part"] ["thing"] (defScope s_is_triple) := ⟨rfl, rfl, rfl, by decide +kernel, rfl, by decide +kernel, by decide +kernel⟩
abbrev s_is_point : Stmt := top 14
theorem sc_is_point : FnScope ["thing"] ["thing"] (defScope s_is_point) := ⟨rfl, rfl, rfl, by decide +kernel, rfl, by decide +kernel, by decide +kernel⟩
abbrev s_is_crater : Stmt := top 15
theorem sc_is_crater : FnScope ["thing", "part"] ["thing"] (defScope s_is_crater) := ⟨rfl, rfl, rfl, by decide +kernel, rfl, by decide +kernel, by decide +kernel⟩
abbrev s_is_pair : Stmt := top 16
theorem sc_is_pair : FnScope ["thing", "part"] ["thing"] (defScope s_is_pair) := ⟨rfl, rfl, rfl, by decide +kernel, rfl, by decide +kernel, by decide +kernel⟩
abbrev s_is_turn : Stmt := top 17
theorem sc_is_turn : FnScope ["thing"] ["thing"] (defScope s_is_turn) := ⟨rfl, rfl, rfl, by decide +kernel, rfl, by decide +kernel, by decide +kernel⟩
abbrev s_turned : Stmt := top 21
theorem sc_turned : FnScope ["x", "y", "turn"] ["x", "y", "turn"] (defScope s_turned) := ⟨rfl, rfl, rfl, by decide +kernel, rfl, by decide +kernel, by decide +kernel⟩
abbrev s_Ground_init : Stmt := inClass (top 22) 0
theorem sc_Ground_init : FnScope ["self", "craters", "number", "crater"] ["self", "craters"] (defScope s_Ground_init) := ⟨rfl, rfl, rfl, by decide +kernel, rfl, by decide +kernel, by decide +kernel⟩
abbrev s_Ground_eq : Stmt := inClass (top 22) 1
theorem sc_Ground_eq : FnScope ["self", "other"] ["self", "other"] (defScope s_Ground_eq) := ⟨rfl, rfl, rfl, by decide +kernel, rfl, by decide +kernel, by decide +kernel⟩
abbrev s_Camera_init : Stmt := inClass (top 23) 0
theorem sc_Camera_init : FnScope ["self", "width", "height", "error", "false", "lost", "word", "low", "high", "number"] ["self", "width", "height", "error", "false", "lost"] (defScope s_Camera_init) := ⟨rfl, rfl, rfl, by decide +kernel, rfl, by decide +kernel, by decide +kernel⟩
abbrev s_Camera_eq : Stmt := inClass (top 23) 1
theorem sc_Camera_eq : FnScope ["self", "other"] ["self", "other"] (defScope s_Camera_eq) := ⟨rfl, rfl, rfl, by decide +kernel, rfl, by decide +kernel, by decide +kernel⟩
abbrev s_are_turns : Stmt := top 24
theorem sc_are_turns : FnScope ["thing", "at", "turn"] ["thing"] (defScope s_are_turns) := ⟨rfl, rfl, rfl, by decide +kernel, rfl, by decide +kernel, by decide +kernel⟩
abbrev s_is_area : Stmt := top 25
theorem sc_is_area : FnScope ["thing", "number"] ["thing"] (defScope s_is_area) := ⟨rfl, rfl, rfl, by decide +kernel, rfl, by decide +kernel, by decide +kernel⟩
abbrev s_Sky_init : Stmt := inClass (top 26) 0
theorem sc_Sky_init : FnScope ["self", "ground", "camera", "turns", "area"] ["self", "ground", "camera", "turns", "area"] (defScope s_Sky_init) := ⟨rfl, rfl, rfl, by decide +kernel, rfl, by decide +kernel, by decide +kernel⟩
abbrev s_Sky_eq : Stmt := inClass (top 26) 1
theorem sc_Sky_eq : FnScope ["self", "other"] ["self", "other"] (defScope s_Sky_eq) := ⟨rfl, rfl, rfl, by decide +kernel, rfl, by decide +kernel, by decide +kernel⟩
abbrev s_Sky_standings : Stmt := inClass (top 26) 2
theorem sc_Sky_standings : FnScope ["self", "low_a", "high_a", "low_b", "high_b", "shifts", "a", "b", "turn"] ["self"] (defScope s_Sky_standings) := ⟨rfl, rfl, rfl, by decide +kernel, rfl, by decide +kernel, by decide +kernel⟩
abbrev s_Sky_is_standing : Stmt := inClass (top 26) 3
theorem sc_Sky_is_standing : FnScope ["self", "thing", "turn", "a", "b", "low_a", "high_a", "low_b", "high_b"] ["self", "thing"] (defScope s_Sky_is_standing) := ⟨rfl, rfl, rfl, by decide +kernel, rfl, by decide +kernel, by decide +kernel⟩
abbrev s_Sky_place : Stmt := inClass (top 26) 5
theorem sc_Sky_place : FnScope ["self", "crater", "standing", "turn", "a", "b", "x", "y"] ["self", "crater", "standing"] (defScope s_Sky_place) := ⟨rfl, rfl, rfl, by decide +kernel, rfl, by decide +kernel, by decide +kernel⟩
abbrev s_Sky_places : Stmt := inClass (top 26) 6
theorem sc_Sky_places : FnScope ["self", "standing", "crater"] ["self", "standing"] (defScope s_Sky_places) := ⟨rfl, rfl, rfl, by decide +kernel, rfl, by decide +kernel, by decide +kernel⟩
abbrev s_ends_of : Stmt := top 28
theorem sc_ends_of : FnScope ["craft", "standing", "deed", "right", "down", "x", "y", "slip"] ["craft", "standing", "deed"] (defScope s_ends_of) := ⟨rfl, rfl, rfl, by decide +kernel, rfl, by decide +kernel, by decide +kernel⟩
abbrev s_behind : Stmt := top 29
theorem sc_behind : FnScope ["craft", "belief", "deed", "standing", "end"] ["craft", "belief", "deed"] (defScope s_behind) := ⟨rfl, rfl, rfl, by decide +kernel, rfl, by decide +kernel, by decide +kernel⟩
abbrev s_is_kept : Stmt := top 30
theorem sc_is_kept : FnScope ["craft", "belief", "deed", "standing", "end"] ["craft", "belief", "deed"] (defScope s_is_kept) := ⟨rfl, rfl, rfl, by decide +kernel, rfl, by decide +kernel, by decide +kernel⟩
abbrev s_is_whole_at : Stmt := top 31
theorem sc_is_whole_at : FnScope ["craft", "deed", "end"] ["craft", "deed", "end"] (defScope s_is_whole_at) := ⟨rfl, rfl, rfl, by decide +kernel, rfl, by decide +kernel, by decide +kernel⟩
abbrev s_is_end : Stmt := top 32
theorem sc_is_end : FnScope ["deed"] ["deed"] (defScope s_is_end) := ⟨rfl, rfl, rfl, by decide +kernel, rfl, by decide +kernel, by decide +kernel⟩
abbrev s_is_aim : Stmt := top 42
theorem sc_is_aim : FnScope ["kind", "thing"] ["kind", "thing"] (defScope s_is_aim) := ⟨rfl, rfl, rfl, by decide +kernel, rfl, by decide +kernel, by decide +kernel⟩
abbrev s_are_slips : Stmt := top 43
theorem sc_are_slips : FnScope ["kind", "thing", "slip"] ["kind", "thing"] (defScope s_are_slips) := ⟨rfl, rfl, rfl, by decide +kernel, rfl, by decide +kernel, by decide +kernel⟩
abbrev s_Deed_init : Stmt := inClass (top 44) 0
theorem sc_Deed_init : FnScope ["self", "kind", "fuel", "aim", "slips"] ["self", "kind", "fuel", "aim", "slips"] (defScope s_Deed_init) := ⟨rfl, rfl, rfl, by decide +kernel, rfl, by decide +kernel, by decide +kernel⟩
abbrev s_Deed_eq : Stmt := inClass (top 44) 1
theorem sc_Deed_eq : FnScope ["self", "other"] ["self", "other"] (defScope s_Deed_eq) := ⟨rfl, rfl, rfl, by decide +kernel, rfl, by decide +kernel, by decide +kernel⟩
abbrev s_step : Stmt := top 45
theorem sc_step : FnScope ["fuel", "aim", "slips"] ["fuel", "aim", "slips"] (defScope s_step) := ⟨rfl, rfl, rfl, by decide +kernel, rfl, by decide +kernel, by decide +kernel⟩
abbrev s_turn : Stmt := top 46
theorem sc_turn : FnScope ["fuel", "aim"] ["fuel", "aim"] (defScope s_turn) := ⟨rfl, rfl, rfl, by decide +kernel, rfl, by decide +kernel, by decide +kernel⟩
abbrev s_look : Stmt := top 47
theorem sc_look : FnScope ["fuel", "aim"] ["fuel", "aim"] (defScope s_look) := ⟨rfl, rfl, rfl, by decide +kernel, rfl, by decide +kernel, by decide +kernel⟩
abbrev s_land : Stmt := top 48
theorem sc_land : FnScope ["fuel", "slips"] ["fuel", "slips"] (defScope s_land) := ⟨rfl, rfl, rfl, by decide +kernel, rfl, by decide +kernel, by decide +kernel⟩
abbrev s_away : Stmt := top 49
theorem sc_away : FnScope ["fuel"] ["fuel"] (defScope s_away) := ⟨rfl, rfl, rfl, by decide +kernel, rfl, by decide +kernel, by decide +kernel⟩
abbrev s_are_skies : Stmt := top 52
theorem sc_are_skies : FnScope ["thing", "first", "sky"] ["thing"] (defScope s_are_skies) := ⟨rfl, rfl, rfl, by decide +kernel, rfl, by decide +kernel, by decide +kernel⟩
abbrev s_are_deeds : Stmt := top 53
theorem sc_are_deeds : FnScope ["thing", "cameras", "deed"] ["thing", "cameras"] (defScope s_are_deeds) := ⟨rfl, rfl, rfl, by decide +kernel, rfl, by decide +kernel, by decide +kernel⟩
abbrev s_Craft_init : Stmt := inClass (top 54) 0
theorem sc_Craft_init : FnScope ["self", "skies", "foot", "room", "deeds"] ["self", "skies", "foot", "room", "deeds"] (defScope s_Craft_init) := ⟨rfl, rfl, rfl, by decide +kernel, rfl, by decide +kernel, by decide +kernel⟩
abbrev s_Craft_eq : Stmt := inClass (top 54) 1
theorem sc_Craft_eq : FnScope ["self", "other"] ["self", "other"] (defScope s_Craft_eq) := ⟨rfl, rfl, rfl, by decide +kernel, rfl, by decide +kernel, by decide +kernel⟩
abbrev s_Craft_is_over : Stmt := inClass (top 54) 2
theorem sc_Craft_is_over : FnScope ["self", "standing"] ["self", "standing"] (defScope s_Craft_is_over) := ⟨rfl, rfl, rfl, by decide +kernel, rfl, by decide +kernel, by decide +kernel⟩
abbrev s_Craft_is_safe : Stmt := inClass (top 54) 3
theorem sc_Craft_is_safe : FnScope ["self", "standing", "right", "down", "x", "y", "size"] ["self", "standing"] (defScope s_Craft_is_safe) := ⟨rfl, rfl, rfl, by decide +kernel, rfl, by decide +kernel, by decide +kernel⟩
abbrev s_Craft_cell_below : Stmt := inClass (top 54) 4
theorem sc_Craft_cell_below : FnScope ["self", "standing", "quarters", "a", "b"] ["self", "standing"] (defScope s_Craft_cell_below) := ⟨rfl, rfl, rfl, by decide +kernel, rfl, by decide +kernel, by decide +kernel⟩
abbrev s_Craft_stepped : Stmt := inClass (top 54) 5
theorem sc_Craft_stepped : FnScope ["self", "standing", "shift", "quarters", "a", "b"] ["self", "standing", "shift"] (defScope s_Craft_stepped) := ⟨rfl, rfl, rfl, by decide +kernel, rfl, by decide +kernel, by decide +kernel⟩
abbrev s_Craft_swung : Stmt := inClass (top 54) 6
theorem sc_Craft_swung : FnScope ["self", "standing", "quarters", "right", "down", "x", "y"] ["self", "standing", "quarters"] (defScope s_Craft_swung) := ⟨rfl, rfl, rfl, by decide +kernel, rfl, by decide +kernel, by decide +kernel⟩
abbrev s_law_number : Stmt := top 56
theorem sc_law_number : FnScope ["script", "index", "cell", "blend"] ["script", "index"] (defScope s_law_number) := ⟨rfl, rfl, rfl, by decide +kernel, rfl, by decide +kernel, by decide +kernel⟩
abbrev s_law_take : Stmt := top 57
theorem sc_law_take : FnScope ["draw", "many"] ["draw", "many"] (defScope s_law_take) := ⟨rfl, rfl, rfl, by decide +kernel, rfl, by decide +kernel, by decide +kernel⟩
abbrev s_law_pick : Stmt := top 58
theorem sc_law_pick : FnScope ["draw", "items"] ["draw", "items"] (defScope s_law_pick) := ⟨rfl, rfl, rfl, by decide +kernel, rfl, by decide +kernel, by decide +kernel⟩
abbrev s_law_ground : Stmt := top 59
theorem sc_law_ground : FnScope ["draw", "rows", "number"] ["draw"] (defScope s_law_ground) := ⟨rfl, rfl, rfl, by decide +kernel, rfl, by decide +kernel, by decide +kernel⟩
abbrev s_law_camera : Stmt := top 60
theorem sc_law_camera : FnScope ["draw", "ground", "width", "height"] ["draw", "ground"] (defScope s_law_camera) := ⟨rfl, rfl, rfl, by decide +kernel, rfl, by decide +kernel, by decide +kernel⟩
abbrev s_law_deeds : Stmt := top 61
theorem sc_law_deeds : FnScope ["draw", "cameras", "shifts", "slips", "number", "found", "order"] ["draw", "cameras"] (defScope s_law_deeds) := ⟨rfl, rfl, rfl, by decide +kernel, rfl, by decide +kernel, by decide +kernel⟩
abbrev s_law_craft : Stmt := top 62
theorem sc_law_craft : FnScope ["draw", "ground", "turns", "low_a", "low_b", "area", "skies", "number"] ["draw"] (defScope s_law_craft) := ⟨rfl, rfl, rfl, by decide +kernel, rfl, by decide +kernel, by decide +kernel⟩
abbrev s_law_belief : Stmt := top 63
theorem sc_law_belief : FnScope ["draw", "craft", "rows", "standing"] ["draw", "craft"] (defScope s_law_belief) := ⟨rfl, rfl, rfl, by decide +kernel, rfl, by decide +kernel, by decide +kernel⟩
abbrev s_law_view : Stmt := top 64
theorem sc_law_view : FnScope ["standing", "crater", "x", "y", "quarter"] ["standing", "crater"] (defScope s_law_view) := ⟨rfl, rfl, rfl, by decide +kernel, rfl, by decide +kernel, by decide +kernel⟩
abbrev s_law_ends : Stmt := top 68
theorem sc_law_ends : FnScope ["craft", "standing", "deed", "heading", "a", "b", "u", "v", "quarter", "aim", "slip"] ["craft", "standing", "deed"] (defScope s_law_ends) := ⟨rfl, rfl, rfl, by decide +kernel, rfl, by decide +kernel, by decide +kernel⟩
abbrev s_law_whole : Stmt := top 69
theorem sc_law_whole : FnScope ["craft", "deed", "end", "crater", "x", "y", "size"] ["craft", "deed", "end"] (defScope s_law_whole) := ⟨rfl, rfl, rfl, by decide +kernel, rfl, by decide +kernel, by decide +kernel⟩
abbrev s_law : Stmt := top 73
theorem sc_law : FnScope ["script", "draw", "craft", "craters", "once", "standing", "shift", "quarters", "moved", "swung", "crater", "x", "y", "size", "u", "v", "quarter", "below", "belief", "deed", "rows", "end"] ["script"] (defScope s_law) := ⟨rfl, rfl, rfl, by decide +kernel, rfl, by decide +kernel, by decide +kernel⟩
structure Env (K : PySem.W.Frag) (mg : Str → Option Value) where
  n_abs : mg "abs" = none
  n_all : mg "all" = none
  n_bool : mg "bool" = none
  n_enumerate : mg "enumerate" = none
  n_int : mg "int" = none
  n_isinstance : mg "isinstance" = none
  n_len : mg "len" = none
  n_list : mg "list" = none
  n_max : mg "max" = none
  n_range : mg "range" = none
  n_set : mg "set" = none
  n_sorted : mg "sorted" = none
  n_str : mg "str" = none
  n_tuple : mg "tuple" = none
  n_zip : mg "zip" = none
  t_MOST_CRATERS : Tok
  c_MOST_CRATERS : mg "MOST_CRATERS" = some (.int 100 t_MOST_CRATERS)
  t_MOST_SIZE : Tok
  c_MOST_SIZE : mg "MOST_SIZE" = some (.int 99 t_MOST_SIZE)
  t_FARTHEST : Tok
  c_FARTHEST : mg "FARTHEST" = some (.int 1000000 t_FARTHEST)
  t_FARTHEST_STEP : Tok
  c_FARTHEST_STEP : mg "FARTHEST_STEP" = some (.int 1000 t_FARTHEST_STEP)
  t_MOST_STANDINGS : Tok
  c_MOST_STANDINGS : mg "MOST_STANDINGS" = some (.int 40000 t_MOST_STANDINGS)
  t_MOST_FUEL : Tok
  c_MOST_FUEL : mg "MOST_FUEL" = some (.int 1000 t_MOST_FUEL)
  t_MOST_CAMERA : Tok
  c_MOST_CAMERA : mg "MOST_CAMERA" = some (.int 1000 t_MOST_CAMERA)
  t_MOST_ROOM : Tok
  c_MOST_ROOM : mg "MOST_ROOM" = some (.int 1000 t_MOST_ROOM)
  q_CAMERA_BOUNDS : Addr
  c_CAMERA_BOUNDS : mg "CAMERA_BOUNDS" = some (.ref q_CAMERA_BOUNDS)
  k_CAMERA_BOUNDS : ∀ H, Dp K H (.ref q_CAMERA_BOUNDS) (PyData.tuple [PyData.tuple [PyData.str "width", PyData.int 1, PyData.int 1000], PyData.tuple [PyData.str "height", PyData.int 1, PyData.int 1000], PyData.tuple [PyData.str "error", PyData.int 0, PyData.int 100], PyData.tuple [PyData.str "false", PyData.int 0, PyData.int 100], PyData.tuple [PyData.str "lost", PyData.int 0, PyData.int 100]])
  q_KINDS : Addr
  c_KINDS : mg "KINDS" = some (.ref q_KINDS)
  k_KINDS : ∀ H, Dp K H (.ref q_KINDS) (PyData.tuple [PyData.str "step", PyData.str "turn", PyData.str "look", PyData.str "land", PyData.str "away"])
  q_SLIPPING : Addr
  c_SLIPPING : mg "SLIPPING" = some (.ref q_SLIPPING)
  k_SLIPPING : ∀ H, Dp K H (.ref q_SLIPPING) (PyData.tuple [PyData.str "step", PyData.str "land"])
  q_NO_SLIPS : Addr
  c_NO_SLIPS : mg "NO_SLIPS" = some (.ref q_NO_SLIPS)
  k_NO_SLIPS : ∀ H, Dp K H (.ref q_NO_SLIPS) (PyData.tuple [PyData.tuple [PyData.int 0, PyData.int 0]])
  d_is_whole : DefAt K mg "is_whole" "is_whole" s_is_whole ["thing"]
  d_is_between : DefAt K mg "is_between" "is_between" s_is_between ["thing", "low", "high"]
  d_is_triple : DefAt K mg "is_triple" "is_triple" s_is_triple ["thing"]
  d_is_point : DefAt K mg "is_point" "is_point" s_is_point ["thing"]
  d_is_crater : DefAt K mg "is_crater" "is_crater" s_is_crater ["thing"]
  d_is_pair : DefAt K mg "is_pair" "is_pair" s_is_pair ["thing"]
  d_is_turn : DefAt K mg "is_turn" "is_turn" s_is_turn ["thing"]
  d_turned : DefAt K mg "turned" "turned" s_turned ["x", "y", "turn"]
  d_are_turns : DefAt K mg "_are_turns" "_are_turns" s_are_turns ["thing"]
  d_is_area : DefAt K mg "_is_area" "_is_area" s_is_area ["thing"]
  d_ends_of : DefAt K mg "ends_of" "ends_of" s_ends_of ["craft", "standing", "deed"]
  d_behind : DefAt K mg "behind" "behind" s_behind ["craft", "belief", "deed"]
  d_is_kept : DefAt K mg "is_kept" "is_kept" s_is_kept ["craft", "belief", "deed"]
  d_is_whole_at : DefAt K mg "is_whole_at" "is_whole_at" s_is_whole_at ["craft", "deed", "end"]
  d_is_end : DefAt K mg "is_end" "is_end" s_is_end ["deed"]
  d_is_aim : DefAt K mg "_is_aim" "_is_aim" s_is_aim ["kind", "thing"]
  d_are_slips : DefAt K mg "_are_slips" "_are_slips" s_are_slips ["kind", "thing"]
  d_step : DefAt K mg "step" "step" s_step ["fuel", "aim", "slips"]
  d_turn : DefAt K mg "turn" "turn" s_turn ["fuel", "aim"]
  d_look : DefAt K mg "look" "look" s_look ["fuel", "aim"]
  d_land : DefAt K mg "land" "land" s_land ["fuel", "slips"]
  d_away : DefAt K mg "away" "away" s_away ["fuel"]
  d_are_skies : DefAt K mg "_are_skies" "_are_skies" s_are_skies ["thing"]
  d_are_deeds : DefAt K mg "_are_deeds" "_are_deeds" s_are_deeds ["thing", "cameras"]
  d_law_number : DefAt K mg "_law_number" "_law_number" s_law_number ["script", "index"]
  d_law_take : DefAt K mg "_law_take" "_law_take" s_law_take ["draw", "many"]
  d_law_pick : DefAt K mg "_law_pick" "_law_pick" s_law_pick ["draw", "items"]
  d_law_ground : DefAt K mg "_law_ground" "_law_ground" s_law_ground ["draw"]
  d_law_camera : DefAt K mg "_law_camera" "_law_camera" s_law_camera ["draw", "ground"]
  d_law_deeds : DefAt K mg "_law_deeds" "_law_deeds" s_law_deeds ["draw", "cameras"]
  d_law_craft : DefAt K mg "_law_craft" "_law_craft" s_law_craft ["draw"]
  d_law_belief : DefAt K mg "_law_belief" "_law_belief" s_law_belief ["draw", "craft"]
  d_law_view : DefAt K mg "_law_view" "_law_view" s_law_view ["standing", "crater"]
  d_law_ends : DefAt K mg "_law_ends" "_law_ends" s_law_ends ["craft", "standing", "deed"]
  d_law_whole : DefAt K mg "_law_whole" "_law_whole" s_law_whole ["craft", "deed", "end"]
  d_law : DefAt K mg "law" "law" s_law ["script"]
  C_Ground : ClsAt K mg "Ground"
  m_Ground_init : MethAt K C_Ground.C "__init__" "Ground.__init__" s_Ground_init ["self", "craters"]
  m_Ground_eq : MethAt K C_Ground.C "__eq__" "Ground.__eq__" s_Ground_eq ["self", "other"]
  a_Ground_craters : NoAttr K C_Ground.C "craters"
  e_Ground : EqAtC K C_Ground.C
  C_Camera : ClsAt K mg "Camera"
  m_Camera_init : MethAt K C_Camera.C "__init__" "Camera.__init__" s_Camera_init ["self", "width", "height", "error", "false", "lost"]
  m_Camera_eq : MethAt K C_Camera.C "__eq__" "Camera.__eq__" s_Camera_eq ["self", "other"]
  a_Camera_width : NoAttr K C_Camera.C "width"
  a_Camera_height : NoAttr K C_Camera.C "height"
  a_Camera_error : NoAttr K C_Camera.C "error"
  a_Camera_false : NoAttr K C_Camera.C "false"
  a_Camera_lost : NoAttr K C_Camera.C "lost"
  e_Camera : EqAtC K C_Camera.C
  C_Sky : ClsAt K mg "Sky"
  m_Sky_init : MethAt K C_Sky.C "__init__" "Sky.__init__" s_Sky_init ["self", "ground", "camera", "turns", "area"]
  m_Sky_eq : MethAt K C_Sky.C "__eq__" "Sky.__eq__" s_Sky_eq ["self", "other"]
  m_Sky_standings : MethAt K C_Sky.C "standings" "Sky.standings" s_Sky_standings ["self"]
  m_Sky_is_standing : MethAt K C_Sky.C "is_standing" "Sky.is_standing" s_Sky_is_standing ["self", "thing"]
  m_Sky_place : MethAt K C_Sky.C "place" "Sky.place" s_Sky_place ["self", "crater", "standing"]
  m_Sky_places : MethAt K C_Sky.C "places" "Sky.places" s_Sky_places ["self", "standing"]
  a_Sky_ground : NoAttr K C_Sky.C "ground"
  a_Sky_camera : NoAttr K C_Sky.C "camera"
  a_Sky_turns : NoAttr K C_Sky.C "turns"
  a_Sky_area : NoAttr K C_Sky.C "area"
  e_Sky : EqAtC K C_Sky.C
  C_Deed : ClsAt K mg "Deed"
  m_Deed_init : MethAt K C_Deed.C "__init__" "Deed.__init__" s_Deed_init ["self", "kind", "fuel", "aim", "slips"]
  m_Deed_eq : MethAt K C_Deed.C "__eq__" "Deed.__eq__" s_Deed_eq ["self", "other"]
  a_Deed_kind : NoAttr K C_Deed.C "kind"
  a_Deed_fuel : NoAttr K C_Deed.C "fuel"
  a_Deed_aim : NoAttr K C_Deed.C "aim"
  a_Deed_slips : NoAttr K C_Deed.C "slips"
  e_Deed : EqAtC K C_Deed.C
  C_Craft : ClsAt K mg "Craft"
  m_Craft_init : MethAt K C_Craft.C "__init__" "Craft.__init__" s_Craft_init ["self", "skies", "foot", "room", "deeds"]
  m_Craft_eq : MethAt K C_Craft.C "__eq__" "Craft.__eq__" s_Craft_eq ["self", "other"]
  m_Craft_is_over : MethAt K C_Craft.C "is_over" "Craft.is_over" s_Craft_is_over ["self", "standing"]
  m_Craft_is_safe : MethAt K C_Craft.C "is_safe" "Craft.is_safe" s_Craft_is_safe ["self", "standing"]
  m_Craft_cell_below : MethAt K C_Craft.C "cell_below" "Craft.cell_below" s_Craft_cell_below ["self", "standing"]
  m_Craft_stepped : MethAt K C_Craft.C "stepped" "Craft.stepped" s_Craft_stepped ["self", "standing", "shift"]
  m_Craft_swung : MethAt K C_Craft.C "swung" "Craft.swung" s_Craft_swung ["self", "standing", "quarters"]
  a_Craft_skies : NoAttr K C_Craft.C "skies"
  a_Craft_foot : NoAttr K C_Craft.C "foot"
  a_Craft_room : NoAttr K C_Craft.C "room"
  a_Craft_deeds : NoAttr K C_Craft.C "deeds"
  e_Craft : EqAtC K C_Craft.C

end My

-- B1
namespace My
open PySem L2 Evl
section
variable {P : Program} {w : World} {K : PySem.W.Frag} {mg : Str → Option Value} {base : Heap}
def sp_is_whole {K : PySem.W.Frag} {mg : Str → Option Value} (T : Env K mg) : Sp := fun vs H Q _ => ∃ i : Int, vs = [.int i] ∧ Q (.bl true) H
theorem ok_is_whole (T : Env K mg) : FnOk P w K mg base CX0 1 T.d_is_whole.f T.d_is_whole.fd ["thing"] (sp_is_whole T) := by
  refine T.d_is_whole.F.ok sc_is_whole (fun vs H Q E h => ?_) (fun cdv A outer s H vs Q E hr h => ?_)
  · obtain ⟨i, rfl, q⟩ := h
    rfl
  · obtain ⟨i, rfl, q⟩ := h
    refine ⟨_, pss_one (ps_ret (pe_and (pe_callB call_isi (by rfl) T.n_isinstance (by decide +kernel) (pa_cons (pv 0) (pa_cons (pe_bltn (v := .ty "int") (by rfl) T.n_int (by decide +kernel) rfl) pa_nil))) (pe_one (pe_not (pe_callB call_isi (by rfl) T.n_isinstance (by decide +kernel) (pa_cons (pv 0) (pa_cons (pe_bltn (v := .ty "bool") (by rfl) T.n_bool (by decide +kernel) rfl) pa_nil))))))), ?_⟩
    refine ⟨_, rfl, _, _, .type "int", _, true, rfl, .ty _, .base (.int i), kit_ty (by decide +kernel), true, rfl, ?_⟩
    exact ⟨_, rfl, _, _, .type "int", _, false, rfl, .ty _, .base (.int i), kit_ty (by decide +kernel), false, rfl, q⟩
def sp_is_between {K : PySem.W.Frag} {mg : Str → Option Value} (T : Env K mg) : Sp := fun vs H Q _ => ∃ i lo hi : Int, vs = [.int i, .int lo, .int hi] ∧ Q (.bl (decide (lo ≤ i ∧ i ≤ hi))) H
theorem ok_is_between (T : Env K mg) : FnOk P w K mg base CX0 2 T.d_is_between.f T.d_is_between.fd ["thing", "low", "high"] (sp_is_between T) := by
  have G_is_whole := ok_is_whole (P := P) (w := w) (base := base) T
  refine T.d_is_between.F.ok sc_is_between (fun vs H Q E h => ?_) (fun cdv A outer s H vs Q E hr h => ?_)
  · obtain ⟨i, lo, hi, rfl, q⟩ := h
    rfl
  · obtain ⟨i, lo, hi, rfl, q⟩ := h
    have hr_is_whole : Room 1 _ := hr.mono (by decide)
    refine ⟨_, pss_one (ps_ret (pe_and (pe_call G_is_whole hr_is_whole (by rfl) T.d_is_whole.m T.d_is_whole.k T.d_is_whole.b .nil pass0 (pa_cons (pv 0) pa_nil)) (pe_one (pe_chain op_le op_le (pv 1) (pv 0) (pv 2))))), ?_⟩
    refine ⟨_, rfl, i, rfl, true, rfl, ?_⟩
    refine ⟨_, rfl, _, rfl, _, _, rfl, rfl, _, rfl, ?_⟩
    by_cases h1 : lo ≤ i
    · rw [decide_eq_true h1]
      refine ⟨_, rfl, _, _, rfl, rfl, ?_⟩
      have e : decide (i ≤ hi) = decide (lo ≤ i ∧ i ≤ hi) := decide_eq_decide.mpr ⟨fun z => ⟨h1, z⟩, fun z => z.2⟩
      rw [← e] at q
      exact q
    · rw [decide_eq_false h1]
      have e : false = decide (lo ≤ i ∧ i ≤ hi) := (decide_eq_false (fun z => h1 z.1)).symm
      rw [← e] at q
      exact q
def sp_is_triple {K : PySem.W.Frag} {mg : Str → Option Value} (T : Env K mg) : Sp := fun vs H Q _ => ∃ (t : Addr) (a b c : Int), vs = [.ref t] ∧ SqT K H t [.int a, .int b, .int c] ∧ ∀ H', Ex H H' → Q (.bl true) H'
theorem ok_is_triple (T : Env K mg) : FnOk P w K mg base CX0 2 T.d_is_triple.f T.d_is_triple.fd ["thing"] (sp_is_triple T) := by
  have G_is_whole := ok_is_whole (P := P) (w := w) (base := base) T
  refine T.d_is_triple.F.ok sc_is_triple (fun vs H Q E h => ?_) (fun cdv A outer s H vs Q E hr h => ?_)
  · obtain ⟨t, a, b, c, rfl, ht, q⟩ := h
    rfl
  · obtain ⟨t, a, b, c, rfl, ht, q⟩ := h
    have hr_is_whole : Room 1 _ := hr.mono (by decide)
    refine ⟨_, pss_one (ps_ret (pe_and (pe_callB call_isi (by rfl) T.n_isinstance (by decide +kernel) (pa_cons (pv 0) (pa_cons (pe_bltn (v := .ty "tuple") (by rfl) T.n_tuple (by decide +kernel) rfl) pa_nil))) (pe_and (pe_cmpR op_eq (pe_callB call_len_seq (by rfl) T.n_len PySem.boot_len (pa_cons (pv 0) pa_nil)) pe_int (nomark _)) (pe_one (pe_callB (cr_all rfl) (by rfl) T.n_all (by decide +kernel) (pa_cons (pe_lc (own := [("part", 1)]) (g := gName 1) rfl sc_is_triple.nd (pi_tup (pv 0)) (blkOk_by (N := ["thing", "part"]) (sc := defScope s_is_triple) (by decide +kernel)) (fun _ _ _ _ _ => (pg_name (i := 1) sc_is_triple.nd rfl (.inl rfl))) (fun _ _ _ _ _ => pts_nil) (fun _ _ _ _ _ => (pe_call G_is_whole hr_is_whole (by rfl) T.d_is_whole.m T.d_is_whole.k T.d_is_whole.b .nil pass0 (pa_cons (pv 1) pa_nil)))) pa_nil)))))), ?_⟩
    refine ⟨_, rfl, _, _, .type "tuple", _, true, rfl, .ty _, tyX_t ht, kit_ty (by decide +kernel), true, rfl, ?_⟩
    refine ⟨_, rfl, t, _, rfl, .inr ht, rfl, true, rfl, ?_⟩
    refine ⟨_, rfl, t, rfl, ⟨_, ht⟩, fun D hD => ?_⟩
    refine lc_val walk_tup hD [some (.ref t), none] rfl (fun _ _ e h => ex_t e h) ht [a, b, c] (fun _ => true) (fun _ => .bl true) rfl (by show 3 ≤ 100000; decide) (fun i n x Ha Hb hi e y R0 R _ hR => ?_) (fun H' e hL => ?_)
    · obtain ⟨rfl, hx⟩ := y
      have ex : x = V.int n := by
        have e2 : ([a, b, c].map V.int)[i]? = some (V.int n) := by rw [List.getElem?_map, hi]; rfl
        rw [show [V.int a, V.int b, V.int c] = [a, b, c].map V.int from rfl, e2] at hx
        exact (Option.some.inj hx).symm
      subst ex
      exact ⟨rfl, _, rfl, n, rfl, hR _ (Ex.refl _) rfl⟩
    · exact ⟨D, [true, true, true], rfl, sq_of hL, q H' e⟩
def sp_is_point {K : PySem.W.Frag} {mg : Str → Option Value} (T : Env K mg) : Sp := fun vs H Q _ => ∃ (t : Addr) (a b c : Int), vs = [.ref t] ∧ SqT K H t [.int a, .int b, .int c] ∧ 1 ≤ c ∧ c ≤ 99 ∧ ∀ H', Ex H H' → Q (.bl true) H'
theorem ok_is_point (T : Env K mg) : FnOk P w K mg base CX0 3 T.d_is_point.f T.d_is_point.fd ["thing"] (sp_is_point T) := by
  have G_is_triple := ok_is_triple (P := P) (w := w) (base := base) T
  refine T.d_is_point.F.ok sc_is_point (fun vs H Q E h => ?_) (fun cdv A outer s H vs Q E hr h => ?_)
  · obtain ⟨t, a, b, c, rfl, ht, h1, h2, q⟩ := h
    rfl
  · obtain ⟨t, a, b, c, rfl, ht, h1, h2, q⟩ := h
    have hr_is_triple : Room 2 _ := hr.mono (by decide)
    refine ⟨_, pss_one (ps_ret (pe_and (pe_call G_is_triple hr_is_triple (by rfl) T.d_is_triple.m T.d_is_triple.k T.d_is_triple.b .nil pass0 (pa_cons (pv 0) pa_nil)) (pe_one (pe_chain op_le op_le pe_int (pe_ix ix_tup (pv 0) pe_int (fun _ _ => rfl)) (pe_glob (v := .int 99) rfl T.c_MOST_SIZE ⟨_, rfl⟩))))), ?_⟩
    refine ⟨_, rfl, t, a, b, c, rfl, ht, fun H' e => ⟨true, rfl, ?_⟩⟩
    refine ⟨_, rfl, t, _, 2, .int c, rfl, rfl, ex_t e ht, rfl, _, _, rfl, rfl, _, rfl, ?_⟩
    rw [decide_eq_true h1]
    refine ⟨_, _, rfl, rfl, ?_⟩
    have e2 : true = decide (c ≤ 99) := (decide_eq_true h2).symm
    have q2 := q H' e
    rw [e2] at q2
    exact q2
def sp_is_crater {K : PySem.W.Frag} {mg : Str → Option Value} (T : Env K mg) : Sp := fun vs H Q _ => ∃ (t : Addr) (a b c : Int), vs = [.ref t] ∧ SqT K H t [.int a, .int b, .int c] ∧ 1 ≤ c ∧ c ≤ 99 ∧ -1000000 ≤ a ∧ a ≤ 1000000 ∧ -1000000 ≤ b ∧ b ≤ 1000000 ∧ ∀ H', Ex H H' → Q (.bl true) H'
theorem ok_is_crater (T : Env K mg) : FnOk P w K mg base CX0 4 T.d_is_crater.f T.d_is_crater.fd ["thing"] (sp_is_crater T) := by
  have G_is_point := ok_is_point (P := P) (w := w) (base := base) T
  refine T.d_is_crater.F.ok sc_is_crater (fun vs H Q E h => ?_) (fun cdv A outer s H vs Q E hr h => ?_)
  · obtain ⟨t, a, b, c, rfl, ht, h1, h2, h3, h4, h5, h6, q⟩ := h
    rfl
  · obtain ⟨t, a, b, c, rfl, ht, h1, h2, h3, h4, h5, h6, q⟩ := h
    have hr_is_point : Room 3 _ := hr.mono (by decide)
    refine ⟨_, pss_one (ps_ret (pe_and (pe_call G_is_point hr_is_point (by rfl) T.d_is_point.m T.d_is_point.k T.d_is_point.b .nil pass0 (pa_cons (pv 0) pa_nil)) (pe_one (pe_callB (cr_all rfl) (by rfl) T.n_all (by decide +kernel) (pa_cons (pe_lc (own := [("part", 1)]) (g := gName 1) rfl sc_is_crater.nd (pi_tup (pe_slice sl_tup (pv 0) po_none (po_some pe_int))) (blkOk_by (N := ["thing", "part"]) (sc := defScope s_is_crater) (by decide +kernel)) (fun _ _ _ _ _ => (pg_name (i := 1) sc_is_crater.nd rfl (.inl rfl))) (fun _ _ _ _ _ => pts_nil) (fun _ _ _ _ _ => (pe_chain op_le op_le (pe_un un_neg (pe_glob (v := .int 1000000) rfl T.c_FARTHEST ⟨_, rfl⟩)) (pv 1) (pe_glob (v := .int 1000000) rfl T.c_FARTHEST ⟨_, rfl⟩)))) pa_nil))))), ?_⟩
    refine ⟨_, rfl, t, a, b, c, rfl, ht, h1, h2, fun H' e => ⟨true, rfl, ?_⟩⟩
    refine ⟨_, rfl, 2, rfl, t, _, rfl, ex_t e ht, (by show ¬ (HT.sIx 3 0 none = 0 ∧ HT.sIx 3 3 (some 2) = 3); decide), fun p hp => ?_⟩
    have hp' : SqT K (upd H' p (.tup (cutV [V.int a, V.int b, V.int c] none (some 2)))) p ([a, b].map V.int) := st_of upd_same
    refine ⟨p, rfl, ⟨_, hp'⟩, fun D hD => ?_⟩
    refine lc_val walk_tup hD [some (.ref t), none] rfl (fun _ _ e h => ex_t e h) hp' [a, b] (fun _ => true) (fun _ => .bl true) rfl (by show 2 ≤ 100000; decide) (fun i n x Ha Hb hi e y R0 R _ hR => ?_) (fun H2 e2 hL => ?_)
    · obtain ⟨rfl, hx⟩ := y
      have ex : x = V.int n := by
        rw [List.getElem?_map, hi] at hx
        exact (Option.some.inj hx).symm
      subst ex
      have hn : -1000000 ≤ n ∧ n ≤ 1000000 := by
        have m := List.mem_of_getElem? hi
        simp at m
        omega
      refine ⟨rfl, _, rfl, _, rfl, _, _, rfl, rfl, _, rfl, ?_⟩
      have e3 : decide (-1000000 ≤ n) = true := decide_eq_true hn.1
      have e4 : decide (n ≤ 1000000) = true := decide_eq_true hn.2
      rw [e3]
      refine ⟨_, _, rfl, rfl, ?_⟩
      have q2 := hR Hb (Ex.refl _) rfl
      rw [← e4] at q2
      exact q2
    · exact ⟨D, [true, true], rfl, sq_of hL, q H2 ((e.trans (Ex.new hp)).trans e2)⟩
def sp_is_turn {K : PySem.W.Frag} {mg : Str → Option Value} (T : Env K mg) : Sp := fun vs H Q _ => ∃ i : Int, vs = [.int i] ∧ Q (.bl (decide (0 ≤ i ∧ i ≤ 3))) H
theorem ok_is_turn (T : Env K mg) : FnOk P w K mg base CX0 3 T.d_is_turn.f T.d_is_turn.fd ["thing"] (sp_is_turn T) := by
  have G_is_between := ok_is_between (P := P) (w := w) (base := base) T
  refine T.d_is_turn.F.ok sc_is_turn (fun vs H Q E h => ?_) (fun cdv A outer s H vs Q E hr h => ?_)
  · obtain ⟨i, rfl, q⟩ := h
    rfl
  · obtain ⟨i, rfl, q⟩ := h
    have hr_is_between : Room 2 _ := hr.mono (by decide)
    refine ⟨_, pss_one (ps_ret (pe_call G_is_between hr_is_between (by rfl) T.d_is_between.m T.d_is_between.k T.d_is_between.b .nil pass0 (pa_cons (pv 0) (pa_cons pe_int (pa_cons pe_int pa_nil))))), ?_⟩
    exact ⟨_, rfl, i, 0, 3, rfl, q⟩
/-- a place turned by quarters -/
def turnedF (x y t : Int) : Int × Int := if t = 0 then (x, y) else if t = 1 then (-y, x) else if t = 2 then (-x, -y) else (y, -x)
def sp_turned {K : PySem.W.Frag} {mg : Str → Option Value} (T : Env K mg) : Sp := fun vs H Q _ => ∃ x y t : Int, vs = [.int x, .int y, .int t] ∧ ∀ p H', H p = none → Ex H H' → H' p = some (.tup [.int (turnedF x y t).1, .int (turnedF x y t).2]) → Q (.ref p) H'
theorem ok_turned (T : Env K mg) : FnOk P w K mg base CX0 1 T.d_turned.f T.d_turned.fd ["x", "y", "turn"] (sp_turned T) := by
  refine T.d_turned.F.ok sc_turned (fun vs H Q E h => ?_) (fun cdv A outer s H vs Q E hr h => ?_)
  · obtain ⟨x, y, t, rfl, q⟩ := h
    rfl
  · obtain ⟨x, y, t, rfl, q⟩ := h
    refine ⟨_, pss_cons (ps_if (pt_cmpR op_eq (pv 2) pe_int (nomark _)) (pss_one (ps_ret (pe_tup (pa_cons (pv 0) (pa_cons (pv 1) pa_nil))))) pss_nil)
      (pss_cons (ps_if (pt_cmpR op_eq (pv 2) pe_int (nomark _)) (pss_one (ps_ret (pe_tup (pa_cons (pe_un un_neg (pv 1)) (pa_cons (pv 0) pa_nil))))) pss_nil)
      (pss_cons (ps_if (pt_cmpR op_eq (pv 2) pe_int (nomark _)) (pss_one (ps_ret (pe_tup (pa_cons (pe_un un_neg (pv 0)) (pa_cons (pe_un un_neg (pv 1)) pa_nil))))) pss_nil)
      (pss_one (ps_ret (pe_tup (pa_cons (pv 1) (pa_cons (pe_un un_neg (pv 0)) pa_nil))))))), ?_⟩
    refine ⟨_, rfl, rfl, _, rfl, ite2 (fun h => ?_) (fun h => ?_)⟩
    · have h := V.int.inj (of_decide_eq_true h)
      refine ⟨_, rfl, _, rfl, by show 2 ≤ sizeLine; decide, fun p hp => q p _ hp (Ex.new hp) ?_⟩
      rw [upd_same, turnedF, if_pos h]
    have h0 : ¬ t = 0 := fun e => h (decide_eq_true (by rw [e]))
    refine ⟨_, rfl, rfl, _, rfl, ite2 (fun h => ?_) (fun h => ?_)⟩
    · have h := V.int.inj (of_decide_eq_true h)
      refine ⟨_, rfl, _, rfl, _, rfl, by show 2 ≤ sizeLine; decide, fun p hp => q p _ hp (Ex.new hp) ?_⟩
      rw [upd_same, turnedF, if_neg h0, if_pos h]
    have h1 : ¬ t = 1 := fun e => h (decide_eq_true (by rw [e]))
    refine ⟨_, rfl, rfl, _, rfl, ite2 (fun h => ?_) (fun h => ?_)⟩
    · have h := V.int.inj (of_decide_eq_true h)
      refine ⟨_, rfl, _, rfl, _, rfl, _, rfl, by show 2 ≤ sizeLine; decide, fun p hp => q p _ hp (Ex.new hp) ?_⟩
      rw [upd_same, turnedF, if_neg h0, if_neg h1, if_pos h]
    have h2 : ¬ t = 2 := fun e => h (decide_eq_true (by rw [e]))
    refine ⟨_, rfl, _, rfl, _, rfl, by show 2 ≤ sizeLine; decide, fun p hp => q p _ hp (Ex.new hp) ?_⟩
    rw [upd_same, turnedF, if_neg h0, if_neg h1, if_neg h2]
end
end My


-- B2
namespace My
open PySem L2 Evl
local macro_rules | `(tactic| walk_at "lk") => `(tactic| (repeat (first | exact lk_eq | exact rfl | refine (lk_ne (by decide +kernel)).trans ?_)))
abbrev P3 := Int × Int × Int
/-- all that stands elsewhere is kept -/
def ExB (p : Addr) (H H' : Hp) : Prop := ∀ b o, b ≠ p → H b = some o → H' b = some o
section
variable {P : Program} {w : World} {K : PySem.W.Frag} {mg : Str → Option Value} {base : Heap}
def GroundAt (T : Env K mg) (H : Hp) (p : Addr) (cs : List P3) : Prop := ∃ dx t, H p = some (.ins T.C_Ground.C dx [("craters", .ref t)]) ∧ Rep K H (.ref t) (Tp.mk cs)
theorem GroundAt.ex {T : Env K mg} {H H' : Hp} {p : Addr} {cs : List P3} (e : Ex H H') (h : GroundAt T H p cs) : GroundAt T H' p cs := by
  obtain ⟨dx, t, h1, h2⟩ := h
  exact ⟨dx, t, e _ _ h1, h2.ex e⟩
def okC (c : P3) : Prop := 1 ≤ c.2.2 ∧ c.2.2 ≤ 99 ∧ -1000000 ≤ c.1 ∧ c.1 ≤ 1000000 ∧ -1000000 ≤ c.2.1 ∧ c.2.1 ≤ 1000000
def sp_Ground_init {K : PySem.W.Frag} {mg : Str → Option Value} (T : Env K mg) : Sp := fun vs H Q _ => ∃ (p dx l : Addr) (xs : List V) (cs : List P3), vs = [.ref p, .ref l] ∧ H p = some (.ins T.C_Ground.C dx []) ∧ SqL K H l xs ∧ RAll K H xs cs ∧ cs.length ≤ 100 ∧ (∀ c ∈ cs, okC c) ∧
    ∀ H' cs', IsSorted cs' cs → ExB p H H' → GroundAt T H' p cs' → Q .non H'
theorem ok_Ground_init (T : Env K mg) : FnOk P w K mg base CX0 5 T.m_Ground_init.f T.m_Ground_init.fd ["self", "craters"] (sp_Ground_init T) := by
  have G_is_crater := ok_is_crater (P := P) (w := w) (base := base) T
  refine T.m_Ground_init.F.ok sc_Ground_init (fun vs H Q E h => ?_) (fun cdv A outer s H vs Q E hr h => ?_)
  · obtain ⟨p, dx, l, xs, cs, rfl, hp, hl, ra, hlen, hok, q⟩ := h
    rfl
  · obtain ⟨p, dx, l, xs, cs, rfl, hp, hl, ra, hlen, hok, q⟩ := h
    have hr_is_crater : Room 4 _ := hr.mono (by decide)
    refine ⟨_, pss_cons (ps_for PassesOwn.never rfl (pi_enum (by rfl) T.n_enumerate (pa_cons (pv 1) pa_nil)) (pg_tup (by rfl) (pgs_cons (pg_name (i := 2) sc_Ground_init.nd rfl (.inl rfl)) (pgs_cons (pg_name (i := 3) sc_Ground_init.nd rfl (.inl rfl)) pgs_nil))) (pss_one (ps_if (PW.pt (pw_or (pt_cmpR op_ge (pv 2) (pe_glob (v := .int 100) rfl T.c_MOST_CRATERS ⟨_, rfl⟩) (nomark _)) (pw_or1 (pt_not (pt_val (pe_call G_is_crater hr_is_crater (by rfl) T.d_is_crater.m T.d_is_crater.k T.d_is_crater.b .nil pass0 (pa_cons (pv 3) pa_nil))))))) (pss_one ps_never) pss_nil)))
      (pss_one (ps_fld (pv 0) (pe_callTy call_tuple_of (by rfl) T.n_tuple (by decide +kernel) (pa_cons (pe_callB (cr_sortedA (α := Int × Int × Int)) (by rfl) T.n_sorted (by decide +kernel) (pa_cons (pv 1) pa_nil)) pa_nil)) rfl)), ?_⟩
    refine ⟨_, rfl, l, xs, rfl, hl, for_it walk_enum (fun i σ' H' => ∃ v2 v3, σ' = [some (.ref p), some (.ref l), v2, v3] ∧ Ex H H') ⟨none, none, rfl, Ex.refl H⟩ (fun i σ' H' _ ⟨_, _, _, e⟩ => ex_l e hl) ?_ ?_⟩
    · rintro i x σ' Ha Hb hi ⟨v2, v3, rfl, e⟩ ⟨Tt, x1, y, rfl, hT, rfl, e1, hy⟩
      cases Option.some.inj e1
      obtain ⟨c, hc, rc⟩ := ra.get hy
      obtain ⟨a, b, z⟩ := c
      obtain ⟨t, rfl, ht⟩ := rc.p3_inv
      have hcm := hok _ (List.mem_of_getElem? hc)
      have eT : Ex Ha (upd Ha Tt (.tup [V.int (i : Nat), V.ref t])) := Ex.new hT
      have hlt := (List.getElem?_eq_some_iff.mp hc).1
      refine ⟨Tt, [_, _], rfl, st_of upd_same, rfl, _, _, rfl, _, _, rfl, rfl, ?_⟩
      refine ⟨_, rfl, _, _, rfl, rfl, _, rfl, ?_⟩
      refine ite2 (fun h => absurd (of_decide_eq_true h) (by omega)) (fun _ => ?_)
      refine ⟨_, rfl, t, a, b, z, rfl, ex_t (e.trans eT) ht, hcm.1, hcm.2.1, hcm.2.2.1, hcm.2.2.2.1, hcm.2.2.2.2.1, hcm.2.2.2.2.2, fun H2 e2 => ⟨true, rfl, iteF ?_⟩⟩
      exact ⟨_, _, rfl, (e.trans eT).trans e2⟩
    · rintro σ' H1 ⟨v2, v3, rfl, e⟩
      refine ⟨_, rfl, l, xs, cs, rfl, ex_l e hl, ra.ex e, fun ys bs d hd hr2 hs => ?_⟩
      refine ⟨d, ys, rfl, .inl ⟨sq_of upd_same, fun t ht => ?_⟩⟩
      have e2 : Ex H (upd H1 d (.lst ys)) := e.trans (Ex.new hd)
      have e3 : Ex H (upd (upd H1 d (.lst ys)) t (.tup ys)) := e2.trans (Ex.new ht)
      have npt : p ≠ t := ne_of_none (e2 _ _ hp) ht
      have npd : p ≠ d := ne_of_none (e _ _ hp) hd
      refine ⟨_, rfl, p, T.C_Ground.C, dx, [], rfl, e3 _ _ hp, T.C_Ground.cl, T.a_Ground_craters, by show 0 < 1000; decide, ?_⟩
      have e4 : Keep (upd (upd H1 d (.lst ys)) t (.tup ys)) _ := Keep.upd (o := .ins T.C_Ground.C dx (putF "craters" (.ref t) [])) (e3 _ _ hp) rfl
      refine q _ bs hs (fun b o n hb => ?_) ⟨dx, t, upd_same, Rep.tp (kp_t e4 (st_of upd_same)) ((hr2.ex (Ex.new ht)).keep e4)⟩
      rw [upd_ne n]
      exact e3 _ _ hb
structure Cam where
  w : Int
  h : Int
  e : Int
  f : Int
  l : Int
  deriving DecidableEq
def okCam (c : Cam) : Prop := (1 ≤ c.w ∧ c.w ≤ 1000) ∧ (1 ≤ c.h ∧ c.h ≤ 1000) ∧ (0 ≤ c.e ∧ c.e ≤ 100) ∧ (0 ≤ c.f ∧ c.f ≤ 100) ∧ (0 ≤ c.l ∧ c.l ≤ 100)
def cf (c : Cam) : List (Str × V) := [("width", .int c.w), ("height", .int c.h), ("error", .int c.e), ("false", .int c.f), ("lost", .int c.l)]
theorem cf_w (c : Cam) : (cf c).lookup ("width" : Str) = some (.int c.w) := by unfold cf; walk_at "lk"
theorem cf_h (c : Cam) : (cf c).lookup ("height" : Str) = some (.int c.h) := by unfold cf; walk_at "lk"
theorem cf_e (c : Cam) : (cf c).lookup ("error" : Str) = some (.int c.e) := by unfold cf; walk_at "lk"
theorem cf_f (c : Cam) : (cf c).lookup ("false" : Str) = some (.int c.f) := by unfold cf; walk_at "lk"
theorem cf_l (c : Cam) : (cf c).lookup ("lost" : Str) = some (.int c.l) := by unfold cf; walk_at "lk"
def CamAt (T : Env K mg) (H : Hp) (p : Addr) (c : Cam) : Prop := ∃ dx, H p = some (.ins T.C_Camera.C dx (cf c))
theorem CamAt.ex {T : Env K mg} {H H' : Hp} {p : Addr} {c : Cam} (e : Ex H H') (h : CamAt T H p c) : CamAt T H' p c := by
  obtain ⟨dx, h1⟩ := h
  exact ⟨dx, e _ _ h1⟩
theorem dp_sii {K : PySem.W.Frag} {H : Hp} {ws : List V} {x : Str} {a b : Int} (h : DpAll K H ws [.str x, .int a, .int b]) : ws = [.str x, .int a, .int b] := by
  cases h with
  | cons h1 h =>
    cases h1
    cases h with
    | cons h1 h =>
      cases h1
      cases h with
      | cons h1 h =>
        cases h1
        cases h
        rfl
theorem bounds_at {c : Cam} (hc : okCam c) : ∀ (i : Nat) (d : PyData) (n : Int), [PyData.tuple [PyData.str "width", PyData.int 1, PyData.int 1000], PyData.tuple [PyData.str "height", PyData.int 1, PyData.int 1000], PyData.tuple [PyData.str "error", PyData.int 0, PyData.int 100], PyData.tuple [PyData.str "false", PyData.int 0, PyData.int 100], PyData.tuple [PyData.str "lost", PyData.int 0, PyData.int 100]][i]? = some d →
    [c.w, c.h, c.e, c.f, c.l][i]? = some n → ∃ (x : Str) (lo hi : Int), d = .tuple [.str x, .int lo, .int hi] ∧ lo ≤ n ∧ n ≤ hi
  | 0, d, n, h1, h2 => by cases h1; cases h2; exact ⟨_, _, _, rfl, hc.1⟩
  | 1, d, n, h1, h2 => by cases h1; cases h2; exact ⟨_, _, _, rfl, hc.2.1⟩
  | 2, d, n, h1, h2 => by cases h1; cases h2; exact ⟨_, _, _, rfl, hc.2.2.1⟩
  | 3, d, n, h1, h2 => by cases h1; cases h2; exact ⟨_, _, _, rfl, hc.2.2.2.1⟩
  | 4, d, n, h1, h2 => by cases h1; cases h2; exact ⟨_, _, _, rfl, hc.2.2.2.2⟩
  | i + 5, d, n, h1, h2 => by simp at h1
def sp_Camera_init {K : PySem.W.Frag} {mg : Str → Option Value} (T : Env K mg) : Sp := fun vs H Q _ => ∃ (p dx : Addr) (c : Cam), vs = [.ref p, .int c.w, .int c.h, .int c.e, .int c.f, .int c.l] ∧ H p = some (.ins T.C_Camera.C dx []) ∧ okCam c ∧ ∀ H', ExB p H H' → CamAt T H' p c → Q .non H'
theorem ok_Camera_init (T : Env K mg) : FnOk P w K mg base CX0 3 T.m_Camera_init.f T.m_Camera_init.fd ["self", "width", "height", "error", "false", "lost"] (sp_Camera_init T) := by
  have G_is_between := ok_is_between (P := P) (w := w) (base := base) T
  refine T.m_Camera_init.F.ok sc_Camera_init (fun vs H Q E h => ?_) (fun cdv A outer s H vs Q E hr h => ?_)
  · obtain ⟨p, dx, c, rfl, hp, hc, q⟩ := h
    rfl
  · obtain ⟨p, dx, c, rfl, hp, hc, q⟩ := h
    have hr_is_between : Room 2 _ := hr.mono (by decide)
    refine ⟨_, pss_cons (ps_for PassesOwn.never rfl (RZ.pi_zipA (by rfl) T.n_zip (pa_cons (pe_glob (v := .ref T.q_CAMERA_BOUNDS) rfl T.c_CAMERA_BOUNDS rfl) (pa_cons (pe_tup (pa_cons (pv 1) (pa_cons (pv 2) (pa_cons (pv 3) (pa_cons (pv 4) (pa_cons (pv 5) pa_nil)))))) pa_nil))) (pg_tup (by rfl) (pgs_cons (pg_tup (by rfl) (pgs_cons (pg_name (i := 6) sc_Camera_init.nd rfl (.inl rfl)) (pgs_cons (pg_name (i := 7) sc_Camera_init.nd rfl (.inl rfl)) (pgs_cons (pg_name (i := 8) sc_Camera_init.nd rfl (.inl rfl)) pgs_nil)))) (pgs_cons (pg_name (i := 9) sc_Camera_init.nd rfl (.inl rfl)) pgs_nil))) (pss_one (ps_if (pt_not (pt_val (pe_call G_is_between hr_is_between (by rfl) T.d_is_between.m T.d_is_between.k T.d_is_between.b .nil pass0 (pa_cons (pv 9) (pa_cons (pv 7) (pa_cons (pv 8) pa_nil)))))) (pss_one ps_never) pss_nil)))
      (pss_cons (ps_fld (pv 0) (pv 1) rfl)
      (pss_cons (ps_fld (pv 0) (pv 2) rfl)
      (pss_cons (ps_fld (pv 0) (pv 3) rfl)
      (pss_cons (ps_fld (pv 0) (pv 4) rfl)
      (pss_one (ps_fld (pv 0) (pv 5) rfl)))))), ?_⟩
    refine ⟨_, rfl, _, rfl, _, rfl, _, rfl, _, rfl, by show 5 ≤ sizeLine; decide, fun t ht => ?_⟩
    have e1 : Ex H (upd H t (.tup ([c.w, c.h, c.e, c.f, c.l].map V.int))) := Ex.new ht
    obtain ⟨_, bs, eq, hb, ab⟩ := dp_tup_inv (T.k_CAMERA_BOUNDS H)
    cases eq
    have hbl : bs.length = 5 := dpAll_len ab
    refine ⟨T.q_CAMERA_BOUNDS, t, bs, [c.w, c.h, c.e, c.f, c.l].map V.int, rfl, .inr ⟨ex_t e1 hb, st_of upd_same, ?_⟩⟩
    refine for_it (walk_zipT (n := 5) (by rw [hbl]; rfl)) (fun i σ' H' => ∃ v6 v7 v8 v9, σ' = [some (.ref p), some (.int c.w), some (.int c.h), some (.int c.e), some (.int c.f), some (.int c.l), v6, v7, v8, v9] ∧ Ex (upd H t (.tup ([c.w, c.h, c.e, c.f, c.l].map V.int))) H') ⟨none, none, none, none, rfl, Ex.refl _⟩ (fun i σ' H' _ ⟨_, _, _, _, _, e⟩ => ⟨ex_t (e1.trans e) hb, ex_t e (st_of upd_same)⟩) ?_ ?_
    · rintro i x σ' Ha Hb hi ⟨v6, v7, v8, v9, rfl, e⟩ ⟨Tt, x1, y, rfl, hT, rfl, hx, hy⟩
      obtain ⟨d, hd, dd⟩ := dpAll_get ab hx
      obtain ⟨n, hn, rfl⟩ : ∃ n, [c.w, c.h, c.e, c.f, c.l][i]? = some n ∧ y = V.int n := by
        have hy : ([c.w, c.h, c.e, c.f, c.l].map V.int)[i]? = some y := hy
        rw [List.getElem?_map] at hy
        obtain ⟨n, h1, h2⟩ := Option.map_eq_some_iff.mp hy
        exact ⟨n, h1, h2.symm⟩
      obtain ⟨wd, lo, hi', rfl, hlo, hhi⟩ := bounds_at hc i d n hd hn
      obtain ⟨b, ws, rfl, hbt, aw⟩ := dp_tup_inv dd
      obtain rfl := dp_sii aw
      have eT : Ex Ha (upd Ha Tt (.tup [V.ref b, V.int n])) := Ex.new hT
      refine ⟨Tt, [_, _], rfl, st_of upd_same, rfl, _, _, rfl, ?_⟩
      refine ⟨b, [_, _, _], rfl, ex_t ((e1.trans e).trans eT) hbt, rfl, _, _, rfl, _, _, rfl, _, _, rfl, rfl, _, _, rfl, rfl, ?_⟩
      refine ⟨_, rfl, _, rfl, _, rfl, n, lo, hi', rfl, ?_⟩
      have e9 : decide (lo ≤ n ∧ n ≤ hi') = true := decide_eq_true ⟨hlo, hhi⟩
      rw [e9]
      exact ⟨true, rfl, iteF ⟨_, _, _, _, rfl, e.trans eT⟩⟩
    · rintro σ' H1 ⟨v6, v7, v8, v9, rfl, e⟩
      have hp1 := e _ _ (e1 _ _ hp)
      have f1 : putF "width" (.int c.w) [] = [(("width" : Str), V.int c.w)] := rfl
      have f2 : putF "height" (.int c.h) [(("width" : Str), V.int c.w)] = _ := putF_new ["width"] rfl (by decide +kernel)
      have f3 : putF "error" (.int c.e) [(("width" : Str), V.int c.w), ("height", .int c.h)] = _ := putF_new ["width", "height"] rfl (by decide +kernel)
      have f4 : putF "false" (.int c.f) [(("width" : Str), V.int c.w), ("height", .int c.h), ("error", .int c.e)] = _ := putF_new ["width", "height", "error"] rfl (by decide +kernel)
      have f5 : putF "lost" (.int c.l) [(("width" : Str), V.int c.w), ("height", .int c.h), ("error", .int c.e), ("false", .int c.f)] = _ := putF_new ["width", "height", "error", "false"] rfl (by decide +kernel)
      have go : ∀ {Hx : Hp} {a b : List (Str × V)}, a = b → (upd Hx p (.ins T.C_Camera.C dx a)) p = some (.ins T.C_Camera.C dx b) := fun {Hx a b} e => by rw [upd_same, e]
      refine ⟨_, rfl, _, rfl, p, T.C_Camera.C, dx, _, rfl, hp1, T.C_Camera.cl, T.a_Camera_width, by show 0 < 1000; decide, ?_⟩
      refine ⟨_, rfl, _, rfl, p, T.C_Camera.C, dx, _, rfl, go f1, T.C_Camera.cl, T.a_Camera_height, by show 1 < 1000; decide, ?_⟩
      refine ⟨_, rfl, _, rfl, p, T.C_Camera.C, dx, _, rfl, go f2, T.C_Camera.cl, T.a_Camera_error, by show 2 < 1000; decide, ?_⟩
      refine ⟨_, rfl, _, rfl, p, T.C_Camera.C, dx, _, rfl, go f3, T.C_Camera.cl, T.a_Camera_false, by show 3 < 1000; decide, ?_⟩
      refine ⟨_, rfl, _, rfl, p, T.C_Camera.C, dx, _, rfl, go f4, T.C_Camera.cl, T.a_Camera_lost, by show 4 < 1000; decide, ?_⟩
      refine q _ (fun b o n hb => ?_) ⟨dx, go f5⟩
      rw [upd_ne n, upd_ne n, upd_ne n, upd_ne n, upd_ne n]
      exact e _ _ (e1 _ _ hb)
end
end My


-- B3
namespace My
open PySem L2 Evl
local macro_rules | `(tactic| walk_at "lk") => `(tactic| (repeat (first | exact lk_eq | exact rfl | refine (lk_ne (by decide +kernel)).trans ?_)))
theorem all_true {α : Type} (as : List α) : (as.map fun _ => true).all id = true := by
  induction as with
  | nil => rfl
  | cons a r ih => simp
theorem bl_map {α : Type} (as : List α) : (as.filter fun _ => true).map (fun _ => V.bl true) = (as.map fun _ => true).map V.bl := by
  rw [filter_true, List.map_map]
  rfl
theorem cut_last {xs : List V} (h : xs ≠ []) : cutV xs none (some (-1)) = xs.dropLast ∧ ¬ (HT.sIx xs.length 0 none = 0 ∧ HT.sIx xs.length xs.length (some (-1)) = xs.length) := by
  have h0 : 0 < xs.length := List.length_pos_iff.mpr h
  have e : HT.sIx xs.length xs.length (some (-1)) = xs.length - 1 := by
    show (if (-1 : Int) < 0 then ((-1 : Int) + (xs.length : Int)).toNat else min (-1 : Int).toNat xs.length) = _
    rw [if_pos (by decide)]
    omega
  constructor
  · show (xs.drop 0).take (HT.sIx xs.length xs.length (some (-1)) - 0) = _
    rw [e, List.drop_zero, Nat.sub_zero, List.dropLast_eq_take]
  · rintro ⟨_, q⟩
    rw [e] at q
    omega
def okTurns (ns : List Int) : Prop := ns ≠ [] ∧ (∀ n ∈ ns, 0 ≤ n ∧ n ≤ 3) ∧ ns.Pairwise (· < ·) ∧ ns.length ≤ 4
theorem asc_at {ns : List Int} (h : ns.Pairwise (· < ·)) {i : Nat} {a b : Int} (h1 : ns[i]? = some a) (h2 : ns[i + 1]? = some b) : a < b := by
  obtain ⟨l1, e1⟩ := List.getElem?_eq_some_iff.mp h1
  obtain ⟨l2, e2⟩ := List.getElem?_eq_some_iff.mp h2
  have := (List.pairwise_iff_getElem.mp h) i (i + 1) l1 l2 (by omega)
  rw [e1, e2] at this
  exact this
section
variable {P : Program} {w : World} {K : PySem.W.Frag} {mg : Str → Option Value} {base : Heap}
def sp_are_turns {K : PySem.W.Frag} {mg : Str → Option Value} (T : Env K mg) : Sp := fun vs H Q _ => ∃ (t : Addr) (ns : List Int), vs = [.ref t] ∧ SqT K H t (ns.map V.int) ∧ okTurns ns ∧ ∀ H', Ex H H' → Q (.bl true) H'
theorem ok_are_turns (T : Env K mg) : FnOk P w K mg base CX0 4 T.d_are_turns.f T.d_are_turns.fd ["thing"] (sp_are_turns T) := by
  have G_is_turn := ok_is_turn (P := P) (w := w) (base := base) T
  refine T.d_are_turns.F.ok sc_are_turns (fun vs H Q E h => ?_) (fun cdv A outer s H vs Q E hr h => ?_)
  · obtain ⟨t, ns, rfl, ht, hok, q⟩ := h
    rfl
  · obtain ⟨t, ns, rfl, ht, hok, q⟩ := h
    have hr_is_turn : Room 3 _ := hr.mono (by decide)
    refine ⟨_, pss_cons (ps_if (PW.pt (pw_or (pt_not (pt_val (pe_callB call_isi (by rfl) T.n_isinstance (by decide +kernel) (pa_cons (pv 0) (pa_cons (pe_bltn (v := .ty "tuple") (by rfl) T.n_tuple (by decide +kernel) rfl) pa_nil))))) (pw_or (pt_not (pt_truth (pv 0) (by intro _; rfl))) (pw_or1 (pt_not (pt_val (pe_callB (cr_all rfl) (by rfl) T.n_all (by decide +kernel) (pa_cons (pe_lc (own := [("turn", 2)]) (g := gName 2) rfl sc_are_turns.nd (pi_tup (pv 0)) (blkOk_by (N := ["thing", "at", "turn"]) (sc := defScope s_are_turns) (by decide +kernel)) (fun _ _ _ _ _ => (pg_name (i := 2) sc_are_turns.nd rfl (.inl rfl))) (fun _ _ _ _ _ => pts_nil) (fun _ _ _ _ _ => (pe_call G_is_turn hr_is_turn (by rfl) T.d_is_turn.m T.d_is_turn.k T.d_is_turn.b .nil pass0 (pa_cons (pv 2) pa_nil)))) pa_nil)))))))) (pss_one (ps_ret pe_bl)) pss_nil)
      (pss_one (ps_ret (pe_callB (cr_all rfl) (by rfl) T.n_all (by decide +kernel) (pa_cons (pe_lc (own := [("at", 1), ("turn", 2)]) (g := gTup K 2 (gCons (gName 1) (gCons (gName 2) gNil))) rfl sc_are_turns.nd (pi_enumT (by rfl) T.n_enumerate (pa_cons (pe_slice sl_tup (pv 0) po_none (po_some (pe_un un_neg pe_int))) pa_nil)) (blkOk_by (N := ["thing", "at", "turn"]) (sc := defScope s_are_turns) (by decide +kernel)) (fun _ _ _ _ _ => (pg_tup (by rfl) (pgs_cons (pg_name (i := 1) sc_are_turns.nd rfl (.inl rfl)) (pgs_cons (pg_name (i := 2) sc_are_turns.nd rfl (.inl rfl)) pgs_nil)))) (fun _ _ _ _ _ => pts_nil) (fun _ _ _ _ _ => (pe_cmpR op_lt (pv 2) (pe_ix (ix_tupK K) (pv 0) (pe_op op_add (pv 1) pe_int) (fun _ _ => rfl)) (nomark _)))) pa_nil)))), ?_⟩
    obtain ⟨hne, hb, hasc, hlen⟩ := hok
    have hne' : ns.map V.int ≠ [] := fun e => hne (List.map_eq_nil_iff.mp e)
    have hem : true = !(ns.map V.int).isEmpty := by
      cases ns with
      | nil => exact absurd rfl hne
      | cons a r => rfl
    refine ⟨_, rfl, _, _, .type "tuple", _, true, rfl, .ty _, tyX_t ht, kit_ty (by decide +kernel), true, rfl, iteF ?_⟩
    refine ⟨_, rfl, true, .inr (.inl ⟨_, ht, hem⟩), iteF ?_⟩
    refine ⟨_, rfl, t, rfl, ⟨_, ht⟩, fun D hD => ?_⟩
    refine lc_val walk_tup hD [some (.ref t), none, none] rfl (fun _ _ e h => ex_t e h) ht ns (fun _ => true) (fun _ => .bl true) (by rw [List.length_map]) (by rw [List.length_map]; omega) (fun i n x Ha Hb hi e y R0 R _ hR => ?_) (fun H1 e1 hL => ?_)
    · obtain ⟨rfl, hx⟩ := y
      rw [List.getElem?_map, hi] at hx
      obtain rfl := Option.some.inj hx
      have e9 : decide (0 ≤ n ∧ n ≤ 3) = true := decide_eq_true (hb n (List.mem_of_getElem? hi))
      refine ⟨rfl, _, rfl, n, rfl, ?_⟩
      rw [e9]
      exact hR _ (Ex.refl _) rfl
    rw [bl_map] at hL
    refine ⟨D, _, rfl, sq_of hL, _, rfl, ?_⟩
    rw [all_true]
    refine iteF ?_
    have ht1 := ex_t e1 ht
    have hc := cut_last hne'
    refine ⟨_, rfl, _, rfl, _, rfl, t, _, rfl, ht1, hc.2, fun p hp => ?_⟩
    rw [hc.1, ← List.map_dropLast]
    have e2 : Ex H1 (upd H1 p (.tup (ns.dropLast.map V.int))) := Ex.new hp
    refine ⟨p, _, rfl, st_of upd_same, fun D2 hD2 => ?_⟩
    refine lc_val walk_enumT hD2 [some (.ref t), none, none] rfl (fun _ _ e h => ex_t e h) (st_of upd_same) ns.dropLast (fun _ => true) (fun _ => .bl true) (by rw [List.length_map]) (by rw [List.length_map, List.length_dropLast]; omega) (fun i n x Ha Hb hi e y R0 R _ hR => ?_) (fun H3 e3 hL3 => ?_)
    · obtain ⟨Tt, x1, y1, rfl, hT, rfl, he, hy⟩ := y
      cases Option.some.inj he
      have hy : (ns.dropLast.map V.int)[i]? = some y1 := hy
      rw [List.getElem?_map, hi] at hy
      obtain rfl := Option.some.inj hy
      have eT : Ex Ha (upd Ha Tt (.tup [V.int (i : Nat), V.int n])) := Ex.new hT
      have hi2 := (List.getElem?_eq_some_iff.mp hi).1
      rw [List.length_dropLast] at hi2
      have hi3 : i + 1 < ns.length := by omega
      have g1 : ns[i]? = some n := by
        rw [List.getElem?_dropLast] at hi
        rw [if_pos (by omega)] at hi
        exact hi
      have g2 := List.getElem?_eq_getElem hi3
      have hlt := asc_at hasc g1 g2
      refine ⟨Tt, [_, _], rfl, st_of upd_same, rfl, _, _, rfl, _, _, rfl, rfl, rfl, _, rfl, _, rfl, _, rfl, _, _, rfl, rfl, t, _, _, V.int ns[i + 1], rfl, rfl, ex_t (e2.trans (e.trans eT)) ht1, at_of (j := i + 1) (by omega) (by rw [List.getElem?_map, g2]; rfl), _, _, rfl, rfl, ?_⟩
      have e9 : decide (n < ns[i + 1]) = true := decide_eq_true hlt
      show R (V.bl (decide (n < ns[i + 1]))) _
      rw [e9]
      exact hR _ eT rfl
    rw [bl_map] at hL3
    refine ⟨D2, _, rfl, sq_of hL3, ?_⟩
    rw [all_true]
    exact q _ ((e1.trans e2).trans e3)
end
end My


-- B4
namespace My
open PySem L2 Evl
local macro_rules | `(tactic| walk_at "lk") => `(tactic| (repeat (first | exact lk_eq | exact rfl | refine (lk_ne (by decide +kernel)).trans ?_)))
def okArea (a : Int × Int × Int × Int) : Prop := (-1000000 ≤ a.1 ∧ a.1 ≤ a.2.1 ∧ a.2.1 ≤ 1000000) ∧ (-1000000 ≤ a.2.2.1 ∧ a.2.2.1 ≤ a.2.2.2 ∧ a.2.2.2 ≤ 1000000)
structure SkyD where
  cs : List P3
  cam : Cam
  turns : List Int
  area : Int × Int × Int × Int
abbrev areaV (a : Int × Int × Int × Int) : List V := [.int a.1, .int a.2.1, .int a.2.2.1, .int a.2.2.2]
def sf (g c t a : Addr) : List (Str × V) := [("ground", .ref g), ("camera", .ref c), ("turns", .ref t), ("area", .ref a)]
theorem sf_g (g c t a : Addr) : (sf g c t a).lookup ("ground" : Str) = some (.ref g) := by unfold sf; walk_at "lk"
theorem sf_c (g c t a : Addr) : (sf g c t a).lookup ("camera" : Str) = some (.ref c) := by unfold sf; walk_at "lk"
theorem sf_t (g c t a : Addr) : (sf g c t a).lookup ("turns" : Str) = some (.ref t) := by unfold sf; walk_at "lk"
theorem sf_a (g c t a : Addr) : (sf g c t a).lookup ("area" : Str) = some (.ref a) := by unfold sf; walk_at "lk"
def okSky (s : SkyD) : Prop := okTurns s.turns ∧ okArea s.area ∧ (s.turns.length : Int) * (s.area.2.1 - s.area.1 + 1) * (s.area.2.2.2 - s.area.2.2.1 + 1) ≤ 40000
section
variable {P : Program} {w : World} {K : PySem.W.Frag} {mg : Str → Option Value} {base : Heap}
def sp_is_area {K : PySem.W.Frag} {mg : Str → Option Value} (T : Env K mg) : Sp := fun vs H Q _ => ∃ (t : Addr) (a : Int × Int × Int × Int), vs = [.ref t] ∧ SqT K H t (areaV a) ∧ okArea a ∧ ∀ H', Ex H H' → Q (.bl true) H'
theorem ok_is_area (T : Env K mg) : FnOk P w K mg base CX0 3 T.d_is_area.f T.d_is_area.fd ["thing"] (sp_is_area T) := by
  have G_is_between := ok_is_between (P := P) (w := w) (base := base) T
  refine T.d_is_area.F.ok sc_is_area (fun vs H Q E h => ?_) (fun cdv A outer s H vs Q E hr h => ?_)
  · obtain ⟨t, a, rfl, ht, hok, q⟩ := h
    rfl
  · obtain ⟨t, a, rfl, ht, hok, q⟩ := h
    have hr_is_between : Room 2 _ := hr.mono (by decide)
    refine ⟨_, pss_cons (ps_if (PW.pt (pw_or (pt_not (pt_val (pe_callB call_isi (by rfl) T.n_isinstance (by decide +kernel) (pa_cons (pv 0) (pa_cons (pe_bltn (v := .ty "tuple") (by rfl) T.n_tuple (by decide +kernel) rfl) pa_nil))))) (pw_or1 (pt_cmpR op_ne (pe_callB call_len_seq (by rfl) T.n_len PySem.boot_len (pa_cons (pv 0) pa_nil)) pe_int (nomark _))))) (pss_one (ps_ret pe_bl)) pss_nil)
      (pss_cons (ps_if (pt_not (pt_val (pe_callB (cr_all rfl) (by rfl) T.n_all (by decide +kernel) (pa_cons (pe_lc (own := [("number", 1)]) (g := gName 1) rfl sc_is_area.nd (pi_tup (pv 0)) (blkOk_by (N := ["thing", "number"]) (sc := defScope s_is_area) (by decide +kernel)) (fun _ _ _ _ _ => (pg_name (i := 1) sc_is_area.nd rfl (.inl rfl))) (fun _ _ _ _ _ => pts_nil) (fun _ _ _ _ _ => (pe_call G_is_between hr_is_between (by rfl) T.d_is_between.m T.d_is_between.k T.d_is_between.b .nil pass0 (pa_cons (pv 1) (pa_cons (pe_un un_neg (pe_glob (v := .int 1000000) rfl T.c_FARTHEST ⟨_, rfl⟩)) (pa_cons (pe_glob (v := .int 1000000) rfl T.c_FARTHEST ⟨_, rfl⟩) pa_nil)))))) pa_nil)))) (pss_one (ps_ret pe_bl)) pss_nil)
      (pss_one (ps_ret (pe_and (pe_cmpR op_le (pe_ix ix_tup (pv 0) pe_int (fun _ _ => rfl)) (pe_ix ix_tup (pv 0) pe_int (fun _ _ => rfl)) (nomark _)) (pe_one (pe_cmpR op_le (pe_ix ix_tup (pv 0) pe_int (fun _ _ => rfl)) (pe_ix ix_tup (pv 0) pe_int (fun _ _ => rfl)) (nomark _))))))), ?_⟩
    refine ⟨_, rfl, _, _, .type "tuple", _, true, rfl, .ty _, tyX_t ht, kit_ty (by decide +kernel), true, rfl, iteF ?_⟩
    refine ⟨_, rfl, t, _, rfl, .inr ht, rfl, _, rfl, iteNS rfl ?_⟩
    refine ⟨_, rfl, t, rfl, ⟨_, ht⟩, fun D hD => ?_⟩
    refine lc_val walk_tup hD [some (.ref t), none] rfl (fun _ _ e h => ex_t e h) ht [a.1, a.2.1, a.2.2.1, a.2.2.2] (fun _ => true) (fun _ => .bl true) rfl (by show 4 ≤ 100000; decide) (fun i n x Ha Hb hi e y R0 R _ hR => ?_) (fun H1 e1 hL => ?_)
    · obtain ⟨rfl, hx⟩ := y
      have hx : ([a.1, a.2.1, a.2.2.1, a.2.2.2].map V.int)[i]? = some x := hx
      rw [List.getElem?_map, hi] at hx
      obtain rfl := Option.some.inj hx
      have hm : -1000000 ≤ n ∧ n ≤ 1000000 := by
        have m := List.mem_of_getElem? hi
        obtain ⟨⟨h1, h2, h3⟩, h4, h5, h6⟩ := hok
        simp at m
        omega
      have e9 : decide (-1000000 ≤ n ∧ n ≤ 1000000) = true := decide_eq_true hm
      refine ⟨rfl, _, rfl, _, rfl, n, -1000000, 1000000, rfl, ?_⟩
      rw [e9]
      exact hR _ (Ex.refl _) rfl
    rw [bl_map] at hL
    refine ⟨D, _, rfl, sq_of hL, _, rfl, ?_⟩
    rw [all_true]
    refine iteF ?_
    have ht1 := ex_t e1 ht
    refine ⟨_, rfl, t, _, 0, _, rfl, rfl, ht1, rfl, _, rfl, t, _, 1, _, rfl, rfl, ht1, rfl, _, _, rfl, rfl, _, rfl, ?_⟩
    have e9 : decide (a.1 ≤ a.2.1) = true := decide_eq_true hok.1.2.1
    rw [e9]
    refine iteT ?_
    refine ⟨_, rfl, t, _, 2, _, rfl, rfl, ht1, rfl, _, rfl, t, _, 3, _, rfl, rfl, ht1, rfl, _, _, rfl, rfl, ?_⟩
    have e8 : true = decide (a.2.2.1 ≤ a.2.2.2) := (decide_eq_true hok.2.2.1).symm
    have q2 := q _ e1
    rw [e8] at q2
    exact q2
def SkyAt (T : Env K mg) (H : Hp) (p : Addr) (s : SkyD) : Prop := ∃ dx g c t a, H p = some (.ins T.C_Sky.C dx (sf g c t a)) ∧ GroundAt T H g s.cs ∧ CamAt T H c s.cam ∧ SqT K H t (s.turns.map V.int) ∧ SqT K H a (areaV s.area)
theorem SkyAt.ex {T : Env K mg} {H H' : Hp} {p : Addr} {s : SkyD} (e : Ex H H') (h : SkyAt T H p s) : SkyAt T H' p s := by
  obtain ⟨dx, g, c, t, a, h1, h2, h3, h4, h5⟩ := h
  exact ⟨dx, g, c, t, a, e _ _ h1, h2.ex e, h3.ex e, ex_t e h4, ex_t e h5⟩
theorem GroundAt.exB {T : Env K mg} {H H' : Hp} {p q : Addr} {cs : List P3} (e : ExB q H H') (k : Keep H H') (n : p ≠ q) (h : GroundAt T H p cs) : GroundAt T H' p cs := by
  obtain ⟨dx, t, h1, h2⟩ := h
  exact ⟨dx, t, e _ _ n h1, h2.keep k⟩
def sp_Sky_init {K : PySem.W.Frag} {mg : Str → Option Value} (T : Env K mg) : Sp := fun vs H Q _ => ∃ (p dx g c t a : Addr) (s : SkyD), vs = [.ref p, .ref g, .ref c, .ref t, .ref a] ∧ H p = some (.ins T.C_Sky.C dx []) ∧ GroundAt T H g s.cs ∧ CamAt T H c s.cam ∧ SqT K H t (s.turns.map V.int) ∧ SqT K H a (areaV s.area) ∧ okSky s ∧
    ∀ H', ExB p H H' → SkyAt T H' p s → Q .non H'
theorem ok_Sky_init (T : Env K mg) : FnOk P w K mg base CX0 5 T.m_Sky_init.f T.m_Sky_init.fd ["self", "ground", "camera", "turns", "area"] (sp_Sky_init T) := by
  have G_is_area := ok_is_area (P := P) (w := w) (base := base) T
  have G_are_turns := ok_are_turns (P := P) (w := w) (base := base) T
  refine T.m_Sky_init.F.ok sc_Sky_init (fun vs H Q E h => ?_) (fun cdv A outer s H vs Q E hr h => ?_)
  · obtain ⟨p, dx, g, c, t, a, d, rfl, hp, hg, hc, ht, ha, hok, q⟩ := h
    rfl
  · obtain ⟨p, dx, g, c, t, a, d, rfl, hp, hg, hc, ht, ha, hok, q⟩ := h
    have hr_is_area : Room 3 _ := hr.mono (by decide)
    have hr_are_turns : Room 4 _ := hr.mono (by decide)
    refine ⟨_, pss_cons (ps_if (pt_not (pt_val (pe_call G_are_turns hr_are_turns (by rfl) T.d_are_turns.m T.d_are_turns.k T.d_are_turns.b .nil pass0 (pa_cons (pv 3) pa_nil)))) (pss_one ps_never) pss_nil)
      (pss_cons (ps_if (pt_not (pt_val (pe_call G_is_area hr_is_area (by rfl) T.d_is_area.m T.d_is_area.k T.d_is_area.b .nil pass0 (pa_cons (pv 4) pa_nil)))) (pss_one ps_never) pss_nil)
      (pss_cons (ps_if (pt_cmpR op_gt (pe_op op_mul (pe_op op_mul (pe_callB call_len_seq (by rfl) T.n_len PySem.boot_len (pa_cons (pv 3) pa_nil)) (pe_op op_add (pe_op op_sub (pe_ix ix_tup (pv 4) pe_int (fun _ _ => rfl)) (pe_ix ix_tup (pv 4) pe_int (fun _ _ => rfl))) pe_int)) (pe_op op_add (pe_op op_sub (pe_ix ix_tup (pv 4) pe_int (fun _ _ => rfl)) (pe_ix ix_tup (pv 4) pe_int (fun _ _ => rfl))) pe_int)) (pe_glob (v := .int 40000) rfl T.c_MOST_STANDINGS ⟨_, rfl⟩) (nomark _)) (pss_one ps_never) pss_nil)
      (pss_cons (ps_fld (pv 0) (pv 1) rfl)
      (pss_cons (ps_fld (pv 0) (pv 2) rfl)
      (pss_cons (ps_fld (pv 0) (pv 3) rfl)
      (pss_one (ps_fld (pv 0) (pv 4) rfl))))))), ?_⟩
    obtain ⟨ok1, ok2, ok3⟩ := hok
    refine ⟨_, rfl, t, _, rfl, ht, ok1, fun H1 e1 => ⟨true, rfl, iteF ?_⟩⟩
    refine ⟨_, rfl, a, _, rfl, ex_t e1 ha, ok2, fun H2 e2' => ⟨true, rfl, iteF ?_⟩⟩
    have e2 := e1.trans e2'
    have ht2 := ex_t e2 ht
    have ha2 := ex_t e2 ha
    have hlt : ((d.turns.map V.int).length : Int) = (d.turns.length : Int) := by rw [List.length_map]
    have hl4 : d.turns.length ≤ 4 := ok1.2.2.2
    have hx0 : 0 ≤ d.area.2.1 - d.area.1 + 1 ∧ d.area.2.1 - d.area.1 + 1 ≤ 2000001 := by
      obtain ⟨⟨h1, h2, h3⟩, _⟩ := ok2
      omega
    have hprod : (d.turns.length : Int) * (d.area.2.1 - d.area.1 + 1) ≤ 4 * 2000001 := Int.mul_le_mul (by omega) hx0.2 hx0.1 (by omega)
    have hprod0 : 0 ≤ (d.turns.length : Int) * (d.area.2.1 - d.area.1 + 1) := Int.mul_nonneg (by omega) hx0.1
    refine ⟨_, rfl, t, _, rfl, .inr ht2, _, rfl, a, _, 1, _, rfl, rfl, ha2, rfl, _, rfl, a, _, 0, _, rfl, rfl, ha2, rfl, _, _, rfl, rfl, _, _, rfl, rfl, _, _, rfl, rfl, .inl (by rw [hlt]; omega), ?_⟩
    refine ⟨_, rfl, a, _, 3, _, rfl, rfl, ha2, rfl, _, rfl, a, _, 2, _, rfl, rfl, ha2, rfl, _, _, rfl, rfl, _, _, rfl, rfl, _, _, rfl, rfl, .inl (by rw [hlt]; omega), _, _, rfl, rfl, _, rfl, ?_⟩
    refine ite2 (fun h => absurd (of_decide_eq_true h) (by rw [hlt]; omega)) (fun _ => ?_)
    have hp2 := e2 _ _ hp
    have go : ∀ {Hx : Hp} {y z : List (Str × V)}, y = z → (upd Hx p (.ins T.C_Sky.C dx y)) p = some (.ins T.C_Sky.C dx z) := fun {Hx y z} e => by rw [upd_same, e]
    have f1 : putF "ground" (.ref g) [] = [(("ground" : Str), V.ref g)] := rfl
    have f2 : putF "camera" (.ref c) [(("ground" : Str), V.ref g)] = _ := putF_new ["ground"] rfl (by decide +kernel)
    have f3 : putF "turns" (.ref t) [(("ground" : Str), V.ref g), ("camera", .ref c)] = _ := putF_new ["ground", "camera"] rfl (by decide +kernel)
    have f4 : putF "area" (.ref a) [(("ground" : Str), V.ref g), ("camera", .ref c), ("turns", .ref t)] = _ := putF_new ["ground", "camera", "turns"] rfl (by decide +kernel)
    refine ⟨_, rfl, _, rfl, p, T.C_Sky.C, dx, _, rfl, hp2, T.C_Sky.cl, T.a_Sky_ground, by show 0 < 1000; decide, ?_⟩
    refine ⟨_, rfl, _, rfl, p, T.C_Sky.C, dx, _, rfl, go f1, T.C_Sky.cl, T.a_Sky_camera, by show 1 < 1000; decide, ?_⟩
    refine ⟨_, rfl, _, rfl, p, T.C_Sky.C, dx, _, rfl, go f2, T.C_Sky.cl, T.a_Sky_turns, by show 2 < 1000; decide, ?_⟩
    refine ⟨_, rfl, _, rfl, p, T.C_Sky.C, dx, _, rfl, go f3, T.C_Sky.cl, T.a_Sky_area, by show 3 < 1000; decide, ?_⟩
    have npg : g ≠ p := by
      obtain ⟨dy, tt, h1, _⟩ := hg
      exact ne_of h1 hp (fun z => nomatch (HO.ins.inj z).2.2)
    have npc : c ≠ p := by
      obtain ⟨dy, h1⟩ := hc
      exact ne_of h1 hp (fun z => nomatch (show cf d.cam = [] from (HO.ins.inj z).2.2))
    have big : ∀ {o1 o2 o3 o4 : HO}, ExB p H2 (upd (upd (upd (upd H2 p o1) p o2) p o3) p o4) := fun {o1 o2 o3 o4} b o n hb => by
      rw [upd_ne n, upd_ne n, upd_ne n, upd_ne n]
      exact hb
    have kp : ∀ {o1 o2 o3 o4 : HO}, Keep H2 (upd (upd (upd (upd H2 p o1) p o2) p o3) p o4) := fun {o1 o2 o3 o4} b o hd hb => big b o (fun z => by
      rw [z, hp2] at hb
      cases hb
      cases hd) hb
    refine q _ (fun b o n hb => big b o n (e2 _ _ hb)) ⟨dx, g, c, t, a, go f4, (hg.ex e2).exB big kp npg, ?_, kp_t kp ht2, kp_t kp ha2⟩
    obtain ⟨dy, h1⟩ := hc.ex e2
    exact ⟨dy, big _ _ npc h1⟩
end
end My


-- B5
namespace My
open PySem L2 Evl
local macro_rules | `(tactic| walk_at "lk") => `(tactic| (repeat (first | exact lk_eq | exact rfl | refine (lk_ne (by decide +kernel)).trans ?_)))
def rangeI (lo hi : Int) : List Int := (List.range (hi - lo).toNat).map fun (k : Nat) => lo + (k : Int)
theorem rangeI_len (lo hi : Int) : (rangeI lo hi).length = (hi - lo).toNat := by
  unfold rangeI
  rw [List.length_map, List.length_range]
theorem rangeI_get {lo hi : Int} {i : Nat} {a : Int} (h : (rangeI lo hi)[i]? = some a) : a = lo + (i : Int) ∧ i < (hi - lo).toNat := by
  unfold rangeI at h
  rw [List.getElem?_map] at h
  obtain ⟨k, h1, h2⟩ := Option.map_eq_some_iff.mp h
  obtain ⟨h3, h4⟩ := List.getElem?_eq_some_iff.mp h1
  rw [List.getElem_range] at h4
  rw [List.length_range] at h3
  exact ⟨by rw [← h2, h4], h3⟩
theorem mem_rangeI {lo hi a : Int} : a ∈ rangeI lo hi ↔ lo ≤ a ∧ a < hi := by
  unfold rangeI
  rw [List.mem_map]
  constructor
  · rintro ⟨k, hk, rfl⟩
    have := List.mem_range.mp hk
    omega
  · rintro ⟨h1, h2⟩
    exact ⟨(a - lo).toNat, List.mem_range.mpr (by omega), by omega⟩
def shiftsF (r : Int × Int × Int × Int) : List (Int × Int) := (rangeI r.1 (r.2.1 + 1)).flatMap fun a => (rangeI r.2.2.1 (r.2.2.2 + 1)).map fun b => (a, b)
def standF (s : SkyD) : List P3 := s.turns.flatMap fun t => (shiftsF s.area).map fun p => (t, p.1, p.2)
theorem len_flatMap_const {α β : Type} {f : α → List β} {n : Nat} (h : ∀ a, (f a).length = n) : ∀ l : List α, (l.flatMap f).length = l.length * n
  | [] => by simp
  | a :: r => by rw [List.flatMap_cons, List.length_append, h, len_flatMap_const h r, List.length_cons, Nat.succ_mul]; omega
theorem shiftsF_len (r : Int × Int × Int × Int) : (shiftsF r).length = (r.2.1 + 1 - r.1).toNat * (r.2.2.2 + 1 - r.2.2.1).toNat := by
  unfold shiftsF
  rw [len_flatMap_const (n := (r.2.2.2 + 1 - r.2.2.1).toNat) (fun a => by rw [List.length_map, rangeI_len]), rangeI_len]
theorem standF_len (s : SkyD) : (standF s).length = s.turns.length * (shiftsF s.area).length := by
  unfold standF
  rw [len_flatMap_const (n := (shiftsF s.area).length) (fun a => by rw [List.length_map])]
theorem sky_lens {s : SkyD} (h : okSky s) : (shiftsF s.area).length ≤ 40000 ∧ (standF s).length ≤ 40000 := by
  obtain ⟨h1, ⟨⟨_, ha, _⟩, _, hb, _⟩, h3⟩ := h
  have e : (((standF s).length : Nat) : Int) = (s.turns.length : Int) * (s.area.2.1 - s.area.1 + 1) * (s.area.2.2.2 - s.area.2.2.1 + 1) := by
    rw [standF_len, shiftsF_len]
    have e1 : ((s.area.2.1 + 1 - s.area.1).toNat : Int) = s.area.2.1 - s.area.1 + 1 := by omega
    have e2 : ((s.area.2.2.2 + 1 - s.area.2.2.1).toNat : Int) = s.area.2.2.2 - s.area.2.2.1 + 1 := by omega
    rw [Int.natCast_mul, Int.natCast_mul, e1, e2, Int.mul_assoc]
  have q : (standF s).length ≤ 40000 := by omega
  have hp : 1 ≤ s.turns.length := List.length_pos_iff.mpr h1.1
  have q2 : (shiftsF s.area).length ≤ (standF s).length := by
    rw [standF_len]
    exact Nat.le_mul_of_pos_left _ hp
  exact ⟨by omega, q⟩
section
variable {P : Program} {w : World} {K : PySem.W.Frag} {mg : Str → Option Value} {base : Heap}
def sp_Sky_standings {K : PySem.W.Frag} {mg : Str → Option Value} (T : Env K mg) : Sp := fun vs H Q _ => ∃ (p : Addr) (d : SkyD), vs = [.ref p] ∧ SkyAt T H p d ∧ okSky d ∧ ∀ v H', Ex H H' → Rep K H' v (Tp.mk (standF d)) → Q v H'
theorem ok_Sky_standings (T : Env K mg) : FnOk P w K mg base CX0 1 T.m_Sky_standings.f T.m_Sky_standings.fd ["self"] (sp_Sky_standings T) := by
  refine T.m_Sky_standings.F.ok sc_Sky_standings (fun vs H Q E h => ?_) (fun cdv A outer s H vs Q E hr h => ?_)
  · obtain ⟨p, d, rfl, hp, hok, q⟩ := h
    rfl
  · obtain ⟨p, d, rfl, hp, hok, q⟩ := h
    refine ⟨_, pss_cons (ps_asg (pe_fld (pv 0) rfl) (pg_tup (by rfl) (pgs_cons (pg_name (i := 1) sc_Sky_standings.nd rfl (.inl rfl)) (pgs_cons (pg_name (i := 2) sc_Sky_standings.nd rfl (.inl rfl)) (pgs_cons (pg_name (i := 3) sc_Sky_standings.nd rfl (.inr rfl)) (pgs_cons (pg_name (i := 4) sc_Sky_standings.nd rfl (.inr rfl)) pgs_nil))))))
      (pss_cons (ps_set (i := 5) sc_Sky_standings.nd rfl (.inr rfl) (pe_lc2 (own := [("a", 6), ("b", 7)]) (vs1 := [7]) (g := gName 6) (g1 := gName 7) rfl sc_Sky_standings.nd (pi_range2 rfl T.n_range (pa_cons (pv 1) (pa_cons (pe_op op_add (pv 2) pe_int) pa_nil))) (blkOk_by (N := ["self", "low_a", "high_a", "low_b", "high_b", "shifts", "a", "b", "turn"]) (sc := defScope s_Sky_standings) (by decide +kernel)) (by decide) (fun _ _ _ _ _ => (pg_name (i := 6) sc_Sky_standings.nd rfl (.inl rfl))) (fun _ _ _ _ _ => pts_nil) (fun _ _ _ _ _ => (pi_range2 rfl T.n_range (pa_cons (pv 3) (pa_cons (pe_op op_add (pv 4) pe_int) pa_nil)))) (fun _ _ _ _ _ => (pg_name (i := 7) sc_Sky_standings.nd rfl (.inl rfl))) (fun _ _ _ _ _ => pts_nil) (fun _ _ _ _ _ => (pe_tup (pa_cons (pv 6) (pa_cons (pv 7) pa_nil))))))
      (pss_one (ps_ret (pe_callTy call_tuple_of (by rfl) T.n_tuple (by decide +kernel) (pa_cons (pe_lc2 (own := [("turn", 8), ("a", 6), ("b", 7)]) (vs1 := [6, 7]) (g := gName 8) (g1 := gTup K 2 (gCons (gName 6) (gCons (gName 7) gNil))) rfl sc_Sky_standings.nd (pi_tup (pe_fld (pv 0) rfl)) (blkOk_by (N := ["self", "low_a", "high_a", "low_b", "high_b", "shifts", "a", "b", "turn"]) (sc := defScope s_Sky_standings) (by decide +kernel)) (by decide) (fun _ _ _ _ _ => (pg_name (i := 8) sc_Sky_standings.nd rfl (.inl rfl))) (fun _ _ _ _ _ => pts_nil) (fun _ _ _ _ _ => (pi_listK (K := K) (pv 5))) (fun _ _ _ _ _ => (pg_tup (by rfl) (pgs_cons (pg_name (i := 6) sc_Sky_standings.nd rfl (.inl rfl)) (pgs_cons (pg_name (i := 7) sc_Sky_standings.nd rfl (.inl rfl)) pgs_nil)))) (fun _ _ _ _ _ => pts_nil) (fun _ _ _ _ _ => (pe_tup (pa_cons (pv 8) (pa_cons (pv 6) (pa_cons (pv 7) pa_nil)))))) pa_nil))))), ?_⟩
    obtain ⟨l1, l2⟩ := sky_lens hok
    obtain ⟨ok1, ⟨⟨a1, a2, a3⟩, b1, b2, b3⟩, ok3⟩ := hok
    obtain ⟨dx, g, c, t, ar, h1, h2, h3, ht, ha⟩ := hp
    refine ⟨_, rfl, p, T.C_Sky.C, dx, _, _, rfl, h1, T.C_Sky.cl, T.a_Sky_area, sf_a _ _ _ _, ar, _, rfl, ha, rfl, _, _, rfl, _, _, rfl, _, _, rfl, _, _, rfl, rfl, ?_⟩
    refine ⟨_, rfl, _, rfl, _, _, rfl, rfl, d.area.1, d.area.2.1 + 1, rfl, ⟨by omega, by omega, by omega, by omega⟩, fun D hD => ?_⟩
    refine lc2_rep (K := K) walk_range hD [some (.ref p), some (.int d.area.1), some (.int d.area.2.1), some (.int d.area.2.2.1), some (.int d.area.2.2.2), none, none, none, none] rfl (fun _ _ _ _ => trivial) trivial (rangeI d.area.1 (d.area.2.1 + 1)) (fun _ => rangeI d.area.2.2.1 (d.area.2.2.2 + 1)) (fun a b => ((a, b) : Int × Int)) (rangeI_len _ _) (by show (shiftsF d.area).length ≤ 100000; omega) (fun i a x Ha Hb hi e y R0 R hR => ?_) (fun ys H1 e1 hL rL => ?_)
    · obtain ⟨rfl, rfl⟩ := y
      obtain ⟨rfl, _⟩ := rangeI_get hi
      refine ⟨rfl, _, rfl, _, rfl, _, _, rfl, rfl, d.area.2.2.1, d.area.2.2.2 + 1, rfl, ⟨by omega, by omega, by omega, by omega⟩, ?_⟩
      refine hR _ _ _ _ _ _ [some (.ref p), some (.int d.area.1), some (.int d.area.2.1), some (.int d.area.2.2.1), some (.int d.area.2.2.2), none, some (.int (d.area.1 + i)), none, none] rfl walk_range (Ex.refl _) (fun _ _ => trivial) (rangeI_len _ _) (fun j b x' Hc Hd hb ec y1 R02 R2 hR2 => ?_)
      obtain ⟨rfl, rfl⟩ := y1
      obtain ⟨rfl, _⟩ := rangeI_get hb
      exact ⟨rfl, _, rfl, _, rfl, by show 2 ≤ sizeLine; decide, fun z hz => hR2 _ _ (Ex.new hz) (Rep.p2 (st_of upd_same))⟩
    have rL : RAll K H1 ys (shiftsF d.area) := rL
    have ht1 := ex_t e1 ht
    refine ⟨_, rfl, p, T.C_Sky.C, dx, _, _, rfl, e1 _ _ h1, T.C_Sky.cl, T.a_Sky_turns, sf_t _ _ _ _, t, rfl, ⟨_, ht1⟩, fun D2 hD2 => ?_⟩
    refine lc2_rep (K := K) walk_tup hD2 [some (.ref p), some (.int d.area.1), some (.int d.area.2.1), some (.int d.area.2.2.1), some (.int d.area.2.2.2), some (.ref D), none, none, none] rfl (fun _ _ e h => ex_t e h) ht1 d.turns (fun _ => shiftsF d.area) (fun n s => ((n, s.1, s.2) : P3)) (by rw [List.length_map]) (by show (standF d).length ≤ 100000; omega) (fun i n x Ha Hb hi e y R0 R hR => ?_) (fun zs H2 e2 hL2 rL2 => ?_)
    · obtain ⟨rfl, hx⟩ := y
      rw [List.getElem?_map, hi] at hx
      obtain rfl := Option.some.inj hx
      refine ⟨rfl, _, rfl, D, rfl, ⟨ys, sq_of (e _ _ hL)⟩, ?_⟩
      refine hR _ _ _ _ _ _ [some (.ref p), some (.int d.area.1), some (.int d.area.2.1), some (.int d.area.2.2.1), some (.int d.area.2.2.2), some (.ref D), none, none, some (.int n)] rfl (walk_list (K := K) (xs := ys)) (Ex.refl _) (fun Hc ec => sq_of (ec _ _ hL)) rL.length.symm (fun j b x' Hc Hd hb ec y1 R02 R2 hR2 => ?_)
      obtain ⟨rfl, hx'⟩ := y1
      obtain ⟨b', hb', rb⟩ := (rL.ex ec).get hx'
      rw [hb] at hb'
      obtain rfl := Option.some.inj hb'
      obtain ⟨z, rfl, hz⟩ := rb.p2_inv
      refine ⟨z, _, rfl, hz, rfl, _, _, rfl, ?_⟩
      refine ⟨_, _, rfl, rfl, ?_⟩
      refine ⟨rfl, ?_⟩
      refine ⟨V.int n, rfl, ?_⟩
      refine ⟨V.int b.1, rfl, ?_⟩
      refine ⟨V.int b.2, rfl, ?_⟩
      exact ⟨by show 3 ≤ sizeLine; decide, fun u hu => hR2 _ _ (Ex.new hu) (Rep.p3 (st_of upd_same))⟩
    refine ⟨D2, zs, rfl, .inl ⟨sq_of hL2, fun u hu => ?_⟩⟩
    exact q _ _ ((e1.trans e2).trans (Ex.new hu)) (Rep.tp (st_of upd_same) (rL2.ex (Ex.new hu)))
end
end My


-- C1
namespace My
open PySem L2 Evl
local macro_rules | `(tactic| walk_at "lk") => `(tactic| (repeat (first | exact lk_eq | exact rfl | refine (lk_ne (by decide +kernel)).trans ?_)))
abbrev PR := Int × Int
def okPair (p : PR) : Prop := (-1000 ≤ p.1 ∧ p.1 ≤ 1000) ∧ (-1000 ≤ p.2 ∧ p.2 ≤ 1000)
theorem tp_dec {α : Type} [DecidableEq α] (a b : List α) : decide (Tp.mk a = Tp.mk b) = decide (a = b) := decide_eq_decide.mpr ⟨fun z => Tp.mk.inj z, fun z => by rw [z]⟩
theorem dpAll_strs {K : PySem.W.Frag} {H : Hp} : ∀ {xs : List Str} {ws : List V}, DpAll K H ws (xs.map PyData.str) → ws = xs.map V.str
  | [], [], _ => rfl
  | [], _ :: _, h => nomatch h
  | _ :: _, [], h => nomatch h
  | _ :: xs, _ :: ws, .cons h t => by
    cases h
    rw [dpAll_strs t]
    rfl
section
variable {P : Program} {w : World} {K : PySem.W.Frag} {mg : Str → Option Value} {base : Heap}
def sp_is_pair {K : PySem.W.Frag} {mg : Str → Option Value} (T : Env K mg) : Sp := fun vs H Q _ => ∃ (t : Addr) (p : PR), vs = [.ref t] ∧ SqT K H t [.int p.1, .int p.2] ∧ okPair p ∧ ∀ H', Ex H H' → Q (.bl true) H'
theorem ok_is_pair (T : Env K mg) : FnOk P w K mg base CX0 3 T.d_is_pair.f T.d_is_pair.fd ["thing"] (sp_is_pair T) := by
  have G_is_between := ok_is_between (P := P) (w := w) (base := base) T
  refine T.d_is_pair.F.ok sc_is_pair (fun vs H Q E h => ?_) (fun cdv A outer s H vs Q E hr h => ?_)
  · obtain ⟨t, p, rfl, ht, hok, q⟩ := h
    rfl
  · obtain ⟨t, p, rfl, ht, hok, q⟩ := h
    have hr_is_between : Room 2 _ := hr.mono (by decide)
    refine ⟨_, pss_cons (ps_if (PW.pt (pw_or (pt_not (pt_val (pe_callB call_isi (by rfl) T.n_isinstance (by decide +kernel) (pa_cons (pv 0) (pa_cons (pe_bltn (v := .ty "tuple") (by rfl) T.n_tuple (by decide +kernel) rfl) pa_nil))))) (pw_or1 (pt_cmpR op_ne (pe_callB call_len_seq (by rfl) T.n_len PySem.boot_len (pa_cons (pv 0) pa_nil)) pe_int (nomark _))))) (pss_one (ps_ret pe_bl)) pss_nil)
      (pss_one (ps_ret (pe_callB (cr_all rfl) (by rfl) T.n_all (by decide +kernel) (pa_cons (pe_lc (own := [("part", 1)]) (g := gName 1) rfl sc_is_pair.nd (pi_tup (pv 0)) (blkOk_by (N := ["thing", "part"]) (sc := defScope s_is_pair) (by decide +kernel)) (fun _ _ _ _ _ => (pg_name (i := 1) sc_is_pair.nd rfl (.inl rfl))) (fun _ _ _ _ _ => pts_nil) (fun _ _ _ _ _ => (pe_call G_is_between hr_is_between (by rfl) T.d_is_between.m T.d_is_between.k T.d_is_between.b .nil pass0 (pa_cons (pv 1) (pa_cons (pe_un un_neg (pe_glob (v := .int 1000) rfl T.c_FARTHEST_STEP ⟨_, rfl⟩)) (pa_cons (pe_glob (v := .int 1000) rfl T.c_FARTHEST_STEP ⟨_, rfl⟩) pa_nil)))))) pa_nil)))), ?_⟩
    refine ⟨_, rfl, _, _, .type "tuple", _, true, rfl, .ty _, tyX_t ht, kit_ty (by decide +kernel), true, rfl, iteF ?_⟩
    refine ⟨_, rfl, t, _, rfl, .inr ht, rfl, _, rfl, iteNS rfl ?_⟩
    refine ⟨_, rfl, t, rfl, ⟨_, ht⟩, fun D hD => ?_⟩
    refine lc_val walk_tup hD [some (.ref t), none] rfl (fun _ _ e h => ex_t e h) ht [p.1, p.2] (fun _ => true) (fun _ => .bl true) rfl (by show 2 ≤ 100000; decide) (fun i n x Ha Hb hi e y R0 R _ hR => ?_) (fun H1 e1 hL => ?_)
    · obtain ⟨rfl, hx⟩ := y
      have hx : ([p.1, p.2].map V.int)[i]? = some x := hx
      rw [List.getElem?_map, hi] at hx
      obtain rfl := Option.some.inj hx
      have hm : -1000 ≤ n ∧ n ≤ 1000 := by
        have m := List.mem_of_getElem? hi
        obtain ⟨⟨h1, h2⟩, h3, h4⟩ := hok
        simp at m
        omega
      have e9 : decide (-1000 ≤ n ∧ n ≤ 1000) = true := decide_eq_true hm
      refine ⟨rfl, _, rfl, _, rfl, n, -1000, 1000, rfl, ?_⟩
      rw [e9]
      exact hR _ (Ex.refl _) rfl
    rw [bl_map] at hL
    refine ⟨D, _, rfl, sq_of hL, ?_⟩
    rw [all_true]
    exact q _ e1
def sp_Ground_eq {K : PySem.W.Frag} {mg : Str → Option Value} (T : Env K mg) : Sp := fun vs H Q _ => ∃ (a b : Addr) (cs ds : List P3), vs = [.ref a, .ref b] ∧ GroundAt T H a cs ∧ GroundAt T H b ds ∧ Q (.bl (decide (cs = ds))) H
theorem ok_Ground_eq (T : Env K mg) : FnOk P w K mg base CX0 1 T.m_Ground_eq.f T.m_Ground_eq.fd ["self", "other"] (sp_Ground_eq T) := by
  refine T.m_Ground_eq.F.ok sc_Ground_eq (fun vs H Q E h => ?_) (fun cdv A outer s H vs Q E hr h => ?_)
  · obtain ⟨a, b, cs, ds, rfl, ⟨dx, t, h1, h2⟩, ⟨dy, u, h3, h4⟩, q⟩ := h
    rfl
  · obtain ⟨a, b, cs, ds, rfl, ⟨dx, t, h1, h2⟩, ⟨dy, u, h3, h4⟩, q⟩ := h
    refine ⟨_, pss_one (ps_ret (pe_and (pe_callB call_isi (by rfl) T.n_isinstance (by decide +kernel) (pa_cons (pv 1) (pa_cons (pe_glob (v := .ref T.C_Ground.C) rfl T.C_Ground.m rfl) pa_nil))) (pe_one (pe_cmpR (op_eqA (α := Tp (Int × Int × Int)) hr.units) (pe_fld (pv 0) rfl) (pe_fld (pv 1) rfl) (nomark _))))), ?_⟩
    refine ⟨_, rfl, _, _, .ref T.C_Ground.C, _, true, rfl, .own _, T.e_Ground.ty T.C_Ground.cl h3, kit_self, true, rfl, ?_⟩
    refine ⟨_, rfl, a, T.C_Ground.C, dx, _, _, rfl, h1, T.C_Ground.cl, T.a_Ground_craters, lk_eq, _, rfl, b, T.C_Ground.C, dy, _, _, rfl, h3, T.C_Ground.cl, T.a_Ground_craters, lk_eq, _, _, h2, h4, ?_⟩
    rw [tp_dec]
    exact q
def sp_Camera_eq {K : PySem.W.Frag} {mg : Str → Option Value} (T : Env K mg) : Sp := fun vs H Q _ => ∃ (a b : Addr) (c : Cam), vs = [.ref a, .ref b] ∧ CamAt T H a c ∧ CamAt T H b c ∧ Q (.bl true) H
theorem ok_Camera_eq (T : Env K mg) : FnOk P w K mg base CX0 1 T.m_Camera_eq.f T.m_Camera_eq.fd ["self", "other"] (sp_Camera_eq T) := by
  refine T.m_Camera_eq.F.ok sc_Camera_eq (fun vs H Q E h => ?_) (fun cdv A outer s H vs Q E hr h => ?_)
  · obtain ⟨a, b, c, rfl, ⟨dx, h1⟩, ⟨dy, h3⟩, q⟩ := h
    rfl
  · obtain ⟨a, b, c, rfl, ⟨dx, h1⟩, ⟨dy, h3⟩, q⟩ := h
    refine ⟨_, pss_one (ps_ret (pe_and (pe_callB call_isi (by rfl) T.n_isinstance (by decide +kernel) (pa_cons (pv 1) (pa_cons (pe_glob (v := .ref T.C_Camera.C) rfl T.C_Camera.m rfl) pa_nil))) (pe_and (pe_cmpR op_eq (pe_fld (pv 0) rfl) (pe_fld (pv 1) rfl) (nomark _)) (pe_and (pe_cmpR op_eq (pe_fld (pv 0) rfl) (pe_fld (pv 1) rfl) (nomark _)) (pe_and (pe_cmpR op_eq (pe_fld (pv 0) rfl) (pe_fld (pv 1) rfl) (nomark _)) (pe_and (pe_cmpR op_eq (pe_fld (pv 0) rfl) (pe_fld (pv 1) rfl) (nomark _)) (pe_one (pe_cmpR op_eq (pe_fld (pv 0) rfl) (pe_fld (pv 1) rfl) (nomark _))))))))), ?_⟩
    refine ⟨_, rfl, _, _, .ref T.C_Camera.C, _, true, rfl, .own _, T.e_Camera.ty T.C_Camera.cl h3, kit_self, true, rfl, ?_⟩
    refine ⟨_, rfl, a, T.C_Camera.C, dx, _, _, rfl, h1, T.C_Camera.cl, T.a_Camera_width, cf_w c, _, rfl, b, T.C_Camera.C, dy, _, _, rfl, h3, T.C_Camera.cl, T.a_Camera_width, cf_w c, rfl, _, rfl, ite2 (fun _ => ?_) (fun z => absurd (decide_eq_true rfl) z)⟩
    refine ⟨_, rfl, a, T.C_Camera.C, dx, _, _, rfl, h1, T.C_Camera.cl, T.a_Camera_height, cf_h c, _, rfl, b, T.C_Camera.C, dy, _, _, rfl, h3, T.C_Camera.cl, T.a_Camera_height, cf_h c, rfl, _, rfl, ite2 (fun _ => ?_) (fun z => absurd (decide_eq_true rfl) z)⟩
    refine ⟨_, rfl, a, T.C_Camera.C, dx, _, _, rfl, h1, T.C_Camera.cl, T.a_Camera_error, cf_e c, _, rfl, b, T.C_Camera.C, dy, _, _, rfl, h3, T.C_Camera.cl, T.a_Camera_error, cf_e c, rfl, _, rfl, ite2 (fun _ => ?_) (fun z => absurd (decide_eq_true rfl) z)⟩
    refine ⟨_, rfl, a, T.C_Camera.C, dx, _, _, rfl, h1, T.C_Camera.cl, T.a_Camera_false, cf_f c, _, rfl, b, T.C_Camera.C, dy, _, _, rfl, h3, T.C_Camera.cl, T.a_Camera_false, cf_f c, rfl, _, rfl, ite2 (fun _ => ?_) (fun z => absurd (decide_eq_true rfl) z)⟩
    refine ⟨_, rfl, a, T.C_Camera.C, dx, _, _, rfl, h1, T.C_Camera.cl, T.a_Camera_lost, cf_l c, _, rfl, b, T.C_Camera.C, dy, _, _, rfl, h3, T.C_Camera.cl, T.a_Camera_lost, cf_l c, rfl, ?_⟩
    show Q (.bl (decide (V.int c.l = V.int c.l))) _
    rw [decide_eq_true rfl]
    exact q
end
end My


-- C2
namespace My
open PySem L2 Evl
local macro_rules | `(tactic| walk_at "lk") => `(tactic| (repeat (first | exact lk_eq | exact rfl | refine (lk_ne (by decide +kernel)).trans ?_)))
/-- what a deed aims at -/
inductive AimD where
  | no
  | num (n : Int)
  | pair (p : PR)
  deriving DecidableEq
instance : Py AimD where
  enc := fun a => match a with
    | .no => .none
    | .num n => .int n
    | .pair p => .tuple [.int p.1, .int p.2]
  eq := fun a b => by
    cases a with
    | no => cases b <;> simp [PyData.eqv]
    | num n => cases b <;> simp [PyData.eqv]
    | pair p =>
      cases b with
      | no => simp [PyData.eqv]
      | num n => simp [PyData.eqv]
      | pair r =>
        obtain ⟨p1, p2⟩ := p
        obtain ⟨r1, r2⟩ := r
        simp [PyData.eqv, PyData.eqvAll]
  lay := fun a => by cases a <;> rfl
  dep := 1
  depth := fun a => by cases a <;> simp [PyData.depth, PyData.depthAll]
instance : TOnly AimD := ⟨fun a => by cases a <;> rfl⟩
def kindsL : List Str := ["step", "turn", "look", "land", "away"]
/-- what a deed of a kind may aim at -/
def okAim (k : Str) (a : AimD) : Prop := (k = "step" ∧ ∃ p, a = .pair p ∧ okPair p) ∨ (k = "turn" ∧ ∃ n, a = .num n ∧ 1 ≤ n ∧ n ≤ 3) ∨ (k = "look" ∧ ∃ n, a = .num n ∧ 0 ≤ n ∧ n ≤ 1000) ∨ (k = "land" ∧ a = .no) ∨ (k = "away" ∧ a = .no)
theorem okAim.kind {k : Str} {a : AimD} (h : okAim k a) : k ∈ kindsL := by
  rcases h with ⟨rfl, _⟩ | ⟨rfl, _⟩ | ⟨rfl, _⟩ | ⟨rfl, _⟩ | ⟨rfl, _⟩ <;> decide +kernel
def okSlips (k : Str) (sl : List PR) : Prop := sl ≠ [] ∧ sl.length ≤ 60 ∧ (∀ p ∈ sl, okPair p) ∧ ((k = "step" ∨ k = "land") ∨ sl = [(0, 0)])
theorem inV_of {k : Str} {xs : List Str} : inV (.str k) (xs.map V.str) = decide (k ∈ xs) := by
  induction xs with
  | nil => rfl
  | cons x xs ih =>
    show (eqV (.str x) (.str k) || inV (.str k) (xs.map V.str)) = _
    rw [ih]
    show ((x == k) || _) = _
    by_cases h : k = x
    · subst h
      simp
    · have : (x == k) = false := by simpa using fun z => h z.symm
      rw [this]
      simp [h]
theorem strs_flat (xs : List Str) : (xs.map V.str).all flatV = true := by
  induction xs with
  | nil => rfl
  | cons x xs ih => simpa [flatV] using ih
section
variable {P : Program} {w : World} {K : PySem.W.Frag} {mg : Str → Option Value} {base : Heap}
def sp_is_aim {K : PySem.W.Frag} {mg : Str → Option Value} (T : Env K mg) : Sp := fun vs H Q _ => ∃ (k : Str) (v : V) (a : AimD), vs = [.str k, v] ∧ Rep K H v a ∧ okAim k a ∧ ∀ H', Ex H H' → Q (.bl true) H'
theorem ok_is_aim (T : Env K mg) : FnOk P w K mg base CX0 4 T.d_is_aim.f T.d_is_aim.fd ["kind", "thing"] (sp_is_aim T) := by
  have G_is_between := ok_is_between (P := P) (w := w) (base := base) T
  have G_is_pair := ok_is_pair (P := P) (w := w) (base := base) T
  refine T.d_is_aim.F.ok sc_is_aim (fun vs H Q E h => ?_) (fun cdv A outer s H vs Q E hr h => ?_)
  · obtain ⟨k, v, a, rfl, hv, hok, q⟩ := h
    rfl
  · obtain ⟨k, v, a, rfl, hv, hok, q⟩ := h
    have hr_is_between : Room 2 _ := hr.mono (by decide)
    have hr_is_pair : Room 3 _ := hr.mono (by decide)
    refine ⟨_, pss_cons (ps_if (pt_cmpR op_eq (pv 0) pe_str (nomark _)) (pss_one (ps_ret (pe_call G_is_pair hr_is_pair (by rfl) T.d_is_pair.m T.d_is_pair.k T.d_is_pair.b .nil pass0 (pa_cons (pv 1) pa_nil)))) pss_nil)
      (pss_cons (ps_if (pt_cmpR op_eq (pv 0) pe_str (nomark _)) (pss_one (ps_ret (pe_call G_is_between hr_is_between (by rfl) T.d_is_between.m T.d_is_between.k T.d_is_between.b .nil pass0 (pa_cons (pv 1) (pa_cons pe_int (pa_cons pe_int pa_nil)))))) pss_nil)
      (pss_cons (ps_if (pt_cmpR op_eq (pv 0) pe_str (nomark _)) (pss_one (ps_ret (pe_call G_is_between hr_is_between (by rfl) T.d_is_between.m T.d_is_between.k T.d_is_between.b .nil pass0 (pa_cons (pv 1) (pa_cons pe_int (pa_cons (pe_glob (v := .int 1000) rfl T.c_MOST_CAMERA ⟨_, rfl⟩) pa_nil)))))) pss_nil)
      (pss_one (ps_ret (pe_cmpR op_isN (pv 1) pe_non (nomark _)))))), ?_⟩
    have no : ∀ {x y : Str}, x ≠ y → ¬ decide (V.str x = V.str y) = true := fun h z => h (V.str.inj (of_decide_eq_true z))
    rcases hok with ⟨rfl, p, rfl, hp⟩ | ⟨rfl, n, rfl, h1, h2⟩ | ⟨rfl, n, rfl, h1, h2⟩ | ⟨rfl, rfl⟩ | ⟨rfl, rfl⟩
    · refine ⟨_, rfl, rfl, _, rfl, ite2 (fun _ => ?_) (fun z => absurd (decide_eq_true rfl) z)⟩
      obtain ⟨t, rfl, ht⟩ := Rep.p2_inv (q := p) hv
      exact ⟨_, rfl, t, p, rfl, ht, hp, q⟩
    · refine ⟨_, rfl, rfl, _, rfl, ite2 (fun z => absurd z (no (by decide +kernel))) (fun _ => ?_)⟩
      refine ⟨_, rfl, rfl, _, rfl, ite2 (fun _ => ?_) (fun z => absurd (decide_eq_true rfl) z)⟩
      obtain rfl := Rep.int_inv (i := n) hv
      refine ⟨_, rfl, n, 1, 3, rfl, ?_⟩
      rw [decide_eq_true (⟨h1, h2⟩ : (1 : Int) ≤ n ∧ n ≤ 3)]
      exact q _ (Ex.refl _)
    · refine ⟨_, rfl, rfl, _, rfl, ite2 (fun z => absurd z (no (by decide +kernel))) (fun _ => ?_)⟩
      refine ⟨_, rfl, rfl, _, rfl, ite2 (fun z => absurd z (no (by decide +kernel))) (fun _ => ?_)⟩
      refine ⟨_, rfl, rfl, _, rfl, ite2 (fun _ => ?_) (fun z => absurd (decide_eq_true rfl) z)⟩
      obtain rfl := Rep.int_inv (i := n) hv
      refine ⟨_, rfl, n, 0, 1000, rfl, ?_⟩
      rw [decide_eq_true (⟨h1, h2⟩ : (0 : Int) ≤ n ∧ n ≤ 1000)]
      exact q _ (Ex.refl _)
    all_goals
      refine ⟨_, rfl, rfl, _, rfl, ite2 (fun z => absurd z (no (by decide +kernel))) (fun _ => ?_)⟩
      refine ⟨_, rfl, rfl, _, rfl, ite2 (fun z => absurd z (no (by decide +kernel))) (fun _ => ?_)⟩
      refine ⟨_, rfl, rfl, _, rfl, ite2 (fun z => absurd z (no (by decide +kernel))) (fun _ => ?_)⟩
      have hv : Dp K H v .none := hv
      cases hv
      refine ⟨_, rfl, rfl, ?_⟩
      show Q (.bl (decide (V.non = V.non))) _
      rw [decide_eq_true rfl]
      exact q _ (Ex.refl _)
def sp_are_slips {K : PySem.W.Frag} {mg : Str → Option Value} (T : Env K mg) : Sp := fun vs H Q _ => ∃ (k : Str) (t : Addr) (xs : List V) (sl : List PR), vs = [.str k, .ref t] ∧ SqT K H t xs ∧ RAll K H xs sl ∧ okSlips k sl ∧ ∀ H', Ex H H' → Q (.bl true) H'
theorem ok_are_slips (T : Env K mg) : FnOk P w K mg base CX0 4 T.d_are_slips.f T.d_are_slips.fd ["kind", "thing"] (sp_are_slips T) := by
  have G_is_pair := ok_is_pair (P := P) (w := w) (base := base) T
  refine T.d_are_slips.F.ok sc_are_slips (fun vs H Q E h => ?_) (fun cdv A outer s H vs Q E hr h => ?_)
  · obtain ⟨k, t, xs, sl, rfl, ht, ra, ⟨hne, hlen, hok, hk⟩, q⟩ := h
    rfl
  · obtain ⟨k, t, xs, sl, rfl, ht, ra, ⟨hne, hlen, hok, hk⟩, q⟩ := h
    have hr_is_pair : Room 3 _ := hr.mono (by decide)
    refine ⟨_, pss_cons (ps_if (PW.pt (pw_or (pt_not (pt_val (pe_callB call_isi (by rfl) T.n_isinstance (by decide +kernel) (pa_cons (pv 1) (pa_cons (pe_bltn (v := .ty "tuple") (by rfl) T.n_tuple (by decide +kernel) rfl) pa_nil))))) (pw_or (pt_not (pt_truth (pv 1) (by intro _; rfl))) (pw_or1 (pt_not (pt_val (pe_callB (cr_all rfl) (by rfl) T.n_all (by decide +kernel) (pa_cons (pe_lc (own := [("slip", 2)]) (g := gName 2) rfl sc_are_slips.nd (pi_tup (pv 1)) (blkOk_by (N := ["kind", "thing", "slip"]) (sc := defScope s_are_slips) (by decide +kernel)) (fun _ _ _ _ _ => (pg_name (i := 2) sc_are_slips.nd rfl (.inl rfl))) (fun _ _ _ _ _ => pts_nil) (fun _ _ _ _ _ => (pe_call G_is_pair hr_is_pair (by rfl) T.d_is_pair.m T.d_is_pair.k T.d_is_pair.b .nil pass0 (pa_cons (pv 2) pa_nil)))) pa_nil)))))))) (pss_one (ps_ret pe_bl)) pss_nil)
      (pss_one (ps_ret (pe_or (pe_cmpR op_in_seq (pv 0) (pe_glob (v := .ref T.q_SLIPPING) rfl T.c_SLIPPING rfl) (by rfl)) (pe_one (pe_cmpR (op_eqA (α := Tp (Int × Int)) hr.units) (pv 1) (pe_glob (v := .ref T.q_NO_SLIPS) rfl T.c_NO_SLIPS rfl) (nomark _)))))), ?_⟩
    have hl := ra.length
    have hem : true = !xs.isEmpty := by
      cases ra with
      | nil => exact absurd rfl hne
      | cons _ _ => rfl
    refine ⟨_, rfl, _, _, .type "tuple", _, true, rfl, .ty _, tyX_t ht, kit_ty (by decide +kernel), true, rfl, iteF ?_⟩
    refine ⟨_, rfl, true, .inr (.inl ⟨_, ht, hem⟩), iteF ?_⟩
    refine ⟨_, rfl, t, rfl, ⟨_, ht⟩, fun D hD => ?_⟩
    refine lc_val walk_tup hD [some (.str k), some (.ref t), none] rfl (fun _ _ e h => ex_t e h) ht sl (fun _ => true) (fun _ => .bl true) hl.symm (by omega) (fun i p x Ha Hb hi e y R0 R _ hR => ?_) (fun H1 e1 hL => ?_)
    · obtain ⟨rfl, hx⟩ := y
      obtain ⟨p', hp', rp⟩ := (ra.ex e).get hx
      rw [hi] at hp'
      obtain rfl := Option.some.inj hp'
      obtain ⟨u, rfl, hu⟩ := rp.p2_inv
      exact ⟨rfl, _, rfl, u, p, rfl, hu, hok p (List.mem_of_getElem? hi), fun H4 e4 => hR H4 e4 rfl⟩
    rw [bl_map] at hL
    refine ⟨D, _, rfl, sq_of hL, _, rfl, ?_⟩
    rw [all_true]
    refine iteF ?_
    obtain ⟨_, bs, eq, hb, ab⟩ := dp_tup_inv (T.k_SLIPPING H1)
    cases eq
    have ebs : bs = ([("step" : Str), "land"]).map V.str := dpAll_strs ab
    subst ebs
    refine ⟨_, rfl, T.q_SLIPPING, _, rfl, .inr hb, rfl, strs_flat _, _, rfl, ?_⟩
    show if inV (.str k) ([("step" : Str), "land"].map V.str) = true then _ else _
    rw [inV_of]
    refine ite2 (fun _ => q _ e1) (fun z => ?_)
    have hz : sl = [(0, 0)] := hk.resolve_left fun y => z (decide_eq_true (by rcases y with rfl | rfl <;> simp))
    subst hz
    refine ⟨_, rfl, Tp.mk [(0, 0)], Tp.mk [(0, 0)], Rep.tp (ex_t e1 ht) (ra.ex e1), T.k_NO_SLIPS H1, ?_⟩
    rw [decide_eq_true rfl]
    exact q _ e1
/-- the unlike ones, ascending -/
def IsSet (bs as : List PR) : Prop := bs.Nodup ∧ (∀ b, b ∈ bs ↔ b ∈ as) ∧ bs.Pairwise (fun a b => ltK b a = false)
structure DeedD where
  kind : Str
  fuel : Int
  aim : AimD
  slips : List PR
  deriving DecidableEq
def df (k : Str) (f : Int) (v : V) (t : Addr) : List (Str × V) := [("kind", .str k), ("fuel", .int f), ("aim", v), ("slips", .ref t)]
theorem df_k (k : Str) (f : Int) (v : V) (t : Addr) : (df k f v t).lookup ("kind" : Str) = some (.str k) := by unfold df; walk_at "lk"
theorem df_f (k : Str) (f : Int) (v : V) (t : Addr) : (df k f v t).lookup ("fuel" : Str) = some (.int f) := by unfold df; walk_at "lk"
theorem df_a (k : Str) (f : Int) (v : V) (t : Addr) : (df k f v t).lookup ("aim" : Str) = some v := by unfold df; walk_at "lk"
theorem df_s (k : Str) (f : Int) (v : V) (t : Addr) : (df k f v t).lookup ("slips" : Str) = some (.ref t) := by unfold df; walk_at "lk"
def DeedAt (T : Env K mg) (H : Hp) (p : Addr) (d : DeedD) : Prop := ∃ dx v t, H p = some (.ins T.C_Deed.C dx (df d.kind d.fuel v t)) ∧ Rep K H v d.aim ∧ Rep K H (.ref t) (Tp.mk d.slips)
theorem DeedAt.ex {T : Env K mg} {H H' : Hp} {p : Addr} {d : DeedD} (e : Ex H H') (h : DeedAt T H p d) : DeedAt T H' p d := by
  obtain ⟨dx, v, t, h1, h2, h3⟩ := h
  exact ⟨dx, v, t, e _ _ h1, h2.ex e, h3.ex e⟩
def sp_Deed_eq {K : PySem.W.Frag} {mg : Str → Option Value} (T : Env K mg) : Sp := fun vs H Q _ => ∃ (a b : Addr) (d e : DeedD), vs = [.ref a, .ref b] ∧ DeedAt T H a d ∧ DeedAt T H b e ∧ Q (.bl (decide (d = e))) H
theorem ok_Deed_eq (T : Env K mg) : FnOk P w K mg base CX0 1 T.m_Deed_eq.f T.m_Deed_eq.fd ["self", "other"] (sp_Deed_eq T) := by
  refine T.m_Deed_eq.F.ok sc_Deed_eq (fun vs H Q E h => ?_) (fun cdv A outer s H vs Q E hr h => ?_)
  · obtain ⟨a, b, d, e, rfl, ⟨dx, v, t, h1, h2, h3⟩, ⟨dy, u, r, k1, k2, k3⟩, q⟩ := h
    rfl
  · obtain ⟨a, b, d, e, rfl, ⟨dx, v, t, h1, h2, h3⟩, ⟨dy, u, r, k1, k2, k3⟩, q⟩ := h
    refine ⟨_, pss_one (ps_ret (pe_and (pe_callB call_isi (by rfl) T.n_isinstance (by decide +kernel) (pa_cons (pv 1) (pa_cons (pe_glob (v := .ref T.C_Deed.C) rfl T.C_Deed.m rfl) pa_nil))) (pe_and (pe_cmpR op_eq (pe_fld (pv 0) rfl) (pe_fld (pv 1) rfl) (nomark _)) (pe_and (pe_cmpR op_eq (pe_fld (pv 0) rfl) (pe_fld (pv 1) rfl) (nomark _)) (pe_and (pe_cmpR (op_eqA (α := AimD) hr.units) (pe_fld (pv 0) rfl) (pe_fld (pv 1) rfl) (nomark _)) (pe_one (pe_cmpR (op_eqA (α := Tp (Int × Int)) hr.units) (pe_fld (pv 0) rfl) (pe_fld (pv 1) rfl) (nomark _)))))))), ?_⟩
    have nq : ¬ d = e → Q (.bl false) H := fun z => by
      rw [decide_eq_false z] at q
      exact q
    refine ⟨_, rfl, _, _, .ref T.C_Deed.C, _, true, rfl, .own _, T.e_Deed.ty T.C_Deed.cl k1, kit_self, true, rfl, ?_⟩
    refine ⟨_, rfl, a, T.C_Deed.C, dx, _, _, rfl, h1, T.C_Deed.cl, T.a_Deed_kind, df_k _ _ _ _, _, rfl, b, T.C_Deed.C, dy, _, _, rfl, k1, T.C_Deed.cl, T.a_Deed_kind, df_k _ _ _ _, rfl, _, rfl, ite2 (fun z1 => ?_) (fun z => nq fun y => z (decide_eq_true (by rw [y])))⟩
    refine ⟨_, rfl, a, T.C_Deed.C, dx, _, _, rfl, h1, T.C_Deed.cl, T.a_Deed_fuel, df_f _ _ _ _, _, rfl, b, T.C_Deed.C, dy, _, _, rfl, k1, T.C_Deed.cl, T.a_Deed_fuel, df_f _ _ _ _, rfl, _, rfl, ite2 (fun z2 => ?_) (fun z => nq fun y => z (decide_eq_true (by rw [y])))⟩
    refine ⟨_, rfl, a, T.C_Deed.C, dx, _, _, rfl, h1, T.C_Deed.cl, T.a_Deed_aim, df_a _ _ _ _, _, rfl, b, T.C_Deed.C, dy, _, _, rfl, k1, T.C_Deed.cl, T.a_Deed_aim, df_a _ _ _ _, _, _, h2, k2, _, rfl, ite2 (fun z3 => ?_) (fun z => nq fun y => z (decide_eq_true (by rw [y])))⟩
    refine ⟨_, rfl, a, T.C_Deed.C, dx, _, _, rfl, h1, T.C_Deed.cl, T.a_Deed_slips, df_s _ _ _ _, _, rfl, b, T.C_Deed.C, dy, _, _, rfl, k1, T.C_Deed.cl, T.a_Deed_slips, df_s _ _ _ _, _, _, h3, k3, ?_⟩
    rw [tp_dec]
    have w1 := V.str.inj (of_decide_eq_true z1)
    have w2 := V.int.inj (of_decide_eq_true z2)
    have w3 := of_decide_eq_true z3
    have e9 : decide (d = e) = decide (d.slips = e.slips) := decide_eq_decide.mpr ⟨fun y => by rw [y], fun y => by
      obtain ⟨d1, d2, d3, d4⟩ := d
      obtain ⟨e1, e2, e3, e4⟩ := e
      dsimp only at w1 w2 w3 y
      rw [w1, w2, w3, y]⟩
    rw [e9] at q
    exact q
end
end My


-- C3
namespace My
open PySem L2 Evl
theorem RAll.t_ex {K : PySem.W.Frag} {H H' : Hp} {α : Type} [Py α] {xs : List V} {as : List α} (e : Ex H H') (h : RAll K H xs as) : RAll K H' xs as := h.ex e
section
variable {P : Program} {w : World} {K : PySem.W.Frag} {mg : Str → Option Value} {base : Heap}
def sp_Deed_init {K : PySem.W.Frag} {mg : Str → Option Value} (T : Env K mg) : Sp := fun vs H Q _ => ∃ (p dx t : Addr) (k : Str) (f : Int) (v : V) (a : AimD) (xs : List V) (sl : List PR), vs = [.ref p, .str k, .int f, v, .ref t] ∧ H p = some (.ins T.C_Deed.C dx []) ∧ (1 ≤ f ∧ f ≤ 1000) ∧ Rep K H v a ∧ okAim k a ∧ SqT K H t xs ∧ RAll K H xs sl ∧ okSlips k sl ∧
    ∀ H' bs, ExB p H H' → DeedAt T H' p ⟨k, f, a, bs⟩ → IsSet bs sl → Q .non H'
theorem ok_Deed_init (T : Env K mg) : FnOk P w K mg base CX0 5 T.m_Deed_init.f T.m_Deed_init.fd ["self", "kind", "fuel", "aim", "slips"] (sp_Deed_init T) := by
  have G_are_slips := ok_are_slips (P := P) (w := w) (base := base) T
  have G_is_aim := ok_is_aim (P := P) (w := w) (base := base) T
  have G_is_between := ok_is_between (P := P) (w := w) (base := base) T
  refine T.m_Deed_init.F.ok sc_Deed_init (fun vs H Q E h => ?_) (fun cdv A outer s H vs Q E hr h => ?_)
  · obtain ⟨p, dx, t, k, f, v, a, xs, sl, rfl, hp, ⟨hf1, hf2⟩, hv, ha, ht, ra, hs, q⟩ := h
    rfl
  · obtain ⟨p, dx, t, k, f, v, a, xs, sl, rfl, hp, ⟨hf1, hf2⟩, hv, ha, ht, ra, hs, q⟩ := h
    have hr_are_slips : Room 4 _ := hr.mono (by decide)
    have hr_is_aim : Room 4 _ := hr.mono (by decide)
    have hr_is_between : Room 2 _ := hr.mono (by decide)
    refine ⟨_, pss_cons (ps_if (PW.pt (pw_or (pt_not (pt_val (pe_callB call_isi (by rfl) T.n_isinstance (by decide +kernel) (pa_cons (pv 1) (pa_cons (pe_bltn (v := .ty "str") (by rfl) T.n_str (by decide +kernel) rfl) pa_nil))))) (pw_or1 (pt_cmpR op_notIn_seq (pv 1) (pe_glob (v := .ref T.q_KINDS) rfl T.c_KINDS rfl) (by rfl))))) (pss_one ps_never) pss_nil)
      (pss_cons (ps_if (pt_not (pt_val (pe_call G_is_between hr_is_between (by rfl) T.d_is_between.m T.d_is_between.k T.d_is_between.b .nil pass0 (pa_cons (pv 2) (pa_cons pe_int (pa_cons (pe_glob (v := .int 1000) rfl T.c_MOST_FUEL ⟨_, rfl⟩) pa_nil)))))) (pss_one ps_never) pss_nil)
      (pss_cons (ps_if (pt_not (pt_val (pe_call G_is_aim hr_is_aim (by rfl) T.d_is_aim.m T.d_is_aim.k T.d_is_aim.b .nil pass0 (pa_cons (pv 1) (pa_cons (pv 3) pa_nil))))) (pss_one ps_never) pss_nil)
      (pss_cons (ps_if (pt_not (pt_val (pe_call G_are_slips hr_are_slips (by rfl) T.d_are_slips.m T.d_are_slips.k T.d_are_slips.b .nil pass0 (pa_cons (pv 1) (pa_cons (pv 4) pa_nil))))) (pss_one ps_never) pss_nil)
      (pss_cons (ps_fld (pv 0) (pv 1) rfl)
      (pss_cons (ps_fld (pv 0) (pv 2) rfl)
      (pss_cons (ps_fld (pv 0) (pv 3) rfl)
      (pss_one (ps_fld (pv 0) (pe_callTy call_tuple_of (by rfl) T.n_tuple (by decide +kernel) (pa_cons (pe_callB (cr_sortedSA rfl) (by rfl) T.n_sorted (by decide +kernel) (pa_cons (pe_callTy (cr_setA rfl hr.units) (by rfl) T.n_set (by decide +kernel) (pa_cons (pv 4) pa_nil)) pa_nil)) pa_nil)) rfl)))))))), ?_⟩
    have hk := ha.kind
    obtain ⟨_, bs, eq, hb, ab⟩ := dp_tup_inv (T.k_KINDS H)
    cases eq
    have ebs : bs = kindsL.map V.str := dpAll_strs ab
    subst ebs
    refine ⟨_, rfl, _, _, .type "str", _, true, rfl, .ty _, .base (.str k), kit_ty (by decide +kernel), true, rfl, iteF ?_⟩
    refine ⟨_, rfl, T.q_KINDS, _, rfl, .inr hb, rfl, strs_flat _, _, rfl, ?_⟩
    show if (!inV (.str k) (kindsL.map V.str)) = true then _ else _
    rw [inV_of]
    refine iteNS hk ?_
    refine ⟨_, rfl, f, 1, 1000, rfl, ?_⟩
    rw [decide_eq_true (⟨hf1, hf2⟩ : (1 : Int) ≤ f ∧ f ≤ 1000)]
    refine ⟨true, rfl, iteF ?_⟩
    refine ⟨_, rfl, _, rfl, k, v, a, rfl, hv, ha, fun H1 e1 => ⟨true, rfl, iteF ?_⟩⟩
    refine ⟨_, rfl, _, rfl, k, t, xs, sl, rfl, ex_t e1 ht, ra.ex e1, hs, fun H2 e2' => ⟨true, rfl, iteF ?_⟩⟩
    have e2 := e1.trans e2'
    have hp2 := e2 _ _ hp
    have go : ∀ {Hx : Hp} {y z : List (Str × V)}, y = z → (upd Hx p (.ins T.C_Deed.C dx y)) p = some (.ins T.C_Deed.C dx z) := fun {Hx y z} e => by rw [upd_same, e]
    have f1 : putF "kind" (.str k) [] = [(("kind" : Str), V.str k)] := rfl
    have f2 : putF "fuel" (.int f) [(("kind" : Str), V.str k)] = _ := putF_new ["kind"] rfl (by decide +kernel)
    have f3 : putF "aim" v [(("kind" : Str), V.str k), ("fuel", .int f)] = _ := putF_new ["kind", "fuel"] rfl (by decide +kernel)
    refine ⟨_, rfl, _, rfl, p, T.C_Deed.C, dx, _, rfl, hp2, T.C_Deed.cl, T.a_Deed_kind, by show 0 < 1000; decide, ?_⟩
    refine ⟨_, rfl, _, rfl, p, T.C_Deed.C, dx, _, rfl, go f1, T.C_Deed.cl, T.a_Deed_fuel, by show 1 < 1000; decide, ?_⟩
    refine ⟨_, rfl, _, rfl, p, T.C_Deed.C, dx, _, rfl, go f2, T.C_Deed.cl, T.a_Deed_aim, by show 2 < 1000; decide, ?_⟩
    have kp : ∀ {o1 o2 o3 : HO}, Keep H2 (upd (upd (upd H2 p o1) p o2) p o3) := fun {o1 o2 o3} b o hd hb => by
      have n : b ≠ p := fun z => by
        rw [z, hp2] at hb
        cases hb
        cases hd
      rw [upd_ne n, upd_ne n, upd_ne n]
      exact hb
    refine ⟨_, rfl, ?_⟩
    dsimp only [tNil]
    refine set_sorted (as := sl) (.inr (kp_t kp (ex_t e2 ht))) ((ra.ex e2).keep kp) (by have := hs.2.1; omega) (fun ys bs l H3 e3 hl rl nd mem pw => ?_)
    refine ⟨l, ys, rfl, .inl ⟨sq_of hl, fun u hu => ?_⟩⟩
    have e4 := Ex.new (o := .tup ys) hu
    have hp3 := e4 _ _ (e3 _ _ (go f3))
    have f4 : putF "slips" (.ref u) [(("kind" : Str), V.str k), ("fuel", .int f), ("aim", v)] = df k f v u := putF_new ["kind", "fuel", "aim"] rfl (by decide +kernel)
    refine ⟨_, rfl, p, T.C_Deed.C, dx, _, rfl, hp3, T.C_Deed.cl, T.a_Deed_slips, by show 3 < 1000; decide, ?_⟩
    have k4 : ∀ {o : HO}, Keep (upd H3 u (.tup ys)) (upd (upd H3 u (.tup ys)) p o) := fun {o} => Keep.upd hp3 rfl
    refine q _ bs (fun b o n hb => ?_) ⟨dx, v, u, go f4, ?_, Rep.tp (kp_t k4 (st_of upd_same)) ((rl.ex e4).keep k4)⟩ ⟨nd, mem, pw⟩
    · rw [upd_ne n]
      refine e4 _ _ (e3 _ _ ?_)
      rw [upd_ne n, upd_ne n, upd_ne n]
      exact e2 _ _ hb
    · exact ((((hv.ex e2).keep kp).ex e3).ex e4).keep k4
def sp_step {K : PySem.W.Frag} {mg : Str → Option Value} (T : Env K mg) : Sp := fun vs H Q _ => ∃ (f : Int) (v : V) (a : PR) (t : Addr) (xs : List V) (sl : List PR), vs = [.int f, v, .ref t] ∧ (1 ≤ f ∧ f ≤ 1000) ∧ Rep K H v a ∧ okPair a ∧ SqT K H t xs ∧ RAll K H xs sl ∧ okSlips "step" sl ∧ ∀ H' p bs, Ex H H' → DeedAt T H' p ⟨"step", f, .pair a, bs⟩ → IsSet bs sl → Q (.ref p) H'
theorem ok_step (T : Env K mg) : FnOk P w K mg base CX0 7 T.d_step.f T.d_step.fd ["fuel", "aim", "slips"] (sp_step T) := by
  have G_Deed_init := ok_Deed_init (P := P) (w := w) (base := base) T
  refine T.d_step.F.ok sc_step (fun vs H Q E h => ?_) (fun cdv A outer s H vs Q E hr h => ?_)
  · obtain ⟨f, v, a, t, xs, sl, rfl, hf, hv, ha, ht, ra, hs, q⟩ := h
    rfl
  · obtain ⟨f, v, a, t, xs, sl, rfl, hf, hv, ha, ht, ra, hs, q⟩ := h
    have hr_Deed_init : Room 6 _ := hr.mono (by decide)
    refine ⟨_, pss_one (ps_ret (pe_make (mkOf T.C_Deed T.m_Deed_init) G_Deed_init hr_Deed_init (by rfl) T.C_Deed.m T.m_Deed_init.b .nil pass0 (pa_cons pe_str (pa_cons (pv 0) (pa_cons (pv 1) (pa_cons (pv 2) pa_nil)))))), ?_⟩
    refine ⟨_, rfl, _, rfl, _, rfl, fun x dx hx hdx hne => ?_⟩
    have eX : Ex H (upd (upd H dx (.own x)) x (.ins T.C_Deed.C dx [])) := fun a o ha => by
      rw [upd_ne (ne_of_none ha hx), upd_ne (ne_of_none ha hdx)]
      exact ha
    exact ⟨x, dx, t, "step", f, v, .pair a, xs, sl, rfl, upd_same, hf, hv.ex eX, .inl ⟨rfl, a, rfl, ha⟩, ex_t eX ht, ra.ex eX, hs, fun H' bs e' hd hb => ⟨rfl, q H' x bs (fun b o hb => e' b o (ne_of_none hb hx) (eX b o hb)) hd hb⟩⟩
theorem noSl {H : Hp} (T : Env K mg) : ∃ xs, SqT K H T.q_NO_SLIPS xs ∧ RAll K H xs ([(0, 0)] : List PR) := by
  obtain ⟨_, xs, e, h1, h2⟩ := Rep.tp_inv (as := ([(0, 0)] : List PR)) (T.k_NO_SLIPS H)
  cases e
  exact ⟨xs, h1, h2⟩
theorem okNo {k : Str} : okSlips k [(0, 0)] := ⟨by decide, by decide, fun p hp => by
  rw [List.mem_singleton] at hp
  subst hp
  exact ⟨by decide, by decide⟩, .inr rfl⟩
def sp_turn {K : PySem.W.Frag} {mg : Str → Option Value} (T : Env K mg) : Sp := fun vs H Q _ => ∃ (f n : Int), vs = [.int f, .int n] ∧ (1 ≤ f ∧ f ≤ 1000) ∧ (1 ≤ n ∧ n ≤ 3) ∧ ∀ H' p bs, Ex H H' → DeedAt T H' p ⟨"turn", f, .num n, bs⟩ → IsSet bs [(0, 0)] → Q (.ref p) H'
theorem ok_turn (T : Env K mg) : FnOk P w K mg base CX0 7 T.d_turn.f T.d_turn.fd ["fuel", "aim"] (sp_turn T) := by
  have G_Deed_init := ok_Deed_init (P := P) (w := w) (base := base) T
  refine T.d_turn.F.ok sc_turn (fun vs H Q E h => ?_) (fun cdv A outer s H vs Q E hr h => ?_)
  · obtain ⟨f, n, rfl, hf, hn, q⟩ := h
    rfl
  · obtain ⟨f, n, rfl, hf, hn, q⟩ := h
    have hr_Deed_init : Room 6 _ := hr.mono (by decide)
    refine ⟨_, pss_one (ps_ret (pe_make (mkOf T.C_Deed T.m_Deed_init) G_Deed_init hr_Deed_init (by rfl) T.C_Deed.m T.m_Deed_init.b .nil pass0 (pa_cons pe_str (pa_cons (pv 0) (pa_cons (pv 1) (pa_cons (pe_glob (v := .ref T.q_NO_SLIPS) rfl T.c_NO_SLIPS rfl) pa_nil)))))), ?_⟩
    refine ⟨_, rfl, _, rfl, fun x dx hx hdx hne => ?_⟩
    have eX : Ex H (upd (upd H dx (.own x)) x (.ins T.C_Deed.C dx [])) := fun a o ha => by
      rw [upd_ne (ne_of_none ha hx), upd_ne (ne_of_none ha hdx)]
      exact ha
    obtain ⟨xs, h1, h2⟩ := noSl (H := upd (upd H dx (.own x)) x (.ins T.C_Deed.C dx [])) T
    exact ⟨x, dx, _, "turn", f, .int n, .num n, xs, _, rfl, upd_same, hf, Dp.int n, .inr (.inl ⟨rfl, n, rfl, hn⟩), h1, h2, okNo, fun H' bs e' hd hb => ⟨rfl, q H' x bs (fun b o hb => e' b o (ne_of_none hb hx) (eX b o hb)) hd hb⟩⟩
def sp_look {K : PySem.W.Frag} {mg : Str → Option Value} (T : Env K mg) : Sp := fun vs H Q _ => ∃ (f n : Int), vs = [.int f, .int n] ∧ (1 ≤ f ∧ f ≤ 1000) ∧ (0 ≤ n ∧ n ≤ 1000) ∧ ∀ H' p bs, Ex H H' → DeedAt T H' p ⟨"look", f, .num n, bs⟩ → IsSet bs [(0, 0)] → Q (.ref p) H'
theorem ok_look (T : Env K mg) : FnOk P w K mg base CX0 7 T.d_look.f T.d_look.fd ["fuel", "aim"] (sp_look T) := by
  have G_Deed_init := ok_Deed_init (P := P) (w := w) (base := base) T
  refine T.d_look.F.ok sc_look (fun vs H Q E h => ?_) (fun cdv A outer s H vs Q E hr h => ?_)
  · obtain ⟨f, n, rfl, hf, hn, q⟩ := h
    rfl
  · obtain ⟨f, n, rfl, hf, hn, q⟩ := h
    have hr_Deed_init : Room 6 _ := hr.mono (by decide)
    refine ⟨_, pss_one (ps_ret (pe_make (mkOf T.C_Deed T.m_Deed_init) G_Deed_init hr_Deed_init (by rfl) T.C_Deed.m T.m_Deed_init.b .nil pass0 (pa_cons pe_str (pa_cons (pv 0) (pa_cons (pv 1) (pa_cons (pe_glob (v := .ref T.q_NO_SLIPS) rfl T.c_NO_SLIPS rfl) pa_nil)))))), ?_⟩
    refine ⟨_, rfl, _, rfl, fun x dx hx hdx hne => ?_⟩
    have eX : Ex H (upd (upd H dx (.own x)) x (.ins T.C_Deed.C dx [])) := fun a o ha => by
      rw [upd_ne (ne_of_none ha hx), upd_ne (ne_of_none ha hdx)]
      exact ha
    obtain ⟨xs, h1, h2⟩ := noSl (H := upd (upd H dx (.own x)) x (.ins T.C_Deed.C dx [])) T
    exact ⟨x, dx, _, "look", f, .int n, .num n, xs, _, rfl, upd_same, hf, Dp.int n, .inr (.inr (.inl ⟨rfl, n, rfl, hn⟩)), h1, h2, okNo, fun H' bs e' hd hb => ⟨rfl, q H' x bs (fun b o hb => e' b o (ne_of_none hb hx) (eX b o hb)) hd hb⟩⟩
def sp_land {K : PySem.W.Frag} {mg : Str → Option Value} (T : Env K mg) : Sp := fun vs H Q _ => ∃ (f : Int) (t : Addr) (xs : List V) (sl : List PR), vs = [.int f, .ref t] ∧ (1 ≤ f ∧ f ≤ 1000) ∧ SqT K H t xs ∧ RAll K H xs sl ∧ okSlips "land" sl ∧ ∀ H' p bs, Ex H H' → DeedAt T H' p ⟨"land", f, .no, bs⟩ → IsSet bs sl → Q (.ref p) H'
theorem ok_land (T : Env K mg) : FnOk P w K mg base CX0 7 T.d_land.f T.d_land.fd ["fuel", "slips"] (sp_land T) := by
  have G_Deed_init := ok_Deed_init (P := P) (w := w) (base := base) T
  refine T.d_land.F.ok sc_land (fun vs H Q E h => ?_) (fun cdv A outer s H vs Q E hr h => ?_)
  · obtain ⟨f, t, xs, sl, rfl, hf, ht, ra, hs, q⟩ := h
    rfl
  · obtain ⟨f, t, xs, sl, rfl, hf, ht, ra, hs, q⟩ := h
    have hr_Deed_init : Room 6 _ := hr.mono (by decide)
    refine ⟨_, pss_one (ps_ret (pe_make (mkOf T.C_Deed T.m_Deed_init) G_Deed_init hr_Deed_init (by rfl) T.C_Deed.m T.m_Deed_init.b .nil pass0 (pa_cons pe_str (pa_cons (pv 0) (pa_cons pe_non (pa_cons (pv 1) pa_nil)))))), ?_⟩
    refine ⟨_, rfl, _, rfl, fun x dx hx hdx hne => ?_⟩
    have eX : Ex H (upd (upd H dx (.own x)) x (.ins T.C_Deed.C dx [])) := fun a o ha => by
      rw [upd_ne (ne_of_none ha hx), upd_ne (ne_of_none ha hdx)]
      exact ha
    exact ⟨x, dx, t, "land", f, .non, .no, xs, sl, rfl, upd_same, hf, Dp.non, .inr (.inr (.inr (.inl ⟨rfl, rfl⟩))), ex_t eX ht, ra.ex eX, hs, fun H' bs e' hd hb => ⟨rfl, q H' x bs (fun b o hb => e' b o (ne_of_none hb hx) (eX b o hb)) hd hb⟩⟩
def sp_away {K : PySem.W.Frag} {mg : Str → Option Value} (T : Env K mg) : Sp := fun vs H Q _ => ∃ (f : Int), vs = [.int f] ∧ (1 ≤ f ∧ f ≤ 1000) ∧ ∀ H' p bs, Ex H H' → DeedAt T H' p ⟨"away", f, .no, bs⟩ → IsSet bs [(0, 0)] → Q (.ref p) H'
theorem ok_away (T : Env K mg) : FnOk P w K mg base CX0 7 T.d_away.f T.d_away.fd ["fuel"] (sp_away T) := by
  have G_Deed_init := ok_Deed_init (P := P) (w := w) (base := base) T
  refine T.d_away.F.ok sc_away (fun vs H Q E h => ?_) (fun cdv A outer s H vs Q E hr h => ?_)
  · obtain ⟨f, rfl, hf, q⟩ := h
    rfl
  · obtain ⟨f, rfl, hf, q⟩ := h
    have hr_Deed_init : Room 6 _ := hr.mono (by decide)
    refine ⟨_, pss_one (ps_ret (pe_make (mkOf T.C_Deed T.m_Deed_init) G_Deed_init hr_Deed_init (by rfl) T.C_Deed.m T.m_Deed_init.b .nil pass0 (pa_cons pe_str (pa_cons (pv 0) (pa_cons pe_non (pa_cons (pe_glob (v := .ref T.q_NO_SLIPS) rfl T.c_NO_SLIPS rfl) pa_nil)))))), ?_⟩
    refine ⟨_, rfl, fun x dx hx hdx hne => ?_⟩
    have eX : Ex H (upd (upd H dx (.own x)) x (.ins T.C_Deed.C dx [])) := fun a o ha => by
      rw [upd_ne (ne_of_none ha hx), upd_ne (ne_of_none ha hdx)]
      exact ha
    obtain ⟨xs, h1, h2⟩ := noSl (H := upd (upd H dx (.own x)) x (.ins T.C_Deed.C dx [])) T
    exact ⟨x, dx, _, "away", f, .non, .no, xs, _, rfl, upd_same, hf, Dp.non, .inr (.inr (.inr (.inr ⟨rfl, rfl⟩))), h1, h2, okNo, fun H' bs e' hd hb => ⟨rfl, q H' x bs (fun b o hb => e' b o (ne_of_none hb hx) (eX b o hb)) hd hb⟩⟩
end
end My


-- C4
namespace My
open PySem L2 Evl
local macro_rules | `(tactic| walk_at "lk") => `(tactic| (repeat (first | exact lk_eq | exact rfl | refine (lk_ne (by decide +kernel)).trans ?_)))
def crf (a f : Addr) (r : Int) (d : Addr) : List (Str × V) := [("skies", .ref a), ("foot", .ref f), ("room", .int r), ("deeds", .ref d)]
theorem crf_s (a f : Addr) (r : Int) (d : Addr) : (crf a f r d).lookup ("skies" : Str) = some (.ref a) := by unfold crf; walk_at "lk"
theorem crf_f (a f : Addr) (r : Int) (d : Addr) : (crf a f r d).lookup ("foot" : Str) = some (.ref f) := by unfold crf; walk_at "lk"
theorem crf_r (a f : Addr) (r : Int) (d : Addr) : (crf a f r d).lookup ("room" : Str) = some (.int r) := by unfold crf; walk_at "lk"
theorem crf_d (a f : Addr) (r : Int) (d : Addr) : (crf a f r d).lookup ("deeds" : Str) = some (.ref d) := by unfold crf; walk_at "lk"
section
variable {P : Program} {w : World} {K : PySem.W.Frag} {mg : Str → Option Value} {base : Heap}
/-- skies of one ground, the same turns and one area -/
def SkiesAt (T : Env K mg) (H : Hp) (as : List Addr) (d : SkyD) : Prop := ∀ a ∈ as, ∃ s, SkyAt T H a s ∧ s.cs = d.cs ∧ s.turns = d.turns ∧ s.area = d.area
theorem SkiesAt.ex {T : Env K mg} {H H' : Hp} {as : List Addr} {d : SkyD} (e : Ex H H') (h : SkiesAt T H as d) : SkiesAt T H' as d := fun a ha => by
  obtain ⟨s, h1, h2⟩ := h a ha
  exact ⟨s, h1.ex e, h2⟩
/-- deeds whose looks are by cameras that are there -/
def DeedsAt (T : Env K mg) (H : Hp) (as : List Addr) (many : Int) : Prop := ∀ a ∈ as, ∃ d, DeedAt T H a d ∧ (d.kind = "look" → ∃ n, d.aim = .num n ∧ n < many)
theorem DeedsAt.ex {T : Env K mg} {H H' : Hp} {as : List Addr} {m : Int} (e : Ex H H') (h : DeedsAt T H as m) : DeedsAt T H' as m := fun a ha => by
  obtain ⟨s, h1, h2⟩ := h a ha
  exact ⟨s, h1.ex e, h2⟩
def sp_are_skies {K : PySem.W.Frag} {mg : Str → Option Value} (T : Env K mg) : Sp := fun vs H Q _ => ∃ (t : Addr) (as : List Addr) (d : SkyD), vs = [.ref t] ∧ SqT K H t (as.map V.ref) ∧ as ≠ [] ∧ as.length ≤ 60 ∧ SkiesAt T H as d ∧ ∀ H', Ex H H' → Q (.bl true) H'
theorem ok_are_skies (T : Env K mg) : FnOk P w K mg base CX0 2 T.d_are_skies.f T.d_are_skies.fd ["thing"] (sp_are_skies T) := by
  have G_Ground_eq := ok_Ground_eq (P := P) (w := w) (base := base) T
  refine T.d_are_skies.F.ok sc_are_skies (fun vs H Q E h => ?_) (fun cdv A outer s H vs Q E hr h => ?_)
  · obtain ⟨t, as, d, rfl, ht, hne, hlen, hs, q⟩ := h
    rfl
  · obtain ⟨t, as, d, rfl, ht, hne, hlen, hs, q⟩ := h
    have hr_Ground_eq : Room 1 _ := hr.mono (by decide)
    refine ⟨_, pss_cons (ps_if (PW.pt (pw_or (pt_not (pt_val (pe_callB call_isi (by rfl) T.n_isinstance (by decide +kernel) (pa_cons (pv 0) (pa_cons (pe_bltn (v := .ty "tuple") (by rfl) T.n_tuple (by decide +kernel) rfl) pa_nil))))) (pw_or (pt_not (pt_truth (pv 0) (by intro _; rfl))) (pw_or1 (pt_not (pt_val (pe_callB (cr_all rfl) (by rfl) T.n_all (by decide +kernel) (pa_cons (pe_lc (own := [("sky", 2)]) (g := gName 2) rfl sc_are_skies.nd (pi_tup (pv 0)) (blkOk_by (N := ["thing", "first", "sky"]) (sc := defScope s_are_skies) (by decide +kernel)) (fun _ _ _ _ _ => (pg_name (i := 2) sc_are_skies.nd rfl (.inl rfl))) (fun _ _ _ _ _ => pts_nil) (fun _ _ _ _ _ => (pe_callB (call_isiK' K) (by rfl) T.n_isinstance (by decide +kernel) (pa_cons (pv 2) (pa_cons (pe_glob (v := .ref T.C_Sky.C) rfl T.C_Sky.m rfl) pa_nil))))) pa_nil)))))))) (pss_one (ps_ret pe_bl)) pss_nil)
      (pss_cons (ps_set (i := 1) sc_are_skies.nd rfl (.inr rfl) (pe_ix ix_tup (pv 0) pe_int (fun _ _ => rfl)))
      (pss_one (ps_ret (pe_callB (cr_all rfl) (by rfl) T.n_all (by decide +kernel) (pa_cons (pe_lc (own := [("sky", 2)]) (g := gName 2) rfl sc_are_skies.nd (pi_tup (pv 0)) (blkOk_by (N := ["thing", "first", "sky"]) (sc := defScope s_are_skies) (by decide +kernel)) (fun _ _ _ _ _ => (pg_name (i := 2) sc_are_skies.nd rfl (.inl rfl))) (fun _ _ _ _ _ => pts_nil) (fun _ _ _ _ _ => (pe_and (pe_cmpR (op_ownEq G_Ground_eq (hr_Ground_eq.mono (by decide)) T.m_Ground_eq.me.at_ T.m_Ground_eq.me.fn T.m_Ground_eq.b) (pe_fldK (K := K) (pv 2) rfl) (pe_fldK (K := K) (pv 1) rfl) (nomark _)) (pe_and (pe_cmpR (op_eqAK K (α := Tp Int) hr.units) (pe_fldK (K := K) (pv 2) rfl) (pe_fldK (K := K) (pv 1) rfl) (nomark _)) (pe_one (pe_cmpR (op_eqAK K (α := Int × Int × Int × Int) hr.units) (pe_fldK (K := K) (pv 2) rfl) (pe_fldK (K := K) (pv 1) rfl) (nomark _))))))) pa_nil))))), ?_⟩
    have hem : true = !(as.map V.ref).isEmpty := by
      cases as with
      | nil => exact absurd rfl hne
      | cons _ _ => rfl
    refine ⟨_, rfl, _, _, .type "tuple", _, true, rfl, .ty _, tyX_t ht, kit_ty (by decide +kernel), true, rfl, iteF ?_⟩
    refine ⟨_, rfl, true, .inr (.inl ⟨_, ht, hem⟩), iteF ?_⟩
    refine ⟨_, rfl, t, rfl, ⟨_, ht⟩, fun D hD => ?_⟩
    refine lc_val walk_tup hD [some (.ref t), none, none] rfl (fun _ _ e h => ex_t e h) ht as (fun _ => true) (fun _ => .bl true) (by rw [List.length_map]) (by rw [List.length_map]; omega) (fun i a x Ha Hb hi e y R0 R _ hR => ?_) (fun H1 e1 hL => ?_)
    · obtain ⟨rfl, hx⟩ := y
      rw [List.getElem?_map, hi] at hx
      obtain rfl := Option.some.inj hx
      obtain ⟨s, ⟨dx, g, c, tt, ar, h1, _⟩, _⟩ := hs a (List.mem_of_getElem? hi)
      refine ⟨rfl, _, rfl, _, _, .ref T.C_Sky.C, _, true, rfl, .own _, T.e_Sky.ty T.C_Sky.cl (e _ _ h1), kit_self, ?_⟩
      exact hR _ (Ex.refl _) rfl
    rw [bl_map] at hL
    refine ⟨D, _, rfl, sq_of hL, _, rfl, ?_⟩
    rw [all_true]
    refine iteF ?_
    have ht1 := ex_t e1 ht
    obtain ⟨a0, rest, rfl⟩ : ∃ a0 rest, as = a0 :: rest := by
      cases as with
      | nil => exact absurd rfl hne
      | cons a r => exact ⟨a, r, rfl⟩
    obtain ⟨s0, ⟨dx, g, c, tt, ar, h1, h2, h3, h4, h5⟩, w1, w2, w3⟩ := hs a0 List.mem_cons_self
    refine ⟨_, rfl, t, _, 0, V.ref a0, rfl, rfl, ht1, at_of (j := 0) rfl rfl, ?_⟩
    refine ⟨_, rfl, t, rfl, ⟨_, ht1⟩, fun D2 hD2 => ?_⟩
    refine lc_val walk_tup hD2 [some (.ref t), some (.ref a0), none] rfl (fun _ _ e h => ex_t e h) ht1 (a0 :: rest) (fun _ => true) (fun _ => .bl true) (by rw [List.length_map]) (by rw [List.length_map]; omega) (fun i a x Ha Hb hi e y R0 R _ hR => ?_) (fun H3 e3 hL3 => ?_)
    · obtain ⟨rfl, hx⟩ := y
      rw [List.getElem?_map, hi] at hx
      obtain rfl := Option.some.inj hx
      obtain ⟨s, ⟨dy, g', c', t', ar', k1, k2, k3, k4, k5⟩, u1, u2, u3⟩ := hs a (List.mem_of_getElem? hi)
      have ee := e1.trans e
      obtain ⟨dg, tg, j1, j2⟩ := id (k2.ex ee)
      obtain ⟨dh, th, j3, j4⟩ := id (h2.ex ee)
      refine ⟨rfl, _, rfl, a, T.C_Sky.C, dy, _, _, rfl, ee _ _ k1, T.C_Sky.cl, T.a_Sky_ground, sf_g _ _ _ _, _, rfl, a0, T.C_Sky.C, dx, _, _, rfl, ee _ _ h1, T.C_Sky.cl, T.a_Sky_ground, sf_g _ _ _ _, ?_⟩
      refine ⟨g', g, dg, dh, _, _, rfl, rfl, j1, j3, g', g, s.cs, s0.cs, rfl, k2.ex ee, h2.ex ee, _, rfl, _, rfl, ite2 (fun _ => ?_) (fun z => absurd (decide_eq_true (by rw [u1, w1])) z)⟩
      refine ⟨_, rfl, a, T.C_Sky.C, dy, _, _, rfl, ee _ _ k1, T.C_Sky.cl, T.a_Sky_turns, sf_t _ _ _ _, _, rfl, a0, T.C_Sky.C, dx, _, _, rfl, ee _ _ h1, T.C_Sky.cl, T.a_Sky_turns, sf_t _ _ _ _, Tp.mk s.turns, Tp.mk s0.turns, Rep.tp (ex_t ee k4) (RAll.ints _), Rep.tp (ex_t ee h4) (RAll.ints _), _, rfl, ite2 (fun _ => ?_) (fun z => absurd (decide_eq_true (by rw [u2, w2])) z)⟩
      refine ⟨_, rfl, a, T.C_Sky.C, dy, _, _, rfl, ee _ _ k1, T.C_Sky.cl, T.a_Sky_area, sf_a _ _ _ _, _, rfl, a0, T.C_Sky.C, dx, _, _, rfl, ee _ _ h1, T.C_Sky.cl, T.a_Sky_area, sf_a _ _ _ _, s.area, s0.area, Rep.p4 (ex_t ee k5), Rep.p4 (ex_t ee h5), ?_⟩
      rw [decide_eq_true (by rw [u3, w3] : s.area = s0.area)]
      exact hR _ (Ex.refl _) rfl
    rw [bl_map] at hL3
    refine ⟨D2, _, rfl, sq_of hL3, ?_⟩
    rw [all_true]
    exact q _ (e1.trans e3)
def sp_are_deeds {K : PySem.W.Frag} {mg : Str → Option Value} (T : Env K mg) : Sp := fun vs H Q _ => ∃ (t : Addr) (as : List Addr) (m : Int), vs = [.ref t, .int m] ∧ SqT K H t (as.map V.ref) ∧ as.length ≤ 1000 ∧ DeedsAt T H as m ∧ ∀ H', Ex H H' → Q (.bl true) H'
theorem ok_are_deeds (T : Env K mg) : FnOk P w K mg base CX0 1 T.d_are_deeds.f T.d_are_deeds.fd ["thing", "cameras"] (sp_are_deeds T) := by
  refine T.d_are_deeds.F.ok sc_are_deeds (fun vs H Q E h => ?_) (fun cdv A outer s H vs Q E hr h => ?_)
  · obtain ⟨t, as, m, rfl, ht, hlen, hs, q⟩ := h
    rfl
  · obtain ⟨t, as, m, rfl, ht, hlen, hs, q⟩ := h
    refine ⟨_, pss_cons (ps_if (PW.pt (pw_or (pt_not (pt_val (pe_callB call_isi (by rfl) T.n_isinstance (by decide +kernel) (pa_cons (pv 0) (pa_cons (pe_bltn (v := .ty "tuple") (by rfl) T.n_tuple (by decide +kernel) rfl) pa_nil))))) (pw_or1 (pt_not (pt_val (pe_callB (cr_all rfl) (by rfl) T.n_all (by decide +kernel) (pa_cons (pe_lc (own := [("deed", 2)]) (g := gName 2) rfl sc_are_deeds.nd (pi_tup (pv 0)) (blkOk_by (N := ["thing", "cameras", "deed"]) (sc := defScope s_are_deeds) (by decide +kernel)) (fun _ _ _ _ _ => (pg_name (i := 2) sc_are_deeds.nd rfl (.inl rfl))) (fun _ _ _ _ _ => pts_nil) (fun _ _ _ _ _ => (pe_callB (call_isiK' K) (by rfl) T.n_isinstance (by decide +kernel) (pa_cons (pv 2) (pa_cons (pe_glob (v := .ref T.C_Deed.C) rfl T.C_Deed.m rfl) pa_nil))))) pa_nil))))))) (pss_one (ps_ret pe_bl)) pss_nil)
      (pss_one (ps_ret (pe_callB (cr_all rfl) (by rfl) T.n_all (by decide +kernel) (pa_cons (pe_lc (own := [("deed", 2)]) (g := gName 2) rfl sc_are_deeds.nd (pi_tup (pv 0)) (blkOk_by (N := ["thing", "cameras", "deed"]) (sc := defScope s_are_deeds) (by decide +kernel)) (fun _ _ _ _ _ => (pg_name (i := 2) sc_are_deeds.nd rfl (.inl rfl))) (fun _ _ _ _ _ => pts_nil) (fun _ _ _ _ _ => (pe_or (pe_cmpR op_ne (pe_fldK (K := K) (pv 2) rfl) pe_str (nomark _)) (pe_one (pe_cmpR op_lt (pe_fldK (K := K) (pv 2) rfl) (pv 1) (nomark _)))))) pa_nil)))), ?_⟩
    refine ⟨_, rfl, _, _, .type "tuple", _, true, rfl, .ty _, tyX_t ht, kit_ty (by decide +kernel), true, rfl, iteF ?_⟩
    refine ⟨_, rfl, t, rfl, ⟨_, ht⟩, fun D hD => ?_⟩
    refine lc_val walk_tup hD [some (.ref t), some (.int m), none] rfl (fun _ _ e h => ex_t e h) ht as (fun _ => true) (fun _ => .bl true) (by rw [List.length_map]) (by rw [List.length_map]; omega) (fun i a x Ha Hb hi e y R0 R _ hR => ?_) (fun H1 e1 hL => ?_)
    · obtain ⟨rfl, hx⟩ := y
      rw [List.getElem?_map, hi] at hx
      obtain rfl := Option.some.inj hx
      obtain ⟨s, ⟨dx, v, u, h1, _⟩, _⟩ := hs a (List.mem_of_getElem? hi)
      refine ⟨rfl, _, rfl, _, _, .ref T.C_Deed.C, _, true, rfl, .own _, T.e_Deed.ty T.C_Deed.cl (e _ _ h1), kit_self, ?_⟩
      exact hR _ (Ex.refl _) rfl
    rw [bl_map] at hL
    refine ⟨D, _, rfl, sq_of hL, _, rfl, ?_⟩
    rw [all_true]
    refine iteF ?_
    have ht1 := ex_t e1 ht
    refine ⟨_, rfl, t, rfl, ⟨_, ht1⟩, fun D2 hD2 => ?_⟩
    refine lc_val walk_tup hD2 [some (.ref t), some (.int m), none] rfl (fun _ _ e h => ex_t e h) ht1 as (fun _ => true) (fun _ => .bl true) (by rw [List.length_map]) (by rw [List.length_map]; omega) (fun i a x Ha Hb hi e y R0 R _ hR => ?_) (fun H3 e3 hL3 => ?_)
    · obtain ⟨rfl, hx⟩ := y
      rw [List.getElem?_map, hi] at hx
      obtain rfl := Option.some.inj hx
      obtain ⟨s, ⟨dx, v, u, h1, h2, _⟩, hk⟩ := hs a (List.mem_of_getElem? hi)
      have ee := e1.trans e
      refine ⟨rfl, _, rfl, a, T.C_Deed.C, dx, _, _, rfl, ee _ _ h1, T.C_Deed.cl, T.a_Deed_kind, df_k _ _ _ _, rfl, _, rfl, ?_⟩
      by_cases hl : s.kind = "look"
      · obtain ⟨n, ea, hn⟩ := hk hl
        rw [ea] at h2
        obtain rfl := Rep.int_inv (i := n) h2
        rw [decide_eq_true (by rw [hl] : V.str s.kind = V.str "look")]
        refine iteF ?_
        refine ⟨_, rfl, a, T.C_Deed.C, dx, _, _, rfl, ee _ _ h1, T.C_Deed.cl, T.a_Deed_aim, df_a _ _ _ _, _, rfl, _, _, rfl, rfl, ?_⟩
        have e9 : decide (n < m) = true := decide_eq_true hn
        show R (V.bl (decide (n < m))) _
        rw [e9]
        exact hR _ (Ex.refl _) rfl
      · rw [decide_eq_false (fun z => hl (V.str.inj z) : ¬ V.str s.kind = V.str "look")]
        exact iteT (hR _ (Ex.refl _) rfl)
    rw [bl_map] at hL3
    refine ⟨D2, _, rfl, sq_of hL3, ?_⟩
    rw [all_true]
    exact q _ (e1.trans e3)
def CraftAt (T : Env K mg) (H : Hp) (p : Addr) (as : List Addr) (foot : PR) (r : Int) (ds : List Addr) : Prop := ∃ dx a f d, H p = some (.ins T.C_Craft.C dx (crf a f r d)) ∧ SqT K H a (as.map V.ref) ∧ Rep K H (.ref f) foot ∧ SqT K H d (ds.map V.ref)
theorem CraftAt.ex {T : Env K mg} {H H' : Hp} {p : Addr} {as : List Addr} {foot : PR} {r : Int} {ds : List Addr} (e : Ex H H') (h : CraftAt T H p as foot r ds) : CraftAt T H' p as foot r ds := by
  obtain ⟨dx, a, f, d, h1, h2, h3, h4⟩ := h
  exact ⟨dx, a, f, d, e _ _ h1, ex_t e h2, h3.ex e, ex_t e h4⟩
def sp_Craft_init {K : PySem.W.Frag} {mg : Str → Option Value} (T : Env K mg) : Sp := fun vs H Q _ => ∃ (p dx a f d : Addr) (as : List Addr) (sd : SkyD) (foot : PR) (r : Int) (ds : List Addr), vs = [.ref p, .ref a, .ref f, .int r, .ref d] ∧ H p = some (.ins T.C_Craft.C dx []) ∧ SqT K H a (as.map V.ref) ∧ as ≠ [] ∧ as.length ≤ 60 ∧ SkiesAt T H as sd ∧
    Rep K H (.ref f) foot ∧ okPair foot ∧ (0 ≤ r ∧ r ≤ 1000) ∧ SqT K H d (ds.map V.ref) ∧ ds.length ≤ 1000 ∧ DeedsAt T H ds (as.length : Nat) ∧ ∀ H', ExB p H H' → CraftAt T H' p as foot r ds → Q .non H'
theorem ok_Craft_init (T : Env K mg) : FnOk P w K mg base CX0 4 T.m_Craft_init.f T.m_Craft_init.fd ["self", "skies", "foot", "room", "deeds"] (sp_Craft_init T) := by
  have G_are_deeds := ok_are_deeds (P := P) (w := w) (base := base) T
  have G_is_between := ok_is_between (P := P) (w := w) (base := base) T
  have G_is_pair := ok_is_pair (P := P) (w := w) (base := base) T
  have G_are_skies := ok_are_skies (P := P) (w := w) (base := base) T
  refine T.m_Craft_init.F.ok sc_Craft_init (fun vs H Q E h => ?_) (fun cdv A outer s H vs Q E hr h => ?_)
  · obtain ⟨p, dx, a, f, d, as, sd, foot, r, ds, rfl, hp, ha, hne, hlen, hs, hf, hfo, ⟨hr1, hr2⟩, hd, hdl, hds, q⟩ := h
    rfl
  · obtain ⟨p, dx, a, f, d, as, sd, foot, r, ds, rfl, hp, ha, hne, hlen, hs, hf, hfo, ⟨hr1, hr2⟩, hd, hdl, hds, q⟩ := h
    have hr_are_deeds : Room 1 _ := hr.mono (by decide)
    have hr_is_between : Room 2 _ := hr.mono (by decide)
    have hr_is_pair : Room 3 _ := hr.mono (by decide)
    have hr_are_skies : Room 2 _ := hr.mono (by decide)
    refine ⟨_, pss_cons (ps_if (pt_not (pt_val (pe_call G_are_skies hr_are_skies (by rfl) T.d_are_skies.m T.d_are_skies.k T.d_are_skies.b .nil pass0 (pa_cons (pv 1) pa_nil)))) (pss_one ps_never) pss_nil)
      (pss_cons (ps_if (pt_not (pt_val (pe_call G_is_pair hr_is_pair (by rfl) T.d_is_pair.m T.d_is_pair.k T.d_is_pair.b .nil pass0 (pa_cons (pv 2) pa_nil)))) (pss_one ps_never) pss_nil)
      (pss_cons (ps_if (pt_not (pt_val (pe_call G_is_between hr_is_between (by rfl) T.d_is_between.m T.d_is_between.k T.d_is_between.b .nil pass0 (pa_cons (pv 3) (pa_cons pe_int (pa_cons (pe_glob (v := .int 1000) rfl T.c_MOST_ROOM ⟨_, rfl⟩) pa_nil)))))) (pss_one ps_never) pss_nil)
      (pss_cons (ps_if (pt_not (pt_val (pe_call G_are_deeds hr_are_deeds (by rfl) T.d_are_deeds.m T.d_are_deeds.k T.d_are_deeds.b .nil pass0 (pa_cons (pv 4) (pa_cons (pe_callB call_len_seq (by rfl) T.n_len PySem.boot_len (pa_cons (pv 1) pa_nil)) pa_nil))))) (pss_one ps_never) pss_nil)
      (pss_cons (ps_fld (pv 0) (pv 1) rfl)
      (pss_cons (ps_fld (pv 0) (pv 2) rfl)
      (pss_cons (ps_fld (pv 0) (pv 3) rfl)
      (pss_one (ps_fld (pv 0) (pv 4) rfl)))))))), ?_⟩
    obtain ⟨_, e0, hft⟩ := hf.p2_inv
    cases e0
    refine ⟨_, rfl, a, as, sd, rfl, ha, hne, hlen, hs, fun H1 e1 => ⟨true, rfl, iteF ?_⟩⟩
    refine ⟨_, rfl, f, foot, rfl, ex_t e1 hft, hfo, fun H2 e2' => ⟨true, rfl, iteF ?_⟩⟩
    have e2 := e1.trans e2'
    refine ⟨_, rfl, r, 0, 1000, rfl, ?_⟩
    rw [decide_eq_true (⟨hr1, hr2⟩ : (0 : Int) ≤ r ∧ r ≤ 1000)]
    refine ⟨true, rfl, iteF ?_⟩
    refine ⟨_, rfl, _, rfl, a, _, rfl, .inr (ex_t e2 ha), d, ds, _, rfl, ex_t e2 hd, hdl, ?_, fun H3 e3' => ⟨true, rfl, iteF ?_⟩⟩
    · rw [List.length_map]
      exact hds.ex e2
    have e3 := e2.trans e3'
    have hp2 := e3 _ _ hp
    have go : ∀ {Hx : Hp} {y z : List (Str × V)}, y = z → (upd Hx p (.ins T.C_Craft.C dx y)) p = some (.ins T.C_Craft.C dx z) := fun {Hx y z} e => by rw [upd_same, e]
    have f1 : putF "skies" (.ref a) [] = [(("skies" : Str), V.ref a)] := rfl
    have f2 : putF "foot" (.ref f) [(("skies" : Str), V.ref a)] = _ := putF_new ["skies"] rfl (by decide +kernel)
    have f3 : putF "room" (.int r) [(("skies" : Str), V.ref a), ("foot", .ref f)] = _ := putF_new ["skies", "foot"] rfl (by decide +kernel)
    have f4 : putF "deeds" (.ref d) [(("skies" : Str), V.ref a), ("foot", .ref f), ("room", .int r)] = crf a f r d := putF_new ["skies", "foot", "room"] rfl (by decide +kernel)
    refine ⟨_, rfl, _, rfl, p, T.C_Craft.C, dx, _, rfl, hp2, T.C_Craft.cl, T.a_Craft_skies, by show 0 < 1000; decide, ?_⟩
    refine ⟨_, rfl, _, rfl, p, T.C_Craft.C, dx, _, rfl, go f1, T.C_Craft.cl, T.a_Craft_foot, by show 1 < 1000; decide, ?_⟩
    refine ⟨_, rfl, _, rfl, p, T.C_Craft.C, dx, _, rfl, go f2, T.C_Craft.cl, T.a_Craft_room, by show 2 < 1000; decide, ?_⟩
    refine ⟨_, rfl, _, rfl, p, T.C_Craft.C, dx, _, rfl, go f3, T.C_Craft.cl, T.a_Craft_deeds, by show 3 < 1000; decide, ?_⟩
    have kp : ∀ {o1 o2 o3 o4 : HO}, Keep H3 (upd (upd (upd (upd H3 p o1) p o2) p o3) p o4) := fun {o1 o2 o3 o4} b o hd hb => by
      have n : b ≠ p := fun z => by
        rw [z, hp2] at hb
        cases hb
        cases hd
      rw [upd_ne n, upd_ne n, upd_ne n, upd_ne n]
      exact hb
    refine q _ (fun b o n hb => ?_) ⟨dx, a, f, d, go f4, kp_t kp (ex_t e3 ha), (hf.ex e3).keep kp, kp_t kp (ex_t e3 hd)⟩
    rw [upd_ne n, upd_ne n, upd_ne n, upd_ne n]
    exact e3 _ _ hb
def sp_Craft_eq {K : PySem.W.Frag} {mg : Str → Option Value} (T : Env K mg) : Sp := fun vs H Q _ => ∃ (p u : Addr) (as : List Addr) (foot : PR) (r r' : Int) (ds : List Addr), vs = [.ref p, .ref u] ∧ CraftAt T H p as foot r ds ∧ CraftAt T H u as foot r' ds ∧ Q (.bl (decide (r = r'))) H
theorem ok_Craft_eq (T : Env K mg) : FnOk P w K mg base CX0 1 T.m_Craft_eq.f T.m_Craft_eq.fd ["self", "other"] (sp_Craft_eq T) := by
  refine T.m_Craft_eq.F.ok sc_Craft_eq (fun vs H Q E h => ?_) (fun cdv A outer s H vs Q E hr h => ?_)
  · obtain ⟨p, u, as, foot, r, r', ds, rfl, ⟨dx, a, f, d, h1, h2, h3, h4⟩, ⟨dy, b, g, e, k1, k2, k3, k4⟩, q⟩ := h
    rfl
  · obtain ⟨p, u, as, foot, r, r', ds, rfl, ⟨dx, a, f, d, h1, h2, h3, h4⟩, ⟨dy, b, g, e, k1, k2, k3, k4⟩, q⟩ := h
    refine ⟨_, pss_one (ps_ret (pe_and (pe_callB call_isi (by rfl) T.n_isinstance (by decide +kernel) (pa_cons (pv 1) (pa_cons (pe_glob (v := .ref T.C_Craft.C) rfl T.C_Craft.m rfl) pa_nil))) (pe_and (pe_cmpR (op_eqSame hr.units) (pe_fld (pv 0) rfl) (pe_fld (pv 1) rfl) (nomark _)) (pe_and (pe_cmpR (op_eqA (α := Int × Int) hr.units) (pe_fld (pv 0) rfl) (pe_fld (pv 1) rfl) (nomark _)) (pe_and (pe_cmpR op_eq (pe_fld (pv 0) rfl) (pe_fld (pv 1) rfl) (nomark _)) (pe_one (pe_cmpR (op_eqSame hr.units) (pe_fld (pv 0) rfl) (pe_fld (pv 1) rfl) (nomark _)))))))), ?_⟩
    refine ⟨_, rfl, _, _, .ref T.C_Craft.C, _, true, rfl, .own _, T.e_Craft.ty T.C_Craft.cl k1, kit_self, true, rfl, ?_⟩
    refine ⟨_, rfl, p, T.C_Craft.C, dx, _, _, rfl, h1, T.C_Craft.cl, T.a_Craft_skies, crf_s _ _ _ _, _, rfl, u, T.C_Craft.C, dy, _, _, rfl, k1, T.C_Craft.cl, T.a_Craft_skies, crf_s _ _ _ _, a, b, as, rfl, rfl, h2, k2, true, rfl, iteT ?_⟩
    refine ⟨_, rfl, p, T.C_Craft.C, dx, _, _, rfl, h1, T.C_Craft.cl, T.a_Craft_foot, crf_f _ _ _ _, _, rfl, u, T.C_Craft.C, dy, _, _, rfl, k1, T.C_Craft.cl, T.a_Craft_foot, crf_f _ _ _ _, foot, foot, h3, k3, _, rfl, ite2 (fun _ => ?_) (fun z => absurd (decide_eq_true rfl) z)⟩
    refine ⟨_, rfl, p, T.C_Craft.C, dx, _, _, rfl, h1, T.C_Craft.cl, T.a_Craft_room, crf_r _ _ _ _, _, rfl, u, T.C_Craft.C, dy, _, _, rfl, k1, T.C_Craft.cl, T.a_Craft_room, crf_r _ _ _ _, rfl, _, rfl, ite2 (fun z => ?_) (fun z => ?_)⟩
    · refine ⟨_, rfl, p, T.C_Craft.C, dx, _, _, rfl, h1, T.C_Craft.cl, T.a_Craft_deeds, crf_d _ _ _ _, _, rfl, u, T.C_Craft.C, dy, _, _, rfl, k1, T.C_Craft.cl, T.a_Craft_deeds, crf_d _ _ _ _, d, e, ds, rfl, rfl, h4, k4, ?_⟩
      rw [decide_eq_true (V.int.inj (of_decide_eq_true z))] at q
      exact q
    · rw [decide_eq_false (fun y => z (decide_eq_true (by rw [y])))] at q
      exact q
end
end My


-- Dr
namespace My
open PySem L2 Evl
section
variable {P : Program} {w : World} {K : PySem.W.Frag} {mg : Str → Option Value} {base : Heap}
def sp_law_number {K : PySem.W.Frag} {mg : Str → Option Value} (T : Env K mg) : Sp := fun vs H Q _ => ∃ (a : Addr) (ns : List Int) (i : Int), vs = [.ref a, .int i] ∧ SqL K H a (ns.map V.int) ∧ 0 ≤ i ∧ ∀ r H', Ex H H' → Q (.int r) H'
theorem ok_law_number (T : Env K mg) : FnOk P w K mg base CX0 1 T.d_law_number.f T.d_law_number.fd ["script", "index"] (sp_law_number T) := by
  refine T.d_law_number.F.ok sc_law_number (fun vs H Q E h => ?_) (fun cdv A outer s H vs Q E hr h => ?_)
  · obtain ⟨a, ns, i, rfl, hS, hi, q⟩ := h
    rfl
  · obtain ⟨a, ns, i, rfl, hS, hi, q⟩ := h
    refine ⟨_, pss_cons (ps_if (pt_cmpR (op_eqA (α := List Int) hr.units) (pv 0) (pe_lst pa_nil) (nomark _)) (pss_one (ps_ret (pe_callTy call_int1 (by rfl) T.n_int (by decide +kernel) (pa_cons (pe_op op_modN (pe_op op_add (pe_op op_mul (pv 1) pe_int) pe_int) pe_int) pa_nil)))) pss_nil)
      (pss_cons (ps_set (i := 2) sc_law_number.nd rfl (.inl rfl) (pe_ix ix_list (pv 0) (pe_op op_modN (pv 1) (pe_callB call_len_seq (by rfl) T.n_len PySem.boot_len (pa_cons (pv 0) pa_nil))) (fun _ _ => rfl)))
      (pss_cut (ps_if (pt_cmpR op_ge (pe_callB call_abs (by rfl) T.n_abs (by decide +kernel) (pa_cons (pv 2) pa_nil)) (pe_op op_pow pe_int pe_int) (nomark _)) (pss_one (ps_set (i := 2) sc_law_number.nd rfl (.inl rfl) (pe_op op_modN (pv 2) (pe_op op_pow pe_int pe_int)))) pss_nil)
      (pss_cons (ps_set (i := 3) sc_law_number.nd rfl (.inl rfl) (pe_op op_modN (pe_op op_add (pe_op op_mul (pe_op op_add (pv 2) (pe_op op_mul pe_int (pv 1))) pe_int) (pe_op op_mul pe_int (pe_callB call_len_seq (by rfl) T.n_len PySem.boot_len (pa_cons (pv 0) pa_nil)))) pe_int))
      (pss_one (ps_ret (pe_callTy call_int1 (by rfl) T.n_int (by decide +kernel) (pa_cons (pe_op op_modN (pe_op op_add (pe_op op_mul (pe_op op_modN (pe_op op_mul (pv 3) pe_int) pe_int) pe_int) (pv 1)) pe_int) pa_nil))))))), ?_⟩
    refine ⟨_, rfl, Nat.zero_le _, fun l hl => ?_⟩
    have e1 : Ex H (upd H l (.lst [])) := Ex.new hl
    have hS1 := ex_l e1 hS
    refine ⟨ns, [], Rep.lst hS1 (RAll.ints ns), Rep.lst (sq_of upd_same) .nil, _, rfl, ?_⟩
    refine ite2 (fun _ => ?_) (fun hne => ?_)
    · exact ⟨_, rfl, _, _, rfl, rfl, .inr (by decide), _, _, rfl, rfl, _, _, rfl, rfl, (by show (_ : Int) ≠ _; decide), .inl ⟨_, rfl, q _ _ e1⟩⟩
    have hne : ns ≠ [] := fun e => hne (decide_eq_true e)
    have hl0 : 0 < ns.length := List.length_pos_iff.mpr hne
    have hz : ((ns.map V.int).length : Int) ≠ 0 := by
      rw [List.length_map]
      omega
    have hm : 0 ≤ i.fmod ((ns.map V.int).length : Int) ∧ i.fmod ((ns.map V.int).length : Int) < (ns.map V.int).length := by
      rw [List.length_map, Int.fmod_eq_emod_of_nonneg _ (by omega)]
      exact ⟨Int.emod_nonneg _ (by omega), Int.emod_lt_of_pos _ (by omega)⟩
    obtain ⟨j, ej⟩ : ∃ j : Nat, i.fmod ((ns.map V.int).length : Int) = (j : Int) := ⟨_, (Int.toNat_of_nonneg hm.1).symm⟩
    have hj : j < ns.length := by
      rw [ej, List.length_map] at hm
      omega
    refine ⟨_, rfl, _, rfl, _, rfl, a, _, rfl, .inl hS1, _, _, rfl, rfl, hz, a, _, _, V.int ns[j], rfl, rfl, hS1, at_of ej ?_, ?_⟩
    · rw [List.getElem?_map, List.getElem?_eq_getElem hj]
      rfl
    refine ⟨fun σ' H' => ∃ c : Int, σ' = [some (.ref a), some (.int i), some (.int c), none] ∧ H' = upd H l (.lst []), ?_, ?_⟩
    · refine ⟨_, rfl, _, rfl, _, _, rfl, rfl, ⟨by decide, by decide, by decide⟩, _, _, rfl, rfl, _, rfl, ?_⟩
      refine ite2 (fun _ => ?_) (fun _ => ?_)
      · exact ⟨_, rfl, _, _, rfl, rfl, ⟨by decide, by decide, by decide⟩, _, _, rfl, rfl, (by show (_ : Int) ≠ _; decide), _, rfl, rfl⟩
      · exact ⟨_, rfl, rfl⟩
    · rintro σ' H' ⟨c, rfl, rfl⟩
      refine ⟨_, rfl, _, rfl, _, _, rfl, rfl, .inl (by decide), _, _, rfl, rfl, _, _, rfl, rfl, .inr (by decide), _, rfl, a, _, rfl, .inl hS1, _, _, rfl, rfl, .inl (by decide), _, _, rfl, rfl, _, _, rfl, rfl, (by show (_ : Int) ≠ _; decide), ?_⟩
      exact ⟨_, rfl, _, _, rfl, rfl, .inr (by decide), _, _, rfl, rfl, (by show (_ : Int) ≠ _; decide), _, _, rfl, rfl, .inr (by decide), _, rfl, _, _, rfl, rfl, _, _, rfl, rfl, (by show (_ : Int) ≠ _; decide), .inl ⟨_, rfl, q _ _ e1⟩⟩
end
/-- what is kept but for the draw at d -/
def ExD (d : Addr) (H H' : Hp) : Prop := ∀ a o, a ≠ d → H a = some o → H' a = some o
theorem ExD.refl (d : Addr) (H : Hp) : ExD d H H := fun _ _ _ h => h
theorem ExD.trans {d : Addr} {H H1 H2 : Hp} (x : ExD d H H1) (y : ExD d H1 H2) : ExD d H H2 := fun a o n h => y a o n (x a o n h)
theorem ExD.of {d : Addr} {H H' : Hp} (x : Ex H H') : ExD d H H' := fun a o _ h => x a o h
theorem ExD.upd {d : Addr} {H : Hp} {o : HO} : ExD d H (upd H d o) := fun a u n h => by
  rw [upd_ne n]
  exact h
theorem ExD.new {d p : Addr} {H : Hp} {o : HO} (h : H p = none) : ExD d H (L2.upd H p o) := .of (Ex.new h)
theorem exd_l {K : PySem.W.Frag} {H H' : Hp} {a d : Addr} {xs : List V} (e : ExD d H H') (n : a ≠ d) (h : SqL K H a xs) : SqL K H' a xs := by
  rcases h with (h | ⟨o, h⟩) | h
  · exact .inl (.inl (e _ _ n h))
  · exact .inl (.inr ⟨o, e _ _ n h⟩)
  · exact .inr h
/-- a list that is new to the script is changed -/
def Apart (K : PySem.W.Frag) (sc : Addr) (ns : List Int) (p : Addr) : Prop := sc ≠ p ∨ ∀ H, SqL K H sc (ns.map V.int)
theorem exd_sc {K : PySem.W.Frag} {H H' : Hp} {d sc : Addr} {ns : List Int} (e : ExD d H H') (a : Apart K sc ns d) (h : SqL K H sc (ns.map V.int)) : SqL K H' sc (ns.map V.int) := by
  rcases a with a | a
  · exact exd_l e a h
  · exact a _
/-- the draw at d -/
def Drw (K : PySem.W.Frag) (H : Hp) (d sc : Addr) (ns : List Int) : Prop := ∃ n : Int, H d = some (.lst [.ref sc, .int n]) ∧ SqL K H sc (ns.map V.int) ∧ Apart K sc ns d ∧ 0 ≤ n
theorem Drw.ex {K : PySem.W.Frag} {H H' : Hp} {d sc : Addr} {ns : List Int} (h : Drw K H d sc ns) (e : Ex H H') : Drw K H' d sc ns := by
  obtain ⟨n, h1, h2, h3, h4⟩ := h
  exact ⟨n, e _ _ h1, ex_l e h2, h3, h4⟩
theorem Drw.apart {K : PySem.W.Frag} {H : Hp} {d sc : Addr} {ns : List Int} (h : Drw K H d sc ns) {p : Addr} (hp : H p = none) : Apart K sc ns p := by
  obtain ⟨n, h1, h2, h3, h4⟩ := h
  rcases h2 with (h | ⟨o, h⟩) | h
  · exact .inl (ne_of_none h hp)
  · exact .inl (ne_of_none h hp)
  · exact .inr fun H => .inr h
theorem Drw.mut {K : PySem.W.Frag} {H : Hp} {d sc : Addr} {ns : List Int} {p : Addr} {o : HO} (h : Drw K H d sc ns) (a : Apart K sc ns p) (n : p ≠ d) : Drw K (upd H p o) d sc ns := by
  obtain ⟨k, h1, h2, h3, h4⟩ := h
  refine ⟨k, by rw [upd_ne n.symm]; exact h1, ?_, h3, h4⟩
  rcases a with a | a
  · rcases h2 with (h | ⟨u, h⟩) | h
    · exact .inl (.inl (by rw [upd_ne a]; exact h))
    · exact .inl (.inr ⟨u, by rw [upd_ne a]; exact h⟩)
    · exact .inr h
  · exact a _
theorem ExD.mut {d : Addr} {H H' : Hp} {p : Addr} {o : HO} (e : ExD d H H') (h : H p = none) : ExD d H (L2.upd H' p o) := fun a u n ha => by
  rw [upd_ne (ne_of_none ha h)]
  exact e a u n ha
section
variable {P : Program} {w : World} {K : PySem.W.Frag} {mg : Str → Option Value} {base : Heap}
def sp_law_take {K : PySem.W.Frag} {mg : Str → Option Value} (T : Env K mg) : Sp := fun vs H Q _ => ∃ (d : Addr) (m : Int) (sc : Addr) (ns : List Int), vs = [.ref d, .int m] ∧ Drw K H d sc ns ∧ 0 < m ∧ ∀ r H', 0 ≤ r → r < m → ExD d H H' → Drw K H' d sc ns → Q (.int r) H'
theorem ok_law_take (T : Env K mg) : FnOk P w K mg base CX0 2 T.d_law_take.f T.d_law_take.fd ["draw", "many"] (sp_law_take T) := by
  have G_law_number := ok_law_number (P := P) (w := w) (base := base) T
  refine T.d_law_take.F.ok sc_law_take (fun vs H Q E h => ?_) (fun cdv A outer s H vs Q E hr h => ?_)
  · obtain ⟨d, m, sc, ns, rfl, ⟨n, hd, hs, hne, hn⟩, hm, q⟩ := h
    rfl
  · obtain ⟨d, m, sc, ns, rfl, ⟨n, hd, hs, hne, hn⟩, hm, q⟩ := h
    have hr_law_number : Room 1 _ := hr.mono (by decide)
    refine ⟨_, pss_cons (ps_augS (pv 0) pe_int get_list pe_int ip_add set_list)
      (pss_one (ps_ret (pe_op op_modN (pe_callTy call_int1 (by rfl) T.n_int (by decide +kernel) (pa_cons (pe_call G_law_number hr_law_number (by rfl) T.d_law_number.m T.d_law_number.k T.d_law_number.b .nil pass0 (pa_cons (pe_ix ix_list (pv 0) pe_int (fun _ _ => rfl)) (pa_cons (pe_callTy call_int1 (by rfl) T.n_int (by decide +kernel) (pa_cons (pe_ix ix_list (pv 0) pe_int (fun _ _ => rfl)) pa_nil)) pa_nil))) pa_nil)) (pv 1)))), ?_⟩
    refine ⟨_, rfl, d, _, 1, _, rfl, rfl, sq_of hd, rfl, n, 1, rfl, rfl, d, _, 1, 1, rfl, rfl, hd, rfl, ?_⟩
    have e1 : ExD d H (upd H d (.lst ([V.ref sc, .int n].set 1 (.int (n + 1))))) := .upd
    have hs1 := exd_sc e1 hne hs
    refine ⟨_, rfl, d, _, 0, _, rfl, rfl, sq_of upd_same, rfl, _, rfl, d, _, 1, _, rfl, rfl, sq_of upd_same, rfl, .inl ⟨_, rfl, sc, ns, n + 1, rfl, hs1, by omega, fun r H' e2 => ?_⟩⟩
    refine .inl ⟨r, rfl, _, rfl, r, m, rfl, rfl, by show m ≠ 0; omega, ?_⟩
    refine q _ H' ?_ ?_ (e1.trans (.of e2)) ⟨n + 1, e2 _ _ upd_same, ex_l e2 hs1, hne, by omega⟩
    · rw [Int.fmod_eq_emod_of_nonneg _ (by omega)]
      exact Int.emod_nonneg _ (by omega)
    · rw [Int.fmod_eq_emod_of_nonneg _ (by omega)]
      exact Int.emod_lt_of_pos _ hm
end
theorem Drw.lst {K : PySem.W.Frag} {H : Hp} {d sc : Addr} {ns : List Int} (h : Drw K H d sc ns) : ∃ ys, H d = some (.lst ys) := by
  obtain ⟨n, h1, _⟩ := h
  exact ⟨_, h1⟩
/-- all but lists is kept, and lists but one -/
theorem ExD.tup {K : PySem.W.Frag} {H H' : Hp} {d : Addr} (e : ExD d H H') (hd : ∃ ys, H d = some (.lst ys)) {a : Addr} {xs : List V} (h : SqT K H a xs) : SqT K H' a xs := by
  obtain ⟨ys, hd⟩ := hd
  rcases h with (h | ⟨o, h⟩) | h
  · exact .inl (.inl (e _ _ (ne_of h hd (fun z => by cases z)) h))
  · exact .inl (.inr ⟨o, e _ _ (ne_of h hd (fun z => by cases z)) h⟩)
  · exact .inr h
/-- xs: what a list or a tuple at a has -/
def Sq (K : PySem.W.Frag) (H : Hp) (a : Addr) (xs : List V) : Prop := SqL K H a xs ∨ SqT K H a xs
theorem exd_t {K : PySem.W.Frag} {H H' : Hp} {a d : Addr} {xs : List V} (e : ExD d H H') (n : a ≠ d) (h : SqT K H a xs) : SqT K H' a xs := by
  rcases h with (h | ⟨o, h⟩) | h
  · exact .inl (.inl (e _ _ n h))
  · exact .inl (.inr ⟨o, e _ _ n h⟩)
  · exact .inr h
section
variable {P : Program} {w : World} {K : PySem.W.Frag} {mg : Str → Option Value} {base : Heap}
def sp_law_pick {K : PySem.W.Frag} {mg : Str → Option Value} (T : Env K mg) : Sp := fun vs H Q _ => ∃ (d a : Addr) (xs : List V) (sc : Addr) (ns : List Int), vs = [.ref d, .ref a] ∧ Drw K H d sc ns ∧ ((SqL K H a xs ∧ a ≠ d) ∨ SqT K H a xs) ∧ xs ≠ [] ∧ ∀ (j : Nat) v H', xs[j]? = some v → ExD d H H' → Drw K H' d sc ns → Q v H'
theorem ok_law_pick (T : Env K mg) : FnOk P w K mg base CX0 3 T.d_law_pick.f T.d_law_pick.fd ["draw", "items"] (sp_law_pick T) := by
  have G_law_take := ok_law_take (P := P) (w := w) (base := base) T
  refine T.d_law_pick.F.ok sc_law_pick (fun vs H Q E h => ?_) (fun cdv A outer s H vs Q E hr h => ?_)
  · obtain ⟨d, a, xs, sc, ns, rfl, hd, hx, hx0, q⟩ := h
    rfl
  · obtain ⟨d, a, xs, sc, ns, rfl, hd, hx, hx0, q⟩ := h
    have hr_law_take : Room 2 _ := hr.mono (by decide)
    refine ⟨_, pss_one (ps_ret (pe_ix ix_seq (pv 1) (pe_call G_law_take hr_law_take (by rfl) T.d_law_take.m T.d_law_take.k T.d_law_take.b .nil pass0 (pa_cons (pv 0) (pa_cons (pe_callB call_len_seq (by rfl) T.n_len PySem.boot_len (pa_cons (pv 1) pa_nil)) pa_nil))) (fun _ _ => rfl))), ?_⟩
    have hlen : 0 < xs.length := List.length_pos_iff.mpr hx0
    refine ⟨_, rfl, _, rfl, _, rfl, a, xs, rfl, hx.elim (fun z => .inl z.1) .inr, d, ((xs.length : Nat) : Int), sc, ns, rfl, hd, by omega, fun r H' h0 h1 e1 d1 => ?_⟩
    obtain ⟨j, rfl⟩ : ∃ j : Nat, r = (j : Int) := ⟨_, (Int.toNat_of_nonneg h0).symm⟩
    have hj : j < xs.length := by omega
    have g := List.getElem?_eq_getElem hj
    rcases hx with ⟨hx, hne⟩ | hx
    · exact .inl ⟨a, xs, _, _, rfl, rfl, exd_l e1 hne hx, atI_nat g, q j _ H' g e1 d1⟩
    · exact .inr (.inl ⟨a, xs, _, _, rfl, rfl, e1.tup hd.lst hx, atI_nat g, q j _ H' g e1 d1⟩)
end
end My


-- L0
namespace My
open PySem L2 Evl
theorem hu65 {k : Nat} {A : Around} (r : Room k A) : A.units + 65 < cLine := by
  have := r.un
  omega
theorem ExD.p3 {K : PySem.W.Frag} {H H' : Hp} {d : Addr} (e : ExD d H H') (hd : ∃ ys, H d = some (.lst ys)) {v : V} {a : P3} (h : Rep K H v a) : Rep K H' v a := by
  obtain ⟨p, rfl, hp⟩ := h.p3_inv
  exact Rep.p3 (e.tup hd hp)
theorem ExD.all3 {K : PySem.W.Frag} {H H' : Hp} {d : Addr} (e : ExD d H H') (hd : ∃ ys, H d = some (.lst ys)) : ∀ {vs : List V} {as : List P3}, RAll K H vs as → RAll K H' vs as
  | _, _, .nil => .nil
  | _, _, .cons h t => .cons (e.p3 hd h) (e.all3 hd t)
theorem ExD.ins {H H' : Hp} {d : Addr} (e : ExD d H H') (hd : ∃ ys, H d = some (.lst ys)) {a C dx : Addr} {fs : List (Str × V)} (h : H a = some (.ins C dx fs)) : H' a = some (.ins C dx fs) := by
  obtain ⟨ys, hd⟩ := hd
  exact e _ _ (ne_of h hd (fun z => by cases z)) h
section
variable {P : Program} {w : World} {K : PySem.W.Frag} {mg : Str → Option Value} {base : Heap}
theorem GroundAt.exd {T : Env K mg} {H H' : Hp} {p d : Addr} {cs : List P3} (e : ExD d H H') (hd : ∃ ys, H d = some (.lst ys)) (h : GroundAt T H p cs) : GroundAt T H' p cs := by
  obtain ⟨dx, t, h1, h2⟩ := h
  obtain ⟨_, xs, e0, h3, h4⟩ := h2.tp_inv
  cases e0
  exact ⟨dx, t, e.ins hd h1, Rep.tp (e.tup hd h3) (e.all3 hd h4)⟩
theorem CamAt.exd {T : Env K mg} {H H' : Hp} {p d : Addr} {c : Cam} (e : ExD d H H') (hd : ∃ ys, H d = some (.lst ys)) (h : CamAt T H p c) : CamAt T H' p c := by
  obtain ⟨dx, h1⟩ := h
  exact ⟨dx, e.ins hd h1⟩
theorem SkyAt.exd {T : Env K mg} {H H' : Hp} {p d : Addr} {s : SkyD} (e : ExD d H H') (hd : ∃ ys, H d = some (.lst ys)) (h : SkyAt T H p s) : SkyAt T H' p s := by
  obtain ⟨dx, g, c, t, a, h1, h2, h3, h4, h5⟩ := h
  exact ⟨dx, g, c, t, a, e.ins hd h1, h2.exd e hd, h3.exd e hd, e.tup hd h4, e.tup hd h5⟩
end
end My


-- E0
namespace My
open PySem L2 Evl
/-! data and lists of data over a draw -/
mutual
theorem Dp.exd {K : PySem.W.Frag} {H H' : Hp} {d : Addr} (e : ExD d H H') (hd : ∃ ys, H d = some (.lst ys)) : ∀ {v : V} {x : PyData}, tOnly x = true → Dp K H v x → Dp K H' v x
  | _, _, _, .non => .non
  | _, _, _, .bl b => .bl b
  | _, _, _, .int i => .int i
  | _, _, _, .str x => .str x
  | _, _, h, .lst _ _ => by simp [tOnly] at h
  | _, _, h, .tup hs t => .tup (e.tup hd hs) (Dp.exdAll e hd (by simpa [tOnly] using h) t)
theorem Dp.exdAll {K : PySem.W.Frag} {H H' : Hp} {d : Addr} (e : ExD d H H') (hd : ∃ ys, H d = some (.lst ys)) : ∀ {vs : List V} {xs : List PyData}, tOnlyAll xs = true → DpAll K H vs xs → DpAll K H' vs xs
  | _, _, _, .nil => .nil
  | _, x :: xs, h, .cons h1 t => by
    have h' : tOnly x = true ∧ tOnlyAll xs = true := by simpa [tOnlyAll] using h
    exact .cons (Dp.exd e hd h'.1 h1) (Dp.exdAll e hd h'.2 t)
end
theorem Rep.exd {α : Type} [Py α] [TOnly α] {K : PySem.W.Frag} {H H' : Hp} {d : Addr} (e : ExD d H H') (hd : ∃ ys, H d = some (.lst ys)) {v : V} {a : α} (h : Rep K H v a) : Rep K H' v a := Dp.exd e hd (TOnly.t a) h
theorem RAll.exd {α : Type} [Py α] [TOnly α] {K : PySem.W.Frag} {H H' : Hp} {d : Addr} (e : ExD d H H') (hd : ∃ ys, H d = some (.lst ys)) : ∀ {vs : List V} {as : List α}, RAll K H vs as → RAll K H' vs as
  | _, _, .nil => .nil
  | _, _, .cons h t => .cons (h.exd e hd) (RAll.exd e hd t)
end My


-- Lg
namespace My
open PySem L2 Evl
/-- a comprehension with an invariant of its own (a draw, a chart) -/
theorem lc_gen2 {α β : Type} [Py β] [TOnly β] {K : PySem.W.Frag} {J : It} {n : Nat} {G : Hp → Prop} {Y : Nat → Hp → V → Hp → Prop} (w : Walk J n G Y) {g : TG} {tt : TT} {te : TE} {vs : List Nat} {σ : L2.St} {H1 : Hp} {D : Addr} {Qd : Hp → Prop} (hD : H1 D = none) (σw : L2.St) (hw : wipe σ vs = σw)
    {R : Hp → Hp → Prop} (rel : Rel R) (hRD : ∀ {H H' ys}, R H H' → H D = some (.lst ys) → H' D = some (.lst ys)) (hRR : ∀ {H H'} {ys : List V} {bs : List β}, R H H' → RAll K H ys bs → RAll K H' ys bs)
    (I : Nat → Hp → Prop) (hI : ∀ i H o, H1 D = none → I i H → I i (L2.upd H D o)) (hI0 : I 0 H1)
    (hGe : ∀ i H, i ≤ n → R H1 H → I i H → G H) (as : List α) (hl : as.length = n) (hn : n ≤ 100000)
    (Keepd : Nat → α → Bool → Prop) (Val : Nat → α → β → Prop)
    (hs : ∀ i a x Ha Hb, as[i]? = some a → R H1 Ha → I i Ha → (∃ ys, Ha D = some (.lst ys)) → Y i Ha x Hb → ∀ (R0 : Hp → Prop) (Rv : V → Hp → Prop), (∀ H4, R Ha H4 → I (i + 1) H4 → Keepd i a false → R0 H4) → (∀ y b H4, R Ha H4 → I (i + 1) H4 → Keepd i a true → Val i a b → Rep K H4 y b → Rv y H4) →
      g x σw Hb fun σ2 H2 => wipe σ2 vs = σw ∧ tt σ2 H2 fun b H3 => if b = true then te σ2 H3 (fun y H4 => Rv y H4) else R0 H3)
    (Out : Nat → List β → Prop) (hO0 : Out 0 []) (hO1 : ∀ i a bs, as[i]? = some a → Out i bs → Keepd i a false → Out (i + 1) bs) (hO2 : ∀ i a b bs, as[i]? = some a → Out i bs → Keepd i a true → Val i a b → Out (i + 1) (bs ++ [b]))
    (hd : ∀ ys bs H', R H1 H' → I n H' → H' D = some (.lst ys) → RAll K H' ys bs → Out n bs → Qd H') :
    ∃ W : Nat → Nat → Hp → Prop, (∃ m, W 0 m (upd H1 D (.lst []))) ∧ ∀ i m H, W i m H →
      (J.stop i H ∧ Qd H) ∨ (J.go i H ∧ ∃ Nx : Hp → Prop, (∀ H', Nx H' → ∃ m', m' < m ∧ W (i + 1) m' H') ∧ ∀ x H', J.yld i H x H' → g x (wipe σ vs) H' fun σ2 H2 => wipe σ2 vs = wipe σ vs ∧ tt σ2 H2 fun b H3 =>
        if b = true then te σ2 H3 fun y H4 => ∃ acc, H4 D = some (.lst acc) ∧ acc.length < sizeLine ∧ Nx (upd H4 D (.lst (acc ++ [y]))) else Nx H3) := by
  subst hw
  refine lc_it w (fun i H => R H1 H ∧ I i H ∧ ∃ ys bs, H D = some (.lst ys) ∧ ys.length ≤ i ∧ RAll K H ys bs ∧ Out i bs) ⟨rel.chg (rel.refl _) hD, hI _ _ _ hD hI0, [], [], upd_same, Nat.le_refl _, .nil, hO0⟩ (fun i H hi p => hGe i H hi p.1 p.2.1) ?_ ?_
  · rintro i x Ha Hb hi ⟨e, iv, ys, bs, hy, hlen, hr, ho⟩ y
    have hi' : i < as.length := by omega
    have ha := List.getElem?_eq_getElem hi'
    refine hs i as[i] x Ha Hb ha e iv ⟨ys, hy⟩ y _ _ (fun H4 e4 i4 hf => ?_) (fun v b H4 e4 i4 hf hb hv => ?_)
    · exact ⟨rel.trans e e4, i4, ys, bs, hRD e4 hy, by omega, hRR e4 hr, hO1 i _ bs ha ho hf⟩
    · refine ⟨ys, hRD e4 hy, sz_lt (by omega), rel.chg (rel.trans e e4) hD, hI _ _ _ hD i4, ys ++ [v], bs ++ [b], upd_same, by simp; omega, ?_, hO2 i _ b bs ha ho hf hb⟩
      exact RAll.updL (hRD e4 hy) ((hRR e4 hr).snoc hv)
  · rintro H ⟨e, iv, ys, bs, hy, _, hr, ho⟩
    exact hd ys bs H e iv hy hr ho
end My


-- G1
namespace My
open PySem L2 Evl
local macro_rules | `(tactic| walk_at "lk") => `(tactic| (repeat (first | exact lk_eq | exact rfl | refine (lk_ne (by decide +kernel)).trans ?_)))
/-- where a crater is in the camera at a standing -/
def viewF (c s : P3) : P3 := ((turnedF c.1 c.2.1 s.1).1 + s.2.1, (turnedF c.1 c.2.1 s.1).2 + s.2.2, c.2.2)
theorem sf_noPl (g c t a : Addr) : (sf g c t a).lookup ("place" : Str) = none := by unfold sf; walk_at "lk"
theorem sf_noPs (g c t a : Addr) : (sf g c t a).lookup ("places" : Str) = none := by unfold sf; walk_at "lk"
theorem sf_noIs (g c t a : Addr) : (sf g c t a).lookup ("is_standing" : Str) = none := by unfold sf; walk_at "lk"
/-- whether a sky has a standing -/
def standB (d : SkyD) (s : P3) : Bool := decide (s.1 ∈ d.turns) && ((decide (d.area.1 ≤ s.2.1) && decide (s.2.1 ≤ d.area.2.1)) && (decide (d.area.2.2.1 ≤ s.2.2) && decide (s.2.2 ≤ d.area.2.2.2)))
theorem inV_int {n : Int} {xs : List Int} : inV (.int n) (xs.map V.int) = decide (n ∈ xs) := by
  induction xs with
  | nil => rfl
  | cons x xs ih =>
    show (eqV (.int x) (.int n) || inV (.int n) (xs.map V.int)) = _
    rw [ih]
    show ((x == n) || _) = _
    by_cases h : n = x
    · subst h
      simp
    · have : (x == n) = false := by simpa using fun z => h z.symm
      rw [this]
      simp [h]
theorem ints_flat (xs : List Int) : (xs.map V.int).all flatV = true := by
  induction xs with
  | nil => rfl
  | cons x xs ih => simpa [flatV] using ih
section
variable {P : Program} {w : World} {K : PySem.W.Frag} {mg : Str → Option Value} {base : Heap}
def sp_Sky_place {K : PySem.W.Frag} {mg : Str → Option Value} (T : Env K mg) : Sp := fun vs H Q _ => ∃ (p c t : Addr) (a s : P3), vs = [.ref p, .ref c, .ref t] ∧ Rep K H (.ref c) a ∧ Rep K H (.ref t) s ∧ ∀ v H', Ex H H' → Rep K H' v (viewF a s) → Q v H'
theorem ok_Sky_place (T : Env K mg) : FnOk P w K mg base CX0 2 T.m_Sky_place.f T.m_Sky_place.fd ["self", "crater", "standing"] (sp_Sky_place T) := by
  have G_turned := ok_turned (P := P) (w := w) (base := base) T
  refine T.m_Sky_place.F.ok sc_Sky_place (fun vs H Q E h => ?_) (fun cdv A outer s H vs Q E hr h => ?_)
  · obtain ⟨p, c, t, a, s0, rfl, hc, ht, q⟩ := h
    rfl
  · obtain ⟨p, c, t, a, s0, rfl, hc, ht, q⟩ := h
    have hr_turned : Room 1 _ := hr.mono (by decide)
    refine ⟨_, pss_cons (ps_asg (pv 2) (pg_tup (by rfl) (pgs_cons (pg_name (i := 3) sc_Sky_place.nd rfl (.inl rfl)) (pgs_cons (pg_name (i := 4) sc_Sky_place.nd rfl (.inl rfl)) (pgs_cons (pg_name (i := 5) sc_Sky_place.nd rfl (.inl rfl)) pgs_nil)))))
      (pss_cons (ps_asg (pe_call G_turned hr_turned (by rfl) T.d_turned.m T.d_turned.k T.d_turned.b .nil pass0 (pa_cons (pe_ix ix_tup (pv 1) pe_int (fun _ _ => rfl)) (pa_cons (pe_ix ix_tup (pv 1) pe_int (fun _ _ => rfl)) (pa_cons (pv 3) pa_nil)))) (pg_tup (by rfl) (pgs_cons (pg_name (i := 6) sc_Sky_place.nd rfl (.inl rfl)) (pgs_cons (pg_name (i := 7) sc_Sky_place.nd rfl (.inl rfl)) pgs_nil))))
      (pss_one (ps_ret (pe_tup (pa_cons (pe_op op_add (pv 6) (pv 4)) (pa_cons (pe_op op_add (pv 7) (pv 5)) (pa_cons (pe_ix ix_tup (pv 1) pe_int (fun _ _ => rfl)) pa_nil))))))), ?_⟩
    obtain ⟨_, e0, hc1⟩ := hc.p3_inv
    cases e0
    obtain ⟨_, e0, ht1⟩ := ht.p3_inv
    cases e0
    refine ⟨_, rfl, t, _, rfl, ht1, rfl, _, _, rfl, _, _, rfl, _, _, rfl, rfl, ?_⟩
    refine ⟨_, rfl, c, _, 0, _, rfl, rfl, hc1, rfl, _, rfl, c, _, 1, _, rfl, rfl, hc1, rfl, _, rfl, a.1, a.2.1, s0.1, rfl, fun z H1 hz e1 h1 => ?_⟩
    refine ⟨z, _, rfl, st_of h1, rfl, _, _, rfl, _, _, rfl, rfl, ?_⟩
    exact ⟨_, rfl, _, rfl, _, _, rfl, rfl, _, rfl, _, rfl, _, _, rfl, rfl, _, rfl, c, _, 2, _, rfl, rfl, ex_t e1 hc1, rfl, by show 3 ≤ sizeLine; decide, fun u hu => q _ _ (e1.trans (Ex.new hu)) (Rep.p3 (st_of upd_same))⟩
def sp_Sky_places {K : PySem.W.Frag} {mg : Str → Option Value} (T : Env K mg) : Sp := fun vs H Q _ => ∃ (p t : Addr) (d : SkyD) (s : P3), vs = [.ref p, .ref t] ∧ SkyAt T H p d ∧ d.cs.length ≤ 100 ∧ Rep K H (.ref t) s ∧ ∀ v H', Ex H H' → NewL K H H' v (d.cs.map fun c => viewF c s) → Q v H'
theorem ok_Sky_places (T : Env K mg) : FnOk P w K mg base CX0 3 T.m_Sky_places.f T.m_Sky_places.fd ["self", "standing"] (sp_Sky_places T) := by
  have G_Sky_place := ok_Sky_place (P := P) (w := w) (base := base) T
  refine T.m_Sky_places.F.ok sc_Sky_places (fun vs H Q E h => ?_) (fun cdv A outer s H vs Q E hr h => ?_)
  · obtain ⟨p, t, d, s0, rfl, hp, hlen, ht, q⟩ := h
    rfl
  · obtain ⟨p, t, d, s0, rfl, hp, hlen, ht, q⟩ := h
    have hr_Sky_place : Room 2 _ := hr.mono (by decide)
    refine ⟨_, pss_one (ps_ret (pe_lc (own := [("crater", 2)]) (g := gName 2) rfl sc_Sky_places.nd (pi_tup (pe_fld (pe_fld (pv 0) rfl) rfl)) (blkOk_by (N := ["self", "standing", "crater"]) (sc := defScope s_Sky_places) (by decide +kernel)) (fun _ _ _ _ _ => (pg_name (i := 2) sc_Sky_places.nd rfl (.inl rfl))) (fun _ _ _ _ _ => pts_nil) (fun _ _ _ _ _ => (pe_meth (pv 0) T.C_Sky.cl T.m_Sky_place.me G_Sky_place hr_Sky_place T.m_Sky_place.b .nil pass0 (pa_cons (pv 2) (pa_cons (pv 1) pa_nil)))))), ?_⟩
    obtain ⟨dx, g, c, tu, ar, h1, ⟨dy, cr, h2, h3⟩, _⟩ := hp
    obtain ⟨_, xs, e0, hcr, ra⟩ := h3.tp_inv
    cases e0
    refine ⟨_, rfl, p, T.C_Sky.C, dx, _, _, rfl, h1, T.C_Sky.cl, T.a_Sky_ground, sf_g _ _ _ _, g, T.C_Ground.C, dy, _, _, rfl, h2, T.C_Ground.cl, T.a_Ground_craters, lk_eq, cr, rfl, ⟨_, hcr⟩, fun D hD => ?_⟩
    refine lc_rep (K := K) walk_tup hD [some (.ref p), some (.ref t), none] rfl (fun _ _ e h => ex_t e h) hcr d.cs (fun _ => true) (fun c => viewF c s0) ra.length.symm (by rw [ra.length]; omega) (fun i a x Ha Hb hi e y R0 R _ hR => ?_) (fun ys H1 e1 hL rL => ?_)
    · obtain ⟨rfl, hx⟩ := y
      obtain ⟨a', ha', rx⟩ := (ra.ex e).get hx
      rw [hi] at ha'
      obtain rfl := Option.some.inj ha'
      obtain ⟨u, rfl, hu1⟩ := rx.p3_inv
      refine ⟨rfl, _, rfl, p, dx, _, rfl, e _ _ h1, sf_noPl _ _ _ _, _, rfl, _, rfl, p, u, t, a, s0, rfl, rx, ht.ex e, fun v H4 e4 hv => hR v H4 e4 rfl hv⟩
    · rw [filter_true] at rL
      exact q _ _ e1 ⟨D, ys, rfl, hD, hL, rL⟩
def sp_Sky_is_standing {K : PySem.W.Frag} {mg : Str → Option Value} (T : Env K mg) : Sp := fun vs H Q _ => ∃ (p t : Addr) (d : SkyD) (s : P3), vs = [.ref p, .ref t] ∧ SkyAt T H p d ∧ Rep K H (.ref t) s ∧ ∀ H', Ex H H' → Q (.bl (standB d s)) H'
theorem ok_Sky_is_standing (T : Env K mg) : FnOk P w K mg base CX0 3 T.m_Sky_is_standing.f T.m_Sky_is_standing.fd ["self", "thing"] (sp_Sky_is_standing T) := by
  have G_is_triple := ok_is_triple (P := P) (w := w) (base := base) T
  refine T.m_Sky_is_standing.F.ok sc_Sky_is_standing (fun vs H Q E h => ?_) (fun cdv A outer s H vs Q E hr h => ?_)
  · obtain ⟨p, t, d, s0, rfl, hp, ht, q⟩ := h
    rfl
  · obtain ⟨p, t, d, s0, rfl, hp, ht, q⟩ := h
    have hr_is_triple : Room 2 _ := hr.mono (by decide)
    refine ⟨_, pss_cons (ps_if (pt_not (pt_val (pe_call G_is_triple hr_is_triple (by rfl) T.d_is_triple.m T.d_is_triple.k T.d_is_triple.b .nil pass0 (pa_cons (pv 1) pa_nil)))) (pss_one (ps_ret pe_bl)) pss_nil)
      (pss_cons (ps_asg (pv 1) (pg_tup (by rfl) (pgs_cons (pg_name (i := 2) sc_Sky_is_standing.nd rfl (.inl rfl)) (pgs_cons (pg_name (i := 3) sc_Sky_is_standing.nd rfl (.inl rfl)) (pgs_cons (pg_name (i := 4) sc_Sky_is_standing.nd rfl (.inl rfl)) pgs_nil)))))
      (pss_cons (ps_asg (pe_fld (pv 0) rfl) (pg_tup (by rfl) (pgs_cons (pg_name (i := 5) sc_Sky_is_standing.nd rfl (.inl rfl)) (pgs_cons (pg_name (i := 6) sc_Sky_is_standing.nd rfl (.inl rfl)) (pgs_cons (pg_name (i := 7) sc_Sky_is_standing.nd rfl (.inl rfl)) (pgs_cons (pg_name (i := 8) sc_Sky_is_standing.nd rfl (.inl rfl)) pgs_nil))))))
      (pss_one (ps_ret (pe_and (pe_cmpR op_in_seq (pv 2) (pe_fld (pv 0) rfl) (by rfl)) (pe_and (pe_chain op_le op_le (pv 5) (pv 3) (pv 6)) (pe_one (pe_chain op_le op_le (pv 7) (pv 4) (pv 8))))))))), ?_⟩
    obtain ⟨_, e0, ht1⟩ := ht.p3_inv
    cases e0
    refine ⟨_, rfl, t, s0.1, s0.2.1, s0.2.2, rfl, ht1, fun H1 e1 => ⟨true, rfl, iteF ?_⟩⟩
    obtain ⟨dx, g, c, tu, ar, h1, h2, h3, h4, h5⟩ := hp.ex e1
    have ht2 := ex_t e1 ht1
    refine ⟨_, rfl, t, _, rfl, ht2, rfl, _, _, rfl, _, _, rfl, _, _, rfl, rfl, ?_⟩
    refine ⟨_, rfl, p, T.C_Sky.C, dx, _, _, rfl, h1, T.C_Sky.cl, T.a_Sky_area, sf_a _ _ _ _, ar, _, rfl, h5, rfl, _, _, rfl, _, _, rfl, _, _, rfl, _, _, rfl, rfl, ?_⟩
    have q1 := q H1 e1
    unfold standB at q1
    refine ⟨_, rfl, _, rfl, p, T.C_Sky.C, dx, _, _, rfl, h1, T.C_Sky.cl, T.a_Sky_turns, sf_t _ _ _ _, tu, _, rfl, .inr h4, rfl, ints_flat _, _, rfl, ?_⟩
    show if inV (.int s0.1) (d.turns.map V.int) = true then _ else _
    rw [inV_int]
    refine ite2 (fun z1 => ?_) (fun z1 => ?_)
    · rw [z1, Bool.true_and] at q1
      refine ⟨_, rfl, _, rfl, _, _, rfl, rfl, _, rfl, ?_⟩
      by_cases z2 : d.area.1 ≤ s0.2.1
      · rw [decide_eq_true z2] at q1 ⊢
        rw [Bool.true_and] at q1
        refine iteT ?_
        refine ⟨_, rfl, _, _, rfl, rfl, _, rfl, ?_⟩
        by_cases z3 : s0.2.1 ≤ d.area.2.1
        · rw [decide_eq_true z3] at q1 ⊢
          rw [Bool.true_and] at q1
          refine iteT ?_
          refine ⟨_, rfl, _, rfl, _, _, rfl, rfl, _, rfl, ?_⟩
          by_cases z4 : d.area.2.2.1 ≤ s0.2.2
          · rw [decide_eq_true z4] at q1 ⊢
            rw [Bool.true_and] at q1
            exact iteT ⟨_, rfl, _, _, rfl, rfl, q1⟩
          · rw [decide_eq_false z4] at q1 ⊢
            exact iteF q1
        · rw [decide_eq_false z3] at q1 ⊢
          exact iteF q1
      · rw [decide_eq_false z2] at q1 ⊢
        exact iteF ⟨_, rfl, iteF q1⟩
    · have z1 : decide (s0.1 ∈ d.turns) = false := by simpa using z1
      rw [z1] at q1
      exact q1
end
end My


-- G2
namespace My
open PySem L2 Evl
local macro_rules | `(tactic| walk_at "lk") => `(tactic| (repeat (first | exact lk_eq | exact rfl | refine (lk_ne (by decide +kernel)).trans ?_)))
theorem crf_noO (a f : Addr) (r : Int) (d : Addr) : (crf a f r d).lookup ("is_over" : Str) = none := by unfold crf; walk_at "lk"
theorem crf_noS (a f : Addr) (r : Int) (d : Addr) : (crf a f r d).lookup ("is_safe" : Str) = none := by unfold crf; walk_at "lk"
theorem crf_noB (a f : Addr) (r : Int) (d : Addr) : (crf a f r d).lookup ("cell_below" : Str) = none := by unfold crf; walk_at "lk"
theorem crf_noT (a f : Addr) (r : Int) (d : Addr) : (crf a f r d).lookup ("stepped" : Str) = none := by unfold crf; walk_at "lk"
theorem crf_noW (a f : Addr) (r : Int) (d : Addr) : (crf a f r d).lookup ("swung" : Str) = none := by unfold crf; walk_at "lk"
/-- the standing behind a step; behind a turn about the foot; the place below the foot -/
def stepF (s : P3) (q : PR) : P3 := (s.1, s.2.1 - q.1, s.2.2 - q.2)
def swungF (foot : PR) (s : P3) (n : Int) : P3 := (Builtin.bitAnd (s.1 + n) 3, foot.1 + (turnedF (s.2.1 - foot.1) (s.2.2 - foot.2) n).1, foot.2 + (turnedF (s.2.1 - foot.1) (s.2.2 - foot.2) n).2)
def belowF (foot : PR) (s : P3) : PR := turnedF (foot.1 - s.2.1) (foot.2 - s.2.2) (Builtin.bitAnd (-s.1) 3)
section
variable {P : Program} {w : World} {K : PySem.W.Frag} {mg : Str → Option Value} {base : Heap}
def sp_Craft_is_over {K : PySem.W.Frag} {mg : Str → Option Value} (T : Env K mg) : Sp := fun vs H Q _ => ∃ (p t k : Addr) (as : List Addr) (foot : PR) (r : Int) (ds : List Addr) (d : SkyD) (s : P3), vs = [.ref p, .ref t] ∧ CraftAt T H p (k :: as) foot r ds ∧ SkyAt T H k d ∧ Rep K H (.ref t) s ∧ ∀ H', Ex H H' → Q (.bl (standB d s)) H'
theorem ok_Craft_is_over (T : Env K mg) : FnOk P w K mg base CX0 4 T.m_Craft_is_over.f T.m_Craft_is_over.fd ["self", "standing"] (sp_Craft_is_over T) := by
  have G_Sky_is_standing := ok_Sky_is_standing (P := P) (w := w) (base := base) T
  refine T.m_Craft_is_over.F.ok sc_Craft_is_over (fun vs H Q E h => ?_) (fun cdv A outer s H vs Q E hr h => ?_)
  · obtain ⟨p, t, k, as, foot, r, ds, d, s0, rfl, ⟨dx, a, f, dd, h1, h2, h3, h4⟩, hk, ht, q⟩ := h
    rfl
  · obtain ⟨p, t, k, as, foot, r, ds, d, s0, rfl, ⟨dx, a, f, dd, h1, h2, h3, h4⟩, hk, ht, q⟩ := h
    have hr_Sky_is_standing : Room 3 _ := hr.mono (by decide)
    refine ⟨_, pss_one (ps_ret (pe_meth (pe_ix ix_tup (pe_fld (pv 0) rfl) pe_int (fun _ _ => rfl)) T.C_Sky.cl T.m_Sky_is_standing.me G_Sky_is_standing hr_Sky_is_standing T.m_Sky_is_standing.b .nil pass0 (pa_cons (pv 1) pa_nil))), ?_⟩
    obtain ⟨dk, g, c, tu, ar, k1, _⟩ := id hk
    exact ⟨_, rfl, p, T.C_Craft.C, dx, _, _, rfl, h1, T.C_Craft.cl, T.a_Craft_skies, crf_s _ _ _ _, a, _, 0, V.ref k, rfl, rfl, h2, at_of (j := 0) rfl rfl, k, dk, _, rfl, k1, sf_noIs _ _ _ _, _, rfl, k, t, d, s0, rfl, hk, ht, q⟩
def sp_Craft_stepped {K : PySem.W.Frag} {mg : Str → Option Value} (T : Env K mg) : Sp := fun vs H Q _ => ∃ (p t u : Addr) (s : P3) (o : PR), vs = [.ref p, .ref t, .ref u] ∧ Rep K H (.ref t) s ∧ Rep K H (.ref u) o ∧ ∀ v H', Ex H H' → Rep K H' v (stepF s o) → Q v H'
theorem ok_Craft_stepped (T : Env K mg) : FnOk P w K mg base CX0 1 T.m_Craft_stepped.f T.m_Craft_stepped.fd ["self", "standing", "shift"] (sp_Craft_stepped T) := by
  refine T.m_Craft_stepped.F.ok sc_Craft_stepped (fun vs H Q E h => ?_) (fun cdv A outer s H vs Q E hr h => ?_)
  · obtain ⟨p, t, u, s0, o, rfl, ht, hu, q⟩ := h
    rfl
  · obtain ⟨p, t, u, s0, o, rfl, ht, hu, q⟩ := h
    refine ⟨_, pss_cons (ps_asg (pv 1) (pg_tup (by rfl) (pgs_cons (pg_name (i := 3) sc_Craft_stepped.nd rfl (.inl rfl)) (pgs_cons (pg_name (i := 4) sc_Craft_stepped.nd rfl (.inl rfl)) (pgs_cons (pg_name (i := 5) sc_Craft_stepped.nd rfl (.inl rfl)) pgs_nil)))))
      (pss_one (ps_ret (pe_tup (pa_cons (pv 3) (pa_cons (pe_op op_sub (pv 4) (pe_ix ix_tup (pv 2) pe_int (fun _ _ => rfl))) (pa_cons (pe_op op_sub (pv 5) (pe_ix ix_tup (pv 2) pe_int (fun _ _ => rfl))) pa_nil)))))), ?_⟩
    obtain ⟨_, e0, ht1⟩ := ht.p3_inv
    cases e0
    obtain ⟨_, e0, hu1⟩ := hu.p2_inv
    cases e0
    refine ⟨_, rfl, t, _, rfl, ht1, rfl, _, _, rfl, _, _, rfl, _, _, rfl, rfl, ?_⟩
    exact ⟨_, rfl, _, rfl, _, rfl, u, _, 0, _, rfl, rfl, hu1, rfl, _, _, rfl, rfl, _, rfl, _, rfl, u, _, 1, _, rfl, rfl, hu1, rfl, _, _, rfl, rfl, by show 3 ≤ sizeLine; decide, fun z hz => q _ _ (Ex.new hz) (Rep.p3 (st_of upd_same))⟩
def sp_Craft_swung {K : PySem.W.Frag} {mg : Str → Option Value} (T : Env K mg) : Sp := fun vs H Q _ => ∃ (p t : Addr) (as : List Addr) (foot : PR) (r : Int) (ds : List Addr) (s : P3) (n : Int), vs = [.ref p, .ref t, .int n] ∧ CraftAt T H p as foot r ds ∧ Rep K H (.ref t) s ∧ ∀ v H', Ex H H' → Rep K H' v (swungF foot s n) → Q v H'
theorem ok_Craft_swung (T : Env K mg) : FnOk P w K mg base CX0 2 T.m_Craft_swung.f T.m_Craft_swung.fd ["self", "standing", "quarters"] (sp_Craft_swung T) := by
  have G_turned := ok_turned (P := P) (w := w) (base := base) T
  refine T.m_Craft_swung.F.ok sc_Craft_swung (fun vs H Q E h => ?_) (fun cdv A outer s H vs Q E hr h => ?_)
  · obtain ⟨p, t, as, foot, r, ds, s0, n, rfl, ⟨dx, a, f, dd, h1, h2, h3, h4⟩, ht, q⟩ := h
    rfl
  · obtain ⟨p, t, as, foot, r, ds, s0, n, rfl, ⟨dx, a, f, dd, h1, h2, h3, h4⟩, ht, q⟩ := h
    have hr_turned : Room 1 _ := hr.mono (by decide)
    refine ⟨_, pss_cons (ps_asg (pe_fld (pv 0) rfl) (pg_tup (by rfl) (pgs_cons (pg_name (i := 3) sc_Craft_swung.nd rfl (.inl rfl)) (pgs_cons (pg_name (i := 4) sc_Craft_swung.nd rfl (.inl rfl)) pgs_nil))))
      (pss_cons (ps_asg (pe_call G_turned hr_turned (by rfl) T.d_turned.m T.d_turned.k T.d_turned.b .nil pass0 (pa_cons (pe_op op_sub (pe_ix ix_tup (pv 1) pe_int (fun _ _ => rfl)) (pv 3)) (pa_cons (pe_op op_sub (pe_ix ix_tup (pv 1) pe_int (fun _ _ => rfl)) (pv 4)) (pa_cons (pv 2) pa_nil)))) (pg_tup (by rfl) (pgs_cons (pg_name (i := 5) sc_Craft_swung.nd rfl (.inl rfl)) (pgs_cons (pg_name (i := 6) sc_Craft_swung.nd rfl (.inl rfl)) pgs_nil))))
      (pss_one (ps_ret (pe_tup (pa_cons (pe_op op_and (pe_op op_add (pe_ix ix_tup (pv 1) pe_int (fun _ _ => rfl)) (pv 2)) pe_int) (pa_cons (pe_op op_add (pv 3) (pv 5)) (pa_cons (pe_op op_add (pv 4) (pv 6)) pa_nil))))))), ?_⟩
    obtain ⟨_, e0, ht1⟩ := ht.p3_inv
    cases e0
    obtain ⟨_, e0, hf1⟩ := h3.p2_inv
    cases e0
    refine ⟨_, rfl, p, T.C_Craft.C, dx, _, _, rfl, h1, T.C_Craft.cl, T.a_Craft_foot, crf_f _ _ _ _, f, _, rfl, hf1, rfl, _, _, rfl, _, _, rfl, rfl, ?_⟩
    refine ⟨_, rfl, t, _, 1, _, rfl, rfl, ht1, rfl, _, rfl, _, _, rfl, rfl, _, rfl, t, _, 2, _, rfl, rfl, ht1, rfl, _, rfl, _, _, rfl, rfl, _, rfl, s0.2.1 - foot.1, s0.2.2 - foot.2, n, rfl, fun z H1 hz e1 h1 => ?_⟩
    refine ⟨z, _, rfl, st_of h1, rfl, _, _, rfl, _, _, rfl, rfl, ?_⟩
    exact ⟨_, rfl, t, _, 0, _, rfl, rfl, ex_t e1 ht1, rfl, _, rfl, _, _, rfl, rfl, _, _, rfl, rfl, _, rfl, _, rfl, _, _, rfl, rfl, _, rfl, _, rfl, _, _, rfl, rfl, by show 3 ≤ sizeLine; decide, fun z2 hz2 => q _ _ (e1.trans (Ex.new hz2)) (Rep.p3 (st_of upd_same))⟩
def sp_Craft_cell_below {K : PySem.W.Frag} {mg : Str → Option Value} (T : Env K mg) : Sp := fun vs H Q _ => ∃ (p t : Addr) (as : List Addr) (foot : PR) (r : Int) (ds : List Addr) (s : P3), vs = [.ref p, .ref t] ∧ CraftAt T H p as foot r ds ∧ Rep K H (.ref t) s ∧ ∀ v H', Ex H H' → Rep K H' v (belowF foot s) → Q v H'
theorem ok_Craft_cell_below (T : Env K mg) : FnOk P w K mg base CX0 2 T.m_Craft_cell_below.f T.m_Craft_cell_below.fd ["self", "standing"] (sp_Craft_cell_below T) := by
  have G_turned := ok_turned (P := P) (w := w) (base := base) T
  refine T.m_Craft_cell_below.F.ok sc_Craft_cell_below (fun vs H Q E h => ?_) (fun cdv A outer s H vs Q E hr h => ?_)
  · obtain ⟨p, t, as, foot, r, ds, s0, rfl, ⟨dx, a, f, dd, h1, h2, h3, h4⟩, ht, q⟩ := h
    rfl
  · obtain ⟨p, t, as, foot, r, ds, s0, rfl, ⟨dx, a, f, dd, h1, h2, h3, h4⟩, ht, q⟩ := h
    have hr_turned : Room 1 _ := hr.mono (by decide)
    refine ⟨_, pss_cons (ps_asg (pv 1) (pg_tup (by rfl) (pgs_cons (pg_name (i := 2) sc_Craft_cell_below.nd rfl (.inl rfl)) (pgs_cons (pg_name (i := 3) sc_Craft_cell_below.nd rfl (.inl rfl)) (pgs_cons (pg_name (i := 4) sc_Craft_cell_below.nd rfl (.inl rfl)) pgs_nil)))))
      (pss_one (ps_ret (pe_call G_turned hr_turned (by rfl) T.d_turned.m T.d_turned.k T.d_turned.b .nil pass0 (pa_cons (pe_op op_sub (pe_ix ix_tup (pe_fld (pv 0) rfl) pe_int (fun _ _ => rfl)) (pv 3)) (pa_cons (pe_op op_sub (pe_ix ix_tup (pe_fld (pv 0) rfl) pe_int (fun _ _ => rfl)) (pv 4)) (pa_cons (pe_op op_and (pe_un un_neg (pv 2)) pe_int) pa_nil)))))), ?_⟩
    obtain ⟨_, e0, ht1⟩ := ht.p3_inv
    cases e0
    obtain ⟨_, e0, hf1⟩ := h3.p2_inv
    cases e0
    refine ⟨_, rfl, t, _, rfl, ht1, rfl, _, _, rfl, _, _, rfl, _, _, rfl, rfl, ?_⟩
    refine ⟨_, rfl, p, T.C_Craft.C, dx, _, _, rfl, h1, T.C_Craft.cl, T.a_Craft_foot, crf_f _ _ _ _, f, _, 0, _, rfl, rfl, hf1, rfl, _, rfl, _, _, rfl, rfl, ?_⟩
    refine ⟨_, rfl, p, T.C_Craft.C, dx, _, _, rfl, h1, T.C_Craft.cl, T.a_Craft_foot, crf_f _ _ _ _, f, _, 1, _, rfl, rfl, hf1, rfl, _, rfl, _, _, rfl, rfl, ?_⟩
    exact ⟨_, rfl, _, rfl, _, _, rfl, rfl, foot.1 - s0.2.1, foot.2 - s0.2.2, Builtin.bitAnd (-s0.1) 3, rfl, fun z H1 hz e1 h1 => q _ _ e1 (Rep.p2 (st_of h1))⟩
end
end My


-- G3
namespace My
open PySem L2 Evl
def absF (i : Int) : Int := if i < 0 then -i else i
def maxF (i j : Int) : Int := if j > i then j else i
/-- a crater's place too near the foot -/
def hitB (foot : PR) (r : Int) (v : P3) : Bool := decide (maxF (absF (v.1 - foot.1)) (absF (v.2.1 - foot.2)) ≤ v.2.2 + r)
def safeB (cs : List P3) (foot : PR) (r : Int) (s : P3) : Bool := cs.all fun c => !hitB foot r (viewF c s)
theorem ite_bool {b : Bool} {p q : Prop} (h1 : b = true → p) (h2 : b = false → q) : if b = true then p else q := by
  cases b with
  | true => exact iteT (h1 rfl)
  | false => exact iteF (h2 rfl)
theorem all_take {α : Type} {f : α → Bool} : ∀ {as : List α} {i : Nat} {a : α}, as[i]? = some a → (as.take i).all f = true → f a = true → (as.take (i + 1)).all f = true := fun h h1 h2 => by
  rw [take_get h, List.all_append, h1]
  simp [h2]
theorem all_stop {α : Type} {f : α → Bool} {as : List α} {i : Nat} {a : α} (h : as[i]? = some a) (h2 : f a = false) : as.all f = false := by
  cases e : as.all f with
  | false => rfl
  | true =>
    have := List.all_eq_true.mp e a (List.mem_of_getElem? h)
    rw [h2] at this
    cases this
section
variable {P : Program} {w : World} {K : PySem.W.Frag} {mg : Str → Option Value} {base : Heap}
def sp_Craft_is_safe {K : PySem.W.Frag} {mg : Str → Option Value} (T : Env K mg) : Sp := fun vs H Q _ => ∃ (p t k : Addr) (as : List Addr) (foot : PR) (r : Int) (ds : List Addr) (d : SkyD) (s : P3), vs = [.ref p, .ref t] ∧ CraftAt T H p (k :: as) foot r ds ∧ SkyAt T H k d ∧ d.cs.length ≤ 100 ∧ Rep K H (.ref t) s ∧ ∀ H', Ex H H' → Q (.bl (safeB d.cs foot r s)) H'
theorem ok_Craft_is_safe (T : Env K mg) : FnOk P w K mg base CX0 4 T.m_Craft_is_safe.f T.m_Craft_is_safe.fd ["self", "standing"] (sp_Craft_is_safe T) := by
  have G_Sky_places := ok_Sky_places (P := P) (w := w) (base := base) T
  refine T.m_Craft_is_safe.F.ok sc_Craft_is_safe (fun vs H Q E h => ?_) (fun cdv A outer s H vs Q E hr h => ?_)
  · obtain ⟨p, t, k, as, foot, r, ds, d, s0, rfl, hc, hk, hlen, ht, q⟩ := h
    rfl
  · obtain ⟨p, t, k, as, foot, r, ds, d, s0, rfl, hc, hk, hlen, ht, q⟩ := h
    have hr_Sky_places : Room 3 _ := hr.mono (by decide)
    refine ⟨_, pss_cons (ps_asg (pe_fld (pv 0) rfl) (pg_tup (by rfl) (pgs_cons (pg_name (i := 2) sc_Craft_is_safe.nd rfl (.inl rfl)) (pgs_cons (pg_name (i := 3) sc_Craft_is_safe.nd rfl (.inl rfl)) pgs_nil))))
      (pss_cons (ps_for PassesOwn.never rfl (pi_list (pe_meth (pe_ix ix_tup (pe_fld (pv 0) rfl) pe_int (fun _ _ => rfl)) T.C_Sky.cl T.m_Sky_places.me G_Sky_places hr_Sky_places T.m_Sky_places.b .nil pass0 (pa_cons (pv 1) pa_nil))) (pg_tup (by rfl) (pgs_cons (pg_name (i := 4) sc_Craft_is_safe.nd rfl (.inl rfl)) (pgs_cons (pg_name (i := 5) sc_Craft_is_safe.nd rfl (.inl rfl)) (pgs_cons (pg_name (i := 6) sc_Craft_is_safe.nd rfl (.inl rfl)) pgs_nil)))) (pss_one (ps_if (pt_cmpR op_le (pe_callB (call_max2 rfl) (by rfl) T.n_max (by decide +kernel) (pa_cons (pe_callB call_abs (by rfl) T.n_abs (by decide +kernel) (pa_cons (pe_op op_sub (pv 4) (pv 2)) pa_nil)) (pa_cons (pe_callB call_abs (by rfl) T.n_abs (by decide +kernel) (pa_cons (pe_op op_sub (pv 5) (pv 3)) pa_nil)) pa_nil))) (pe_op op_add (pv 6) (pe_fld (pv 0) rfl)) (nomark _)) (pss_one (ps_ret pe_bl)) pss_nil)))
      (pss_one (ps_ret pe_bl))), ?_⟩
    obtain ⟨dx, a, f, dd, h1, h2, h3, h4⟩ := id hc
    obtain ⟨_, e0, hf1⟩ := h3.p2_inv
    cases e0
    obtain ⟨dk, g, c, tu, ar, k1, _⟩ := id hk
    refine ⟨_, rfl, p, T.C_Craft.C, dx, _, _, rfl, h1, T.C_Craft.cl, T.a_Craft_foot, crf_f _ _ _ _, f, _, rfl, hf1, rfl, _, _, rfl, _, _, rfl, rfl, ?_⟩
    refine ⟨_, rfl, p, T.C_Craft.C, dx, _, _, rfl, h1, T.C_Craft.cl, T.a_Craft_skies, crf_s _ _ _ _, a, _, 0, V.ref k, rfl, rfl, h2, at_of (j := 0) rfl rfl, k, dk, _, rfl, k1, sf_noPs _ _ _ _, _, rfl, k, t, d, s0, rfl, hk, hlen, ht, fun v H1 e1 hv => ?_⟩
    obtain ⟨l, ys, rfl, hl0, hl, rl⟩ := hv
    refine ⟨l, rfl, ⟨_, sq_of hl⟩, ?_⟩
    refine for_it (walk_list (K := K) (xs := ys)) (fun i σ' H' => ∃ v4 v5 v6, σ' = [some (.ref p), some (.ref t), some (.int foot.1), some (.int foot.2), v4, v5, v6] ∧ Ex H1 H' ∧ ((d.cs.map fun c => viewF c s0).take i).all (fun v => !hitB foot r v) = true)
      ⟨none, none, none, rfl, Ex.refl _, by simp⟩ (fun i σ' H' _ ⟨_, _, _, _, e, _⟩ => ex_l e (sq_of hl)) ?_ ?_
    · rintro i x σ' Ha Hb hi ⟨v4, v5, v6, rfl, e, hall⟩ ⟨rfl, hx⟩
      obtain ⟨v, hv, rv⟩ := (rl.ex e).get hx
      obtain ⟨u, rfl, hu⟩ := rv.p3_inv
      have h1' := (e1.trans e) _ _ h1
      refine ⟨u, _, rfl, hu, rfl, _, _, rfl, _, _, rfl, _, _, rfl, rfl, ?_⟩
      refine ⟨_, rfl, _, rfl, _, _, rfl, rfl, _, rfl, _, rfl, _, rfl, _, _, rfl, rfl, _, rfl, _, _, rfl, ?_⟩
      refine ⟨_, rfl, _, rfl, p, T.C_Craft.C, dx, _, _, rfl, h1', T.C_Craft.cl, T.a_Craft_room, crf_r _ _ _ _, _, _, rfl, rfl, _, _, rfl, rfl, _, rfl, ?_⟩
      show if hitB foot r v = true then _ else _
      refine ite_bool (fun hb => ?_) (fun hb => ?_)
      · have e9 : safeB d.cs foot r s0 = false := by
          have := all_stop (f := fun v => !hitB foot r v) hv (by rw [hb]; rfl)
          rw [List.all_map] at this
          exact this
        rw [← e9]
        exact q _ (e1.trans e)
      · exact ⟨_, _, _, rfl, e, all_take hv hall (by rw [hb]; rfl)⟩
    · rintro σ' H2 ⟨v4, v5, v6, rfl, e, hall⟩
      have e9 : safeB d.cs foot r s0 = true := by
        rw [rl.length, List.take_length, List.all_map] at hall
        exact hall
      have q2 := q _ (e1.trans e)
      rw [e9] at q2
      exact q2
def sp_is_end {K : PySem.W.Frag} {mg : Str → Option Value} (T : Env K mg) : Sp := fun vs H Q _ => ∃ (p : Addr) (d : DeedD), vs = [.ref p] ∧ DeedAt T H p d ∧ ∀ H', Ex H H' → Q (.bl (decide (d.kind ∈ [("land" : Str), "away"]))) H'
theorem ok_is_end (T : Env K mg) : FnOk P w K mg base CX0 1 T.d_is_end.f T.d_is_end.fd ["deed"] (sp_is_end T) := by
  refine T.d_is_end.F.ok sc_is_end (fun vs H Q E h => ?_) (fun cdv A outer s H vs Q E hr h => ?_)
  · obtain ⟨p, d, rfl, ⟨dx, v, t, h1, h2, h3⟩, q⟩ := h
    rfl
  · obtain ⟨p, d, rfl, ⟨dx, v, t, h1, h2, h3⟩, q⟩ := h
    refine ⟨_, pss_one (ps_ret (pe_cmpR op_in_seq (pe_fld (pv 0) rfl) (pe_tup (pa_cons pe_str (pa_cons pe_str pa_nil))) (by rfl))), ?_⟩
    refine ⟨_, rfl, p, T.C_Deed.C, dx, _, _, rfl, h1, T.C_Deed.cl, T.a_Deed_kind, df_k _ _ _ _, by show 2 ≤ sizeLine; decide, fun u hu => ?_⟩
    refine ⟨u, ([("land" : Str), "away"]).map V.str, rfl, .inr (st_of upd_same), rfl, strs_flat _, ?_⟩
    show Q (.bl (inV (.str d.kind) (([("land" : Str), "away"]).map V.str))) _
    rw [inV_of]
    exact q _ (Ex.new hu)
/-- whether the craft is whole at an end of a deed of a kind -/
def wholeB (d : SkyD) (foot : PR) (r : Int) (k : Str) (s : P3) : Bool := if k = "land" then safeB d.cs foot r s else standB d s
def sp_is_whole_at {K : PySem.W.Frag} {mg : Str → Option Value} (T : Env K mg) : Sp := fun vs H Q _ => ∃ (p e t k : Addr) (as : List Addr) (foot : PR) (r : Int) (ds : List Addr) (d : SkyD) (x : DeedD) (s : P3), vs = [.ref p, .ref e, .ref t] ∧ CraftAt T H p (k :: as) foot r ds ∧ SkyAt T H k d ∧ d.cs.length ≤ 100 ∧ DeedAt T H e x ∧ Rep K H (.ref t) s ∧ ∀ H', Ex H H' → Q (.bl (wholeB d foot r x.kind s)) H'
theorem ok_is_whole_at (T : Env K mg) : FnOk P w K mg base CX0 5 T.d_is_whole_at.f T.d_is_whole_at.fd ["craft", "deed", "end"] (sp_is_whole_at T) := by
  have G_Craft_is_safe := ok_Craft_is_safe (P := P) (w := w) (base := base) T
  have G_Craft_is_over := ok_Craft_is_over (P := P) (w := w) (base := base) T
  refine T.d_is_whole_at.F.ok sc_is_whole_at (fun vs H Q E h => ?_) (fun cdv A outer s H vs Q E hr h => ?_)
  · obtain ⟨p, e, t, k, as, foot, r, ds, d, x, s0, rfl, hc, hk, hlen, ⟨dx, v, u, h1, h2, h3⟩, ht, q⟩ := h
    rfl
  · obtain ⟨p, e, t, k, as, foot, r, ds, d, x, s0, rfl, hc, hk, hlen, ⟨dx, v, u, h1, h2, h3⟩, ht, q⟩ := h
    have hr_Craft_is_safe : Room 4 _ := hr.mono (by decide)
    have hr_Craft_is_over : Room 4 _ := hr.mono (by decide)
    refine ⟨_, pss_one (ps_ret (pe_ifExp (pt_cmpR op_eq (pe_fld (pv 1) rfl) pe_str (nomark _)) (pe_meth (pv 0) T.C_Craft.cl T.m_Craft_is_safe.me G_Craft_is_safe hr_Craft_is_safe T.m_Craft_is_safe.b .nil pass0 (pa_cons (pv 2) pa_nil)) (pe_meth (pv 0) T.C_Craft.cl T.m_Craft_is_over.me G_Craft_is_over hr_Craft_is_over T.m_Craft_is_over.b .nil pass0 (pa_cons (pv 2) pa_nil)))), ?_⟩
    obtain ⟨dc, a, f, dd, c1, _⟩ := id hc
    refine ⟨_, rfl, e, T.C_Deed.C, dx, _, _, rfl, h1, T.C_Deed.cl, T.a_Deed_kind, df_k _ _ _ _, rfl, _, rfl, ite2 (fun z => ?_) (fun z => ?_)⟩
    · have z := V.str.inj (of_decide_eq_true z)
      unfold wholeB at q
      rw [if_pos z] at q
      exact ⟨_, rfl, p, dc, _, rfl, c1, crf_noS _ _ _ _, _, rfl, p, t, k, as, foot, r, ds, d, s0, rfl, hc, hk, hlen, ht, q⟩
    · have z : ¬ x.kind = "land" := fun y => z (decide_eq_true (by rw [y]))
      unfold wholeB at q
      rw [if_neg z] at q
      exact ⟨_, rfl, p, dc, _, rfl, c1, crf_noO _ _ _ _, _, rfl, p, t, k, as, foot, r, ds, d, s0, rfl, hc, hk, ht, q⟩
end
end My


-- G4
namespace My
open PySem L2 Evl
/-- [F a b for a in as for b in bs a], where the inner row is a list made at each turn -/
theorem lc2_new {α β γ : Type} [Py γ] [TOnly γ] {K : PySem.W.Frag} {J : It} {n : Nat} {G : Hp → Prop} {Y : Nat → Hp → V → Hp → Prop} (w : Walk J n G Y) {g g1 : TG} {tt tt1 : TT} {wi1 : TI} {te : TE} {vs vs1 : List Nat} {σ : L2.St} {H1 : Hp} {D : Addr} {Qd : Hp → Prop} (hD : H1 D = none) (σw : L2.St) (hw : wipe σ vs = σw)
    (hGe : ∀ Ha Hb, Ex Ha Hb → G Ha → G Hb) (hG : G H1) (as : List α) (bs : α → List β) (F : α → β → γ) (hl : as.length = n) (hn : (as.flatMap fun a => (bs a).map (F a)).length ≤ 100000)
    (hs : ∀ i a x Ha Hb, as[i]? = some a → Ex H1 Ha → (∃ ys, Ha D = some (.lst ys)) → Y i Ha x Hb → ∀ (R0 : Hp → Prop) (R : It → L2.St → Hp → Prop),
      (∀ J1 σ2 H4 n1 G1 Y1 σv, wipe σ2 vs1 = σv → Walk J1 n1 G1 Y1 → Ex Ha H4 → (∀ Hc, ExD D H4 Hc → G1 Hc) → (bs a).length = n1 →
        (∀ j b x' Hc Hd, (bs a)[j]? = some b → Ex H1 Hc → ExD D H4 Hc → Y1 j Hc x' Hd → ∀ (R02 : Hp → Prop) (R2 : V → Hp → Prop), (∀ y H7, Ex Hc H7 → Rep K H7 y (F a b) → R2 y H7) →
          g1 x' σv Hd fun σ3 H5 => wipe σ3 vs1 = σv ∧ tt1 σ3 H5 fun b H6 => if b = true then te σ3 H6 (fun y H7 => R2 y H7) else R02 H6) → R J1 σ2 H4) →
      g x σw Hb fun σ2 H2 => wipe σ2 vs = σw ∧ tt σ2 H2 fun b H3 => if b = true then wi1 σ2 H3 (fun J1 H4 => R J1 σ2 H4) else R0 H3)
    (hd : ∀ ys H', Ex H1 H' → H' D = some (.lst ys) → RAll K H' ys (as.flatMap fun a => (bs a).map (F a)) → Qd H') :
    ∃ W : Nat → Nat → Hp → Prop, (∃ m, W 0 m (upd H1 D (.lst []))) ∧ ∀ i m H, W i m H →
      (J.stop i H ∧ Qd H) ∨ (J.go i H ∧ ∃ Nx : Hp → Prop, (∀ H', Nx H' → ∃ m', m' < m ∧ W (i + 1) m' H') ∧ ∀ x H', J.yld i H x H' → g x (wipe σ vs) H' fun σ2 H2 => wipe σ2 vs = wipe σ vs ∧ tt σ2 H2 fun b H3 =>
        if b = true then wi1 σ2 H3 fun J1 H4 => ∃ W1 : Nat → Nat → Hp → Prop, (∃ m, W1 0 m H4) ∧ ∀ j k H, W1 j k H →
          (J1.stop j H ∧ Nx H) ∨ (J1.go j H ∧ ∃ Nx1 : Hp → Prop, (∀ H', Nx1 H' → ∃ k', k' < k ∧ W1 (j + 1) k' H') ∧ ∀ x H', J1.yld j H x H' → g1 x (wipe σ2 vs1) H' fun σ3 H5 => wipe σ3 vs1 = wipe σ2 vs1 ∧ tt1 σ3 H5 fun b H6 =>
            if b = true then te σ3 H6 fun y H7 => ∃ acc, H7 D = some (.lst acc) ∧ acc.length < sizeLine ∧ Nx1 (upd H7 D (.lst (acc ++ [y]))) else Nx1 H6)
        else Nx H3) := by
  subst hw
  refine in_it w (Body := fun x H' Nx => g x (wipe σ vs) H' fun σ2 H2 => wipe σ2 vs = wipe σ vs ∧ tt σ2 H2 fun b H3 =>
        if b = true then wi1 σ2 H3 fun J1 H4 => ∃ W1 : Nat → Nat → Hp → Prop, (∃ m, W1 0 m H4) ∧ ∀ j k H, W1 j k H →
          (J1.stop j H ∧ Nx H) ∨ (J1.go j H ∧ ∃ Nx1 : Hp → Prop, (∀ H', Nx1 H' → ∃ k', k' < k ∧ W1 (j + 1) k' H') ∧ ∀ x H', J1.yld j H x H' → g1 x (wipe σ2 vs1) H' fun σ3 H5 => wipe σ3 vs1 = wipe σ2 vs1 ∧ tt1 σ3 H5 fun b H6 =>
            if b = true then te σ3 H6 fun y H7 => ∃ acc, H7 D = some (.lst acc) ∧ acc.length < sizeLine ∧ Nx1 (upd H7 D (.lst (acc ++ [y]))) else Nx1 H6)
        else Nx H3) (fun i H => Ex H1 H ∧ ∃ ys, H D = some (.lst ys) ∧ RAll K H ys ((as.take i).flatMap fun a => (bs a).map (F a))) ⟨Ex.new hD, [], upd_same, .nil⟩ (fun i H _ p => hGe _ _ p.1 hG) ?_ ?_
  · rintro i x Ha Hb hi ⟨e, ys, hy, hr⟩ y
    have hi' : i < as.length := by omega
    have ha := List.getElem?_eq_getElem hi'
    have hle : ((as.take i).flatMap fun a => (bs a).map (F a)).length + (bs as[i]).length ≤ 100000 := by
      have e1 : as = as.take i ++ as[i] :: as.drop (i + 1) := by
        rw [List.getElem_cons_drop, List.take_append_drop]
      have e2 := congrArg (fun l => (l.flatMap fun a => (bs a).map (F a)).length) e1
      simp only [List.flatMap_append, List.flatMap_cons, List.length_append, List.length_map] at e2
      omega
    refine hs i as[i] x Ha Hb ha e ⟨ys, hy⟩ y _ _ (fun J1 σ2 H4 n1 G1 Y1 σv hv w1 e4 hG1 hl1 hel => ?_)
    subst hv
    refine in_it w1 (Body := fun x H' Nx1 => g1 x (wipe σ2 vs1) H' fun σ3 H5 => wipe σ3 vs1 = wipe σ2 vs1 ∧ tt1 σ3 H5 fun b H6 =>
            if b = true then te σ3 H6 fun y H7 => ∃ acc, H7 D = some (.lst acc) ∧ acc.length < sizeLine ∧ Nx1 (upd H7 D (.lst (acc ++ [y]))) else Nx1 H6)
      (fun j H => Ex H1 H ∧ ExD D H4 H ∧ ∃ zs, H D = some (.lst zs) ∧ RAll K H zs (((as.take i).flatMap fun a => (bs a).map (F a)) ++ ((bs as[i]).take j).map (F as[i]))) ⟨e.trans e4, .refl _ _, ys, e4 _ _ hy, by simpa using hr.ex e4⟩ (fun j H _ p => hG1 _ p.2.1) ?_ ?_
    · rintro j x' Hc Hd hj ⟨ec, ed, zs, hz, hrz⟩ y1
      have hj' : j < (bs as[i]).length := by omega
      have hb := List.getElem?_eq_getElem hj'
      refine hel j _ x' Hc Hd hb ec ed y1 _ _ (fun v H7 e7 hv => ?_)
      have hzl : zs.length < 100000 := by
        have q := hrz.length
        rw [List.length_append, List.length_map, List.length_take] at q
        omega
      refine ⟨zs, e7 _ _ hz, sz_lt hzl, Ex.mut (ec.trans e7) hD, (ed.trans (.of e7)).trans .upd, zs ++ [v], upd_same, ?_⟩
      rw [take_get hb, List.map_append, ← List.append_assoc]
      exact RAll.updL (e7 _ _ hz) ((hrz.ex e7).snoc hv)
    · rintro H ⟨ec, _, zs, hz, hrz⟩
      refine ⟨ec, zs, hz, ?_⟩
      rw [take_get ha, List.flatMap_append, List.flatMap_cons, List.flatMap_nil, List.append_nil]
      rw [← hl1, List.take_length] at hrz
      exact hrz
  · rintro H ⟨e, ys, hy, hr⟩
    rw [← hl, List.take_length] at hr
    exact hd ys H e hy hr
/-! ### sorted rows -/
theorem exists_sorted {α : Type} [Tupi α] (xs : List α) : ∃ ys, IsSorted ys xs := by
  have ins : ∀ (a : α) (ys : List α), ys.Pairwise (fun a b => ltK b a = false) → ∃ zs : List α, zs.Perm (a :: ys) ∧ zs.Pairwise (fun a b => ltK b a = false) := by
    intro a ys
    induction ys with
    | nil => exact fun _ => ⟨[a], .refl _, List.pairwise_singleton ..⟩
    | cons y ys ih =>
      intro h
      obtain ⟨h1, h2⟩ := List.pairwise_cons.mp h
      cases e : ltK y a with
      | false =>
        refine ⟨a :: y :: ys, .refl _, List.pairwise_cons.mpr ⟨fun z hz => ?_, h⟩⟩
        rcases List.mem_cons.mp hz with rfl | hz
        · exact e
        · exact lx_tr _ _ _ e (h1 z hz)
      | true =>
        obtain ⟨zs, p1, p2⟩ := ih h2
        refine ⟨y :: zs, (p1.cons y).trans (.swap ..), List.pairwise_cons.mpr ⟨fun z hz => ?_, p2⟩⟩
        rcases List.mem_cons.mp (p1.mem_iff.mp hz) with rfl | hz
        · exact lx_asym _ _ e
        · exact h1 z hz
  induction xs with
  | nil => exact ⟨[], .refl _, .nil⟩
  | cons a xs ih =>
    obtain ⟨ys, p1, p2⟩ := ih
    obtain ⟨zs, q1, q2⟩ := ins a ys p2
    exact ⟨zs, q1.trans (p1.cons a), q2⟩
noncomputable def srt {α : Type} [Tupi α] (xs : List α) : List α := Classical.choose (exists_sorted xs)
theorem srt_is {α : Type} [Tupi α] (xs : List α) : IsSorted (srt xs) xs := Classical.choose_spec (exists_sorted xs)
theorem srt_eq {α : Type} [Tupi α] {ys xs : List α} (h : IsSorted ys xs) : ys = srt xs := sorted_uniq h.2 (srt_is xs).2 (h.1.trans (srt_is xs).1.symm)
theorem srt_one {α : Type} [Tupi α] (a : α) : srt [a] = [a] := (srt_eq ⟨.refl _, List.pairwise_singleton ..⟩).symm
/-- the unlike ones, ascending -/
def IsSetA {α : Type} [Tupi α] (bs as : List α) : Prop := bs.Nodup ∧ (∀ b, b ∈ bs ↔ b ∈ as) ∧ bs.Pairwise (fun a b => ltK b a = false)
theorem setA_uniq {α : Type} [Tupi α] {bs cs as ds : List α} (h : IsSetA bs as) (k : IsSetA cs ds) (e : ∀ b, b ∈ as ↔ b ∈ ds) : bs = cs :=
  sorted_uniq h.2.2 k.2.2 ((List.perm_ext_iff_of_nodup h.1 k.1).mpr fun b => ((h.2.1 b).trans (e b)).trans (k.2.1 b).symm)
theorem none_of {H H1 : Hp} {a : Addr} (e : Ex H H1) (h : H1 a = none) : H a = none := by
  cases z : H a with
  | none => rfl
  | some o => exact absurd (e _ _ z) (by rw [h]; exact fun q => nomatch q)
/-- where a deed leads from a standing, in the order of its slips -/
def endsL (foot : PR) (s : P3) (x : DeedD) : List P3 := match x.aim with
  | .num n => if x.kind = "turn" then [swungF foot s n] else [s]
  | .pair p => x.slips.map fun q => stepF s (p.1 + q.1, p.2 + q.2)
  | .no => if x.kind = "land" then x.slips.map fun q => stepF s q else [s]
section
variable {P : Program} {w : World} {K : PySem.W.Frag} {mg : Str → Option Value} {base : Heap}
def sp_ends_of {K : PySem.W.Frag} {mg : Str → Option Value} (T : Env K mg) : Sp := fun vs H Q _ => ∃ (p t e : Addr) (as : List Addr) (foot : PR) (r : Int) (ds : List Addr) (x : DeedD) (s : P3), vs = [.ref p, .ref t, .ref e] ∧ CraftAt T H p as foot r ds ∧ Rep K H (.ref t) s ∧ DeedAt T H e x ∧ okAim x.kind x.aim ∧ x.slips.length ≤ 60 ∧ ∀ v H', Ex H H' → NewL K H H' v (srt (endsL foot s x)) → Q v H'
theorem ok_ends_of (T : Env K mg) : FnOk P w K mg base CX0 3 T.d_ends_of.f T.d_ends_of.fd ["craft", "standing", "deed"] (sp_ends_of T) := by
  have G_Craft_stepped := ok_Craft_stepped (P := P) (w := w) (base := base) T
  have G_Craft_swung := ok_Craft_swung (P := P) (w := w) (base := base) T
  refine T.d_ends_of.F.ok sc_ends_of (fun vs H Q E h => ?_) (fun cdv A outer s H vs Q E hr h => ?_)
  · obtain ⟨p, t, e, as, foot, r, ds, x, s0, rfl, hc, ht, hx, ha, hlen, q⟩ := h
    rfl
  · obtain ⟨p, t, e, as, foot, r, ds, x, s0, rfl, hc, ht, hx, ha, hlen, q⟩ := h
    have hr_Craft_stepped : Room 1 _ := hr.mono (by decide)
    have hr_Craft_swung : Room 2 _ := hr.mono (by decide)
    refine ⟨_, pss_cons (ps_if (pt_cmpR op_eq (pe_fld (pv 2) rfl) pe_str (nomark _)) (pss_one (ps_ret (pe_lst (pa_cons (pe_meth (pv 0) T.C_Craft.cl T.m_Craft_swung.me G_Craft_swung hr_Craft_swung T.m_Craft_swung.b .nil pass0 (pa_cons (pv 1) (pa_cons (pe_fld (pv 2) rfl) pa_nil))) pa_nil)))) pss_nil)
      (pss_cons (ps_if (pt_cmpR op_eq (pe_fld (pv 2) rfl) pe_str (nomark _)) (pss_cons (ps_asg (pe_fld (pv 2) rfl) (pg_tup (by rfl) (pgs_cons (pg_name (i := 3) sc_ends_of.nd rfl (.inr rfl)) (pgs_cons (pg_name (i := 4) sc_ends_of.nd rfl (.inr rfl)) pgs_nil))))
      (pss_one (ps_ret (pe_callB (cr_sortedA (α := Int × Int × Int)) (by rfl) T.n_sorted (by decide +kernel) (pa_cons (pe_lc (own := [("x", 5), ("y", 6)]) (g := gTup K 2 (gCons (gName 5) (gCons (gName 6) gNil))) rfl sc_ends_of.nd (pi_tup (pe_fld (pv 2) rfl)) (blkOk_by (N := ["craft", "standing", "deed", "right", "down", "x", "y", "slip"]) (sc := defScope s_ends_of) (by decide +kernel)) (fun _ _ _ _ _ => (pg_tup (by rfl) (pgs_cons (pg_name (i := 5) sc_ends_of.nd rfl (.inl rfl)) (pgs_cons (pg_name (i := 6) sc_ends_of.nd rfl (.inl rfl)) pgs_nil)))) (fun _ _ _ _ _ => pts_nil) (fun _ _ _ _ _ => (pe_meth (pv 0) T.C_Craft.cl T.m_Craft_stepped.me G_Craft_stepped hr_Craft_stepped T.m_Craft_stepped.b .nil pass0 (pa_cons (pv 1) (pa_cons (pe_tup (pa_cons (pe_op op_add (pv 3) (pv 5)) (pa_cons (pe_op op_add (pv 4) (pv 6)) pa_nil))) pa_nil))))) pa_nil))))) pss_nil)
      (pss_cons (ps_if (pt_cmpR op_eq (pe_fld (pv 2) rfl) pe_str (nomark _)) (pss_one (ps_ret (pe_callB (cr_sortedA (α := Int × Int × Int)) (by rfl) T.n_sorted (by decide +kernel) (pa_cons (pe_lc (own := [("slip", 7)]) (g := gName 7) rfl sc_ends_of.nd (pi_tup (pe_fld (pv 2) rfl)) (blkOk_by (N := ["craft", "standing", "deed", "right", "down", "x", "y", "slip"]) (sc := defScope s_ends_of) (by decide +kernel)) (fun _ _ _ _ _ => (pg_name (i := 7) sc_ends_of.nd rfl (.inl rfl))) (fun _ _ _ _ _ => pts_nil) (fun _ _ _ _ _ => (pe_meth (pv 0) T.C_Craft.cl T.m_Craft_stepped.me G_Craft_stepped hr_Craft_stepped T.m_Craft_stepped.b .nil pass0 (pa_cons (pv 1) (pa_cons (pv 7) pa_nil))))) pa_nil)))) pss_nil)
      (pss_one (ps_ret (pe_lst (pa_cons (pv 1) pa_nil)))))), ?_⟩
    obtain ⟨kx, fx, ax, sl⟩ := x
    obtain ⟨dx, v, u, h1, h2, h3⟩ := id hx
    dsimp only at h1 h2 h3 ha hlen
    obtain ⟨dc, a, f, dd, c1, _⟩ := id hc
    obtain ⟨_, xs, e0, hu, ra⟩ := h3.tp_inv
    cases e0
    have no : ∀ {x y : Str}, x ≠ y → ¬ decide (V.str x = V.str y) = true := fun h z => h (V.str.inj (of_decide_eq_true z))
    have lr := ra.length
    rcases ha with ⟨rfl, b, rfl, hb⟩ | ⟨rfl, n, rfl, hb⟩ | ⟨rfl, n, rfl, hb⟩ | ⟨rfl, rfl⟩ | ⟨rfl, rfl⟩
    · refine ⟨_, rfl, e, T.C_Deed.C, dx, _, _, rfl, h1, T.C_Deed.cl, T.a_Deed_kind, df_k _ _ _ _, rfl, _, rfl, ite2 (fun z => absurd z (no (by decide +kernel))) (fun _ => ?_)⟩
      refine ⟨_, rfl, e, T.C_Deed.C, dx, _, _, rfl, h1, T.C_Deed.cl, T.a_Deed_kind, df_k _ _ _ _, rfl, _, rfl, ite2 (fun _ => ?_) (fun z => absurd (decide_eq_true rfl) z)⟩
      obtain ⟨pa, rfl, hpa⟩ := Rep.p2_inv (q := b) h2
      refine ⟨_, rfl, e, T.C_Deed.C, dx, _, _, rfl, h1, T.C_Deed.cl, T.a_Deed_aim, df_a _ _ _ _, pa, _, rfl, hpa, rfl, _, _, rfl, _, _, rfl, rfl, ?_⟩
      refine ⟨_, rfl, e, T.C_Deed.C, dx, _, _, rfl, h1, T.C_Deed.cl, T.a_Deed_slips, df_s _ _ _ _, u, rfl, ⟨_, hu⟩, fun D hD => ?_⟩
      refine lc_rep (K := K) walk_tup hD [some (.ref p), some (.ref t), some (.ref e), some (.int b.1), some (.int b.2), none, none, none] rfl (fun _ _ e h => ex_t e h) hu sl (fun _ => true) (fun o => stepF s0 (b.1 + o.1, b.2 + o.2)) lr.symm (by omega) (fun i o y Ha Hb hi e1 y1 R0 R _ hR => ?_) (fun ys H1 e1 hL rL => ?_)
      · obtain ⟨rfl, hy⟩ := y1
        obtain ⟨o', ho', ro⟩ := (ra.ex e1).get hy
        rw [hi] at ho'
        obtain rfl := Option.some.inj ho'
        obtain ⟨z, rfl, hz⟩ := ro.p2_inv
        refine ⟨z, _, rfl, hz, rfl, _, _, rfl, _, _, rfl, rfl, rfl, ?_⟩
        refine ⟨_, rfl, p, dc, _, rfl, e1 _ _ c1, crf_noT _ _ _ _, _, rfl, _, rfl, _, rfl, _, _, rfl, rfl, _, rfl, _, rfl, _, _, rfl, rfl, by show 2 ≤ sizeLine; decide, fun w2 hw2 => ?_⟩
        exact ⟨p, t, w2, s0, (b.1 + o.1, b.2 + o.2), rfl, (ht.ex e1).ex (Ex.new hw2), Rep.p2 (st_of upd_same), fun v H4 e4 hv => hR v H4 ((Ex.new hw2).trans e4) rfl hv⟩
      · rw [filter_true] at rL
        refine ⟨D, ys, _, rfl, sq_of hL, rL, fun zs bs l hl rz hs => ?_⟩
        rw [srt_eq hs] at rz
        exact q _ _ (e1.trans (Ex.new hl)) ⟨l, zs, rfl, none_of e1 hl, upd_same, rz⟩
    · refine ⟨_, rfl, e, T.C_Deed.C, dx, _, _, rfl, h1, T.C_Deed.cl, T.a_Deed_kind, df_k _ _ _ _, rfl, _, rfl, ite2 (fun _ => ?_) (fun z => absurd (decide_eq_true rfl) z)⟩
      obtain rfl := Rep.int_inv (i := n) h2
      refine ⟨_, rfl, p, dc, _, rfl, c1, crf_noW _ _ _ _, _, rfl, _, rfl, e, T.C_Deed.C, dx, _, _, rfl, h1, T.C_Deed.cl, T.a_Deed_aim, df_a _ _ _ _, p, t, as, foot, r, ds, s0, n, rfl, hc, ht, fun v H1 e1 hv => ?_⟩
      refine ⟨by show 1 ≤ sizeLine; decide, fun l hl => q _ _ (e1.trans (Ex.new hl)) ⟨l, _, rfl, none_of e1 hl, upd_same, ?_⟩⟩
      rw [show endsL foot s0 ⟨"turn", fx, .num n, sl⟩ = [swungF foot s0 n] from by
        show (if ("turn" : Str) = "turn" then [swungF foot s0 n] else [s0]) = _
        exact if_pos rfl, srt_one]
      exact .cons (hv.ex (Ex.new hl)) .nil
    · refine ⟨_, rfl, e, T.C_Deed.C, dx, _, _, rfl, h1, T.C_Deed.cl, T.a_Deed_kind, df_k _ _ _ _, rfl, _, rfl, ite2 (fun z => absurd z (no (by decide +kernel))) (fun _ => ?_)⟩
      refine ⟨_, rfl, e, T.C_Deed.C, dx, _, _, rfl, h1, T.C_Deed.cl, T.a_Deed_kind, df_k _ _ _ _, rfl, _, rfl, ite2 (fun z => absurd z (no (by decide +kernel))) (fun _ => ?_)⟩
      refine ⟨_, rfl, e, T.C_Deed.C, dx, _, _, rfl, h1, T.C_Deed.cl, T.a_Deed_kind, df_k _ _ _ _, rfl, _, rfl, ite2 (fun z => absurd z (no (by decide +kernel))) (fun _ => ?_)⟩
      refine ⟨_, rfl, by show 1 ≤ sizeLine; decide, fun l hl => q _ _ (Ex.new hl) ⟨l, _, rfl, hl, upd_same, ?_⟩⟩
      rw [show endsL foot s0 ⟨"look", fx, .num n, sl⟩ = [s0] from by
        show (if ("look" : Str) = "turn" then [swungF foot s0 n] else [s0]) = _
        exact if_neg (by decide +kernel), srt_one]
      exact .cons (ht.ex (Ex.new hl)) .nil
    · refine ⟨_, rfl, e, T.C_Deed.C, dx, _, _, rfl, h1, T.C_Deed.cl, T.a_Deed_kind, df_k _ _ _ _, rfl, _, rfl, ite2 (fun z => absurd z (no (by decide +kernel))) (fun _ => ?_)⟩
      refine ⟨_, rfl, e, T.C_Deed.C, dx, _, _, rfl, h1, T.C_Deed.cl, T.a_Deed_kind, df_k _ _ _ _, rfl, _, rfl, ite2 (fun z => absurd z (no (by decide +kernel))) (fun _ => ?_)⟩
      refine ⟨_, rfl, e, T.C_Deed.C, dx, _, _, rfl, h1, T.C_Deed.cl, T.a_Deed_kind, df_k _ _ _ _, rfl, _, rfl, ite2 (fun _ => ?_) (fun z => absurd (decide_eq_true rfl) z)⟩
      refine ⟨_, rfl, e, T.C_Deed.C, dx, _, _, rfl, h1, T.C_Deed.cl, T.a_Deed_slips, df_s _ _ _ _, u, rfl, ⟨_, hu⟩, fun D hD => ?_⟩
      refine lc_rep (K := K) walk_tup hD [some (.ref p), some (.ref t), some (.ref e), none, none, none, none, none] rfl (fun _ _ e h => ex_t e h) hu sl (fun _ => true) (fun o => stepF s0 o) lr.symm (by omega) (fun i o y Ha Hb hi e1 y1 R0 R _ hR => ?_) (fun ys H1 e1 hL rL => ?_)
      · obtain ⟨rfl, hy⟩ := y1
        obtain ⟨o', ho', ro⟩ := (ra.ex e1).get hy
        rw [hi] at ho'
        obtain rfl := Option.some.inj ho'
        obtain ⟨z, rfl, hz⟩ := ro.p2_inv
        exact ⟨rfl, _, rfl, p, dc, _, rfl, e1 _ _ c1, crf_noT _ _ _ _, _, rfl, _, rfl, p, t, z, s0, o, rfl, ht.ex e1, ro, fun v H4 e4 hv => hR v H4 e4 rfl hv⟩
      · rw [filter_true] at rL
        refine ⟨D, ys, _, rfl, sq_of hL, rL, fun zs bs l hl rz hs => ?_⟩
        rw [srt_eq hs] at rz
        refine q _ _ (e1.trans (Ex.new hl)) ⟨l, zs, rfl, none_of e1 hl, upd_same, ?_⟩
        rw [show endsL foot s0 ⟨"land", fx, .no, sl⟩ = sl.map fun o => stepF s0 o from by
          show (if ("land" : Str) = "land" then sl.map fun o => stepF s0 o else [s0]) = _
          exact if_pos rfl]
        exact rz
    · refine ⟨_, rfl, e, T.C_Deed.C, dx, _, _, rfl, h1, T.C_Deed.cl, T.a_Deed_kind, df_k _ _ _ _, rfl, _, rfl, ite2 (fun z => absurd z (no (by decide +kernel))) (fun _ => ?_)⟩
      refine ⟨_, rfl, e, T.C_Deed.C, dx, _, _, rfl, h1, T.C_Deed.cl, T.a_Deed_kind, df_k _ _ _ _, rfl, _, rfl, ite2 (fun z => absurd z (no (by decide +kernel))) (fun _ => ?_)⟩
      refine ⟨_, rfl, e, T.C_Deed.C, dx, _, _, rfl, h1, T.C_Deed.cl, T.a_Deed_kind, df_k _ _ _ _, rfl, _, rfl, ite2 (fun z => absurd z (no (by decide +kernel))) (fun _ => ?_)⟩
      refine ⟨_, rfl, by show 1 ≤ sizeLine; decide, fun l hl => q _ _ (Ex.new hl) ⟨l, _, rfl, hl, upd_same, ?_⟩⟩
      rw [show endsL foot s0 ⟨"away", fx, .no, sl⟩ = [s0] from by
        show (if ("away" : Str) = "land" then sl.map fun o => stepF s0 o else [s0]) = _
        exact if_neg (by decide +kernel), srt_one]
      exact .cons (ht.ex (Ex.new hl)) .nil
end
end My


-- G5
namespace My
open PySem L2 Evl
theorem flat_stop {α β : Type} {f : β → Bool} {g : α → List β} {as : List α} {i : Nat} {a : α} {j : Nat} {b : β} (h : as[i]? = some a) (hb : (g a)[j]? = some b) (h2 : f b = false) : (as.flatMap g).all f = false := by
  cases e : (as.flatMap g).all f with
  | false => rfl
  | true =>
    have := List.all_eq_true.mp e b (List.mem_flatMap.mpr ⟨a, List.mem_of_getElem? h, List.mem_of_getElem? hb⟩)
    rw [h2] at this
    cases this
section
variable {P : Program} {w : World} {K : PySem.W.Frag} {mg : Str → Option Value} {base : Heap}
/-- all ends of a deed from a belief -/
noncomputable def endsF (foot : PR) (x : DeedD) (bel : List P3) : List P3 := bel.flatMap fun s => srt (endsL foot s x)
def sp_behind {K : PySem.W.Frag} {mg : Str → Option Value} (T : Env K mg) : Sp := fun vs H Q _ => ∃ (p t e : Addr) (as : List Addr) (foot : PR) (r : Int) (ds : List Addr) (x : DeedD) (bel : List P3), vs = [.ref p, .ref t, .ref e] ∧ CraftAt T H p as foot r ds ∧ Rep K H (.ref t) (Tp.mk bel) ∧ DeedAt T H e x ∧ okAim x.kind x.aim ∧ x.slips.length ≤ 60 ∧ (endsF foot x bel).length < 64 ∧ ∀ v H' bs, Ex H H' → Rep K H' v (Tp.mk bs) → IsSetA bs (endsF foot x bel) → Q v H'
theorem ok_behind (T : Env K mg) : FnOk P w K mg base CX0 4 T.d_behind.f T.d_behind.fd ["craft", "belief", "deed"] (sp_behind T) := by
  have G_ends_of := ok_ends_of (P := P) (w := w) (base := base) T
  refine T.d_behind.F.ok sc_behind (fun vs H Q E h => ?_) (fun cdv A outer s H vs Q E hr h => ?_)
  · obtain ⟨p, t, e, as, foot, r, ds, x, bel, rfl, hc, ht, hx, ha, hlen, few, q⟩ := h
    rfl
  · obtain ⟨p, t, e, as, foot, r, ds, x, bel, rfl, hc, ht, hx, ha, hlen, few, q⟩ := h
    have hr_ends_of : Room 3 _ := hr.mono (by decide)
    refine ⟨_, pss_one (ps_ret (pe_callTy call_tuple_of (by rfl) T.n_tuple (by decide +kernel) (pa_cons (pe_callB (cr_sortedSA rfl) (by rfl) T.n_sorted (by decide +kernel) (pa_cons (pe_callTy (cr_setA rfl hr.units) (by rfl) T.n_set (by decide +kernel) (pa_cons (pe_lc2 (own := [("standing", 3), ("end", 4)]) (vs1 := [4]) (g := gName 3) (g1 := gName 4) rfl sc_behind.nd (pi_tup (pv 1)) (blkOk_by (N := ["craft", "belief", "deed", "standing", "end"]) (sc := defScope s_behind) (by decide +kernel)) (by decide) (fun _ _ _ _ _ => (pg_name (i := 3) sc_behind.nd rfl (.inl rfl))) (fun _ _ _ _ _ => pts_nil) (fun _ _ _ _ _ => (pi_listK (K := K) (pe_call G_ends_of hr_ends_of (by rfl) T.d_ends_of.m T.d_ends_of.k T.d_ends_of.b .nil pass0 (pa_cons (pv 0) (pa_cons (pv 3) (pa_cons (pv 2) pa_nil)))))) (fun _ _ _ _ _ => (pg_name (i := 4) sc_behind.nd rfl (.inl rfl))) (fun _ _ _ _ _ => pts_nil) (fun _ _ _ _ _ => (pv 4))) pa_nil)) pa_nil)) pa_nil))), ?_⟩
    obtain ⟨_, xs, e0, ht1, ra⟩ := ht.tp_inv
    cases e0
    have emap : (bel.flatMap fun s => (srt (endsL foot s x)).map fun b => b) = endsF foot x bel := by
      unfold endsF
      congr 1
      funext s
      exact List.map_id' _
    refine ⟨_, rfl, t, rfl, ⟨_, ht1⟩, fun D hD => ?_⟩
    refine lc2_new (K := K) walk_tup hD [some (.ref p), some (.ref t), some (.ref e), none, none] rfl (fun _ _ e h => ex_t e h) ht1 bel (fun s => srt (endsL foot s x)) (fun _ b => b) ra.length.symm (by rw [emap]; omega) (fun i s y Ha Hb hi e1 hDl y1 R0 R hR => ?_) (fun ys H1 e1 hL rL => ?_)
    · obtain ⟨rfl, hy⟩ := y1
      obtain ⟨s', hs', rs⟩ := (ra.ex e1).get hy
      rw [hi] at hs'
      obtain rfl := Option.some.inj hs'
      obtain ⟨u, rfl, hu⟩ := rs.p3_inv
      refine ⟨rfl, _, rfl, _, rfl, _, rfl, p, u, e, as, foot, r, ds, x, s, rfl, hc.ex e1, rs, hx.ex e1, ha, hlen, fun v H4 e4 hv => ?_⟩
      obtain ⟨l, zs, rfl, hl0, hl, rl⟩ := hv
      obtain ⟨ys0, hys0⟩ := hDl
      have nl : l ≠ D := (ne_of_none hys0 hl0).symm
      refine ⟨l, rfl, ⟨_, sq_of hl⟩, ?_⟩
      refine hR _ _ _ _ _ _ [some (.ref p), some (.ref t), some (.ref e), some (.ref u), none] rfl (walk_list (K := K) (xs := zs)) e4 (fun Hc ec => sq_of (ec _ _ nl hl)) rl.length.symm (fun j b x' Hc Hd hb ec ed y2 R02 R2 hR2 => ?_)
      obtain ⟨rfl, hx'⟩ := y2
      obtain ⟨b', hb', rb⟩ := (rl.exd ed ⟨_, e4 _ _ hys0⟩).get hx'
      rw [hb] at hb'
      obtain rfl := Option.some.inj hb'
      exact ⟨rfl, _, rfl, hR2 _ _ (Ex.refl _) rb⟩
    · rw [emap] at rL
      dsimp only [tNil]
      refine set_sorted (as := endsF foot x bel) (.inl (sq_of hL)) rL few (fun zs bs l H3 e3 hl rl nd mem pw => ?_)
      refine ⟨l, zs, rfl, .inl ⟨sq_of hl, fun u hu => ?_⟩⟩
      exact q _ _ bs ((e1.trans e3).trans (Ex.new hu)) (Rep.tp (st_of upd_same) (rl.ex (Ex.new hu))) ⟨nd, mem, pw⟩
def sp_is_kept {K : PySem.W.Frag} {mg : Str → Option Value} (T : Env K mg) : Sp := fun vs H Q _ => ∃ (p t e k : Addr) (as : List Addr) (foot : PR) (r : Int) (ds : List Addr) (d : SkyD) (x : DeedD) (bel : List P3), vs = [.ref p, .ref t, .ref e] ∧ CraftAt T H p (k :: as) foot r ds ∧ SkyAt T H k d ∧ d.cs.length ≤ 100 ∧ Rep K H (.ref t) (Tp.mk bel) ∧ DeedAt T H e x ∧ okAim x.kind x.aim ∧ x.slips.length ≤ 60 ∧ ∀ H', Ex H H' → Q (.bl ((endsF foot x bel).all (wholeB d foot r x.kind))) H'
theorem ok_is_kept (T : Env K mg) : FnOk P w K mg base CX0 6 T.d_is_kept.f T.d_is_kept.fd ["craft", "belief", "deed"] (sp_is_kept T) := by
  have G_ends_of := ok_ends_of (P := P) (w := w) (base := base) T
  have G_is_whole_at := ok_is_whole_at (P := P) (w := w) (base := base) T
  refine T.d_is_kept.F.ok sc_is_kept (fun vs H Q E h => ?_) (fun cdv A outer s H vs Q E hr h => ?_)
  · obtain ⟨p, t, e, k, as, foot, r, ds, d, x, bel, rfl, hc, hk, hcs, ht, hx, ha, hlen, q⟩ := h
    rfl
  · obtain ⟨p, t, e, k, as, foot, r, ds, d, x, bel, rfl, hc, hk, hcs, ht, hx, ha, hlen, q⟩ := h
    have hr_ends_of : Room 3 _ := hr.mono (by decide)
    have hr_is_whole_at : Room 5 _ := hr.mono (by decide)
    refine ⟨_, pss_cons (ps_for PassesOwn.never rfl (pi_tup (pv 1)) (pg_name (i := 3) sc_is_kept.nd rfl (.inl rfl)) (pss_one (ps_for PassesOwn.never rfl (pi_list (pe_call G_ends_of hr_ends_of (by rfl) T.d_ends_of.m T.d_ends_of.k T.d_ends_of.b .nil pass0 (pa_cons (pv 0) (pa_cons (pv 3) (pa_cons (pv 2) pa_nil))))) (pg_name (i := 4) sc_is_kept.nd rfl (.inl rfl)) (pss_one (ps_if (pt_not (pt_val (pe_call G_is_whole_at hr_is_whole_at (by rfl) T.d_is_whole_at.m T.d_is_whole_at.k T.d_is_whole_at.b .nil pass0 (pa_cons (pv 0) (pa_cons (pv 2) (pa_cons (pv 4) pa_nil)))))) (pss_one (ps_ret pe_bl)) pss_nil)))))
      (pss_one (ps_ret pe_bl)), ?_⟩
    obtain ⟨_, xs, e0, ht1, ra⟩ := ht.tp_inv
    cases e0
    refine ⟨_, rfl, t, rfl, ⟨_, ht1⟩, ?_⟩
    refine for_it walk_tup (fun i σ' H' => ∃ v3 v4, σ' = [some (.ref p), some (.ref t), some (.ref e), v3, v4] ∧ Ex H H' ∧ ((bel.take i).flatMap fun s => srt (endsL foot s x)).all (wholeB d foot r x.kind) = true)
      ⟨none, none, rfl, Ex.refl _, by simp⟩ (fun i σ' H' _ ⟨_, _, _, e, _⟩ => ex_t e ht1) ?_ ?_
    · rintro i y σ' Ha Hb hi ⟨v3, v4, rfl, e1, hall⟩ ⟨rfl, hy⟩
      obtain ⟨s, hs, rs⟩ := (ra.ex e1).get hy
      obtain ⟨u, rfl, hu⟩ := rs.p3_inv
      refine ⟨_, rfl, _, rfl, _, rfl, p, u, e, _, foot, r, ds, x, s, rfl, hc.ex e1, rs, hx.ex e1, ha, hlen, fun v H4 e4 hv => ?_⟩
      obtain ⟨l, zs, rfl, hl0, hl, rl⟩ := hv
      refine ⟨l, rfl, ⟨_, sq_of hl⟩, ?_⟩
      refine for_it (walk_list (K := K) (xs := zs)) (fun j σ' H' => ∃ v4, σ' = [some (.ref p), some (.ref t), some (.ref e), some (.ref u), v4] ∧ Ex H4 H' ∧ ((srt (endsL foot s x)).take j).all (wholeB d foot r x.kind) = true)
        ⟨v4, rfl, Ex.refl _, by simp⟩ (fun j σ' H' _ ⟨_, _, e, _⟩ => ex_l e (sq_of hl)) ?_ ?_
      · rintro j y σ' Hc Hd hj ⟨v4, rfl, e5, hall2⟩ ⟨rfl, hy2⟩
        obtain ⟨b, hb, rb⟩ := (rl.ex e5).get hy2
        obtain ⟨z, rfl, hz⟩ := rb.p3_inv
        have e15 := (e1.trans e4).trans e5
        refine ⟨_, rfl, _, rfl, _, rfl, p, e, z, k, as, foot, r, ds, d, x, b, rfl, hc.ex e15, hk.ex e15, hcs, hx.ex e15, rb, fun H6 e6 => ⟨_, rfl, ?_⟩⟩
        cases hw : wholeB d foot r x.kind b with
        | true => exact iteF ⟨_, rfl, e5.trans e6, all_take hb hall2 hw⟩
        | false =>
          refine iteT ?_
          have q2 := q H6 (e15.trans e6)
          rw [show (endsF foot x bel).all (wholeB d foot r x.kind) = false from flat_stop hs hb hw] at q2
          exact q2
      · rintro σ' H6 ⟨v4, rfl, e6, hall2⟩
        refine ⟨_, _, rfl, (e1.trans e4).trans e6, ?_⟩
        rw [rl.length, List.take_length] at hall2
        rw [take_get hs, List.flatMap_append, List.flatMap_cons, List.flatMap_nil, List.append_nil, List.all_append, hall, hall2]
        rfl
    · rintro σ' H6 ⟨v3, v4, rfl, e6, hall⟩
      rw [ra.length, List.take_length] at hall
      have q2 := q H6 e6
      rw [show (endsF foot x bel).all (wholeB d foot r x.kind) = true from hall] at q2
      exact q2
end
end My


-- G6
namespace My
open PySem L2 Evl
section
variable {X : Cx}
/-- xs != [] of a list of anything -/
def rNeNil : R2 := fun x y H Q => ∃ (a b : Addr) (xs : List V), x = .ref a ∧ y = .ref b ∧ H a = some (.lst xs) ∧ H b = some (.lst []) ∧ Q (.bl (!xs.isEmpty)) H
theorem op_neNil (hu : X.A.units + 64 < cLine) : OpR X (compareOp .NotEq) rNeNil := by
  intro pins s σ H x y v u Q I rx ry h
  obtain ⟨a, b, xs, rfl, rfl, ha, hb, q⟩ := h
  cases rx
  cases ry
  obtain ⟨z, its, n, r, _, e⟩ := I.lstM ha
  obtain ⟨z2, its2, n2, r2, _, e2⟩ := I.lstM hb
  cases r2
  have l1 : s.heap.IsList a its.toArray := ⟨_, e, rfl, n, rfl⟩
  have l2 : s.heap.IsList b ([] : List Value).toArray := ⟨_, e2, rfl, n2, rfl⟩
  cases r with
  | nil =>
    have k := SeqAt.RcNeAt.lists (A := X.A) (e := fun _ => true) l1 l2 rfl (by omega) (fun j h1 h2 => absurd h1 (by simp))
    exact k X.prog X.w X.xe _ ⟨.bl false, H, I, rfl, q⟩
  | cons _ _ =>
    have k := SeqAt.RcNeAt.lists_lengths (A := X.A) l1 l2 (by simp) (by omega)
    exact k X.prog X.w X.xe _ ⟨.bl true, H, I, rfl, q⟩
end
section
variable {P : Program} {w : World} {K : PySem.W.Frag} {mg : Str → Option Value} {base : Heap}
theorem upd_at {H : Hp} {a : Addr} {o : HO} (_ : H a = none) : upd H a o a = some o := upd_same
theorem nodup_len {α : Type} [DecidableEq α] : ∀ {bs cs : List α}, bs.Nodup → (∀ b ∈ bs, b ∈ cs) → bs.length ≤ cs.length
  | [], _, _, _ => Nat.zero_le _
  | b :: bs, cs, hn, h => by
    obtain ⟨h1, h2⟩ := List.nodup_cons.mp hn
    have hb := h b List.mem_cons_self
    have := nodup_len (bs := bs) (cs := cs.erase b) h2 fun x hx => (List.mem_erase_of_ne (fun e => h1 (by rw [← e]; exact hx))).mpr (h x (List.mem_cons_of_mem _ hx))
    rw [List.length_erase_of_mem hb] at this
    have pos := List.length_pos_of_mem hb
    rw [List.length_cons]
    omega
theorem ex_make {H : Hp} {x dx : Addr} {o1 o2 : HO} (hx : H x = none) (hdx : H dx = none) : Ex H (upd (upd H dx o1) x o2) := fun a o ha => by
  rw [upd_ne (ne_of_none ha hx), upd_ne (ne_of_none ha hdx)]
  exact ha
theorem ex_made {H H1 H2 : Hp} {x : Addr} (e : ExB x H1 H2) (hx : H x = none) (k : Ex H H1) : Ex H H2 := fun b o hb => e b o (ne_of_none hb hx) (k b o hb)
def sp_law_ground {K : PySem.W.Frag} {mg : Str → Option Value} (T : Env K mg) : Sp := fun vs H Q _ => ∃ (d sc : Addr) (ns : List Int), vs = [.ref d] ∧ Drw K H d sc ns ∧ ∀ H' p cs, ExD d H H' → Drw K H' d sc ns → GroundAt T H' p cs → cs.length ≤ 3 → (∀ c ∈ cs, okC c) → Q (.ref p) H'
theorem ok_law_ground (T : Env K mg) : FnOk P w K mg base CX0 7 T.d_law_ground.f T.d_law_ground.fd ["draw"] (sp_law_ground T) := by
  have G_Ground_init := ok_Ground_init (P := P) (w := w) (base := base) T
  have G_law_take := ok_law_take (P := P) (w := w) (base := base) T
  refine T.d_law_ground.F.ok sc_law_ground (fun vs H Q E h => ?_) (fun cdv A outer s H vs Q E hr h => ?_)
  · obtain ⟨d, sc, ns, rfl, hd, q⟩ := h
    rfl
  · obtain ⟨d, sc, ns, rfl, hd, q⟩ := h
    have hr_Ground_init : Room 6 _ := hr.mono (by decide)
    have hr_law_take : Room 2 _ := hr.mono (by decide)
    refine ⟨_, pss_cons (ps_set (i := 1) sc_law_ground.nd rfl (.inl rfl) (pe_lst pa_nil))
      (pss_cons (ps_for PassesOwn.never rfl (pi_range1 rfl T.n_range (pa_cons (pe_op op_add pe_int (pe_op op_fdivN (pe_call G_law_take hr_law_take (by rfl) T.d_law_take.m T.d_law_take.k T.d_law_take.b .nil pass0 (pa_cons (pv 0) (pa_cons pe_int pa_nil))) pe_int)) pa_nil)) (pg_name (i := 2) sc_law_ground.nd rfl (.inl rfl)) (pss_one (ps_expr (pe_bm PySem.F.plainAttrs_list PySem.F.slot_list_append PySem.F.type_list_append mt_append (pv 1) (pa_cons (pe_tup (pa_cons (pe_op op_sub (pe_call G_law_take hr_law_take (by rfl) T.d_law_take.m T.d_law_take.k T.d_law_take.b .nil pass0 (pa_cons (pv 0) (pa_cons pe_int pa_nil))) pe_int) (pa_cons (pe_op op_sub (pe_call G_law_take hr_law_take (by rfl) T.d_law_take.m T.d_law_take.k T.d_law_take.b .nil pass0 (pa_cons (pv 0) (pa_cons pe_int pa_nil))) pe_int) (pa_cons (pe_op op_add pe_int (pe_op op_fdivN (pe_call G_law_take hr_law_take (by rfl) T.d_law_take.m T.d_law_take.k T.d_law_take.b .nil pass0 (pa_cons (pv 0) (pa_cons pe_int pa_nil))) pe_int)) pa_nil)))) pa_nil)))))
      (pss_one (ps_ret (pe_make (mkOf T.C_Ground T.m_Ground_init) G_Ground_init hr_Ground_init (by rfl) T.C_Ground.m T.m_Ground_init.b .nil pass0 (pa_cons (pe_callB (cr_sortedSA rfl) (by rfl) T.n_sorted (by decide +kernel) (pa_cons (pe_callTy (cr_setA rfl hr.units) (by rfl) T.n_set (by decide +kernel) (pa_cons (pv 1) pa_nil)) pa_nil)) pa_nil))))), ?_⟩
    refine ⟨by show 0 ≤ sizeLine; decide, fun fl hfl => ?_⟩
    have nfd : fl ≠ d := by
      obtain ⟨ys, h⟩ := hd.lst
      exact (ne_of_none h hfl).symm
    have eF : Ex H (upd H fl (.lst [])) := Ex.new hfl
    have ap := hd.apart hfl
    have half : ∀ {r : Int}, 0 ≤ r → r < 5 → 0 ≤ r.fdiv 2 ∧ r.fdiv 2 ≤ 2 := fun {r} h1 h2 => by
      rw [Int.fdiv_eq_ediv_of_nonneg _ (by decide)]
      omega
    have one7 : ∀ {r : Int}, 0 ≤ r → r < 8 → 0 ≤ r.fdiv 7 ∧ r.fdiv 7 ≤ 1 := fun {r} h1 h2 => by
      rw [Int.fdiv_eq_ediv_of_nonneg _ (by decide)]
      omega
    refine ⟨_, rfl, d, 5, sc, ns, rfl, hd.ex eF, by decide, fun r H1 r0 r1 e1 d1 => ⟨_, _, rfl, rfl, ⟨by decide, by decide⟩, _, _, rfl, rfl, 1 + r.fdiv 2, rfl, by have := half r0 r1; omega, by have := half r0 r1; omega, ?_⟩⟩
    refine for_it walk_range (fun i σ' H' => ∃ v2 ys cs, σ' = [some (.ref d), some (.ref fl), v2] ∧ ExD d H H' ∧ Drw K H' d sc ns ∧ H' fl = some (.lst ys) ∧ RAll K H' ys cs ∧ cs.length ≤ i ∧ ∀ c ∈ cs, okC c)
      ⟨none, [], [], rfl, (ExD.of eF).trans e1, d1, e1 _ _ nfd upd_same, .nil, Nat.le_refl _, fun c hc => absurd hc (by simp)⟩ (fun _ _ _ _ _ => trivial) ?_ ?_
    · rintro i x σ' Ha Hb hi ⟨v2, ys, cs, rfl, e, dr, k1, k2, k3, k4⟩ y
      obtain ⟨rfl, rfl⟩ := y
      refine ⟨_, rfl, .inl ⟨rfl, _, sq_of k1⟩, ?_⟩
      refine ⟨_, rfl, d, 5, sc, ns, rfl, dr, by decide, fun a H2 a0 a1 e2 d2 => ⟨_, _, rfl, rfl, ?_⟩⟩
      refine ⟨_, rfl, d, 5, sc, ns, rfl, d2, by decide, fun b H3 b0 b1 e3 d3 => ⟨_, _, rfl, rfl, ?_⟩⟩
      refine ⟨_, rfl, d, 8, sc, ns, rfl, d3, by decide, fun z H4 z0 z1 e4 d4 => ⟨_, _, rfl, rfl, ⟨by decide, by decide⟩, _, _, rfl, rfl, ?_⟩⟩
      refine ⟨by show 3 ≤ sizeLine; decide, fun tp htp => ?_⟩
      have e24 := (e2.trans e3).trans e4
      have eT := Ex.new (o := .tup [.int (a - 2), .int (b - 2), .int (1 + z.fdiv 7)]) htp
      have m1 := eT _ _ (e24 _ _ nfd k1)
      have m2 := (k2.exd e24 dr.lst).ex eT
      have l2 := k2.length
      have z7 := one7 z0 z1
      refine ⟨fl, _, _, rfl, rfl, m1, sz_lt (by have := half r0 r1; omega), ?_⟩
      refine ⟨_, ys ++ [.ref tp], cs ++ [(a - 2, b - 2, 1 + z.fdiv 7)], rfl, (e.trans (e24.trans (.of eT))).mut hfl, (d4.ex eT).mut ap nfd, upd_same, (m2.snoc (Rep.p3 (st_of upd_same))).updL m1, by rw [List.length_append, List.length_singleton]; omega, fun c hc => ?_⟩
      rcases List.mem_append.mp hc with hc | hc
      · exact k4 c hc
      · rw [List.mem_singleton] at hc
        subst hc
        exact ⟨by show 1 ≤ 1 + z.fdiv 7; omega, by show 1 + z.fdiv 7 ≤ 99; omega, by show -1000000 ≤ a - 2; omega, by show a - 2 ≤ 1000000; omega, by show -1000000 ≤ b - 2; omega, by show b - 2 ≤ 1000000; omega⟩
    · rintro σ' H2 ⟨v2, ys, cs, rfl, e, dr, k1, k2, k3, k4⟩
      have h3 : cs.length ≤ 3 := by have := half r0 r1; omega
      refine ⟨_, rfl, ?_⟩
      dsimp only [tNil]
      refine set_sorted (as := cs) (.inl (sq_of k1)) k2 (by omega) (fun zs bs l H3 e3 hl rl nd mem pw => ?_)
      have lb : bs.length ≤ 3 := Nat.le_trans (nodup_len nd fun b hb => (mem b).mp hb) h3
      intro x dx hx hdx hne
      have eX := ex_make (o1 := .own x) (o2 := .ins T.C_Ground.C dx []) hx hdx
      refine ⟨x, dx, l, zs, bs, rfl, upd_same, sq_of (eX _ _ hl), rl.ex eX, by omega, fun c hc => k4 c ((mem c).mp hc), fun H5 cs' hso he hg => ⟨rfl, ?_⟩⟩
      have e5 := e3.trans (ex_made he hx eX)
      exact q H5 x cs' (e.trans (.of e5)) (dr.ex e5) hg (by rw [hso.1.length_eq]; exact lb) (fun c hc => k4 c ((mem c).mp (hso.1.mem_iff.mp hc)))
/-- a camera as the law draws it -/
def smallCam (c : Cam) : Prop := (1 ≤ c.w ∧ c.w ≤ 3) ∧ (1 ≤ c.h ∧ c.h ≤ 3) ∧ (0 ≤ c.e ∧ c.e ≤ 1) ∧ (0 ≤ c.f ∧ c.f ≤ 1) ∧ (0 ≤ c.l ∧ c.l ≤ 1)
theorem smallCam.ok {c : Cam} (h : smallCam c) : okCam c := by
  obtain ⟨⟨a, b⟩, ⟨e, f⟩, ⟨g, i⟩, ⟨j, k⟩, l, m⟩ := h
  exact ⟨⟨by omega, by omega⟩, ⟨by omega, by omega⟩, ⟨by omega, by omega⟩, ⟨by omega, by omega⟩, by omega, by omega⟩
end
end My


-- G7
namespace My
open PySem L2 Evl
section
variable {P : Program} {w : World} {K : PySem.W.Frag} {mg : Str → Option Value} {base : Heap}
theorem third {r : Int} (h0 : 0 ≤ r) (h1 : r < 4) : 0 ≤ r.fdiv 3 ∧ r.fdiv 3 ≤ 1 := by
  rw [Int.fdiv_eq_ediv_of_nonneg _ (by decide)]
  omega
theorem fourth {r : Int} (h0 : 0 ≤ r) (h1 : r < 5) : 0 ≤ r.fdiv 4 ∧ r.fdiv 4 ≤ 1 := by
  rw [Int.fdiv_eq_ediv_of_nonneg _ (by decide)]
  omega
theorem pairs_at {K : PySem.W.Frag} {H : Hp} {v : V} {j : Nat} {as : List PR} {xs : List V} (h : xs[j]? = some v) (ra : RAll K H xs as) : ∃ a ∈ as, Rep K H v a := by
  obtain ⟨a, h1, h2⟩ := ra.get h
  exact ⟨a, List.mem_of_getElem? h1, h2⟩
def sp_law_camera {K : PySem.W.Frag} {mg : Str → Option Value} (T : Env K mg) : Sp := fun vs H Q _ => ∃ (d g sc : Addr) (ns : List Int) (cs : List P3), vs = [.ref d, .ref g] ∧ Drw K H d sc ns ∧ GroundAt T H g cs ∧ ∀ H' p c, ExD d H H' → Drw K H' d sc ns → CamAt T H' p c → smallCam c → Q (.ref p) H'
theorem ok_law_camera (T : Env K mg) : FnOk P w K mg base CX0 5 T.d_law_camera.f T.d_law_camera.fd ["draw", "ground"] (sp_law_camera T) := by
  have G_Camera_init := ok_Camera_init (P := P) (w := w) (base := base) T
  have G_law_take := ok_law_take (P := P) (w := w) (base := base) T
  have G_law_pick := ok_law_pick (P := P) (w := w) (base := base) T
  refine T.d_law_camera.F.ok sc_law_camera (fun vs H Q E h => ?_) (fun cdv A outer s H vs Q E hr h => ?_)
  · obtain ⟨d, g, sc, ns, cs, rfl, hd, ⟨dg, tg, g1, g2⟩, q⟩ := h
    rfl
  · obtain ⟨d, g, sc, ns, cs, rfl, hd, ⟨dg, tg, g1, g2⟩, q⟩ := h
    have hr_Camera_init : Room 4 _ := hr.mono (by decide)
    have hr_law_take : Room 2 _ := hr.mono (by decide)
    have hr_law_pick : Room 3 _ := hr.mono (by decide)
    refine ⟨_, pss_cut (ps_if (PW.pt (pw_and (pt_cmpR op_lt (pe_callB call_len_seq (by rfl) T.n_len PySem.boot_len (pa_cons (pe_fld (pv 1) rfl) pa_nil)) pe_int (nomark _)) (pw_and1 (pt_cmpR op_eq (pe_call G_law_take hr_law_take (by rfl) T.d_law_take.m T.d_law_take.k T.d_law_take.b .nil pass0 (pa_cons (pv 0) (pa_cons pe_int pa_nil))) pe_int (nomark _))))) (pss_one (ps_ret (pe_make (mkOf T.C_Camera T.m_Camera_init) G_Camera_init hr_Camera_init (by rfl) T.C_Camera.m T.m_Camera_init.b .nil pass0 (pa_cons pe_int (pa_cons pe_int (pa_cons pe_int (pa_cons pe_int (pa_cons (pe_op op_fdivN (pe_call G_law_take hr_law_take (by rfl) T.d_law_take.m T.d_law_take.k T.d_law_take.b .nil pass0 (pa_cons (pv 0) (pa_cons pe_int pa_nil))) pe_int) pa_nil)))))))) pss_nil)
      (pss_cons (ps_asg (pe_call G_law_pick hr_law_pick (by rfl) T.d_law_pick.m T.d_law_pick.k T.d_law_pick.b .nil pass0 (pa_cons (pv 0) (pa_cons (pe_lst (pa_cons (pe_tup (pa_cons pe_int (pa_cons pe_int pa_nil))) (pa_cons (pe_tup (pa_cons pe_int (pa_cons pe_int pa_nil))) (pa_cons (pe_tup (pa_cons pe_int (pa_cons pe_int pa_nil))) (pa_cons (pe_tup (pa_cons pe_int (pa_cons pe_int pa_nil))) (pa_cons (pe_tup (pa_cons pe_int (pa_cons pe_int pa_nil))) pa_nil)))))) pa_nil))) (pg_tup (by rfl) (pgs_cons (pg_name (i := 2) sc_law_camera.nd rfl (.inl rfl)) (pgs_cons (pg_name (i := 3) sc_law_camera.nd rfl (.inl rfl)) pgs_nil))))
      (pss_one (ps_ret (pe_make (mkOf T.C_Camera T.m_Camera_init) G_Camera_init hr_Camera_init (by rfl) T.C_Camera.m T.m_Camera_init.b .nil pass0 (pa_cons (pv 2) (pa_cons (pv 3) (pa_cons (pe_op op_fdivN (pe_call G_law_take hr_law_take (by rfl) T.d_law_take.m T.d_law_take.k T.d_law_take.b .nil pass0 (pa_cons (pv 0) (pa_cons pe_int pa_nil))) pe_int) (pa_cons (pe_op op_fdivN (pe_call G_law_take hr_law_take (by rfl) T.d_law_take.m T.d_law_take.k T.d_law_take.b .nil pass0 (pa_cons (pv 0) (pa_cons pe_int pa_nil))) pe_int) (pa_cons (pe_op op_fdivN (pe_call G_law_take hr_law_take (by rfl) T.d_law_take.m T.d_law_take.k T.d_law_take.b .nil pass0 (pa_cons (pv 0) (pa_cons pe_int pa_nil))) pe_int) pa_nil))))))))), ?_⟩
    obtain ⟨_, xs, e0, hxs, ra⟩ := g2.tp_inv
    cases e0
    refine ⟨fun σ' H' => σ' = [some (.ref d), some (.ref g), none, none] ∧ ExD d H H' ∧ Drw K H' d sc ns, ?_, ?_⟩
    · refine ⟨_, rfl, g, T.C_Ground.C, dg, _, _, rfl, g1, T.C_Ground.cl, T.a_Ground_craters, lk_eq, tg, xs, rfl, .inr hxs, _, _, rfl, rfl, _, rfl, ite2 (fun _ => ?_) (fun _ => iteF ⟨rfl, .refl _ _, hd⟩)⟩
      refine ⟨_, rfl, d, 6, sc, ns, rfl, hd, by decide, fun r H1 r0 r1 e1 d1 => ⟨rfl, _, rfl, ite2 (fun _ => ?_) (fun _ => ⟨rfl, e1, d1⟩)⟩⟩
      refine ⟨_, rfl, d, 4, sc, ns, rfl, d1, by decide, fun r2 H2 a0 a1 e2 d2 => ⟨_, _, rfl, rfl, ⟨by decide, by decide⟩, fun x dx hx hdx hne => ?_⟩⟩
      have eX := ex_make (o1 := .own x) (o2 := .ins T.C_Camera.C dx []) hx hdx
      have th := third a0 a1
      have sm : smallCam ⟨3, 3, 1, 0, r2.fdiv 3⟩ := ⟨⟨by show (1 : Int) ≤ 3; omega, by show (3 : Int) ≤ 3; omega⟩, ⟨by show (1 : Int) ≤ 3; omega, by show (3 : Int) ≤ 3; omega⟩, ⟨by show (0 : Int) ≤ 1; omega, by show (1 : Int) ≤ 1; omega⟩, ⟨by show (0 : Int) ≤ 0; omega, by show (0 : Int) ≤ 1; omega⟩, th⟩
      exact ⟨x, dx, ⟨3, 3, 1, 0, r2.fdiv 3⟩, rfl, upd_same, sm.ok, fun H3 e3 hc => ⟨rfl, q H3 x _ ((e1.trans e2).trans (.of (ex_made e3 hx eX))) (d2.ex (ex_made e3 hx eX)) hc sm⟩⟩
    · rintro σ' H1 ⟨rfl, e1, d1⟩
      refine ⟨_, rfl, by show 2 ≤ sizeLine; decide, fun t1 h1 => ?_⟩
      refine ⟨by show 2 ≤ sizeLine; decide, fun t2 h2 => ?_⟩
      refine ⟨by show 2 ≤ sizeLine; decide, fun t3 h3 => ?_⟩
      refine ⟨by show 2 ≤ sizeLine; decide, fun t4 h4 => ?_⟩
      refine ⟨by show 2 ≤ sizeLine; decide, fun t5 h5 => ?_⟩
      refine ⟨by show 5 ≤ sizeLine; decide, fun l hl => ?_⟩
      have y5 := Ex.new (o := .lst [V.ref t1, V.ref t2, V.ref t3, V.ref t4, V.ref t5]) hl
      have y4 := (Ex.new h5).trans y5
      have y3 := (Ex.new h4).trans y4
      have y2 := (Ex.new h3).trans y3
      have y1 := (Ex.new h2).trans y2
      have y0 := (Ex.new h1).trans y1
      have prs : RAll K _ [V.ref t1, V.ref t2, V.ref t3, V.ref t4, V.ref t5] ([(2, 2), (3, 2), (2, 1), (3, 1), (2, 2)] : List PR) := .cons (Rep.p2 (st_of (y1 _ _ upd_same))) (.cons (Rep.p2 (st_of (y2 _ _ upd_same))) (.cons (Rep.p2 (st_of (y3 _ _ upd_same))) (.cons (Rep.p2 (st_of (y4 _ _ upd_same))) (.cons (Rep.p2 (st_of (y5 _ _ upd_same))) .nil))))
      have nld : l ≠ d := by
        obtain ⟨ys, h⟩ := d1.lst
        exact (ne_of_none (((((Ex.new h1).trans (Ex.new h2)).trans (Ex.new h3)).trans (Ex.new h4)).trans (Ex.new (o := .tup [V.int 2, .int 2]) h5) _ _ h) hl).symm
      refine ⟨d, l, _, sc, ns, rfl, d1.ex y0, .inl ⟨sq_of upd_same, nld⟩, by simp, fun j v H2 hv e2 d2 => ?_⟩
      obtain ⟨b, hb, rb⟩ := pairs_at hv (prs.exd e2 (d1.ex y0).lst)
      have hb2 : (1 ≤ b.1 ∧ b.1 ≤ 3) ∧ 1 ≤ b.2 ∧ b.2 ≤ 3 := by
        have hb : b = (2, 2) ∨ b = (3, 2) ∨ b = (2, 1) ∨ b = (3, 1) ∨ b = (2, 2) := by simpa using hb
        rcases hb with rfl | rfl | rfl | rfl | rfl <;> decide
      obtain ⟨u, rfl, hu⟩ := rb.p2_inv
      refine ⟨u, _, rfl, hu, rfl, _, _, rfl, _, _, rfl, rfl, ?_⟩
      refine ⟨_, rfl, _, rfl, _, rfl, d, 5, sc, ns, rfl, d2, by decide, fun r3 H3 a3 b3 e3 d3 => ⟨_, _, rfl, rfl, ⟨by decide, by decide⟩, ?_⟩⟩
      refine ⟨_, rfl, d, 4, sc, ns, rfl, d3, by decide, fun r4 H4 a4 b4 e4 d4 => ⟨_, _, rfl, rfl, ⟨by decide, by decide⟩, ?_⟩⟩
      refine ⟨_, rfl, d, 4, sc, ns, rfl, d4, by decide, fun r5 H5 a5 b5 e5 d5 => ⟨_, _, rfl, rfl, ⟨by decide, by decide⟩, fun x dx hx hdx hne => ?_⟩⟩
      have eX := ex_make (o1 := .own x) (o2 := .ins T.C_Camera.C dx []) hx hdx
      have sm : smallCam ⟨b.1, b.2, r3.fdiv 4, r4.fdiv 3, r5.fdiv 3⟩ := ⟨hb2.1, hb2.2, fourth a3 b3, third a4 b4, third a5 b5⟩
      exact ⟨x, dx, ⟨b.1, b.2, r3.fdiv 4, r4.fdiv 3, r5.fdiv 3⟩, rfl, upd_same, sm.ok, fun H6 e6 hc => ⟨rfl, q H6 x _ ((((((e1.trans (.of y0)).trans e2).trans e3).trans e4).trans e5).trans (.of (ex_made e6 hx eX))) (d5.ex (ex_made e6 hx eX)) hc sm⟩⟩
end
end My


-- G8
namespace My
open PySem L2 Evl
/-- a deed as the law draws it -/
structure okDeed (m : Int) (x : DeedD) : Prop where
  ai : okAim x.kind x.aim
  sl : x.slips.length ≤ 3
  fu : 1 ≤ x.fuel ∧ x.fuel ≤ 3
  lk : x.kind = "look" → ∃ n, x.aim = .num n ∧ 0 ≤ n ∧ n < m
  nd : x.slips.Nodup
def shiftsL : List PR := [(1, 0), (0, 1), (-1, 0), (0, -1), (2, 0), (0, 2)]
def slipsT : List (List PR) := [[(0, 0)], [(0, 0)], [(0, 0), (1, 0)], [(0, 0), (0, -1)], [(-1, 0), (0, 0), (0, 1)], [(0, 0)], [(0, 0)], [(0, 0), (1, 0)], [(1, 0)], [(-1, 0), (0, 1)]]
theorem shiftsL_ok {p : PR} (h : p ∈ shiftsL) : okPair p := by
  have h : p = (1, 0) ∨ p = (0, 1) ∨ p = (-1, 0) ∨ p = (0, -1) ∨ p = (2, 0) ∨ p = (0, 2) := by simpa [shiftsL] using h
  rcases h with rfl | rfl | rfl | rfl | rfl | rfl <;> exact ⟨by decide, by decide⟩
instance : DecidablePred okPair := fun p => by
  unfold okPair
  infer_instance
theorem slipsT_all : ∀ sl ∈ slipsT, sl ≠ [] ∧ sl.length ≤ 3 ∧ ∀ p ∈ sl, okPair p := by decide
theorem slipsT_ok {sl : List PR} (h : sl ∈ slipsT) : sl ≠ [] ∧ sl.length ≤ 3 ∧ ∀ p ∈ sl, okPair p := slipsT_all sl h
theorem map_erase {α β : Type} (f : α → β) : ∀ (l : List α) (k : Nat), (l.map f).eraseIdx k = (l.eraseIdx k).map f
  | [], _ => rfl
  | _ :: _, 0 => rfl
  | a :: l, k + 1 => by
    show f a :: (l.map f).eraseIdx k = f a :: (l.eraseIdx k).map f
    rw [map_erase f l k]
theorem ints_at {v : V} {j : Nat} {ns : List Int} (h : (ns.map V.int)[j]? = some v) : ∃ n ∈ ns, v = .int n := by
  rw [List.getElem?_map] at h
  obtain ⟨n, h1, h2⟩ := Option.map_eq_some_iff.mp h
  exact ⟨n, List.mem_of_getElem? h1, h2.symm⟩
section
variable {P : Program} {w : World} {K : PySem.W.Frag} {mg : Str → Option Value} {base : Heap}
theorem DeedAt.xd {T : Env K mg} {H H' : Hp} {p d : Addr} {x : DeedD} (e : ExD d H H') (hd : ∃ ys, H d = some (.lst ys)) (h : DeedAt T H p x) : DeedAt T H' p x := by
  obtain ⟨dx, v, t, h1, h2, h3⟩ := h
  exact ⟨dx, v, t, e.ins hd h1, h2.exd e hd, h3.exd e hd⟩
/-- deeds that the law has drawn -/
def DsAt (T : Env K mg) (H : Hp) (ds : List Addr) (m : Int) : Prop := ∀ a ∈ ds, ∃ x, DeedAt T H a x ∧ okDeed m x
theorem DsAt.ex {T : Env K mg} {H H' : Hp} {ds : List Addr} {m : Int} (e : Ex H H') (h : DsAt T H ds m) : DsAt T H' ds m := fun a ha => by
  obtain ⟨x, h1, h2⟩ := h a ha
  exact ⟨x, h1.ex e, h2⟩
theorem DsAt.xd {T : Env K mg} {H H' : Hp} {d : Addr} {ds : List Addr} {m : Int} (e : ExD d H H') (hd : ∃ ys, H d = some (.lst ys)) (h : DsAt T H ds m) : DsAt T H' ds m := fun a ha => by
  obtain ⟨x, h1, h2⟩ := h a ha
  exact ⟨x, h1.xd e hd, h2⟩
theorem DsAt.snoc {T : Env K mg} {H : Hp} {ds : List Addr} {m : Int} {p : Addr} {x : DeedD} (h : DsAt T H ds m) (hp : DeedAt T H p x) (ok : okDeed m x) : DsAt T H (ds ++ [p]) m := fun a ha => by
  rcases List.mem_append.mp ha with ha | ha
  · exact h a ha
  · rw [List.mem_singleton] at ha
    subst ha
    exact ⟨x, hp, ok⟩
theorem set_few {bs sl : List PR} (h : IsSet bs sl) (k : sl.length ≤ 3) : bs.length ≤ 3 := Nat.le_trans (nodup_len h.1 fun b hb => (h.2.1 b).mp hb) k
def sp_law_deeds {K : PySem.W.Frag} {mg : Str → Option Value} (T : Env K mg) : Sp := fun vs H Q _ => ∃ (d sc : Addr) (ns : List Int) (m : Int), vs = [.ref d, .int m] ∧ Drw K H d sc ns ∧ 0 ≤ m ∧ m ≤ 2 ∧ ∀ H' v ds, ExD d H H' → Drw K H' d sc ns → SqT K H' v (ds.map V.ref) → ds.length ≤ 9 → DsAt T H' ds m → Q (.ref v) H'
theorem ok_law_deeds (T : Env K mg) : FnOk P w K mg base CX0 8 T.d_law_deeds.f T.d_law_deeds.fd ["draw", "cameras"] (sp_law_deeds T) := by
  have G_law_take := ok_law_take (P := P) (w := w) (base := base) T
  have G_away := ok_away (P := P) (w := w) (base := base) T
  have G_land := ok_land (P := P) (w := w) (base := base) T
  have G_law_pick := ok_law_pick (P := P) (w := w) (base := base) T
  have G_turn := ok_turn (P := P) (w := w) (base := base) T
  have G_step := ok_step (P := P) (w := w) (base := base) T
  have G_look := ok_look (P := P) (w := w) (base := base) T
  refine T.d_law_deeds.F.ok sc_law_deeds (fun vs H Q E h => ?_) (fun cdv A outer s H vs Q E hr h => ?_)
  · obtain ⟨d, sc, ns, m, rfl, hd, hm0, hm2, q⟩ := h
    rfl
  · obtain ⟨d, sc, ns, m, rfl, hd, hm0, hm2, q⟩ := h
    have hr_law_take : Room 2 _ := hr.mono (by decide)
    have hr_away : Room 7 _ := hr.mono (by decide)
    have hr_land : Room 7 _ := hr.mono (by decide)
    have hr_law_pick : Room 3 _ := hr.mono (by decide)
    have hr_turn : Room 7 _ := hr.mono (by decide)
    have hr_step : Room 7 _ := hr.mono (by decide)
    have hr_look : Room 7 _ := hr.mono (by decide)
    refine ⟨_, pss_cons (ps_set (i := 2) sc_law_deeds.nd rfl (.inl rfl) (pe_lst (pa_cons (pe_tup (pa_cons pe_int (pa_cons pe_int pa_nil))) (pa_cons (pe_tup (pa_cons pe_int (pa_cons pe_int pa_nil))) (pa_cons (pe_tup (pa_cons (pe_un un_neg pe_int) (pa_cons pe_int pa_nil))) (pa_cons (pe_tup (pa_cons pe_int (pa_cons (pe_un un_neg pe_int) pa_nil))) (pa_cons (pe_tup (pa_cons pe_int (pa_cons pe_int pa_nil))) (pa_cons (pe_tup (pa_cons pe_int (pa_cons pe_int pa_nil))) pa_nil))))))))
      (pss_cons (ps_set (i := 3) sc_law_deeds.nd rfl (.inl rfl) (pe_lst (pa_cons (pe_tup (pa_cons (pe_tup (pa_cons pe_int (pa_cons pe_int pa_nil))) pa_nil)) (pa_cons (pe_tup (pa_cons (pe_tup (pa_cons pe_int (pa_cons pe_int pa_nil))) pa_nil)) (pa_cons (pe_tup (pa_cons (pe_tup (pa_cons pe_int (pa_cons pe_int pa_nil))) (pa_cons (pe_tup (pa_cons pe_int (pa_cons pe_int pa_nil))) pa_nil))) (pa_cons (pe_tup (pa_cons (pe_tup (pa_cons pe_int (pa_cons pe_int pa_nil))) (pa_cons (pe_tup (pa_cons pe_int (pa_cons (pe_un un_neg pe_int) pa_nil))) pa_nil))) (pa_cons (pe_tup (pa_cons (pe_tup (pa_cons (pe_un un_neg pe_int) (pa_cons pe_int pa_nil))) (pa_cons (pe_tup (pa_cons pe_int (pa_cons pe_int pa_nil))) (pa_cons (pe_tup (pa_cons pe_int (pa_cons pe_int pa_nil))) pa_nil)))) (pa_cons (pe_tup (pa_cons (pe_tup (pa_cons pe_int (pa_cons pe_int pa_nil))) pa_nil)) (pa_cons (pe_tup (pa_cons (pe_tup (pa_cons pe_int (pa_cons pe_int pa_nil))) pa_nil)) (pa_cons (pe_tup (pa_cons (pe_tup (pa_cons pe_int (pa_cons pe_int pa_nil))) (pa_cons (pe_tup (pa_cons pe_int (pa_cons pe_int pa_nil))) pa_nil))) (pa_cons (pe_tup (pa_cons (pe_tup (pa_cons pe_int (pa_cons pe_int pa_nil))) pa_nil)) (pa_cons (pe_tup (pa_cons (pe_tup (pa_cons (pe_un un_neg pe_int) (pa_cons pe_int pa_nil))) (pa_cons (pe_tup (pa_cons pe_int (pa_cons pe_int pa_nil))) pa_nil))) pa_nil))))))))))))
      (pss_cons (ps_setLc (i := 5) (own := [("number", 4)]) (g := gName 4) rfl sc_law_deeds.nd rfl rfl (sw_true rfl rfl rfl (by decide +kernel)) (pi_range1 rfl T.n_range (pa_cons (pv 1) pa_nil)) (blkOk_by (N := ["draw", "cameras", "shifts", "slips", "number", "found", "order"]) (sc := defScope s_law_deeds) (by decide +kernel)) (fun _ _ _ _ _ => (pg_name (i := 4) sc_law_deeds.nd rfl (.inl rfl))) (fun _ _ _ _ _ => pts_nil) (fun _ _ _ _ _ => (pe_call G_look hr_look (by rfl) T.d_look.m T.d_look.k T.d_look.b .nil pass0 (pa_cons (pe_call G_law_pick hr_law_pick (by rfl) T.d_law_pick.m T.d_law_pick.k T.d_law_pick.b .nil pass0 (pa_cons (pv 0) (pa_cons (pe_lst (pa_cons pe_int (pa_cons pe_int (pa_cons pe_int (pa_cons pe_int (pa_cons pe_int pa_nil)))))) pa_nil))) (pa_cons (pv 4) pa_nil)))))
      (pss_cons (ps_for PassesOwn.never rfl (pi_range1 rfl T.n_range (pa_cons (pe_op op_add pe_int (pe_call G_law_take hr_law_take (by rfl) T.d_law_take.m T.d_law_take.k T.d_law_take.b .nil pass0 (pa_cons (pv 0) (pa_cons pe_int pa_nil)))) pa_nil)) (pg_name (i := 4) sc_law_deeds.nd rfl (.inl rfl)) (pss_one (ps_expr (pe_bm PySem.F.plainAttrs_list PySem.F.slot_list_append PySem.F.type_list_append mt_append (pv 5) (pa_cons (pe_call G_step hr_step (by rfl) T.d_step.m T.d_step.k T.d_step.b .nil pass0 (pa_cons (pe_op op_add pe_int (pe_call G_law_take hr_law_take (by rfl) T.d_law_take.m T.d_law_take.k T.d_law_take.b .nil pass0 (pa_cons (pv 0) (pa_cons pe_int pa_nil)))) (pa_cons (pe_call G_law_pick hr_law_pick (by rfl) T.d_law_pick.m T.d_law_pick.k T.d_law_pick.b .nil pass0 (pa_cons (pv 0) (pa_cons (pv 2) pa_nil))) (pa_cons (pe_call G_law_pick hr_law_pick (by rfl) T.d_law_pick.m T.d_law_pick.k T.d_law_pick.b .nil pass0 (pa_cons (pv 0) (pa_cons (pv 3) pa_nil))) pa_nil)))) pa_nil)))))
      (pss_cut (ps_if (pt_cmpR op_eq (pe_call G_law_take hr_law_take (by rfl) T.d_law_take.m T.d_law_take.k T.d_law_take.b .nil pass0 (pa_cons (pv 0) (pa_cons pe_int pa_nil))) pe_int (nomark _)) (pss_one (ps_expr (pe_bm PySem.F.plainAttrs_list PySem.F.slot_list_append PySem.F.type_list_append mt_append (pv 5) (pa_cons (pe_call G_turn hr_turn (by rfl) T.d_turn.m T.d_turn.k T.d_turn.b .nil pass0 (pa_cons (pe_call G_law_pick hr_law_pick (by rfl) T.d_law_pick.m T.d_law_pick.k T.d_law_pick.b .nil pass0 (pa_cons (pv 0) (pa_cons (pe_lst (pa_cons pe_int (pa_cons pe_int (pa_cons pe_int (pa_cons pe_int pa_nil))))) pa_nil))) (pa_cons (pe_op op_add pe_int (pe_call G_law_take hr_law_take (by rfl) T.d_law_take.m T.d_law_take.k T.d_law_take.b .nil pass0 (pa_cons (pv 0) (pa_cons pe_int pa_nil)))) pa_nil))) pa_nil)))) pss_nil)
      (pss_cut (ps_if (pt_cmpR op_gt (pe_call G_law_take hr_law_take (by rfl) T.d_law_take.m T.d_law_take.k T.d_law_take.b .nil pass0 (pa_cons (pv 0) (pa_cons pe_int pa_nil))) pe_int (nomark _)) (pss_one (ps_expr (pe_bm PySem.F.plainAttrs_list PySem.F.slot_list_append PySem.F.type_list_append mt_append (pv 5) (pa_cons (pe_call G_land hr_land (by rfl) T.d_land.m T.d_land.k T.d_land.b .nil pass0 (pa_cons (pe_call G_law_pick hr_law_pick (by rfl) T.d_law_pick.m T.d_law_pick.k T.d_law_pick.b .nil pass0 (pa_cons (pv 0) (pa_cons (pe_lst (pa_cons pe_int (pa_cons pe_int (pa_cons pe_int (pa_cons pe_int (pa_cons pe_int pa_nil)))))) pa_nil))) (pa_cons (pe_call G_law_pick hr_law_pick (by rfl) T.d_law_pick.m T.d_law_pick.k T.d_law_pick.b .nil pass0 (pa_cons (pv 0) (pa_cons (pv 3) pa_nil))) pa_nil))) pa_nil)))) pss_nil)
      (pss_cut (ps_if (pt_cmpR op_gt (pe_call G_law_take hr_law_take (by rfl) T.d_law_take.m T.d_law_take.k T.d_law_take.b .nil pass0 (pa_cons (pv 0) (pa_cons pe_int pa_nil))) pe_int (nomark _)) (pss_one (ps_expr (pe_bm PySem.F.plainAttrs_list PySem.F.slot_list_append PySem.F.type_list_append mt_append (pv 5) (pa_cons (pe_call G_away hr_away (by rfl) T.d_away.m T.d_away.k T.d_away.b .nil pass0 (pa_cons (pe_op op_add pe_int (pe_call G_law_take hr_law_take (by rfl) T.d_law_take.m T.d_law_take.k T.d_law_take.b .nil pass0 (pa_cons (pv 0) (pa_cons pe_int pa_nil)))) pa_nil)) pa_nil)))) pss_nil)
      (pss_cons (ps_set (i := 6) sc_law_deeds.nd rfl (.inl rfl) (pe_lst pa_nil))
      (pss_cons (ps_while PassesOwn.never (pt_cmpR (op_neNil hr.units) (pv 5) (pe_lst pa_nil) (nomark _)) (pss_one (ps_expr (pe_bm PySem.F.plainAttrs_list PySem.F.slot_list_append PySem.F.type_list_append mt_append (pv 6) (pa_cons (pe_bm PySem.F.plainAttrs_list PySem.F.slot_list_pop PySem.F.type_list_pop mt_popAt (pv 5) (pa_cons (pe_call G_law_take hr_law_take (by rfl) T.d_law_take.m T.d_law_take.k T.d_law_take.b .nil pass0 (pa_cons (pv 0) (pa_cons (pe_callB call_len_seq (by rfl) T.n_len PySem.boot_len (pa_cons (pv 5) pa_nil)) pa_nil))) pa_nil)) pa_nil)))))
      (pss_one (ps_ret (pe_callTy call_tuple_of (by rfl) T.n_tuple (by decide +kernel) (pa_cons (pv 6) pa_nil)))))))))))), ?_⟩
    refine ⟨by show 2 ≤ sizeLine; decide, fun ua1 uh1 => ?_⟩
    refine ⟨by show 2 ≤ sizeLine; decide, fun ua2 uh2 => ?_⟩
    refine ⟨_, rfl, by show 2 ≤ sizeLine; decide, fun ua3 uh3 => ?_⟩
    refine ⟨_, rfl, by show 2 ≤ sizeLine; decide, fun ua4 uh4 => ?_⟩
    refine ⟨by show 2 ≤ sizeLine; decide, fun ua5 uh5 => ?_⟩
    refine ⟨by show 2 ≤ sizeLine; decide, fun ua6 uh6 => ?_⟩
    refine ⟨by show 6 ≤ sizeLine; decide, fun ul uhl => ?_⟩
    have uy6 := Ex.new (o := .lst [V.ref ua1, V.ref ua2, V.ref ua3, V.ref ua4, V.ref ua5, V.ref ua6]) uhl
    have uy5 := (Ex.new uh6).trans uy6
    have uy4 := (Ex.new uh5).trans uy5
    have uy3 := (Ex.new uh4).trans uy4
    have uy2 := (Ex.new uh3).trans uy3
    have uy1 := (Ex.new uh2).trans uy2
    have uy0 := (Ex.new uh1).trans uy1
    refine ⟨by show 2 ≤ sizeLine; decide, fun wa1 wh1 => ?_⟩
    refine ⟨by show 1 ≤ sizeLine; decide, fun wa2 wh2 => ?_⟩
    refine ⟨by show 2 ≤ sizeLine; decide, fun wa3 wh3 => ?_⟩
    refine ⟨by show 1 ≤ sizeLine; decide, fun wa4 wh4 => ?_⟩
    refine ⟨by show 2 ≤ sizeLine; decide, fun wa5 wh5 => ?_⟩
    refine ⟨by show 2 ≤ sizeLine; decide, fun wa6 wh6 => ?_⟩
    refine ⟨by show 2 ≤ sizeLine; decide, fun wa7 wh7 => ?_⟩
    refine ⟨by show 2 ≤ sizeLine; decide, fun wa8 wh8 => ?_⟩
    refine ⟨_, rfl, by show 2 ≤ sizeLine; decide, fun wa9 wh9 => ?_⟩
    refine ⟨by show 2 ≤ sizeLine; decide, fun wa10 wh10 => ?_⟩
    refine ⟨_, rfl, by show 2 ≤ sizeLine; decide, fun wa11 wh11 => ?_⟩
    refine ⟨by show 2 ≤ sizeLine; decide, fun wa12 wh12 => ?_⟩
    refine ⟨by show 2 ≤ sizeLine; decide, fun wa13 wh13 => ?_⟩
    refine ⟨by show 3 ≤ sizeLine; decide, fun wa14 wh14 => ?_⟩
    refine ⟨by show 2 ≤ sizeLine; decide, fun wa15 wh15 => ?_⟩
    refine ⟨by show 1 ≤ sizeLine; decide, fun wa16 wh16 => ?_⟩
    refine ⟨by show 2 ≤ sizeLine; decide, fun wa17 wh17 => ?_⟩
    refine ⟨by show 1 ≤ sizeLine; decide, fun wa18 wh18 => ?_⟩
    refine ⟨by show 2 ≤ sizeLine; decide, fun wa19 wh19 => ?_⟩
    refine ⟨by show 2 ≤ sizeLine; decide, fun wa20 wh20 => ?_⟩
    refine ⟨by show 2 ≤ sizeLine; decide, fun wa21 wh21 => ?_⟩
    refine ⟨by show 2 ≤ sizeLine; decide, fun wa22 wh22 => ?_⟩
    refine ⟨by show 1 ≤ sizeLine; decide, fun wa23 wh23 => ?_⟩
    refine ⟨_, rfl, by show 2 ≤ sizeLine; decide, fun wa24 wh24 => ?_⟩
    refine ⟨by show 2 ≤ sizeLine; decide, fun wa25 wh25 => ?_⟩
    refine ⟨by show 2 ≤ sizeLine; decide, fun wa26 wh26 => ?_⟩
    refine ⟨by show 10 ≤ sizeLine; decide, fun wl whl => ?_⟩
    have wy26 := Ex.new (o := .lst [V.ref wa2, V.ref wa4, V.ref wa7, V.ref wa10, V.ref wa14, V.ref wa16, V.ref wa18, V.ref wa21, V.ref wa23, V.ref wa26]) whl
    have wy25 := (Ex.new wh26).trans wy26
    have wy24 := (Ex.new wh25).trans wy25
    have wy23 := (Ex.new wh24).trans wy24
    have wy22 := (Ex.new wh23).trans wy23
    have wy21 := (Ex.new wh22).trans wy22
    have wy20 := (Ex.new wh21).trans wy21
    have wy19 := (Ex.new wh20).trans wy20
    have wy18 := (Ex.new wh19).trans wy19
    have wy17 := (Ex.new wh18).trans wy18
    have wy16 := (Ex.new wh17).trans wy17
    have wy15 := (Ex.new wh16).trans wy16
    have wy14 := (Ex.new wh15).trans wy15
    have wy13 := (Ex.new wh14).trans wy14
    have wy12 := (Ex.new wh13).trans wy13
    have wy11 := (Ex.new wh12).trans wy12
    have wy10 := (Ex.new wh11).trans wy11
    have wy9 := (Ex.new wh10).trans wy10
    have wy8 := (Ex.new wh9).trans wy9
    have wy7 := (Ex.new wh8).trans wy8
    have wy6 := (Ex.new wh7).trans wy7
    have wy5 := (Ex.new wh6).trans wy6
    have wy4 := (Ex.new wh5).trans wy5
    have wy3 := (Ex.new wh4).trans wy4
    have wy2 := (Ex.new wh3).trans wy3
    have wy1 := (Ex.new wh2).trans wy2
    have wy0 := (Ex.new wh1).trans wy1
    have sh := (show RAll K _ [V.ref ua1, V.ref ua2, V.ref ua3, V.ref ua4, V.ref ua5, V.ref ua6] shiftsL from (.cons (Rep.p2 (st_of (uy1 _ _ upd_same))) (.cons (Rep.p2 (st_of (uy2 _ _ upd_same))) (.cons (Rep.p2 (st_of (uy3 _ _ upd_same))) (.cons (Rep.p2 (st_of (uy4 _ _ upd_same))) (.cons (Rep.p2 (st_of (uy5 _ _ upd_same))) (.cons (Rep.p2 (st_of (uy6 _ _ upd_same))) .nil))))))).ex wy0
    have hul := wy0 _ _ (upd_at (o := .lst [V.ref ua1, V.ref ua2, V.ref ua3, V.ref ua4, V.ref ua5, V.ref ua6]) uhl)
    have ss : RAll K _ [V.ref wa2, V.ref wa4, V.ref wa7, V.ref wa10, V.ref wa14, V.ref wa16, V.ref wa18, V.ref wa21, V.ref wa23, V.ref wa26] (slipsT.map Tp.mk) := (.cons (Rep.tp (st_of (wy2 _ _ upd_same)) (.cons (Rep.p2 (st_of (wy1 _ _ upd_same))) .nil)) (.cons (Rep.tp (st_of (wy4 _ _ upd_same)) (.cons (Rep.p2 (st_of (wy3 _ _ upd_same))) .nil)) (.cons (Rep.tp (st_of (wy7 _ _ upd_same)) (.cons (Rep.p2 (st_of (wy5 _ _ upd_same))) (.cons (Rep.p2 (st_of (wy6 _ _ upd_same))) .nil))) (.cons (Rep.tp (st_of (wy10 _ _ upd_same)) (.cons (Rep.p2 (st_of (wy8 _ _ upd_same))) (.cons (Rep.p2 (st_of (wy9 _ _ upd_same))) .nil))) (.cons (Rep.tp (st_of (wy14 _ _ upd_same)) (.cons (Rep.p2 (st_of (wy11 _ _ upd_same))) (.cons (Rep.p2 (st_of (wy12 _ _ upd_same))) (.cons (Rep.p2 (st_of (wy13 _ _ upd_same))) .nil)))) (.cons (Rep.tp (st_of (wy16 _ _ upd_same)) (.cons (Rep.p2 (st_of (wy15 _ _ upd_same))) .nil)) (.cons (Rep.tp (st_of (wy18 _ _ upd_same)) (.cons (Rep.p2 (st_of (wy17 _ _ upd_same))) .nil)) (.cons (Rep.tp (st_of (wy21 _ _ upd_same)) (.cons (Rep.p2 (st_of (wy19 _ _ upd_same))) (.cons (Rep.p2 (st_of (wy20 _ _ upd_same))) .nil))) (.cons (Rep.tp (st_of (wy23 _ _ upd_same)) (.cons (Rep.p2 (st_of (wy22 _ _ upd_same))) .nil)) (.cons (Rep.tp (st_of (wy26 _ _ upd_same)) (.cons (Rep.p2 (st_of (wy24 _ _ upd_same))) (.cons (Rep.p2 (st_of (wy25 _ _ upd_same))) .nil))) .nil))))))))))
    have hwl := upd_at (o := .lst [V.ref wa2, V.ref wa4, V.ref wa7, V.ref wa10, V.ref wa14, V.ref wa16, V.ref wa18, V.ref wa21, V.ref wa23, V.ref wa26]) whl
    have y0 := uy0.trans wy0
    have hdS := hd.ex y0
    have nul : ul ≠ d := by
      obtain ⟨n0, h, _⟩ := id hdS
      exact ne_of hul h (fun z => by cases z)
    have nwl : wl ≠ d := by
      obtain ⟨n0, h, _⟩ := id hdS
      exact ne_of hwl h (fun z => by cases z)
    clear uy0 uy1 uy2 uy3 uy4 uy5 uy6 wy0 wy1 wy2 wy3 wy4 wy5 wy6 wy7 wy8 wy9 wy10 wy11 wy12 wy13 wy14 wy15 wy16 wy17 wy18 wy19 wy20 wy21 wy22 wy23 wy24 wy25 wy26
    revert y0 hdS sh hul ss hwl
    generalize upd _ wl (.lst [V.ref wa2, V.ref wa4, V.ref wa7, V.ref wa10, V.ref wa14, V.ref wa16, V.ref wa18, V.ref wa21, V.ref wa23, V.ref wa26]) = Hs
    intro sh hul ss hwl y0 hdS
    -- looks
    refine ⟨_, rfl, m, rfl, by omega, by omega, fun fl hfl => ?_⟩
    have nfd : fl ≠ d := by
      obtain ⟨ys, h⟩ := hdS.lst
      exact (ne_of_none h hfl).symm
    have ap := hdS.apart hfl
    have xF := Ex.new (o := .lst []) hfl
    refine lc_it walk_range (fun i H' => ExD d Hs H' ∧ Drw K H' d sc ns ∧ ∃ ds : List Addr, H' fl = some (.lst (ds.map V.ref)) ∧ ds.length = i ∧ DsAt T H' ds m) ⟨.of xF, hdS.ex xF, [], upd_same, rfl, fun a ha => absurd ha (by simp)⟩ (fun _ _ _ _ => trivial) ?_ ?_
    · rintro i x Ha Hb hi ⟨e, dr, ds, h1, h2, h3⟩ y
      obtain ⟨rfl, rfl⟩ := y
      refine ⟨rfl, _, rfl, by show 5 ≤ sizeLine; decide, fun l2 hl2 => ?_⟩
      have x2 := Ex.new (o := .lst [V.int 1, .int 1, .int 1, .int 1, .int 2]) hl2
      have nl2 : l2 ≠ d := by
        obtain ⟨ys, h⟩ := dr.lst
        exact (ne_of_none h hl2).symm
      refine ⟨d, l2, _, sc, ns, rfl, dr.ex x2, .inl ⟨sq_of upd_same, nl2⟩, by simp, fun j v H2 hv e2 d2 => ?_⟩
      obtain ⟨f, hf, rfl⟩ := ints_at (ns := [1, 1, 1, 1, 2]) hv
      have hf2 : 1 ≤ f ∧ f ≤ 2 := by
        simp at hf
        omega
      have e3 := (ExD.of x2).trans e2
      refine ⟨_, rfl, f, 0 + (i : Int), rfl, ⟨hf2.1, by omega⟩, ⟨by omega, by omega⟩, fun H3 p bs e4 hp hb => ?_⟩
      have k1 := e4 _ _ (e3 _ _ nfd h1)
      have k3 := (h3.xd e3 dr.lst).ex e4
      refine ⟨ds.map V.ref, k1, sz_lt (by rw [List.length_map]; omega), (e.trans (e3.trans (.of e4))).mut hfl, (d2.ex e4).mut ap nfd, ds ++ [p], by rw [upd_same, List.map_append]; rfl, by rw [List.length_append, List.length_singleton, h2], ?_⟩
      exact (k3.snoc hp ⟨.inr (.inr (.inl ⟨rfl, _, rfl, by omega, by omega⟩)), set_few hb (by decide), ⟨hf2.1, by show f ≤ 3; omega⟩, fun _ => ⟨_, rfl, by omega, by omega⟩, hb.1⟩).xd .upd ⟨_, k1⟩
    rintro H1 ⟨e1, d1, ds1, h11, h12, h13⟩
    have nus : ∀ {Hx : Hp}, ExD d Hs Hx → Hx ul = some (.lst [V.ref ua1, V.ref ua2, V.ref ua3, V.ref ua4, V.ref ua5, V.ref ua6]) := fun e => e _ _ nul hul
    have nws : ∀ {Hx : Hp}, ExD d Hs Hx → Hx wl = some (.lst [V.ref wa2, V.ref wa4, V.ref wa7, V.ref wa10, V.ref wa14, V.ref wa16, V.ref wa18, V.ref wa21, V.ref wa23, V.ref wa26]) := fun e => e _ _ nwl hwl
    -- steps
    refine ⟨_, rfl, d, 3, sc, ns, rfl, d1, by decide, fun r H2 r0 r1 e2 d2 => ⟨_, _, rfl, rfl, 1 + r, rfl, by omega, by omega, ?_⟩⟩
    refine for_it walk_range (fun i σ' H' => ∃ v4 ds, σ' = [some (.ref d), some (.int m), some (.ref ul), some (.ref wl), v4, some (.ref fl), none] ∧ ExD d Hs H' ∧ Drw K H' d sc ns ∧ H' fl = some (.lst (ds.map V.ref)) ∧ ds.length ≤ 2 + i ∧ DsAt T H' ds m)
      ⟨_, ds1, rfl, e1.trans e2, d2, e2 _ _ nfd h11, by omega, h13.xd e2 d1.lst⟩ (fun _ _ _ _ _ => trivial) ?_ ?_
    · rintro i x σ' Ha Hb hi ⟨v4, ds, rfl, e, dr, h1, h2, h3⟩ y
      obtain ⟨rfl, rfl⟩ := y
      refine ⟨_, rfl, .inl ⟨rfl, _, sq_of h1⟩, ?_⟩
      refine ⟨_, rfl, d, 2, sc, ns, rfl, dr, by decide, fun f H3 f0 f1 e3 d3 => ⟨_, _, rfl, rfl, ?_⟩⟩
      have e13 := e.trans e3
      refine ⟨_, rfl, _, rfl, d, ul, _, sc, ns, rfl, d3, .inl ⟨sq_of (nus e13), nul⟩, by simp, fun j v H4 hv e4 d4 => ?_⟩
      have e14 := e13.trans e4
      obtain ⟨b, hb, rb⟩ := pairs_at hv (sh.exd e14 hdS.lst)
      refine ⟨_, rfl, _, rfl, d, wl, _, sc, ns, rfl, d4, .inl ⟨sq_of (nws e14), nwl⟩, by simp, fun j2 v2 H5 hv2 e5 d5 => ?_⟩
      have e15 := e14.trans e5
      obtain ⟨ts, hts, rts⟩ := (ss.exd e15 hdS.lst).get hv2
      obtain ⟨sl, hsl, rfl⟩ : ∃ sl, sl ∈ slipsT ∧ Tp.mk sl = ts := by
        rw [List.getElem?_map] at hts
        obtain ⟨sl, h1, h2⟩ := Option.map_eq_some_iff.mp hts
        exact ⟨sl, List.mem_of_getElem? h1, h2⟩
      obtain ⟨tb, zz, rfl, hz, rz⟩ := rts.tp_inv
      obtain ⟨q1, q2, q3⟩ := slipsT_ok hsl
      refine ⟨1 + f, v, b, tb, zz, sl, rfl, ⟨by omega, by omega⟩, rb.exd e5 d4.lst, shiftsL_ok hb, hz, rz, ⟨q1, by omega, q3, .inl (.inl rfl)⟩, fun H6 p bs e6 hp hbs => ?_⟩
      have e35 := (e3.trans e4).trans e5
      have k1 := e6 _ _ (e35 _ _ nfd h1)
      have k3 := (h3.xd e35 dr.lst).ex e6
      refine ⟨fl, _, _, rfl, rfl, k1, sz_lt (by rw [List.length_map]; omega), ?_⟩
      refine ⟨_, ds ++ [p], rfl, (e.trans (e35.trans (.of e6))).mut hfl, (d5.ex e6).mut ap nfd, by rw [upd_same, List.map_append]; rfl, by rw [List.length_append, List.length_singleton]; omega, ?_⟩
      exact (k3.snoc hp ⟨.inl ⟨rfl, _, rfl, shiftsL_ok hb⟩, set_few hbs q2, ⟨by show 1 ≤ 1 + f; omega, by show 1 + f ≤ 3; omega⟩, fun z => absurd z (by show ¬ ("step" : Str) = "look"; decide +kernel), hbs.1⟩).xd .upd ⟨_, k1⟩
    rintro σ' H3 ⟨v4, ds3, rfl, e3, d3, h31, h32, h33⟩
    have b32 : ds3.length ≤ 5 := by omega
    -- a turn
    refine ⟨fun σ' H' => ∃ v4 ds, σ' = [some (.ref d), some (.int m), some (.ref ul), some (.ref wl), v4, some (.ref fl), none] ∧ ExD d Hs H' ∧ Drw K H' d sc ns ∧ H' fl = some (.lst (ds.map V.ref)) ∧ ds.length ≤ 6 ∧ DsAt T H' ds m, ?_, ?_⟩
    · refine ⟨_, rfl, d, 3, sc, ns, rfl, d3, by decide, fun r4 H4 a4 b4 e4 d4 => ⟨rfl, _, rfl, ite2 (fun _ => ?_) (fun _ => ⟨_, ds3, rfl, e3.trans e4, d4, e4 _ _ nfd h31, by omega, h33.xd e4 d3.lst⟩)⟩⟩
      have e34 := e3.trans e4
      have k31 := e4 _ _ nfd h31
      refine ⟨_, rfl, .inl ⟨rfl, _, sq_of k31⟩, ?_⟩
      refine ⟨_, rfl, by show 4 ≤ sizeLine; decide, fun l2 hl2 => ?_⟩
      have x2 := Ex.new (o := .lst [V.int 1, .int 1, .int 1, .int 2]) hl2
      have nl2 : l2 ≠ d := by
        obtain ⟨ys, h⟩ := d4.lst
        exact (ne_of_none h hl2).symm
      refine ⟨d, l2, _, sc, ns, rfl, d4.ex x2, .inl ⟨sq_of upd_same, nl2⟩, by simp, fun j v H5 hv e5 d5 => ?_⟩
      obtain ⟨f, hf, rfl⟩ := ints_at (ns := [1, 1, 1, 2]) hv
      have hf2 : 1 ≤ f ∧ f ≤ 2 := by
        simp at hf
        omega
      refine ⟨_, rfl, d, 3, sc, ns, rfl, d5, by decide, fun g H6 a6 b6 e6 d6 => ⟨_, _, rfl, rfl, ?_⟩⟩
      refine ⟨f, 1 + g, rfl, ⟨by omega, by omega⟩, ⟨by omega, by omega⟩, fun H7 p bs e7 hp hbs => ?_⟩
      have e46 := ((ExD.of x2).trans e5).trans e6
      have k1 := e7 _ _ (e46 _ _ nfd k31)
      have k3 := ((h33.xd e4 d3.lst).xd e46 d4.lst).ex e7
      refine ⟨fl, _, _, rfl, rfl, k1, sz_lt (by rw [List.length_map]; omega), ?_⟩
      refine ⟨_, ds3 ++ [p], rfl, (e34.trans (e46.trans (.of e7))).mut hfl, (d6.ex e7).mut ap nfd, by rw [upd_same, List.map_append]; rfl, by rw [List.length_append, List.length_singleton]; omega, ?_⟩
      exact (k3.snoc hp ⟨.inr (.inl ⟨rfl, _, rfl, by omega, by omega⟩), set_few hbs (by decide), ⟨by show 1 ≤ f; omega, by show f ≤ 3; omega⟩, fun z => absurd z (by show ¬ ("turn" : Str) = "look"; decide +kernel), hbs.1⟩).xd .upd ⟨_, k1⟩
    rintro σ' H8 ⟨v4, ds8, rfl, e8, d8, h81, h82, h83⟩
    -- a landing
    refine ⟨fun σ' H' => ∃ v4 ds, σ' = [some (.ref d), some (.int m), some (.ref ul), some (.ref wl), v4, some (.ref fl), none] ∧ ExD d Hs H' ∧ Drw K H' d sc ns ∧ H' fl = some (.lst (ds.map V.ref)) ∧ ds.length ≤ 7 ∧ DsAt T H' ds m, ?_, ?_⟩
    · refine ⟨_, rfl, d, 5, sc, ns, rfl, d8, by decide, fun r4 H4 a4 b4 e4 d4 => ⟨_, _, rfl, rfl, _, rfl, ite2 (fun _ => ?_) (fun _ => ⟨_, ds8, rfl, e8.trans e4, d4, e4 _ _ nfd h81, by omega, h83.xd e4 d8.lst⟩)⟩⟩
      have e34 := e8.trans e4
      have k31 := e4 _ _ nfd h81
      refine ⟨_, rfl, .inl ⟨rfl, _, sq_of k31⟩, ?_⟩
      refine ⟨_, rfl, by show 5 ≤ sizeLine; decide, fun l2 hl2 => ?_⟩
      have x2 := Ex.new (o := .lst [V.int 1, .int 1, .int 1, .int 1, .int 2]) hl2
      have nl2 : l2 ≠ d := by
        obtain ⟨ys, h⟩ := d4.lst
        exact (ne_of_none h hl2).symm
      refine ⟨d, l2, _, sc, ns, rfl, d4.ex x2, .inl ⟨sq_of upd_same, nl2⟩, by simp, fun j v H5 hv e5 d5 => ?_⟩
      obtain ⟨f, hf, rfl⟩ := ints_at (ns := [1, 1, 1, 1, 2]) hv
      have hf2 : 1 ≤ f ∧ f ≤ 2 := by
        simp at hf
        omega
      have e45 := (ExD.of x2).trans e5
      have e15 := e34.trans e45
      refine ⟨_, rfl, _, rfl, d, wl, _, sc, ns, rfl, d5, .inl ⟨sq_of (nws e15), nwl⟩, by simp, fun j2 v2 H6 hv2 e6 d6 => ?_⟩
      have e16 := e15.trans e6
      obtain ⟨ts, hts, rts⟩ := (ss.exd e16 hdS.lst).get hv2
      obtain ⟨sl, hsl, rfl⟩ : ∃ sl, sl ∈ slipsT ∧ Tp.mk sl = ts := by
        rw [List.getElem?_map] at hts
        obtain ⟨sl, h1, h2⟩ := Option.map_eq_some_iff.mp hts
        exact ⟨sl, List.mem_of_getElem? h1, h2⟩
      obtain ⟨tb, zz, rfl, hz, rz⟩ := rts.tp_inv
      obtain ⟨q1, q2, q3⟩ := slipsT_ok hsl
      refine ⟨f, tb, zz, sl, rfl, ⟨by omega, by omega⟩, hz, rz, ⟨q1, by omega, q3, .inl (.inr rfl)⟩, fun H7 p bs e7 hp hbs => ?_⟩
      have e46 := e45.trans e6
      have k1 := e7 _ _ (e46 _ _ nfd k31)
      have k3 := ((h83.xd e4 d8.lst).xd e46 d4.lst).ex e7
      refine ⟨fl, _, _, rfl, rfl, k1, sz_lt (by rw [List.length_map]; omega), ?_⟩
      refine ⟨_, ds8 ++ [p], rfl, (e34.trans (e46.trans (.of e7))).mut hfl, (d6.ex e7).mut ap nfd, by rw [upd_same, List.map_append]; rfl, by rw [List.length_append, List.length_singleton]; omega, ?_⟩
      exact (k3.snoc hp ⟨.inr (.inr (.inr (.inl ⟨rfl, rfl⟩))), set_few hbs q2, ⟨by show 1 ≤ f; omega, by show f ≤ 3; omega⟩, fun z => absurd z (by show ¬ ("land" : Str) = "look"; decide +kernel), hbs.1⟩).xd .upd ⟨_, k1⟩
    clear h81 h82 h83 h31 h32 h33 h11 h12 h13
    rintro σ' H9 ⟨v4, ds9, rfl, e9, d9, h91, h92, h93⟩
    -- away
    refine ⟨fun σ' H' => ∃ v4 ds, σ' = [some (.ref d), some (.int m), some (.ref ul), some (.ref wl), v4, some (.ref fl), none] ∧ ExD d Hs H' ∧ Drw K H' d sc ns ∧ H' fl = some (.lst (ds.map V.ref)) ∧ ds.length ≤ 8 ∧ DsAt T H' ds m, ?_, ?_⟩
    · refine ⟨_, rfl, d, 4, sc, ns, rfl, d9, by decide, fun r4 H4 a4 b4 e4 d4 => ⟨_, _, rfl, rfl, _, rfl, ite2 (fun _ => ?_) (fun _ => ⟨_, ds9, rfl, e9.trans e4, d4, e4 _ _ nfd h91, by omega, h93.xd e4 d9.lst⟩)⟩⟩
      have e34 := e9.trans e4
      have k31 := e4 _ _ nfd h91
      refine ⟨_, rfl, .inl ⟨rfl, _, sq_of k31⟩, ?_⟩
      refine ⟨_, rfl, d, 3, sc, ns, rfl, d4, by decide, fun g H6 a6 b6 e6 d6 => ⟨_, _, rfl, rfl, ?_⟩⟩
      refine ⟨1 + g, rfl, ⟨by omega, by omega⟩, fun H7 p bs e7 hp hbs => ?_⟩
      have k1 := e7 _ _ (e6 _ _ nfd k31)
      have k3 := ((h93.xd e4 d9.lst).xd e6 d4.lst).ex e7
      refine ⟨fl, _, _, rfl, rfl, k1, sz_lt (by rw [List.length_map]; omega), ?_⟩
      refine ⟨_, ds9 ++ [p], rfl, (e34.trans (e6.trans (.of e7))).mut hfl, (d6.ex e7).mut ap nfd, by rw [upd_same, List.map_append]; rfl, by rw [List.length_append, List.length_singleton]; omega, ?_⟩
      exact (k3.snoc hp ⟨.inr (.inr (.inr (.inr ⟨rfl, rfl⟩))), set_few hbs (by decide), ⟨by show 1 ≤ 1 + g; omega, by show 1 + g ≤ 3; omega⟩, fun z => absurd z (by show ¬ ("away" : Str) = "look"; decide +kernel), hbs.1⟩).xd .upd ⟨_, k1⟩
    rintro σ' HA ⟨v4, dsA, rfl, eA, dA, hA1, hA2, hA3⟩
    -- the order
    refine ⟨by show 0 ≤ sizeLine; decide, fun od hod => ?_⟩
    have xO := Ex.new (o := .lst []) hod
    have nod : od ≠ d := by
      obtain ⟨ys, h⟩ := dA.lst
      exact (ne_of_none h hod).symm
    have nof : od ≠ fl := (ne_of_none hA1 hod).symm
    have hodS : Hs od = none := by
      cases z : Hs od with
      | none => rfl
      | some o => exact absurd (eA _ _ nod z) (by rw [hod]; exact fun q => nomatch q)
    refine ⟨fun n σ' H' => ∃ (v4 : Option V) (ds es : List Addr), σ' = [some (.ref d), some (.int m), some (.ref ul), some (.ref wl), v4, some (.ref fl), some (.ref od)] ∧ ExD d Hs H' ∧ Drw K H' d sc ns ∧ H' fl = some (.lst (ds.map V.ref)) ∧ H' od = some (.lst (es.map V.ref)) ∧ ds.length = n ∧ es.length + n ≤ 8 ∧ DsAt T H' ds m ∧ DsAt T H' es m, ⟨_, _, dsA, [], rfl, eA.trans (.of xO), dA.ex xO, xO _ _ hA1, upd_same, rfl, by simpa using hA2, hA3.ex xO, fun a ha => absurd ha (by simp)⟩, ?_⟩
    rintro n σ' HB ⟨v4, ds, es, rfl, eB, dB, hB1, hB2, rfl, hB4, hB5, hB6⟩
    refine ⟨_, rfl, by show 0 ≤ sizeLine; decide, fun l0 hl0 => ?_⟩
    have x0 := Ex.new (o := .lst []) hl0
    refine ⟨fl, l0, ds.map V.ref, rfl, rfl, x0 _ _ hB1, upd_same, _, rfl, ?_⟩
    cases ds with
    | nil =>
      refine iteF ⟨_, rfl, od, es.map V.ref, rfl, .inl ⟨sq_of (x0 _ _ hB2), fun t ht => ?_⟩⟩
      have xt := Ex.new (o := .tup (es.map V.ref)) ht
      exact q _ _ es ((ExD.of y0).trans ((eB.trans (.of x0)).trans (.of xt))) ((dB.ex x0).ex xt) (st_of upd_same) (by omega) ((hB6.ex x0).ex xt)
    | cons a0 ds' =>
      refine iteT ?_
      have d0 := dB.ex x0
      refine ⟨fun σ' H' => ∃ (v4 : Option V) (es : List Addr) (ds : List Addr), σ' = [some (.ref d), some (.int m), some (.ref ul), some (.ref wl), v4, some (.ref fl), some (.ref od)] ∧ ExD d Hs H' ∧ Drw K H' d sc ns ∧ H' fl = some (.lst (ds.map V.ref)) ∧ H' od = some (.lst (es.map V.ref)) ∧ ds.length = ds'.length ∧ es.length + ds'.length ≤ 8 ∧ DsAt T H' ds m ∧ DsAt T H' es m, fun σ2 H2 ⟨v, es, ds, p1, p2, p3, p4, p5, p6, p7, p8, p9⟩ => ⟨ds'.length, Nat.lt_succ_self _, v, ds, es, p1, p2, p3, p4, p5, p6, p7, p8, p9⟩, ?_⟩
      refine ⟨_, rfl, .inl ⟨rfl, _, sq_of (x0 _ _ hB2)⟩, ?_⟩
      refine ⟨_, rfl, .inl ⟨rfl, _, sq_of (x0 _ _ hB1)⟩, ?_⟩
      refine ⟨_, rfl, _, rfl, fl, _, rfl, .inl (sq_of (x0 _ _ hB1)), d, (((a0 :: ds').map V.ref).length : Nat), sc, ns, rfl, d0, by rw [List.length_map, List.length_cons]; omega, fun r HC r0 r1 e1 d1 => ?_⟩
      obtain ⟨k, rfl⟩ : ∃ k : Nat, r = (k : Int) := ⟨_, (Int.toNat_of_nonneg r0).symm⟩
      have hk : k < (a0 :: ds').length := by
        rw [List.length_map] at r1
        omega
      have h1C := e1 _ _ nfd (x0 _ _ hB1)
      have h2C := e1 _ _ nod (x0 _ _ hB2)
      have g := List.getElem?_eq_getElem hk
      refine ⟨fl, (a0 :: ds').map V.ref, (k : Int), k, V.ref (a0 :: ds')[k], rfl, rfl, h1C, by omega, by omega, ?_, by rw [List.getElem?_map, g]; rfl, ?_⟩
      · have := seqIndex_of (k := (k : Int)) (n := ((a0 :: ds').map V.ref).length) (by omega) (by rw [List.length_map]; omega)
        simpa using this
      have e3 : ((a0 :: ds').map V.ref).eraseIdx k = ((a0 :: ds').eraseIdx k).map V.ref := by
        exact map_erase _ _ _
      rw [e3]
      have nfo : od ≠ fl := nof
      refine ⟨od, _, _, rfl, rfl, by rw [upd_ne nof]; exact h2C, sz_lt (by rw [List.length_map]; rw [List.length_cons] at hB4; omega), ?_⟩
      have c1 := (hB5.ex x0).xd e1 d0.lst
      have c2 := (hB6.ex x0).xd e1 d0.lst
      have c3 : DsAt T HC ((a0 :: ds').eraseIdx k) m := fun b hb => c1 b (List.mem_of_mem_eraseIdx hb)
      obtain ⟨x, xa, xok⟩ := c1 _ (List.mem_of_getElem? g)
      have u1 : ExD fl HC (upd HC fl (.lst (((a0 :: ds').eraseIdx k).map V.ref))) := .upd
      have c4 := (c2.snoc xa xok).xd u1 ⟨_, h1C⟩
      have c5 := c3.xd u1 ⟨_, h1C⟩
      have h2D : (upd HC fl (.lst (((a0 :: ds').eraseIdx k).map V.ref))) od = some (.lst (es.map V.ref)) := by
        rw [upd_ne nof]
        exact h2C
      have eE := ((eB.trans (.of x0)).trans e1).mut (o := .lst (((a0 :: ds').eraseIdx k).map V.ref)) hfl
      refine ⟨_, es ++ [(a0 :: ds')[k]], (a0 :: ds').eraseIdx k, rfl, eE.mut hodS, (d1.mut ap nfd).mut (hdS.apart hodS) nod, by rw [upd_ne nof.symm, upd_same], by rw [upd_same, List.map_append]; rfl, by rw [List.length_eraseIdx_of_lt hk, List.length_cons]; omega, by rw [List.length_append, List.length_singleton]; rw [List.length_cons] at hB4; omega, c5.xd .upd ⟨_, h2D⟩, c4.xd .upd ⟨_, h2D⟩⟩
end
end My


-- G9
namespace My
open PySem L2 Evl
/-- a craft as the law draws it -/
structure lawC (cs : List P3) (tn : List Int) (area : Int × Int × Int × Int) (foot : PR) (r : Int) : Prop where
  len : cs.length ≤ 3
  cr : ∀ c ∈ cs, okC c
  tu : okTurns tn
  t2 : tn.length ≤ 2
  ar : okArea area
  aw : 1 ≤ area.2.1 - area.1 ∧ area.2.1 - area.1 ≤ 2
  ah : area.2.2.2 - area.2.2.1 ≤ 2
  ft : okPair foot
  rm : 0 ≤ r ∧ r ≤ 1
theorem lawC.sky {cs : List P3} {tn : List Int} {area : Int × Int × Int × Int} {cam : Cam} (tu : okTurns tn) (t2 : tn.length ≤ 2) (ar : okArea area) (aw : area.2.1 - area.1 ≤ 2) (ah : area.2.2.2 - area.2.2.1 ≤ 2) : okSky ⟨cs, cam, tn, area⟩ := by
  refine ⟨tu, ar, ?_⟩
  obtain ⟨⟨_, u2, _⟩, _, u5, _⟩ := ar
  show (tn.length : Int) * (area.2.1 - area.1 + 1) * (area.2.2.2 - area.2.2.1 + 1) ≤ 40000
  have z1 : (tn.length : Int) * (area.2.1 - area.1 + 1) ≤ 2 * 3 := Int.mul_le_mul (by omega) (by omega) (by omega) (by omega)
  have z2 : (tn.length : Int) * (area.2.1 - area.1 + 1) * (area.2.2.2 - area.2.2.1 + 1) ≤ 2 * 3 * 3 := Int.mul_le_mul z1 (by omega) (by omega) (by omega)
  omega
section
variable {P : Program} {w : World} {K : PySem.W.Frag} {mg : Str → Option Value} {base : Heap}
/-- skies over one ground, with small cameras -/
def SksAt (T : Env K mg) (H : Hp) (ks : List Addr) (cs : List P3) (tn : List Int) (area : Int × Int × Int × Int) : Prop := ∀ k ∈ ks, ∃ cam, SkyAt T H k ⟨cs, cam, tn, area⟩ ∧ smallCam cam
theorem SksAt.ex {T : Env K mg} {H H' : Hp} {ks : List Addr} {cs : List P3} {tn : List Int} {area : Int × Int × Int × Int} (e : Ex H H') (h : SksAt T H ks cs tn area) : SksAt T H' ks cs tn area := fun k hk => by
  obtain ⟨c, h1, h2⟩ := h k hk
  exact ⟨c, h1.ex e, h2⟩
theorem SksAt.xd {T : Env K mg} {H H' : Hp} {d : Addr} {ks : List Addr} {cs : List P3} {tn : List Int} {area : Int × Int × Int × Int} (e : ExD d H H') (hd : ∃ ys, H d = some (.lst ys)) (h : SksAt T H ks cs tn area) : SksAt T H' ks cs tn area := fun k hk => by
  obtain ⟨c, h1, h2⟩ := h k hk
  exact ⟨c, h1.exd e hd, h2⟩
theorem SksAt.skies {T : Env K mg} {H : Hp} {ks : List Addr} {cs : List P3} {tn : List Int} {area : Int × Int × Int × Int} {cam : Cam} (h : SksAt T H ks cs tn area) : SkiesAt T H ks ⟨cs, cam, tn, area⟩ := fun k hk => by
  obtain ⟨c, h1, _⟩ := h k hk
  exact ⟨_, h1, rfl, rfl, rfl⟩
def sp_law_craft {K : PySem.W.Frag} {mg : Str → Option Value} (T : Env K mg) : Sp := fun vs H Q _ => ∃ (d sc : Addr) (ns : List Int), vs = [.ref d] ∧ Drw K H d sc ns ∧ ∀ H' p ks cs tn area foot r ds, ExD d H H' → Drw K H' d sc ns → CraftAt T H' p ks foot r ds → ks ≠ [] → ks.length ≤ 2 → SksAt T H' ks cs tn area → DsAt T H' ds (ks.length : Nat) → ds.length ≤ 9 → lawC cs tn area foot r → Q (.ref p) H'
theorem ok_law_craft (T : Env K mg) : FnOk P w K mg base CX0 9 T.d_law_craft.f T.d_law_craft.fd ["draw"] (sp_law_craft T) := by
  have G_Craft_init := ok_Craft_init (P := P) (w := w) (base := base) T
  have G_law_deeds := ok_law_deeds (P := P) (w := w) (base := base) T
  have G_law_take := ok_law_take (P := P) (w := w) (base := base) T
  have G_Sky_init := ok_Sky_init (P := P) (w := w) (base := base) T
  have G_law_camera := ok_law_camera (P := P) (w := w) (base := base) T
  have G_law_pick := ok_law_pick (P := P) (w := w) (base := base) T
  have G_law_ground := ok_law_ground (P := P) (w := w) (base := base) T
  refine T.d_law_craft.F.ok sc_law_craft (fun vs H Q E h => ?_) (fun cdv A outer s H vs Q E hr h => ?_)
  · obtain ⟨d, sc, ns, rfl, hd, q⟩ := h
    rfl
  · obtain ⟨d, sc, ns, rfl, hd, q⟩ := h
    have hr_Craft_init : Room 5 _ := hr.mono (by decide)
    have hr_law_deeds : Room 8 _ := hr.mono (by decide)
    have hr_law_take : Room 2 _ := hr.mono (by decide)
    have hr_Sky_init : Room 6 _ := hr.mono (by decide)
    have hr_law_camera : Room 5 _ := hr.mono (by decide)
    have hr_law_pick : Room 3 _ := hr.mono (by decide)
    have hr_law_ground : Room 7 _ := hr.mono (by decide)
    refine ⟨_, pss_cons (ps_asg (pe_tup (pa_cons (pe_call G_law_ground hr_law_ground (by rfl) T.d_law_ground.m T.d_law_ground.k T.d_law_ground.b .nil pass0 (pa_cons (pv 0) pa_nil)) (pa_cons (pe_call G_law_pick hr_law_pick (by rfl) T.d_law_pick.m T.d_law_pick.k T.d_law_pick.b .nil pass0 (pa_cons (pv 0) (pa_cons (pe_lst (pa_cons (pe_tup (pa_cons pe_int pa_nil)) (pa_cons (pe_tup (pa_cons pe_int pa_nil)) (pa_cons (pe_tup (pa_cons pe_int (pa_cons pe_int pa_nil))) (pa_cons (pe_tup (pa_cons pe_int (pa_cons pe_int pa_nil))) (pa_cons (pe_tup (pa_cons pe_int (pa_cons pe_int pa_nil))) pa_nil)))))) pa_nil))) pa_nil))) (pg_tup (by rfl) (pgs_cons (pg_name (i := 1) sc_law_craft.nd rfl (.inr rfl)) (pgs_cons (pg_name (i := 2) sc_law_craft.nd rfl (.inr rfl)) pgs_nil))))
      (pss_cons (ps_par (i := 3) (j := 4) (by rfl) sc_law_craft.nd rfl rfl (by decide) rfl rfl (pa_cons (pe_un un_neg (pe_call G_law_take hr_law_take (by rfl) T.d_law_take.m T.d_law_take.k T.d_law_take.b .nil pass0 (pa_cons (pv 0) (pa_cons pe_int pa_nil)))) (pa_cons (pe_un un_neg (pe_call G_law_take hr_law_take (by rfl) T.d_law_take.m T.d_law_take.k T.d_law_take.b .nil pass0 (pa_cons (pv 0) (pa_cons pe_int pa_nil)))) pa_nil)) (by rfl))
      (pss_cons (ps_set (i := 5) sc_law_craft.nd rfl (.inr rfl) (pe_tup (pa_cons (pv 3) (pa_cons (pe_op op_add (pe_op op_add (pv 3) pe_int) (pe_call G_law_take hr_law_take (by rfl) T.d_law_take.m T.d_law_take.k T.d_law_take.b .nil pass0 (pa_cons (pv 0) (pa_cons pe_int pa_nil)))) (pa_cons (pv 4) (pa_cons (pe_op op_add (pv 4) (pe_call G_law_take hr_law_take (by rfl) T.d_law_take.m T.d_law_take.k T.d_law_take.b .nil pass0 (pa_cons (pv 0) (pa_cons pe_int pa_nil)))) pa_nil))))))
      (pss_cons (ps_set (i := 6) sc_law_craft.nd rfl (.inl rfl) (pe_callTy call_tuple_of (by rfl) T.n_tuple (by decide +kernel) (pa_cons (pe_lc (own := [("number", 7)]) (g := gName 7) rfl sc_law_craft.nd (pi_range1 rfl T.n_range (pa_cons (pe_op op_add pe_int (pe_op op_fdivN (pe_call G_law_take hr_law_take (by rfl) T.d_law_take.m T.d_law_take.k T.d_law_take.b .nil pass0 (pa_cons (pv 0) (pa_cons pe_int pa_nil))) pe_int)) pa_nil)) (blkOk_by (N := ["draw", "ground", "turns", "low_a", "low_b", "area", "skies", "number"]) (sc := defScope s_law_craft) (by decide +kernel)) (fun _ _ _ _ _ => (pg_name (i := 7) sc_law_craft.nd rfl (.inl rfl))) (fun _ _ _ _ _ => pts_nil) (fun _ _ _ _ _ => (pe_make (mkOf T.C_Sky T.m_Sky_init) G_Sky_init hr_Sky_init (by rfl) T.C_Sky.m T.m_Sky_init.b .nil pass0 (pa_cons (pv 1) (pa_cons (pe_call G_law_camera hr_law_camera (by rfl) T.d_law_camera.m T.d_law_camera.k T.d_law_camera.b .nil pass0 (pa_cons (pv 0) (pa_cons (pv 1) pa_nil))) (pa_cons (pv 2) (pa_cons (pv 5) pa_nil))))))) pa_nil)))
      (pss_one (ps_ret (pe_make (mkOf T.C_Craft T.m_Craft_init) G_Craft_init hr_Craft_init (by rfl) T.C_Craft.m T.m_Craft_init.b .nil pass0 (pa_cons (pv 6) (pa_cons (pe_tup (pa_cons (pe_call G_law_take hr_law_take (by rfl) T.d_law_take.m T.d_law_take.k T.d_law_take.b .nil pass0 (pa_cons (pv 0) (pa_cons pe_int pa_nil))) (pa_cons (pe_call G_law_take hr_law_take (by rfl) T.d_law_take.m T.d_law_take.k T.d_law_take.b .nil pass0 (pa_cons (pv 0) (pa_cons pe_int pa_nil))) pa_nil))) (pa_cons (pe_call G_law_take hr_law_take (by rfl) T.d_law_take.m T.d_law_take.k T.d_law_take.b .nil pass0 (pa_cons (pv 0) (pa_cons pe_int pa_nil))) (pa_cons (pe_call G_law_deeds hr_law_deeds (by rfl) T.d_law_deeds.m T.d_law_deeds.k T.d_law_deeds.b .nil pass0 (pa_cons (pv 0) (pa_cons (pe_callB call_len_seq (by rfl) T.n_len PySem.boot_len (pa_cons (pv 6) pa_nil)) pa_nil))) pa_nil)))))))))), ?_⟩
    refine ⟨_, rfl, d, sc, ns, rfl, hd, fun H1 g cs e1 d1 hg lg okg => ?_⟩
    refine ⟨_, rfl, by show 1 ≤ sizeLine; decide, fun t1 h1 => ?_⟩
    refine ⟨by show 1 ≤ sizeLine; decide, fun t2 h2 => ?_⟩
    refine ⟨by show 2 ≤ sizeLine; decide, fun t3 h3 => ?_⟩
    refine ⟨by show 2 ≤ sizeLine; decide, fun t4 h4 => ?_⟩
    refine ⟨by show 2 ≤ sizeLine; decide, fun t5 h5 => ?_⟩
    refine ⟨by show 5 ≤ sizeLine; decide, fun l hl => ?_⟩
    have x6 := Ex.new (o := .lst [V.ref t1, V.ref t2, V.ref t3, V.ref t4, V.ref t5]) hl
    have x5 := (Ex.new h5).trans x6
    have x4 := (Ex.new h4).trans x5
    have x3 := (Ex.new h3).trans x4
    have x2 := (Ex.new h2).trans x3
    have x1 := (Ex.new h1).trans x2
    have nld : l ≠ d := by
      obtain ⟨ys, h⟩ := d1.lst
      exact (ne_of_none (((((Ex.new h1).trans (Ex.new h2)).trans (Ex.new h3)).trans (Ex.new h4)).trans (Ex.new (o := .tup [V.int 0, .int 2]) h5) _ _ h) hl).symm
    have dX := d1.ex x1
    refine ⟨d, l, _, sc, ns, rfl, dX, .inl ⟨sq_of upd_same, nld⟩, by simp, fun j v H2 hv e2 d2o => ?_⟩
    obtain ⟨tu, tn, rfl, htuo, oktu, len2⟩ : ∃ (tu : Addr) (tn : List Int), v = .ref tu ∧ SqT K H2 tu (tn.map V.int) ∧ okTurns tn ∧ tn.length ≤ 2 := by
      have k1 := e2.tup dX.lst (st_of (x2 _ _ upd_same) : SqT K _ t1 [.int 0])
      have k2 := e2.tup dX.lst (st_of (x3 _ _ upd_same) : SqT K _ t2 [.int 0])
      have k3 := e2.tup dX.lst (st_of (x4 _ _ upd_same) : SqT K _ t3 [.int 0, .int 1])
      have k4 := e2.tup dX.lst (st_of (x5 _ _ upd_same) : SqT K _ t4 [.int 1, .int 2])
      have k5 := e2.tup dX.lst (st_of (x6 _ _ upd_same) : SqT K _ t5 [.int 0, .int 2])
      match j, hv with
      | 0, hv => cases hv; exact ⟨t1, [0], rfl, k1, ⟨by decide, by decide, by decide, by decide⟩, by decide⟩
      | 1, hv => cases hv; exact ⟨t2, [0], rfl, k2, ⟨by decide, by decide, by decide, by decide⟩, by decide⟩
      | 2, hv => cases hv; exact ⟨t3, [0, 1], rfl, k3, ⟨by decide, by decide, by decide, by decide⟩, by decide⟩
      | 3, hv => cases hv; exact ⟨t4, [1, 2], rfl, k4, ⟨by decide, by decide, by decide, by decide⟩, by decide⟩
      | 4, hv => cases hv; exact ⟨t5, [0, 2], rfl, k5, ⟨by decide, by decide, by decide, by decide⟩, by decide⟩
      | j + 5, hv => simp at hv
    refine ⟨by show 2 ≤ sizeLine; decide, fun tt htt => ?_⟩
    have xtt := Ex.new (o := .tup [V.ref g, V.ref tu]) htt
    refine ⟨tt, [_, _], rfl, st_of upd_same, rfl, _, _, rfl, _, _, rfl, rfl, ?_⟩
    have eA := ((ExD.of x1).trans e2).trans (.of xtt)
    have hg2 := hg.exd eA d1.lst
    have d2 := d2o.ex xtt
    have htu := ex_t xtt htuo
    revert eA hg2 d2 htu
    generalize upd H2 tt _ = H2'
    intro eA hg2 d2 htu
    refine ⟨_, rfl, d, 2, sc, ns, rfl, d2, by decide, fun r1 H3 p1 q1 e3 d3 => ⟨_, rfl, ?_⟩⟩
    refine ⟨_, rfl, d, 2, sc, ns, rfl, d3, by decide, fun r2 H4 p2 q2 e4 d4 => ⟨_, rfl, _, _, rfl, ?_⟩⟩
    refine ⟨_, rfl, _, rfl, _, _, rfl, rfl, _, rfl, d, 2, sc, ns, rfl, d4, by decide, fun r3 H5 p3 q3 e5 d5 => ⟨_, _, rfl, rfl, ?_⟩⟩
    refine ⟨_, rfl, _, rfl, _, rfl, d, 3, sc, ns, rfl, d5, by decide, fun r4 H6 p4 q4 e6 d6 => ⟨_, _, rfl, rfl, ?_⟩⟩
    refine ⟨by show 4 ≤ sizeLine; decide, fun ar har => ?_⟩
    obtain ⟨area, hare⟩ : ∃ area : Int × Int × Int × Int, area = (-r1, -r1 + 1 + r3, -r2, -r2 + r4) := ⟨_, rfl⟩
    have oka : okArea area ∧ (1 ≤ area.2.1 - area.1 ∧ area.2.1 - area.1 ≤ 2) ∧ area.2.2.2 - area.2.2.1 ≤ 2 := by
      rw [hare]
      exact ⟨⟨⟨by show -1000000 ≤ -r1; omega, by show -r1 ≤ -r1 + 1 + r3; omega, by show -r1 + 1 + r3 ≤ 1000000; omega⟩, by show -1000000 ≤ -r2; omega, by show -r2 ≤ -r2 + r4; omega, by show -r2 + r4 ≤ 1000000; omega⟩, ⟨by show 1 ≤ -r1 + 1 + r3 - -r1; omega, by show -r1 + 1 + r3 - -r1 ≤ 2; omega⟩, by show -r2 + r4 - -r2 ≤ 2; omega⟩
    have xA := Ex.new (o := .tup [.int (-r1), .int (-r1 + 1 + r3), .int (-r2), .int (-r2 + r4)]) har
    have har7 : SqT K (upd H6 ar (.tup [.int (-r1), .int (-r1 + 1 + r3), .int (-r2), .int (-r2 + r4)])) ar (areaV area) := by
      rw [hare]
      exact st_of upd_same
    have eB := (((e3.trans e4).trans e5).trans e6).trans (.of xA)
    have d7 := d6.ex xA
    revert har7 eB d7
    generalize upd H6 ar _ = H7
    intro har7 eB d7
    have hg7 := hg2.exd eB d2.lst
    have htu7 := eB.tup d2.lst htu
    have e17 := (e1.trans eA).trans eB
    refine ⟨_, rfl, d, 5, sc, ns, rfl, d7, by decide, fun m H8 m0 m1 e8 d8 => ⟨_, _, rfl, rfl, ⟨by decide, by decide⟩, _, _, rfl, rfl, 1 + m.fdiv 4, rfl, by have := fourth m0 m1; omega, by have := fourth m0 m1; omega, fun D hD => ?_⟩⟩
    have m4 := fourth m0 m1
    have nDd : D ≠ d := by
      obtain ⟨ys, h⟩ := d8.lst
      exact (ne_of_none h hD).symm
    have apD := d8.apart hD
    have hg8 := hg7.exd e8 d7.lst
    have htu8 := e8.tup d7.lst htu7
    have har8 := e8.tup d7.lst har7
    refine lc_it walk_range (fun i H' => ExD d H8 H' ∧ Drw K H' d sc ns ∧ ∃ ks : List Addr, H' D = some (.lst (ks.map V.ref)) ∧ ks.length = i ∧ SksAt T H' ks cs tn area) ⟨.of (Ex.new hD), d8.ex (Ex.new hD), [], upd_same, rfl, fun a ha => absurd ha (by simp)⟩ (fun _ _ _ _ => trivial) ?_ ?_
    · rintro i x Ha Hb hi ⟨e, dr, ks, h1, h2, h3⟩ y
      obtain ⟨rfl, rfl⟩ := y
      have hg9 := hg8.exd e d8.lst
      refine ⟨rfl, _, rfl, _, rfl, _, rfl, d, g, sc, ns, cs, rfl, dr, hg9, fun H9 c cam e9 d9 hc sm => ?_⟩
      have ee := e.trans e9
      refine ⟨_, rfl, _, rfl, fun k dk hk hdk hnk => ?_⟩
      have eX := ex_make (o1 := .own k) (o2 := .ins T.C_Sky.C dk []) hk hdk
      refine ⟨k, dk, g, c, tu, ar, ⟨cs, cam, tn, area⟩, rfl, upd_same, (hg8.exd ee d8.lst).ex eX, hc.ex eX, ex_t eX (ee.tup d8.lst htu8), ex_t eX (ee.tup d8.lst har8), lawC.sky oktu len2 oka.1 oka.2.1.2 oka.2.2, fun H10 e10 hs => ⟨rfl, ?_⟩⟩
      have e10' := ex_made e10 hk eX
      have k1 := e10' _ _ (e9 _ _ nDd h1)
      refine ⟨ks.map V.ref, k1, sz_lt (by rw [List.length_map]; omega), (ee.trans (.of e10')).mut hD, (d9.ex e10').mut apD nDd, ks ++ [k], by rw [upd_same, List.map_append]; rfl, by rw [List.length_append, List.length_singleton, h2], ?_⟩
      have h4 := (h3.xd e9 dr.lst).ex e10'
      refine SksAt.xd (d := D) .upd ⟨_, k1⟩ fun b hb => ?_
      rcases List.mem_append.mp hb with hb | hb
      · exact h4 b hb
      · rw [List.mem_singleton] at hb
        subst hb
        exact ⟨cam, hs, sm⟩
    rintro H9 ⟨e9, d9, ks, h1, h2, h3⟩
    refine ⟨D, ks.map V.ref, rfl, .inl ⟨sq_of h1, fun tk htk => ?_⟩⟩
    have xk := Ex.new (o := .tup (ks.map V.ref)) htk
    have d9' := d9.ex xk
    have tk9 : SqT K (upd H9 tk (.tup (ks.map V.ref))) tk (ks.map V.ref) := st_of upd_same
    have sk9 := h3.ex xk
    have e99 := ((e17.trans e8).trans e9).trans (.of xk)
    revert d9' tk9 sk9 e99
    generalize upd H9 tk _ = HA
    intro d9' tk9 sk9 e99
    have kl : 1 ≤ ks.length ∧ ks.length ≤ 2 := by omega
    refine ⟨_, rfl, _, rfl, d, 3, sc, ns, rfl, d9', by decide, fun f1 HB a1 b1 eB1 dB => ?_⟩
    refine ⟨_, rfl, d, 2, sc, ns, rfl, dB, by decide, fun f2 HC a2 b2 eC dC => ?_⟩
    refine ⟨by show 2 ≤ sizeLine; decide, fun tf htf => ?_⟩
    have xf := Ex.new (o := .tup [.int f1, .int f2]) htf
    refine ⟨_, rfl, d, 2, sc, ns, rfl, dC.ex xf, by decide, fun rm HD a3 b3 eD dD => ?_⟩
    have tkD := ((eB1.trans eC).trans (.of xf)).trans eD
    refine ⟨_, rfl, _, rfl, tk, ks.map V.ref, rfl, .inr (tkD.tup d9'.lst tk9), d, sc, ns, ((ks.map V.ref).length : Nat), rfl, dD, by omega, by rw [List.length_map]; omega, fun HE v ds eE dE hv lds hds => ?_⟩
    intro x dx hx hdx hne
    have eX := ex_make (o1 := .own x) (o2 := .ins T.C_Craft.C dx []) hx hdx
    have tkE := tkD.trans eE
    have skE := sk9.xd tkE d9'.lst
    have okf : okPair (f1, f2) := ⟨⟨by show -1000 ≤ f1; omega, by show f1 ≤ 1000; omega⟩, by show -1000 ≤ f2; omega, by show f2 ≤ 1000; omega⟩
    have rf : Rep K HE (.ref tf) ((f1, f2) : PR) := (Rep.p2 (st_of upd_same) : Rep K (upd HC tf (.tup [.int f1, .int f2])) (.ref tf) ((f1, f2) : PR)).exd (eD.trans eE) (dC.ex xf).lst
    rw [List.length_map] at hds
    have dso : DeedsAt T (upd (upd HE dx (.own x)) x (.ins T.C_Craft.C dx [])) ds (ks.length : Nat) := fun a ha => by
      obtain ⟨y, y1, y2⟩ := hds a ha
      refine ⟨y, y1.ex eX, fun z => ?_⟩
      obtain ⟨n, n1, n2, n3⟩ := y2.lk z
      exact ⟨n, n1, n3⟩
    refine ⟨x, dx, tk, tf, v, ks, ⟨cs, ⟨1, 1, 0, 0, 0⟩, tn, area⟩, (f1, f2), rm, ds, rfl, upd_same, ex_t eX (tkE.tup d9'.lst tk9), fun z => by rw [z] at kl; simp at kl, by omega, (skE.ex eX).skies, rf.ex eX, okf, ⟨a3, by omega⟩, ex_t eX hv, by omega, dso, fun HF eF hcf => ⟨rfl, ?_⟩⟩
    have eF' := ex_made eF hx eX
    exact q HF x ks cs tn area (f1, f2) rm ds ((e99.trans tkE).trans (.of eF')) (dE.ex eF') hcf (fun z => by rw [z] at kl; simp at kl) kl.2 (skE.ex eF') (hds.ex eF') lds ⟨lg, okg, oktu, len2, oka.1, oka.2.1, oka.2.2, okf, a3, by omega⟩
theorem standF_bound {s : SkyD} (t2 : s.turns.length ≤ 2) (aw : s.area.2.1 - s.area.1 ≤ 2) (ah : s.area.2.2.2 - s.area.2.2.1 ≤ 2) : (standF s).length ≤ 18 := by
  have e : (standF s).length = s.turns.length * ((s.area.2.1 + 1 - s.area.1).toNat * (s.area.2.2.2 + 1 - s.area.2.2.1).toNat) := by
    rw [standF_len, shiftsF_len]
  rw [e]
  exact Nat.mul_le_mul t2 (Nat.mul_le_mul (show _ ≤ 3 by omega) (show _ ≤ 3 by omega))
theorem standF_two {s : SkyD} (h : okSky s) (aw : 1 ≤ s.area.2.1 - s.area.1) : 2 ≤ (standF s).length := by
  obtain ⟨h1, ⟨⟨_, ha, _⟩, _, hb, _⟩, _⟩ := h
  have e : (standF s).length = s.turns.length * ((s.area.2.1 + 1 - s.area.1).toNat * (s.area.2.2.2 + 1 - s.area.2.2.1).toNat) := by
    rw [standF_len, shiftsF_len]
  have p1 : 1 ≤ s.turns.length := List.length_pos_iff.mpr h1.1
  have : 1 * (2 * 1) ≤ s.turns.length * ((s.area.2.1 + 1 - s.area.1).toNat * (s.area.2.2.2 + 1 - s.area.2.2.1).toNat) := Nat.mul_le_mul p1 (Nat.mul_le_mul (by omega) (by omega))
  rw [← e] at this
  exact this
theorem cut_one {xs : List V} (h : 2 ≤ xs.length) : cutV xs none (some 1) = xs.take 1 ∧ ¬ (HT.sIx xs.length 0 none = 0 ∧ HT.sIx xs.length xs.length (some 1) = xs.length) := by
  have e : HT.sIx xs.length xs.length (some 1) = 1 := by
    show (if (1 : Int) < 0 then ((1 : Int) + (xs.length : Int)).toNat else min (1 : Int).toNat xs.length) = _
    rw [if_neg (by decide)]
    omega
  constructor
  · show (xs.drop 0).take (HT.sIx xs.length xs.length (some 1) - 0) = _
    rw [e, List.drop_zero]
  · rintro ⟨_, q⟩
    rw [e] at q
    omega
theorem take_one {K : PySem.W.Frag} {H : Hp} : ∀ {vs : List V} {as : List P3}, RAll K H vs as → RAll K H (vs.take 1) (as.take 1)
  | _, _, .nil => .nil
  | _, _, .cons r _ => .cons r .nil
theorem standF_ne {s : SkyD} (h : okSky s) : standF s ≠ [] := by
  obtain ⟨h1, ⟨⟨_, ha, _⟩, _, hb, _⟩, _⟩ := h
  have e : (standF s).length = s.turns.length * ((s.area.2.1 + 1 - s.area.1).toNat * (s.area.2.2.2 + 1 - s.area.2.2.1).toNat) := by
    rw [standF_len, shiftsF_len]
  intro z
  rw [z] at e
  have p1 : 1 ≤ s.turns.length := List.length_pos_iff.mpr h1.1
  have : 1 * (1 * 1) ≤ s.turns.length * ((s.area.2.1 + 1 - s.area.1).toNat * (s.area.2.2.2 + 1 - s.area.2.2.1).toNat) := Nat.mul_le_mul p1 (Nat.mul_le_mul (by omega) (by omega))
  rw [← e] at this
  exact absurd this (by decide)
theorem sf_noSt (g c t a : Addr) : (sf g c t a).lookup ("standings" : Str) = none := by
  unfold sf
  repeat (first | exact lk_eq | exact rfl | refine (lk_ne (by decide +kernel)).trans ?_)
theorem map_eraseR {K : PySem.W.Frag} {H : Hp} : ∀ {vs : List V} {as : List P3} (k : Nat), RAll K H vs as → RAll K H (vs.eraseIdx k) (as.eraseIdx k)
  | _, _, _, .nil => .nil
  | _, _, 0, .cons _ t => t
  | _, _, k + 1, .cons r t => .cons r (map_eraseR k t)
def sp_law_belief {K : PySem.W.Frag} {mg : Str → Option Value} (T : Env K mg) : Sp := fun vs H Q _ => ∃ (d p sc k : Addr) (ns : List Int) (ks : List Addr) (foot : PR) (r : Int) (ds : List Addr) (s : SkyD), vs = [.ref d, .ref p] ∧ Drw K H d sc ns ∧ CraftAt T H p (k :: ks) foot r ds ∧ SkyAt T H k s ∧ okSky s ∧ (standF s).length ≤ 18 ∧ 2 ≤ (standF s).length ∧ ∀ H' v bel, ExD d H H' → Drw K H' d sc ns → Rep K H' v (Tp.mk bel) → bel ≠ [] → bel.length ≤ 5 → bel.Sublist (standF s) → Q v H'
theorem ok_law_belief (T : Env K mg) : FnOk P w K mg base CX0 3 T.d_law_belief.f T.d_law_belief.fd ["draw", "craft"] (sp_law_belief T) := by
  have G_Sky_standings := ok_Sky_standings (P := P) (w := w) (base := base) T
  have G_law_take := ok_law_take (P := P) (w := w) (base := base) T
  refine T.d_law_belief.F.ok sc_law_belief (fun vs H Q E h => ?_) (fun cdv A outer s H vs Q E hr h => ?_)
  · obtain ⟨d, p, sc, k, ns, ks, foot, r, ds, s, rfl, hd, hc, hk, oks, len18, len2, q⟩ := h
    rfl
  · obtain ⟨d, p, sc, k, ns, ks, foot, r, ds, s, rfl, hd, hc, hk, oks, len18, len2, q⟩ := h
    have hr_Sky_standings : Room 1 _ := hr.mono (by decide)
    have hr_law_take : Room 2 _ := hr.mono (by decide)
    refine ⟨_, pss_cons (ps_setLc (i := 2) (own := [("standing", 3)]) (g := gName 3) rfl sc_law_belief.nd rfl rfl (sw_true rfl rfl rfl (by decide +kernel)) (pi_tup (pe_meth0 (pe_ix ix_tup (pe_fld (pv 1) rfl) pe_int (fun _ _ => rfl)) T.C_Sky.cl T.m_Sky_standings.me G_Sky_standings hr_Sky_standings T.m_Sky_standings.b .nil pass0)) (blkOk_by (N := ["draw", "craft", "rows", "standing"]) (sc := defScope s_law_belief) (by decide +kernel)) (fun _ _ _ _ _ => (pg_name (i := 3) sc_law_belief.nd rfl (.inl rfl))) (fun _ _ _ _ _ => (pts_one (pt_cmpR op_gt (pe_call G_law_take hr_law_take (by rfl) T.d_law_take.m T.d_law_take.k T.d_law_take.b .nil pass0 (pa_cons (pv 0) (pa_cons pe_int pa_nil))) pe_int (nomark _)))) (fun _ _ _ _ _ => (pv 3)))
      (pss_cons (ps_while PassesOwn.never (pt_cmpR op_gt (pe_callB call_len_seq (by rfl) T.n_len PySem.boot_len (pa_cons (pv 2) pa_nil)) pe_int (nomark _)) (pss_one (ps_expr (pe_bm PySem.F.plainAttrs_list PySem.F.slot_list_pop PySem.F.type_list_pop mt_popAt (pv 2) (pa_cons (pe_call G_law_take hr_law_take (by rfl) T.d_law_take.m T.d_law_take.k T.d_law_take.b .nil pass0 (pa_cons (pv 0) (pa_cons (pe_callB call_len_seq (by rfl) T.n_len PySem.boot_len (pa_cons (pv 2) pa_nil)) pa_nil))) pa_nil)))))
      (pss_one (ps_ret (pe_ifExp (pt_cmpR (op_neA (α := List (Int × Int × Int)) hr.units) (pv 2) (pe_lst pa_nil) (nomark _)) (pe_callTy call_tuple_of (by rfl) T.n_tuple (by decide +kernel) (pa_cons (pv 2) pa_nil)) (pe_slice sl_tup (pe_meth0 (pe_ix ix_tup (pe_fld (pv 1) rfl) pe_int (fun _ _ => rfl)) T.C_Sky.cl T.m_Sky_standings.me G_Sky_standings hr_Sky_standings T.m_Sky_standings.b .nil pass0) po_none (po_some pe_int)))))), ?_⟩
    obtain ⟨dx, a, f, dd, c1, c2, c3, c4⟩ := id hc
    obtain ⟨dk, g, c, tu, ar, k1, _⟩ := id hk
    refine ⟨_, rfl, p, T.C_Craft.C, dx, _, _, rfl, c1, T.C_Craft.cl, T.a_Craft_skies, crf_s _ _ _ _, a, _, 0, V.ref k, rfl, rfl, c2, at_of (j := 0) rfl rfl, k, dk, _, rfl, k1, sf_noSt _ _ _ _, k, s, rfl, hk, oks, fun v H1 e1 rv => ?_⟩
    obtain ⟨sa, xs, rfl, hsa, ra⟩ := rv.tp_inv
    have d1 := hd.ex e1
    refine ⟨sa, rfl, ⟨_, hsa⟩, fun D hD => ?_⟩
    have nDd : D ≠ d := by
      obtain ⟨ys, h⟩ := d1.lst
      exact (ne_of_none h hD).symm
    have apD := d1.apart hD
    refine lc_it walk_tup (fun i H' => ExD d H1 H' ∧ Drw K H' d sc ns ∧ ∃ (ys : List V) (bs : List P3), H' D = some (.lst ys) ∧ RAll K H' ys bs ∧ bs.Sublist ((standF s).take i)) ⟨.of (Ex.new hD), d1.ex (Ex.new hD), [], [], upd_same, .nil, by simp⟩ (fun i H' _ h => h.1.tup d1.lst hsa) ?_ ?_
    · rintro i x Ha Hb hi ⟨e, dr, ys, bs, h1, h2, h3⟩ ⟨rfl, hx⟩
      obtain ⟨b, hb, rb⟩ := (ra.exd e d1.lst).get hx
      have l2 := h2.length
      have l3 := h3.length_le
      rw [List.length_take] at l3
      refine ⟨rfl, _, rfl, d, 3, sc, ns, rfl, dr, by decide, fun r1 H2 p1 q1 e2 d2 => ⟨_, _, rfl, rfl, _, rfl, ?_⟩⟩
      have m1 := e2 _ _ nDd h1
      have m2 := h2.exd e2 dr.lst
      refine ite2 (fun _ => ?_) (fun _ => ?_)
      · refine ⟨_, rfl, ys, m1, sz_lt (by omega), (e.trans e2).mut hD, d2.mut apD nDd, ys ++ [x], bs ++ [b], upd_same, (m2.snoc (rb.exd e2 dr.lst)).updL m1, ?_⟩
        rw [take_get hb]
        exact h3.append (List.Sublist.refl _)
      · refine ⟨e.trans e2, d2, ys, bs, m1, m2, ?_⟩
        rw [take_get hb]
        exact h3.trans (List.sublist_append_left ..)
    rintro H2 ⟨e2, d2, ys, bs, h1, h2, h3⟩
    have h3 : bs.Sublist (standF s) := h3.trans (List.take_sublist ..)
    refine ⟨fun n σ' H' => ∃ (ys : List V) (bs : List P3), σ' = [some (.ref d), some (.ref p), some (.ref D), none] ∧ ExD d H1 H' ∧ Drw K H' d sc ns ∧ H' D = some (.lst ys) ∧ RAll K H' ys bs ∧ bs.Sublist (standF s) ∧ bs.length = n, ⟨_, ys, bs, rfl, e2, d2, h1, h2, h3, rfl⟩, ?_⟩
    rintro n σ' H3 ⟨ys, bs, rfl, e3, d3, h1, h2, h3, rfl⟩
    have l2 := h2.length
    have l18 := h3.length_le
    refine ⟨_, rfl, D, ys, rfl, .inl (sq_of h1), _, _, rfl, rfl, _, rfl, ite2 (fun z => ?_) (fun z => ?_)⟩
    · have z5 : (5 : Int) < (ys.length : Nat) := of_decide_eq_true z
      refine ⟨fun σ' H' => ∃ (ys' : List V) (bs' : List P3), σ' = [some (.ref d), some (.ref p), some (.ref D), none] ∧ ExD d H1 H' ∧ Drw K H' d sc ns ∧ H' D = some (.lst ys') ∧ RAll K H' ys' bs' ∧ bs'.Sublist (standF s) ∧ bs'.length = bs.length - 1, fun σ2 H4 ⟨ys', bs', w1, w2, w3, w4, w5, w6, w7⟩ => ⟨bs.length - 1, by omega, ys', bs', w1, w2, w3, w4, w5, w6, w7⟩, ?_⟩
      refine ⟨_, rfl, .inl ⟨rfl, _, sq_of h1⟩, _, rfl, _, rfl, D, ys, rfl, .inl (sq_of h1), d, (ys.length : Nat), sc, ns, rfl, d3, by omega, fun r1 H4 p1 q1 e4 d4 => ?_⟩
      obtain ⟨j, rfl⟩ : ∃ j : Nat, r1 = (j : Int) := ⟨_, (Int.toNat_of_nonneg p1).symm⟩
      have hj : j < ys.length := by omega
      have m1 := e4 _ _ nDd h1
      have m2 := h2.exd e4 d3.lst
      refine ⟨D, ys, (j : Int), j, ys[j], rfl, rfl, m1, by omega, by omega, ?_, List.getElem?_eq_getElem hj, ?_⟩
      · have := seqIndex_of (k := (j : Int)) (n := ys.length) (by omega) (by omega)
        simpa using this
      · exact ⟨_, bs.eraseIdx j, rfl, (e3.trans e4).mut hD, d4.mut apD nDd, upd_same, (map_eraseR j m2).updL m1, (List.eraseIdx_sublist ..).trans h3, by rw [List.length_eraseIdx_of_lt (by omega)]⟩
    · have z5 : ¬ (5 : Int) < (ys.length : Nat) := fun y => z (decide_eq_true y)
      refine ⟨_, rfl, by show 0 ≤ sizeLine; decide, fun l0 hl0 => ?_⟩
      have x0 := Ex.new (o := .lst []) hl0
      refine ⟨bs, [], Rep.lst (sq_of (x0 _ _ h1)) (h2.ex x0), Rep.lst (sq_of upd_same) .nil, _, rfl, ?_⟩
      by_cases hb : bs = []
      · rw [decide_eq_true hb]
        refine iteF ?_
        have e03 : ExD d H (upd H3 l0 (.lst [])) := ((ExD.of e1).trans e3).trans (.of x0)
        have hk3 := hk.exd e03 hd.lst
        obtain ⟨dk3, _, _, _, _, k13, _⟩ := id hk3
        refine ⟨_, rfl, p, T.C_Craft.C, dx, _, _, rfl, e03.ins hd.lst c1, T.C_Craft.cl, T.a_Craft_skies, crf_s _ _ _ _, a, _, 0, V.ref k, rfl, rfl, e03.tup hd.lst c2, at_of (j := 0) rfl rfl, k, dk3, _, rfl, k13, sf_noSt _ _ _ _, k, s, rfl, hk3, oks, fun v H4 e4 rv => ?_⟩
        obtain ⟨sb, zs, rfl, hsb, rz⟩ := rv.tp_inv
        have lz := rz.length
        have ct := cut_one (xs := zs) (by omega)
        refine ⟨1, rfl, sb, zs, rfl, hsb, ct.2, fun t ht => ?_⟩
        have xt := Ex.new (o := .tup (cutV zs none (some 1))) ht
        refine q _ _ ((standF s).take 1) ((e03.trans (.of e4)).trans (.of xt)) (((d3.ex x0).ex e4).ex xt) (Rep.tp (st_of (by rw [upd_same, ct.1])) ((take_one rz).ex xt)) (fun y => ?_) (by rw [List.length_take]; omega) (List.take_sublist ..)
        have := congrArg List.length y
        rw [List.length_take, List.length_nil] at this
        omega
      · rw [decide_eq_false hb]
        refine iteT ?_
        refine ⟨_, rfl, D, ys, rfl, .inl ⟨sq_of (x0 _ _ h1), fun t ht => ?_⟩⟩
        have xt := Ex.new (o := .tup ys) ht
        exact q _ _ bs ((((ExD.of e1).trans e3).trans (.of x0)).trans (.of xt)) ((d3.ex x0).ex xt) (Rep.tp (st_of upd_same) ((h2.ex x0).ex xt)) hb (by omega) h3
end
end My


-- G10
namespace My
open PySem L2 Evl
section
variable {X : Cx}
/-- a datum in a tuple of data -/
def rInTA (K : PySem.W.Frag) (α : Type) [Py α] [DecidableEq α] : R2 := fun x y H Q => ∃ (a : α) (as : List α), Rep K H x a ∧ Rep K H y (Tp.mk as) ∧ ∀ b : Bool, (b = true ↔ a ∈ as) → Q (.bl b) H
theorem any_mem {α : Type} [Py α] [DecidableEq α] (a : α) (as : List α) : ((as.map Py.enc).any fun z => PyData.eqv z (Py.enc a)) = decide (a ∈ as) := by
  induction as with
  | nil => rfl
  | cons b as ih =>
    rw [List.map_cons, List.any_cons, ih, Py.eqv]
    by_cases h : b = a
    · subst h
      simp
    · rw [decide_eq_false h]
      simp [show ¬ a = b from fun z => h z.symm]
theorem op_inTA {α : Type} [Py α] [DecidableEq α] (hu : X.A.units + 65 < cLine) (h : Py.dep α + 1 ≤ 64 := by decide) : OpR X (compareOp .In) (rInTA X.K α) := by
  intro pins s σ H x y v u Q I rx ry hq
  obtain ⟨a, as, ha, hy, q⟩ := hq
  obtain ⟨l1, r1⟩ := Dp.reads I _ x v ha rx
  obtain ⟨l2, r2⟩ := Dp.reads I (.tuple (as.map Py.enc)) y u hy ry
  refine SeqAt.in_tuple_reads r2 r1 (encAll_lay as) (Py.lay a) (PyProof.Rows.room_in_shaped (Py.shaped (by omega) a) hu) ⟨.bl _, H, I, rfl, ?_⟩
  exact q _ (by rw [any_mem]; exact decide_eq_true_iff)
end
/-- turned by so many quarters, one by one -/
def rotN (x y : Int) : Nat → Int × Int
  | 0 => (x, y)
  | n + 1 => (-(rotN x y n).2, (rotN x y n).1)
theorem turned_rot {x y n : Int} (h0 : 0 ≤ n) (h3 : n ≤ 3) : turnedF x y n = rotN x y n.toNat := by
  have h : n = 0 ∨ n = 1 ∨ n = 2 ∨ n = 3 := by omega
  rcases h with rfl | rfl | rfl | rfl
  · rfl
  · rfl
  · rfl
  · show (y, -x) = (-(-y), -x)
    rw [Int.neg_neg]
theorem and3 {i : Int} (h0 : 0 ≤ i) (h6 : i ≤ 6) : Builtin.bitAnd i 3 = i.fmod 4 := by
  have h : i = 0 ∨ i = 1 ∨ i = 2 ∨ i = 3 ∨ i = 4 ∨ i = 5 ∨ i = 6 := by omega
  rcases h with rfl | rfl | rfl | rfl | rfl | rfl | rfl <;> decide +kernel
section
variable {P : Program} {w : World} {K : PySem.W.Frag} {mg : Str → Option Value} {base : Heap}
def sp_law_view {K : PySem.W.Frag} {mg : Str → Option Value} (T : Env K mg) : Sp := fun vs H Q _ => ∃ (t c : Addr) (s a : P3), vs = [.ref t, .ref c] ∧ Rep K H (.ref t) s ∧ Rep K H (.ref c) a ∧ (0 ≤ s.1 ∧ s.1 ≤ 3) ∧ ∀ u H', Ex H H' → H u = none → SqT K H' u [.int (viewF a s).1, .int (viewF a s).2.1, .int (viewF a s).2.2] → Q (.ref u) H'
theorem ok_law_view (T : Env K mg) : FnOk P w K mg base CX0 1 T.d_law_view.f T.d_law_view.fd ["standing", "crater"] (sp_law_view T) := by
  refine T.d_law_view.F.ok sc_law_view (fun vs H Q E h => ?_) (fun cdv A outer s H vs Q E hr h => ?_)
  · obtain ⟨t, c, s0, a, rfl, ht, hc, ⟨h0, h3⟩, q⟩ := h
    rfl
  · obtain ⟨t, c, s0, a, rfl, ht, hc, ⟨h0, h3⟩, q⟩ := h
    refine ⟨_, pss_cons (ps_par (i := 2) (j := 3) (by rfl) sc_law_view.nd rfl rfl (by decide) rfl rfl (pa_cons (pe_ix ix_tup (pv 1) pe_int (fun _ _ => rfl)) (pa_cons (pe_ix ix_tup (pv 1) pe_int (fun _ _ => rfl)) pa_nil)) (by rfl))
      (pss_cons (ps_for PassesOwn.never rfl (pi_range1 rfl T.n_range (pa_cons (pe_ix ix_tup (pv 0) pe_int (fun _ _ => rfl)) pa_nil)) (pg_name (i := 4) sc_law_view.nd rfl (.inl rfl)) (pss_one (ps_par (i := 2) (j := 3) (by rfl) sc_law_view.nd rfl rfl (by decide) rfl rfl (pa_cons (pe_un un_neg (pv 3)) (pa_cons (pv 2) pa_nil)) (by rfl))))
      (pss_one (ps_ret (pe_tup (pa_cons (pe_op op_add (pv 2) (pe_ix ix_tup (pv 0) pe_int (fun _ _ => rfl))) (pa_cons (pe_op op_add (pv 3) (pe_ix ix_tup (pv 0) pe_int (fun _ _ => rfl))) (pa_cons (pe_ix ix_tup (pv 1) pe_int (fun _ _ => rfl)) pa_nil))))))), ?_⟩
    obtain ⟨_, e0, hc1⟩ := hc.p3_inv
    cases e0
    obtain ⟨_, e0, ht1⟩ := ht.p3_inv
    cases e0
    refine ⟨_, rfl, c, _, 0, _, rfl, rfl, hc1, rfl, _, rfl, c, _, 1, _, rfl, rfl, hc1, rfl, _, _, rfl, ?_⟩
    refine ⟨_, rfl, t, _, 0, _, rfl, rfl, ht1, rfl, s0.1, rfl, by omega, by omega, ?_⟩
    refine for_it walk_range (fun i σ' H' => ∃ v4, σ' = [some (.ref t), some (.ref c), some (.int (rotN a.1 a.2.1 i).1), some (.int (rotN a.1 a.2.1 i).2), v4] ∧ H' = H) ⟨none, rfl, rfl⟩ (fun _ _ _ _ _ => trivial) ?_ ?_
    · rintro i x σ' Ha Hb hi ⟨v4, rfl, rfl⟩ y
      obtain ⟨rfl, rfl⟩ := y
      exact ⟨_, rfl, _, rfl, _, rfl, _, _, rfl, _, rfl, rfl⟩
    · rintro σ' H' ⟨v4, rfl, rfl⟩
      have e9 := turned_rot (x := a.1) (y := a.2.1) h0 h3
      rw [← e9]
      refine ⟨_, rfl, _, rfl, t, _, 1, _, rfl, rfl, ht1, rfl, _, _, rfl, rfl, _, rfl, _, rfl, t, _, 2, _, rfl, rfl, ht1, rfl, _, _, rfl, rfl, _, rfl, c, _, 2, _, rfl, rfl, hc1, rfl, by show 3 ≤ sizeLine; decide, fun u hu => q u _ (Ex.new hu) hu (st_of upd_same)⟩
end
end My


-- G11
namespace My
open PySem L2 Evl
local macro_rules | `(tactic| walk_at "lk") => `(tactic| (repeat (first | exact lk_eq | exact rfl | refine (lk_ne (by decide +kernel)).trans ?_)))
theorem set_srt {bs as : List P3} (h : IsSetA bs as) (hn : as.Nodup) : bs = srt as :=
  srt_eq ⟨(List.perm_ext_iff_of_nodup h.1 hn).mpr h.2.1, h.2.2⟩
theorem map_nodup {α β : Type} {f : α → β} (hf : ∀ a b, f a = f b → a = b) {l : List α} (h : l.Nodup) : (l.map f).Nodup :=
  List.pairwise_map.mpr (h.imp fun hne e => hne (hf _ _ e))
theorem stepF_inj (s : P3) : ∀ a b : PR, stepF s a = stepF s b → a = b := fun a b h => by
  obtain ⟨a1, a2⟩ := a
  obtain ⟨b1, b2⟩ := b
  unfold stepF at h
  simp only [Prod.mk.injEq] at h
  obtain ⟨_, h1, h2⟩ := h
  exact Prod.ext (by show a1 = b1; omega) (by show a2 = b2; omega)
section
variable {P : Program} {w : World} {K : PySem.W.Frag} {mg : Str → Option Value} {base : Heap}
def sp_law_ends {K : PySem.W.Frag} {mg : Str → Option Value} (T : Env K mg) : Sp := fun vs H Q _ => ∃ (p t e : Addr) (as : List Addr) (foot : PR) (r : Int) (ds : List Addr) (x : DeedD) (s : P3), vs = [.ref p, .ref t, .ref e] ∧ CraftAt T H p as foot r ds ∧ Rep K H (.ref t) s ∧ DeedAt T H e x ∧ okAim x.kind x.aim ∧ x.slips.length ≤ 60 ∧ x.slips.Nodup ∧ (0 ≤ s.1 ∧ s.1 ≤ 3) ∧ ∀ l ys H', Ex H H' → H' l = some (.lst ys) → RAll K H' ys (srt (endsL foot s x)) → Q (.ref l) H'
theorem ok_law_ends (T : Env K mg) : FnOk P w K mg base CX0 1 T.d_law_ends.f T.d_law_ends.fd ["craft", "standing", "deed"] (sp_law_ends T) := by
  refine T.d_law_ends.F.ok sc_law_ends (fun vs H Q E h => ?_) (fun cdv A outer s H vs Q E hr h => ?_)
  · obtain ⟨p, t, e, as, foot, r, ds, x, s0, rfl, hc, ht, hx, ha, hlen, hnd, ⟨s1, s3⟩, q⟩ := h
    rfl
  · obtain ⟨p, t, e, as, foot, r, ds, x, s0, rfl, hc, ht, hx, ha, hlen, hnd, ⟨s1, s3⟩, q⟩ := h
    refine ⟨_, pss_cons (ps_asg (pv 1) (pg_tup (by rfl) (pgs_cons (pg_name (i := 3) sc_law_ends.nd rfl (.inr rfl)) (pgs_cons (pg_name (i := 4) sc_law_ends.nd rfl (.inr rfl)) (pgs_cons (pg_name (i := 5) sc_law_ends.nd rfl (.inr rfl)) pgs_nil)))))
      (pss_cons (ps_if (pt_cmpR op_eq (pe_fld (pv 2) rfl) pe_str (nomark _)) (pss_cons (ps_par (i := 6) (j := 7) (by rfl) sc_law_ends.nd rfl rfl (by decide) rfl rfl (pa_cons (pe_op op_sub (pv 4) (pe_ix ix_tup (pe_fld (pv 0) rfl) pe_int (fun _ _ => rfl))) (pa_cons (pe_op op_sub (pv 5) (pe_ix ix_tup (pe_fld (pv 0) rfl) pe_int (fun _ _ => rfl))) pa_nil)) (by rfl))
      (pss_cons (ps_for PassesOwn.never rfl (pi_range1 rfl T.n_range (pa_cons (pe_fld (pv 2) rfl) pa_nil)) (pg_name (i := 8) sc_law_ends.nd rfl (.inl rfl)) (pss_one (ps_par (i := 6) (j := 7) (by rfl) sc_law_ends.nd rfl rfl (by decide) rfl rfl (pa_cons (pe_un un_neg (pv 7)) (pa_cons (pv 6) pa_nil)) (by rfl))))
      (pss_one (ps_ret (pe_lst (pa_cons (pe_tup (pa_cons (pe_op op_modN (pe_callTy call_int1 (by rfl) T.n_int (by decide +kernel) (pa_cons (pe_op op_add (pv 3) (pe_fld (pv 2) rfl)) pa_nil)) pe_int) (pa_cons (pe_op op_add (pv 6) (pe_ix ix_tup (pe_fld (pv 0) rfl) pe_int (fun _ _ => rfl))) (pa_cons (pe_op op_add (pv 7) (pe_ix ix_tup (pe_fld (pv 0) rfl) pe_int (fun _ _ => rfl))) pa_nil)))) pa_nil)))))) pss_nil)
      (pss_cons (ps_if (pt_cmpR op_in_seq (pe_fld (pv 2) rfl) (pe_tup (pa_cons pe_str (pa_cons pe_str pa_nil))) (by rfl)) (pss_one (ps_ret (pe_lst (pa_cons (pv 1) pa_nil)))) pss_nil)
      (pss_cons (ps_set (i := 9) sc_law_ends.nd rfl (.inr rfl) (pe_ifExp (pt_cmpR op_eq (pe_fld (pv 2) rfl) pe_str (nomark _)) (pe_fld (pv 2) rfl) (pe_tup (pa_cons pe_int (pa_cons pe_int pa_nil)))))
      (pss_one (ps_ret (pe_callB (cr_sortedSA rfl) (by rfl) T.n_sorted (by decide +kernel) (pa_cons (pe_callTy (cr_setA rfl hr.units) (by rfl) T.n_set (by decide +kernel) (pa_cons (pe_lc (own := [("slip", 10)]) (g := gName 10) rfl sc_law_ends.nd (pi_tup (pe_fld (pv 2) rfl)) (blkOk_by (N := ["craft", "standing", "deed", "heading", "a", "b", "u", "v", "quarter", "aim", "slip"]) (sc := defScope s_law_ends) (by decide +kernel)) (fun _ _ _ _ _ => (pg_name (i := 10) sc_law_ends.nd rfl (.inl rfl))) (fun _ _ _ _ _ => pts_nil) (fun _ _ _ _ _ => (pe_tup (pa_cons (pv 3) (pa_cons (pe_op op_sub (pe_op op_sub (pv 4) (pe_ix (ix_tupK K) (pv 9) pe_int (fun _ _ => rfl))) (pe_ix (ix_tupK K) (pv 10) pe_int (fun _ _ => rfl))) (pa_cons (pe_op op_sub (pe_op op_sub (pv 5) (pe_ix (ix_tupK K) (pv 9) pe_int (fun _ _ => rfl))) (pe_ix (ix_tupK K) (pv 10) pe_int (fun _ _ => rfl))) pa_nil)))))) pa_nil)) pa_nil))))))), ?_⟩
    obtain ⟨kx, fx, ax, sl⟩ := x
    obtain ⟨dx, v, u, h1, h2, h3⟩ := id hx
    dsimp only at h1 h2 h3 ha hlen hnd
    obtain ⟨dc, a, f, dd, c1, c2, c3, c4⟩ := id hc
    obtain ⟨_, e0, hf1⟩ := c3.p2_inv
    cases e0
    obtain ⟨_, e0, ht1⟩ := ht.p3_inv
    cases e0
    obtain ⟨_, xs, e0, hu, ra⟩ := h3.tp_inv
    cases e0
    have no : ∀ {x y : Str}, x ≠ y → ¬ decide (V.str x = V.str y) = true := fun h z => h (V.str.inj (of_decide_eq_true z))
    have lr := ra.length
    have kindOf : ∀ {k : Str}, inV (.str k) (([("look" : Str), "away"]).map V.str) = decide (k ∈ [("look" : Str), "away"]) := inV_of
    refine ⟨_, rfl, t, _, rfl, ht1, rfl, _, _, rfl, _, _, rfl, _, _, rfl, rfl, ?_⟩
    by_cases ek : kx = "turn"
    · subst ek
      obtain ⟨n, rfl, n1, n3⟩ : ∃ n, ax = .num n ∧ 1 ≤ n ∧ n ≤ 3 := by
        rcases ha with ⟨z, _⟩ | ⟨_, h⟩ | ⟨z, _⟩ | ⟨z, _⟩ | ⟨z, _⟩
        · exact absurd z (by decide +kernel)
        · exact h
        · exact absurd z (by decide +kernel)
        · exact absurd z (by decide +kernel)
        · exact absurd z (by decide +kernel)
      obtain rfl := Rep.int_inv (i := n) h2
      refine ⟨_, rfl, e, T.C_Deed.C, dx, _, _, rfl, h1, T.C_Deed.cl, T.a_Deed_kind, df_k _ _ _ _, rfl, _, rfl, ite2 (fun _ => ?_) (fun z => absurd (decide_eq_true rfl) z)⟩
      refine ⟨_, rfl, _, rfl, p, T.C_Craft.C, dc, _, _, rfl, c1, T.C_Craft.cl, T.a_Craft_foot, crf_f _ _ _ _, f, _, 0, _, rfl, rfl, hf1, rfl, _, _, rfl, rfl, ?_⟩
      refine ⟨_, rfl, _, rfl, p, T.C_Craft.C, dc, _, _, rfl, c1, T.C_Craft.cl, T.a_Craft_foot, crf_f _ _ _ _, f, _, 1, _, rfl, rfl, hf1, rfl, _, _, rfl, rfl, _, _, rfl, ?_⟩
      refine ⟨_, rfl, e, T.C_Deed.C, dx, _, _, rfl, h1, T.C_Deed.cl, T.a_Deed_aim, df_a _ _ _ _, n, rfl, by omega, by omega, ?_⟩
      refine for_it walk_range (fun i σ' H' => ∃ v8, σ' = [some (.ref p), some (.ref t), some (.ref e), some (.int s0.1), some (.int s0.2.1), some (.int s0.2.2), some (.int (rotN (s0.2.1 - foot.1) (s0.2.2 - foot.2) i).1), some (.int (rotN (s0.2.1 - foot.1) (s0.2.2 - foot.2) i).2), v8, none, none] ∧ H' = H) ⟨none, rfl, rfl⟩ (fun _ _ _ _ _ => trivial) ?_ ?_
      · rintro i x σ' Ha Hb hi ⟨v4, rfl, rfl⟩ y
        obtain ⟨rfl, rfl⟩ := y
        exact ⟨_, rfl, _, rfl, _, rfl, _, _, rfl, _, rfl, rfl⟩
      · rintro σ' H' ⟨v4, rfl, rfl⟩
        have e9 := turned_rot (x := s0.2.1 - foot.1) (y := s0.2.2 - foot.2) (by omega : 0 ≤ n) n3
        rw [← e9]
        refine ⟨_, rfl, _, rfl, e, T.C_Deed.C, dx, _, _, rfl, h1, T.C_Deed.cl, T.a_Deed_aim, df_a _ _ _ _, _, _, rfl, rfl, .inl ⟨_, rfl, _, _, rfl, rfl, by show (4 : Int) ≠ 0; decide, ?_⟩⟩
        refine ⟨_, rfl, _, rfl, p, T.C_Craft.C, dc, _, _, rfl, c1, T.C_Craft.cl, T.a_Craft_foot, crf_f _ _ _ _, f, _, 0, _, rfl, rfl, hf1, rfl, _, _, rfl, rfl, ?_⟩
        refine ⟨_, rfl, _, rfl, p, T.C_Craft.C, dc, _, _, rfl, c1, T.C_Craft.cl, T.a_Craft_foot, crf_f _ _ _ _, f, _, 1, _, rfl, rfl, hf1, rfl, _, _, rfl, rfl, by show 3 ≤ sizeLine; decide, fun z hz => ?_⟩
        refine ⟨by show 1 ≤ sizeLine; decide, fun l hl => ?_⟩
        refine q _ _ _ ((Ex.new hz).trans (Ex.new hl)) upd_same ?_
        rw [show endsL foot s0 ⟨"turn", fx, .num n, sl⟩ = [swungF foot s0 n] from by
          show (if ("turn" : Str) = "turn" then [swungF foot s0 n] else [s0]) = _
          exact if_pos rfl, srt_one]
        refine .cons ?_ .nil
        unfold swungF
        rw [and3 (by omega) (by omega), Int.add_comm foot.1, Int.add_comm foot.2]
        exact (Rep.p3 (st_of upd_same)).ex (Ex.new hl)
    have nturn : ∀ {A B : Prop}, B → (if decide (V.str kx = V.str "turn") = true then A else B) := fun hB => by
      rw [if_neg (no ek)]
      exact hB
    refine ⟨_, rfl, e, T.C_Deed.C, dx, _, _, rfl, h1, T.C_Deed.cl, T.a_Deed_kind, df_k _ _ _ _, rfl, _, rfl, nturn ?_⟩
    refine ⟨_, rfl, e, T.C_Deed.C, dx, _, _, rfl, h1, T.C_Deed.cl, T.a_Deed_kind, df_k _ _ _ _, by show 2 ≤ sizeLine; decide, fun tk htk => ?_⟩
    have xk := Ex.new (o := .tup [V.str "look", V.str "away"]) htk
    refine ⟨tk, _, rfl, .inr (st_of upd_same), rfl, rfl, _, rfl, ?_⟩
    show if inV (.str kx) (([("look" : Str), "away"]).map V.str) = true then _ else _
    rw [kindOf]
    refine ite2 (fun z => ?_) (fun z => ?_)
    · refine ⟨_, rfl, by show 1 ≤ sizeLine; decide, fun l hl => q _ _ _ (xk.trans (Ex.new hl)) upd_same ?_⟩
      have z : kx = "look" ∨ kx = "away" := by simpa using z
      have e9 : endsL foot s0 ⟨kx, fx, ax, sl⟩ = [s0] := by
        rcases ha with ⟨y, _⟩ | ⟨y, _⟩ | ⟨y, n, rfl, _⟩ | ⟨y, rfl⟩ | ⟨y, rfl⟩
        · rw [y] at z
          exact absurd z (by decide +kernel)
        · exact absurd y ek
        · show (if kx = "turn" then [swungF foot s0 n] else [s0]) = _
          exact if_neg ek
        · rw [y] at z
          exact absurd z (by decide +kernel)
        · show (if kx = "land" then sl.map fun o => stepF s0 o else [s0]) = _
          rw [y]
          exact if_neg (by decide +kernel)
      rw [e9, srt_one]
      exact .cons ((ht.ex xk).ex (Ex.new hl)) .nil
    · have z : ¬ (kx = "look" ∨ kx = "away") := by simpa using z
      rcases ha with ⟨rfl, o0, rfl, hb⟩ | ⟨y, _⟩ | ⟨y, n, rfl, _⟩ | ⟨rfl, rfl⟩ | ⟨y, rfl⟩
      case' inl =>
        refine ⟨_, rfl, e, T.C_Deed.C, dx, _, _, rfl, xk _ _ h1, T.C_Deed.cl, T.a_Deed_kind, df_k _ _ _ _, rfl, _, rfl, ite2 (fun _ => ?_) (fun z => absurd (decide_eq_true rfl) z)⟩
        obtain ⟨pa, rfl, hpa0⟩ := Rep.p2_inv (q := o0) h2
        refine ⟨_, rfl, e, T.C_Deed.C, dx, _, _, rfl, xk _ _ h1, T.C_Deed.cl, T.a_Deed_aim, df_a _ _ _ _, ?_⟩
        have eC := xk
        have hpa := ex_t xk hpa0
        have hend : endsL foot s0 ⟨"step", fx, .pair o0, sl⟩ = sl.map fun o => stepF s0 (o0.1 + o.1, o0.2 + o.2) := rfl
      case' inr.inl => exact absurd y ek
      case' inr.inr.inl => exact absurd (.inl y) z
      case' inr.inr.inr.inr => exact absurd (.inr y) z
      case' inr.inr.inr.inl =>
        refine ⟨_, rfl, e, T.C_Deed.C, dx, _, _, rfl, xk _ _ h1, T.C_Deed.cl, T.a_Deed_kind, df_k _ _ _ _, rfl, _, rfl, ite2 (fun z => absurd z (no (by decide +kernel))) (fun _ => ?_)⟩
        refine ⟨by show 2 ≤ sizeLine; decide, fun pa hpa1 => ?_⟩
        obtain ⟨o0, ho0⟩ : ∃ o0 : PR, o0 = (0, 0) := ⟨_, rfl⟩
        have eC := xk.trans (Ex.new (o := .tup [.int 0, .int 0]) hpa1)
        have hpa : SqT K (upd (upd H tk (.tup [V.str "look", V.str "away"])) pa (.tup [.int 0, .int 0])) pa [.int o0.1, .int o0.2] := by
          rw [ho0]
          exact st_of upd_same
        have hend : endsL foot s0 ⟨"land", fx, .no, sl⟩ = sl.map fun o => stepF s0 (o0.1 + o.1, o0.2 + o.2) := by
          show (if ("land" : Str) = "land" then sl.map fun o => stepF s0 o else [s0]) = _
          rw [if_pos rfl, ho0]
          exact List.map_congr_left fun o _ => by
            show stepF s0 o = stepF s0 ((0 : Int) + o.1, (0 : Int) + o.2)
            rw [Int.zero_add, Int.zero_add]
      all_goals
        refine ⟨_, rfl, e, T.C_Deed.C, dx, _, _, rfl, eC _ _ h1, T.C_Deed.cl, T.a_Deed_slips, df_s _ _ _ _, u, rfl, ⟨_, ex_t eC hu⟩, fun D hD => ?_⟩
        refine lc_rep (K := K) walk_tup hD [some (.ref p), some (.ref t), some (.ref e), some (.int s0.1), some (.int s0.2.1), some (.int s0.2.2), none, none, none, some (.ref pa), none] rfl (fun _ _ e h => ex_t e h) (ex_t eC hu) sl (fun _ => true) (fun o => stepF s0 (o0.1 + o.1, o0.2 + o.2)) lr.symm (by omega) (fun i o y Ha Hb hi e1 y1 R0 R _ hR => ?_) (fun ys H1 e1 hL rL => ?_)
        · obtain ⟨rfl, hy⟩ := y1
          obtain ⟨o', ho', ro⟩ := (ra.ex (eC.trans e1)).get hy
          rw [hi] at ho'
          obtain rfl := Option.some.inj ho'
          obtain ⟨w1, rfl, hw1⟩ := ro.p2_inv
          have hpa2 := ex_t e1 hpa
          have e9 : stepF s0 (o0.1 + o.1, o0.2 + o.2) = (s0.1, s0.2.1 - o0.1 - o.1, s0.2.2 - o0.2 - o.2) := by
            unfold stepF
            rw [Int.sub_sub, Int.sub_sub]
          refine ⟨rfl, _, rfl, _, rfl, _, rfl, pa, _, 0, _, rfl, rfl, hpa2, rfl, _, _, rfl, rfl, _, rfl, w1, _, 0, _, rfl, rfl, hw1, rfl, _, _, rfl, rfl, ?_⟩
          refine ⟨_, rfl, _, rfl, pa, _, 1, _, rfl, rfl, hpa2, rfl, _, _, rfl, rfl, _, rfl, w1, _, 1, _, rfl, rfl, hw1, rfl, _, _, rfl, rfl, by show 3 ≤ sizeLine; decide, fun w2 hw2 => hR _ _ (Ex.new hw2) rfl ?_⟩
          rw [e9]
          exact Rep.p3 (st_of upd_same)
        · rw [filter_true] at rL
          have nd : (sl.map fun o => stepF s0 (o0.1 + o.1, o0.2 + o.2)).Nodup := by
            refine map_nodup (fun a b h => ?_) hnd
            have h := stepF_inj s0 _ _ h
            simp only [Prod.mk.injEq] at h
            exact Prod.ext (by omega) (by omega)
          have ll : (sl.map fun o => stepF s0 (o0.1 + o.1, o0.2 + o.2)).length ≤ 60 := by
            rw [List.length_map]
            exact hlen
          dsimp only [tNil]
          refine set_sorted (.inl (sq_of hL)) rL (by omega) (fun zs bs l H3 e3 hl rl nd2 mem pw => ?_)
          have e8 : bs = srt _ := set_srt ⟨nd2, mem, pw⟩ nd
          rw [e8, ← hend] at rl
          exact q l zs H3 ((eC.trans e1).trans e3) hl rl
end
end My


-- G12
namespace My
open PySem L2 Evl
theorem sf_noSg (g c t a : Addr) : (sf g c t a).lookup ("standings" : Str) = none := by
  unfold sf
  repeat (first | exact lk_eq | exact rfl | refine (lk_ne (by decide +kernel)).trans ?_)
theorem mem_stand {s : SkyD} {x : P3} : x ∈ standF s ↔ x.1 ∈ s.turns ∧ (s.area.1 ≤ x.2.1 ∧ x.2.1 ≤ s.area.2.1) ∧ (s.area.2.2.1 ≤ x.2.2 ∧ x.2.2 ≤ s.area.2.2.2) := by
  unfold standF shiftsF
  simp only [List.mem_flatMap, List.mem_map, mem_rangeI]
  constructor
  · rintro ⟨t, ht, p, ⟨a, ha, b, hb, rfl⟩, rfl⟩
    exact ⟨ht, ⟨ha.1, by show a ≤ s.area.2.1; omega⟩, hb.1, by show b ≤ s.area.2.2.2; omega⟩
  · rintro ⟨h1, ⟨h2, h3⟩, h4, h5⟩
    exact ⟨x.1, h1, (x.2.1, x.2.2), ⟨x.2.1, ⟨h2, by omega⟩, x.2.2, ⟨h4, by omega⟩, rfl⟩, rfl⟩
theorem stand_iff {s : SkyD} {x : P3} : standB s x = true ↔ x ∈ standF s := by
  rw [mem_stand]
  unfold standB
  simp only [Bool.and_eq_true, decide_eq_true_iff]
theorem stand_is {s : SkyD} {x : P3} {b : Bool} (h : b = true ↔ x ∈ standF s) : b = standB s x := by
  rw [Bool.eq_iff_iff, h, stand_iff]
section
variable {P : Program} {w : World} {K : PySem.W.Frag} {mg : Str → Option Value} {base : Heap}
def sp_law_whole {K : PySem.W.Frag} {mg : Str → Option Value} (T : Env K mg) : Sp := fun vs H Q _ => ∃ (p e t k : Addr) (as : List Addr) (foot : PR) (r : Int) (ds : List Addr) (d : SkyD) (x : DeedD) (s : P3), vs = [.ref p, .ref e, .ref t] ∧ CraftAt T H p (k :: as) foot r ds ∧ SkyAt T H k d ∧ okSky d ∧ d.cs.length ≤ 100 ∧ DeedAt T H e x ∧ Rep K H (.ref t) s ∧ (0 ≤ s.1 ∧ s.1 ≤ 3) ∧ ∀ H', Ex H H' → Q (.bl (wholeB d foot r x.kind s)) H'
theorem ok_law_whole (T : Env K mg) : FnOk P w K mg base CX0 2 T.d_law_whole.f T.d_law_whole.fd ["craft", "deed", "end"] (sp_law_whole T) := by
  have G_law_view := ok_law_view (P := P) (w := w) (base := base) T
  have G_Sky_standings := ok_Sky_standings (P := P) (w := w) (base := base) T
  refine T.d_law_whole.F.ok sc_law_whole (fun vs H Q E h => ?_) (fun cdv A outer s H vs Q E hr h => ?_)
  · obtain ⟨p, e, t, k, as, foot, r, ds, d, x, s0, rfl, hc, hk, oks, hlen, hx, ht, hs, q⟩ := h
    rfl
  · obtain ⟨p, e, t, k, as, foot, r, ds, d, x, s0, rfl, hc, hk, oks, hlen, hx, ht, hs, q⟩ := h
    have hr_law_view : Room 1 _ := hr.mono (by decide)
    have hr_Sky_standings : Room 1 _ := hr.mono (by decide)
    refine ⟨_, pss_cons (ps_if (pt_cmpR op_ne (pe_fld (pv 1) rfl) pe_str (nomark _)) (pss_one (ps_ret (pe_cmpR (op_inTA (α := Int × Int × Int) (hu65 hr)) (pv 2) (pe_meth0 (pe_ix ix_tup (pe_fld (pv 0) rfl) pe_int (fun _ _ => rfl)) T.C_Sky.cl T.m_Sky_standings.me G_Sky_standings hr_Sky_standings T.m_Sky_standings.b .nil pass0) (by rfl)))) pss_nil)
      (pss_cons (ps_for PassesOwn.never rfl (pi_tup (pe_fld (pe_fld (pe_ix ix_tup (pe_fld (pv 0) rfl) pe_int (fun _ _ => rfl)) rfl) rfl)) (pg_name (i := 3) sc_law_whole.nd rfl (.inl rfl)) (pss_cons (ps_asg (pe_call G_law_view hr_law_view (by rfl) T.d_law_view.m T.d_law_view.k T.d_law_view.b .nil pass0 (pa_cons (pv 2) (pa_cons (pv 3) pa_nil))) (pg_tup (by rfl) (pgs_cons (pg_name (i := 4) sc_law_whole.nd rfl (.inl rfl)) (pgs_cons (pg_name (i := 5) sc_law_whole.nd rfl (.inl rfl)) (pgs_cons (pg_name (i := 6) sc_law_whole.nd rfl (.inl rfl)) pgs_nil)))))
      (pss_one (ps_if (pt_cmpR op_le (pe_callB (call_max2 rfl) (by rfl) T.n_max (by decide +kernel) (pa_cons (pe_callB call_abs (by rfl) T.n_abs (by decide +kernel) (pa_cons (pe_op op_sub (pv 4) (pe_ix ix_tup (pe_fld (pv 0) rfl) pe_int (fun _ _ => rfl))) pa_nil)) (pa_cons (pe_callB call_abs (by rfl) T.n_abs (by decide +kernel) (pa_cons (pe_op op_sub (pv 5) (pe_ix ix_tup (pe_fld (pv 0) rfl) pe_int (fun _ _ => rfl))) pa_nil)) pa_nil))) (pe_op op_add (pe_fld (pv 0) rfl) (pv 6)) (nomark _)) (pss_one (ps_ret pe_bl)) pss_nil))))
      (pss_one (ps_ret pe_bl))), ?_⟩
    obtain ⟨dx, v, u, h1, h2, h3⟩ := id hx
    obtain ⟨dc, a, f, dd, c1, c2, c3, c4⟩ := id hc
    obtain ⟨_, e0, hf1⟩ := c3.p2_inv
    cases e0
    obtain ⟨dk, g, c, tu, ar, k1, ⟨dg, cr, g1, g2⟩, _⟩ := id hk
    refine ⟨_, rfl, e, T.C_Deed.C, dx, _, _, rfl, h1, T.C_Deed.cl, T.a_Deed_kind, df_k _ _ _ _, rfl, _, rfl, ?_⟩
    by_cases ek : x.kind = "land"
    · unfold wholeB at q
      rw [if_pos ek] at q
      rw [decide_eq_true (by rw [ek] : V.str x.kind = V.str "land")]
      refine iteF ?_
      obtain ⟨_, xs, e0, hcr, ra⟩ := g2.tp_inv
      cases e0
      refine ⟨_, rfl, p, T.C_Craft.C, dc, _, _, rfl, c1, T.C_Craft.cl, T.a_Craft_skies, crf_s _ _ _ _, a, _, 0, V.ref k, rfl, rfl, c2, at_of (j := 0) rfl rfl, k, T.C_Sky.C, dk, _, _, rfl, k1, T.C_Sky.cl, T.a_Sky_ground, sf_g _ _ _ _, g, T.C_Ground.C, dg, _, _, rfl, g1, T.C_Ground.cl, T.a_Ground_craters, lk_eq, cr, rfl, ⟨_, hcr⟩, ?_⟩
      refine for_it walk_tup (fun i σ' H' => ∃ v3 v4 v5 v6, σ' = [some (.ref p), some (.ref e), some (.ref t), v3, v4, v5, v6] ∧ Ex H H' ∧ (d.cs.take i).all (fun y => !hitB foot r (viewF y s0)) = true)
        ⟨none, none, none, none, rfl, Ex.refl _, by simp⟩ (fun i σ' H' _ ⟨_, _, _, _, _, e, _⟩ => ex_t e hcr) ?_ ?_
      · rintro i y σ' Ha Hb hi ⟨v3, v4, v5, v6, rfl, e1, hall⟩ ⟨rfl, hy⟩
        obtain ⟨b, hb, rb⟩ := (ra.ex e1).get hy
        obtain ⟨z, rfl, hz⟩ := rb.p3_inv
        refine ⟨_, rfl, _, rfl, t, z, s0, b, rfl, ht.ex e1, rb, hs, fun u2 H2 e2 _ hu2 => ?_⟩
        refine ⟨u2, _, rfl, hu2, rfl, _, _, rfl, _, _, rfl, _, _, rfl, rfl, ?_⟩
        have e12 := e1.trans e2
        have hf2 := ex_t e12 hf1
        refine ⟨_, rfl, _, rfl, p, T.C_Craft.C, dc, _, _, rfl, e12 _ _ c1, T.C_Craft.cl, T.a_Craft_foot, crf_f _ _ _ _, f, _, 0, _, rfl, rfl, hf2, rfl, _, _, rfl, rfl, _, rfl, ?_⟩
        refine ⟨_, rfl, _, rfl, p, T.C_Craft.C, dc, _, _, rfl, e12 _ _ c1, T.C_Craft.cl, T.a_Craft_foot, crf_f _ _ _ _, f, _, 1, _, rfl, rfl, hf2, rfl, _, _, rfl, rfl, _, rfl, _, _, rfl, ?_⟩
        refine ⟨_, rfl, p, T.C_Craft.C, dc, _, _, rfl, e12 _ _ c1, T.C_Craft.cl, T.a_Craft_room, crf_r _ _ _ _, _, rfl, _, _, rfl, rfl, _, _, rfl, rfl, _, rfl, ?_⟩
        have e9 : decide (maxF (absF ((viewF b s0).1 - foot.1)) (absF ((viewF b s0).2.1 - foot.2)) ≤ r + (viewF b s0).2.2) = hitB foot r (viewF b s0) := by
          unfold hitB
          rw [Int.add_comm r]
        show if decide (maxF (absF ((viewF b s0).1 - foot.1)) (absF ((viewF b s0).2.1 - foot.2)) ≤ r + (viewF b s0).2.2) = true then _ else _
        rw [e9]
        refine ite_bool (fun hb2 => ?_) (fun hb2 => ?_)
        · have q2 := q H2 e12
          rw [show safeB d.cs foot r s0 = false from all_stop hb (by rw [hb2]; rfl)] at q2
          exact q2
        · exact ⟨_, _, _, _, rfl, e12, all_take hb hall (by rw [hb2]; rfl)⟩
      · rintro σ' H2 ⟨v3, v4, v5, v6, rfl, e1, hall⟩
        rw [ra.length, List.take_length] at hall
        have q2 := q H2 e1
        rw [show safeB d.cs foot r s0 = true from hall] at q2
        exact q2
    · unfold wholeB at q
      rw [if_neg ek] at q
      rw [decide_eq_false (fun y => ek (V.str.inj y) : ¬ V.str x.kind = V.str "land")]
      refine iteT ?_
      refine ⟨_, rfl, _, rfl, p, T.C_Craft.C, dc, _, _, rfl, c1, T.C_Craft.cl, T.a_Craft_skies, crf_s _ _ _ _, a, _, 0, V.ref k, rfl, rfl, c2, at_of (j := 0) rfl rfl, k, dk, _, rfl, k1, sf_noSg _ _ _ _, k, d, rfl, hk, oks, fun v H1 e1 rv => ?_⟩
      refine ⟨s0, standF d, ht.ex e1, rv, fun b hb => ?_⟩
      rw [stand_is hb]
      exact q _ e1
end
end My


-- Gm
namespace My
open PySem L2 Evl
/-! the geometry of turns about the foot -/
theorem t0 (x y : Int) : turnedF x y 0 = (x, y) := rfl
theorem t1 (x y : Int) : turnedF x y 1 = (-y, x) := rfl
theorem t2 (x y : Int) : turnedF x y 2 = (-x, -y) := rfl
theorem t3 (x y : Int) : turnedF x y 3 = (y, -x) := rfl
theorem quart {i : Int} (h0 : 0 ≤ i) (h3 : i ≤ 3) : i = 0 ∨ i = 1 ∨ i = 2 ∨ i = 3 := by omega
theorem b0 : Builtin.bitAnd 0 3 = 0 := by decide +kernel
theorem b1 : Builtin.bitAnd 1 3 = 1 := by decide +kernel
theorem b2 : Builtin.bitAnd 2 3 = 2 := by decide +kernel
theorem b3 : Builtin.bitAnd 3 3 = 3 := by decide +kernel
theorem b4 : Builtin.bitAnd 4 3 = 0 := by decide +kernel
theorem b5 : Builtin.bitAnd 5 3 = 1 := by decide +kernel
theorem b6 : Builtin.bitAnd 6 3 = 2 := by decide +kernel
theorem bm1 : Builtin.bitAnd (-1) 3 = 3 := by decide +kernel
theorem bm2 : Builtin.bitAnd (-2) 3 = 2 := by decide +kernel
theorem bm3 : Builtin.bitAnd (-3) 3 = 1 := by decide +kernel
theorem bm0 : Builtin.bitAnd (-0) 3 = 0 := by decide +kernel
theorem view_step (c s : P3) (o : PR) : viewF c (stepF s o) = ((viewF c s).1 - o.1, (viewF c s).2.1 - o.2, c.2.2) := by
  unfold viewF stepF
  simp only [Prod.mk.injEq]
  exact ⟨by omega, by omega, trivial⟩
theorem swung_head {foot : PR} {s : P3} {n : Int} (h0 : 0 ≤ s.1) (h3 : s.1 ≤ 3) (n1 : 1 ≤ n) (n3 : n ≤ 3) : 0 ≤ (swungF foot s n).1 ∧ (swungF foot s n).1 ≤ 3 := by
  have e : (swungF foot s n).1 = (s.1 + n).fmod 4 := and3 (by omega) (by omega)
  rw [e, Int.fmod_eq_emod_of_nonneg _ (by decide)]
  omega
theorem view_swung {c s : P3} {foot : PR} {n : Int} (h0 : 0 ≤ s.1) (h3 : s.1 ≤ 3) (n1 : 1 ≤ n) (n3 : n ≤ 3) :
    viewF c (swungF foot s n) = ((turnedF ((viewF c s).1 - foot.1) ((viewF c s).2.1 - foot.2) n).1 + foot.1, (turnedF ((viewF c s).1 - foot.1) ((viewF c s).2.1 - foot.2) n).2 + foot.2, c.2.2) := by
  obtain ⟨h, a, b⟩ := s
  obtain ⟨x, y, z⟩ := c
  obtain ⟨f1, f2⟩ := foot
  have hn : n = 1 ∨ n = 2 ∨ n = 3 := by omega
  dsimp only at h0 h3
  rcases quart h0 h3 with rfl | rfl | rfl | rfl <;> rcases hn with rfl | rfl | rfl <;>
    simp only [viewF, swungF, Int.reduceAdd, b1, b2, b3, b4, b5, b6, t0, t1, t2, t3, Prod.mk.injEq, and_true] <;> exact ⟨by omega, by omega⟩
theorem view_below {s : P3} {foot : PR} {z : Int} (h0 : 0 ≤ s.1) (h3 : s.1 ≤ 3) : viewF ((belowF foot s).1, (belowF foot s).2, z) s = (foot.1, foot.2, z) := by
  obtain ⟨h, a, b⟩ := s
  obtain ⟨f1, f2⟩ := foot
  dsimp only at h0 h3
  rcases quart h0 h3 with rfl | rfl | rfl | rfl <;>
    simp only [viewF, belowF, bm0, bm1, bm2, bm3, t0, t1, t2, t3, Prod.mk.injEq, and_true] <;> exact ⟨by omega, by omega⟩
theorem below_swung {s : P3} {foot : PR} {n : Int} (h0 : 0 ≤ s.1) (h3 : s.1 ≤ 3) (n1 : 1 ≤ n) (n3 : n ≤ 3) : belowF foot (swungF foot s n) = belowF foot s := by
  obtain ⟨h, a, b⟩ := s
  obtain ⟨f1, f2⟩ := foot
  have hn : n = 1 ∨ n = 2 ∨ n = 3 := by omega
  dsimp only at h0 h3
  rcases quart h0 h3 with rfl | rfl | rfl | rfl <;> rcases hn with rfl | rfl | rfl <;>
    simp only [belowF, swungF, Int.reduceAdd, Int.reduceNeg, b1, b2, b3, b4, b5, b6, bm0, bm1, bm2, bm3, b0, t0, t1, t2, t3, Prod.mk.injEq, Int.neg_zero] <;> exact ⟨by omega, by omega⟩
theorem max_le {u v m : Int} : maxF (absF u) (absF v) ≤ m ↔ (-m ≤ u ∧ u ≤ m) ∧ (-m ≤ v ∧ v ≤ m) := by
  unfold maxF absF
  by_cases h1 : u < 0 <;> by_cases h2 : v < 0 <;> simp only [h1, h2, if_true, if_false] <;> split <;> omega
/-- a crater near the foot, seen from where the foot is over the ground -/
theorem hit_below {c s : P3} {foot : PR} {r : Int} (h0 : 0 ≤ s.1) (h3 : s.1 ≤ 3) :
    (!hitB foot r (viewF c s)) = decide (maxF (absF (c.1 - (belowF foot s).1)) (absF (c.2.1 - (belowF foot s).2)) > r + c.2.2) := by
  have key : maxF (absF ((viewF c s).1 - foot.1)) (absF ((viewF c s).2.1 - foot.2)) ≤ c.2.2 + r ↔ maxF (absF (c.1 - (belowF foot s).1)) (absF (c.2.1 - (belowF foot s).2)) ≤ r + c.2.2 := by
    rw [max_le, max_le]
    obtain ⟨h, a, b⟩ := s
    obtain ⟨x, y, z⟩ := c
    obtain ⟨f1, f2⟩ := foot
    dsimp only at h0 h3
    rcases quart h0 h3 with rfl | rfl | rfl | rfl <;>
      simp only [viewF, belowF, bm0, bm1, bm2, bm3, t0, t1, t2, t3] <;> constructor <;> intro k <;> omega
  unfold hitB
  show (!decide (maxF (absF ((viewF c s).1 - foot.1)) (absF ((viewF c s).2.1 - foot.2)) ≤ c.2.2 + r)) = _
  by_cases k : maxF (absF (c.1 - (belowF foot s).1)) (absF (c.2.1 - (belowF foot s).2)) ≤ r + c.2.2
  · rw [decide_eq_true (key.mpr k), decide_eq_false (by omega)]
    rfl
  · rw [decide_eq_false (fun z => k (key.mp z)), decide_eq_true (by omega)]
    rfl
theorem safe_below {cs : List P3} {s : P3} {foot : PR} {r : Int} (h0 : 0 ≤ s.1) (h3 : s.1 ≤ 3) :
    safeB cs foot r s = cs.all fun c => decide (maxF (absF (c.1 - (belowF foot s).1)) (absF (c.2.1 - (belowF foot s).2)) > r + c.2.2) := by
  unfold safeB
  congr 1
  funext c
  exact hit_below h0 h3
/-- ends have a heading of a quarter -/
theorem ends_head {foot : PR} {s : P3} {x : DeedD} (ha : okAim x.kind x.aim) (h0 : 0 ≤ s.1) (h3 : s.1 ≤ 3) : ∀ b ∈ srt (endsL foot s x), 0 ≤ b.1 ∧ b.1 ≤ 3 := fun b hb => by
  have hb := (srt_is _).1.mem_iff.mp hb
  obtain ⟨kx, fx, ax, sl⟩ := x
  dsimp only at ha
  have mp : ∀ (f : PR → PR), b ∈ (sl.map fun q => stepF s (f q)) → 0 ≤ b.1 ∧ b.1 ≤ 3 := fun f h => by
    obtain ⟨q, _, rfl⟩ := List.mem_map.mp h
    exact ⟨h0, h3⟩
  have one : b ∈ [s] → 0 ≤ b.1 ∧ b.1 ≤ 3 := fun h => by
    rw [List.mem_singleton] at h
    subst h
    exact ⟨h0, h3⟩
  rcases ha with ⟨rfl, o, rfl, _⟩ | ⟨rfl, n, rfl, n1, n3⟩ | ⟨rfl, n, rfl, _⟩ | ⟨rfl, rfl⟩ | ⟨rfl, rfl⟩
  · exact mp (fun q => (o.1 + q.1, o.2 + q.2)) hb
  · have hb : b ∈ (if ("turn" : Str) = "turn" then [swungF foot s n] else [s]) := hb
    rw [if_pos rfl, List.mem_singleton] at hb
    subst hb
    exact swung_head h0 h3 n1 n3
  · have hb : b ∈ (if ("look" : Str) = "turn" then [swungF foot s n] else [s]) := hb
    rw [if_neg (by decide +kernel)] at hb
    exact one hb
  · have hb : b ∈ (if ("land" : Str) = "land" then sl.map fun q => stepF s q else [s]) := hb
    rw [if_pos rfl] at hb
    exact mp id hb
  · have hb : b ∈ (if ("away" : Str) = "land" then sl.map fun q => stepF s q else [s]) := hb
    rw [if_neg (by decide +kernel)] at hb
    exact one hb
theorem ends_few {foot : PR} {s : P3} {x : DeedD} (h : x.slips.length ≤ 3) : (srt (endsL foot s x)).length ≤ 3 := by
  rw [(srt_is _).1.length_eq]
  unfold endsL
  split
  · split <;> simp
  · rw [List.length_map]
    exact h
  · split
    · rw [List.length_map]
      exact h
    · simp
end My


-- G13
namespace My
open PySem L2 Evl
abbrev lawG (a dd p cr : Addr) (v4 v5 v6 v7 v8 v9 v10 v11 v12 v13 v14 v15 v16 v17 v18 v19 v20 : Option V) : L2.St := [some (.ref a), some (.ref dd), some (.ref p), some (.ref cr), v4, v5, v6, v7, v8, v9, v10, v11, v12, v13, v14, v15, v16, v17, v18, v19, v20, none]
section
variable {P : Program} {w : World} {K : PySem.W.Frag} {mg : Str → Option Value} {base : Heap}
theorem flat_tk {α β : Type} {as : List α} {i : Nat} {a : α} (f : α → List β) (h : as[i]? = some a) : (as.take (i + 1)).flatMap f = (as.take i).flatMap f ++ f a := by
  rw [take_get h, List.flatMap_append, List.flatMap_cons, List.flatMap_nil, List.append_nil]
theorem CraftAt.xd {T : Env K mg} {H H' : Hp} {d p : Addr} {as : List Addr} {foot : PR} {r : Int} {ds : List Addr} (e : ExD d H H') (hd : ∃ ys, H d = some (.lst ys)) (h : CraftAt T H p as foot r ds) : CraftAt T H' p as foot r ds := by
  obtain ⟨dx, a, f, t, h1, h2, h3, h4⟩ := h
  exact ⟨dx, a, f, t, e.ins hd h1, e.tup hd h2, h3.exd e hd, e.tup hd h4⟩
def sp_law {K : PySem.W.Frag} {mg : Str → Option Value} (T : Env K mg) : Sp := fun vs H Q _ => ∃ (a : Addr) (ns : List Int), vs = [.ref a] ∧ SqL K H a (ns.map V.int) ∧ ∀ H', Q (.bl true) H'
theorem ok_law (T : Env K mg) : FnOk P w K mg base CX0 10 T.d_law.f T.d_law.fd ["script"] (sp_law T) := by
  have G_is_kept := ok_is_kept (P := P) (w := w) (base := base) T
  have G_law_whole := ok_law_whole (P := P) (w := w) (base := base) T
  have G_is_end := ok_is_end (P := P) (w := w) (base := base) T
  have G_behind := ok_behind (P := P) (w := w) (base := base) T
  have G_law_ends := ok_law_ends (P := P) (w := w) (base := base) T
  have G_ends_of := ok_ends_of (P := P) (w := w) (base := base) T
  have G_law_belief := ok_law_belief (P := P) (w := w) (base := base) T
  have G_Craft_is_over := ok_Craft_is_over (P := P) (w := w) (base := base) T
  have G_Sky_standings := ok_Sky_standings (P := P) (w := w) (base := base) T
  have G_Craft_is_safe := ok_Craft_is_safe (P := P) (w := w) (base := base) T
  have G_Craft_cell_below := ok_Craft_cell_below (P := P) (w := w) (base := base) T
  have G_law_view := ok_law_view (P := P) (w := w) (base := base) T
  have G_Craft_swung := ok_Craft_swung (P := P) (w := w) (base := base) T
  have G_Craft_stepped := ok_Craft_stepped (P := P) (w := w) (base := base) T
  have G_law_take := ok_law_take (P := P) (w := w) (base := base) T
  have G_law_craft := ok_law_craft (P := P) (w := w) (base := base) T
  refine T.d_law.F.ok sc_law (fun vs H Q E h => ?_) (fun cdv A outer s H vs Q E hr h => ?_)
  · obtain ⟨a, ns, rfl, hS, q⟩ := h
    rfl
  · obtain ⟨a, ns, rfl, hS, q⟩ := h
    have hr_is_kept : Room 6 _ := hr.mono (by decide)
    have hr_law_whole : Room 2 _ := hr.mono (by decide)
    have hr_is_end : Room 1 _ := hr.mono (by decide)
    have hr_behind : Room 4 _ := hr.mono (by decide)
    have hr_law_ends : Room 1 _ := hr.mono (by decide)
    have hr_ends_of : Room 3 _ := hr.mono (by decide)
    have hr_law_belief : Room 3 _ := hr.mono (by decide)
    have hr_Craft_is_over : Room 4 _ := hr.mono (by decide)
    have hr_Sky_standings : Room 1 _ := hr.mono (by decide)
    have hr_Craft_is_safe : Room 4 _ := hr.mono (by decide)
    have hr_Craft_cell_below : Room 2 _ := hr.mono (by decide)
    have hr_law_view : Room 1 _ := hr.mono (by decide)
    have hr_Craft_swung : Room 2 _ := hr.mono (by decide)
    have hr_Craft_stepped : Room 1 _ := hr.mono (by decide)
    have hr_law_take : Room 2 _ := hr.mono (by decide)
    have hr_law_craft : Room 9 _ := hr.mono (by decide)
    refine ⟨_, pss_cons (ps_set (i := 1) sc_law.nd rfl (.inl rfl) (pe_lst (pa_cons (pv 0) (pa_cons pe_int pa_nil))))
      (pss_cons (ps_set (i := 2) sc_law.nd rfl (.inr rfl) (pe_call G_law_craft hr_law_craft (by rfl) T.d_law_craft.m T.d_law_craft.k T.d_law_craft.b .nil pass0 (pa_cons (pv 1) pa_nil)))
      (pss_cons (ps_set (i := 3) sc_law.nd rfl (.inl rfl) (pe_fld (pe_fld (pe_ix ix_tup (pe_fld (pv 2) rfl) pe_int (fun _ _ => rfl)) rfl) rfl))
      (pss_cons (ps_for PassesOwn.never rfl (pi_range1 rfl T.n_range (pa_cons pe_int pa_nil)) (pg_name (i := 4) sc_law.nd rfl (.inl rfl)) (pss_cons (ps_set (i := 5) sc_law.nd rfl (.inl rfl) (pe_tup (pa_cons (pe_call G_law_take hr_law_take (by rfl) T.d_law_take.m T.d_law_take.k T.d_law_take.b .nil pass0 (pa_cons (pv 1) (pa_cons pe_int pa_nil))) (pa_cons (pe_op op_sub (pe_call G_law_take hr_law_take (by rfl) T.d_law_take.m T.d_law_take.k T.d_law_take.b .nil pass0 (pa_cons (pv 1) (pa_cons pe_int pa_nil))) pe_int) (pa_cons (pe_op op_sub (pe_call G_law_take hr_law_take (by rfl) T.d_law_take.m T.d_law_take.k T.d_law_take.b .nil pass0 (pa_cons (pv 1) (pa_cons pe_int pa_nil))) pe_int) pa_nil)))))
      (pss_cons (ps_par (i := 6) (j := 7) (by rfl) sc_law.nd rfl rfl (by decide) rfl rfl (pa_cons (pe_tup (pa_cons (pe_op op_sub (pe_call G_law_take hr_law_take (by rfl) T.d_law_take.m T.d_law_take.k T.d_law_take.b .nil pass0 (pa_cons (pv 1) (pa_cons pe_int pa_nil))) pe_int) (pa_cons (pe_op op_sub (pe_call G_law_take hr_law_take (by rfl) T.d_law_take.m T.d_law_take.k T.d_law_take.b .nil pass0 (pa_cons (pv 1) (pa_cons pe_int pa_nil))) pe_int) pa_nil))) (pa_cons (pe_op op_add pe_int (pe_call G_law_take hr_law_take (by rfl) T.d_law_take.m T.d_law_take.k T.d_law_take.b .nil pass0 (pa_cons (pv 1) (pa_cons pe_int pa_nil)))) pa_nil)) (by rfl))
      (pss_cons (ps_par (i := 8) (j := 9) (by rfl) sc_law.nd rfl rfl (by decide) rfl rfl (pa_cons (pe_meth (pv 2) T.C_Craft.cl T.m_Craft_stepped.me G_Craft_stepped hr_Craft_stepped T.m_Craft_stepped.b .nil pass0 (pa_cons (pv 5) (pa_cons (pv 6) pa_nil))) (pa_cons (pe_meth (pv 2) T.C_Craft.cl T.m_Craft_swung.me G_Craft_swung hr_Craft_swung T.m_Craft_swung.b .nil pass0 (pa_cons (pv 5) (pa_cons (pv 7) pa_nil))) pa_nil)) (by rfl))
      (pss_cons (ps_for PassesOwn.never rfl (pi_tup (pv 3)) (pg_name (i := 10) sc_law.nd rfl (.inl rfl)) (pss_cons (ps_asg (pe_call G_law_view hr_law_view (by rfl) T.d_law_view.m T.d_law_view.k T.d_law_view.b .nil pass0 (pa_cons (pv 5) (pa_cons (pv 10) pa_nil))) (pg_tup (by rfl) (pgs_cons (pg_name (i := 11) sc_law.nd rfl (.inl rfl)) (pgs_cons (pg_name (i := 12) sc_law.nd rfl (.inl rfl)) (pgs_cons (pg_name (i := 13) sc_law.nd rfl (.inl rfl)) pgs_nil)))))
      (pss_cons (ps_if (pt_cmpR (op_neA (α := Int × Int × Int) hr.units) (pe_call G_law_view hr_law_view (by rfl) T.d_law_view.m T.d_law_view.k T.d_law_view.b .nil pass0 (pa_cons (pv 8) (pa_cons (pv 10) pa_nil))) (pe_tup (pa_cons (pe_op op_sub (pv 11) (pe_ix ix_tup (pv 6) pe_int (fun _ _ => rfl))) (pa_cons (pe_op op_sub (pv 12) (pe_ix ix_tup (pv 6) pe_int (fun _ _ => rfl))) (pa_cons (pv 13) pa_nil)))) (nomark _)) (pss_one (ps_ret pe_bl)) pss_nil)
      (pss_cons (ps_par (i := 14) (j := 15) (by rfl) sc_law.nd rfl rfl (by decide) rfl rfl (pa_cons (pe_op op_sub (pv 11) (pe_ix ix_tup (pe_fld (pv 2) rfl) pe_int (fun _ _ => rfl))) (pa_cons (pe_op op_sub (pv 12) (pe_ix ix_tup (pe_fld (pv 2) rfl) pe_int (fun _ _ => rfl))) pa_nil)) (by rfl))
      (pss_cons (ps_for PassesOwn.never rfl (pi_range1 rfl T.n_range (pa_cons (pv 7) pa_nil)) (pg_name (i := 16) sc_law.nd rfl (.inl rfl)) (pss_one (ps_par (i := 14) (j := 15) (by rfl) sc_law.nd rfl rfl (by decide) rfl rfl (pa_cons (pe_un un_neg (pv 15)) (pa_cons (pv 14) pa_nil)) (by rfl))))
      (pss_one (ps_if (pt_cmpR (op_neA (α := Int × Int × Int) hr.units) (pe_call G_law_view hr_law_view (by rfl) T.d_law_view.m T.d_law_view.k T.d_law_view.b .nil pass0 (pa_cons (pv 9) (pa_cons (pv 10) pa_nil))) (pe_tup (pa_cons (pe_op op_add (pv 14) (pe_ix ix_tup (pe_fld (pv 2) rfl) pe_int (fun _ _ => rfl))) (pa_cons (pe_op op_add (pv 15) (pe_ix ix_tup (pe_fld (pv 2) rfl) pe_int (fun _ _ => rfl))) (pa_cons (pv 13) pa_nil)))) (nomark _)) (pss_one (ps_ret pe_bl)) pss_nil)))))))
      (pss_cons (ps_set (i := 17) sc_law.nd rfl (.inr rfl) (pe_meth (pv 2) T.C_Craft.cl T.m_Craft_cell_below.me G_Craft_cell_below hr_Craft_cell_below T.m_Craft_cell_below.b .nil pass0 (pa_cons (pv 5) pa_nil)))
      (pss_cons (ps_if (PW.pt (pw_or (pt_cmpR (op_neA (α := Int × Int) hr.units) (pe_slice sl_tup (pe_call G_law_view hr_law_view (by rfl) T.d_law_view.m T.d_law_view.k T.d_law_view.b .nil pass0 (pa_cons (pv 5) (pa_cons (pe_op op_catT (pv 17) (pe_tup (pa_cons pe_int pa_nil))) pa_nil))) po_none (po_some pe_int)) (pe_fld (pv 2) rfl) (nomark _)) (pw_or1 (pt_cmpR (op_neA (α := Int × Int) hr.units) (pe_meth (pv 2) T.C_Craft.cl T.m_Craft_cell_below.me G_Craft_cell_below hr_Craft_cell_below T.m_Craft_cell_below.b .nil pass0 (pa_cons (pv 9) pa_nil)) (pv 17) (nomark _))))) (pss_one (ps_ret pe_bl)) pss_nil)
      (pss_cons (ps_if (pt_cmpR op_ne (pe_meth (pv 2) T.C_Craft.cl T.m_Craft_is_safe.me G_Craft_is_safe hr_Craft_is_safe T.m_Craft_is_safe.b .nil pass0 (pa_cons (pv 5) pa_nil)) (pe_callB (cr_all rfl) (by rfl) T.n_all (by decide +kernel) (pa_cons (pe_lc (own := [("x", 11), ("y", 12), ("size", 13)]) (g := gTup K 3 (gCons (gName 11) (gCons (gName 12) (gCons (gName 13) gNil)))) rfl sc_law.nd (pi_tup (pv 3)) (blkOk_by (N := ["script", "draw", "craft", "craters", "once", "standing", "shift", "quarters", "moved", "swung", "crater", "x", "y", "size", "u", "v", "quarter", "below", "belief", "deed", "rows", "end"]) (sc := defScope s_law) (by decide +kernel)) (fun _ _ _ _ _ => (pg_tup (by rfl) (pgs_cons (pg_name (i := 11) sc_law.nd rfl (.inl rfl)) (pgs_cons (pg_name (i := 12) sc_law.nd rfl (.inl rfl)) (pgs_cons (pg_name (i := 13) sc_law.nd rfl (.inl rfl)) pgs_nil))))) (fun _ _ _ _ _ => pts_nil) (fun _ _ _ _ _ => (pe_cmpR op_gt (pe_callB (call_max2 rfl) (by rfl) T.n_max (by decide +kernel) (pa_cons (pe_callB call_abs (by rfl) T.n_abs (by decide +kernel) (pa_cons (pe_op op_sub (pv 11) (pe_ix (ix_tupK K) (pv 17) pe_int (fun _ _ => rfl))) pa_nil)) (pa_cons (pe_callB call_abs (by rfl) T.n_abs (by decide +kernel) (pa_cons (pe_op op_sub (pv 12) (pe_ix (ix_tupK K) (pv 17) pe_int (fun _ _ => rfl))) pa_nil)) pa_nil))) (pe_op op_add (pe_fldK (K := K) (pv 2) rfl) (pv 13)) (nomark _)))) pa_nil)) (nomark _)) (pss_one (ps_ret pe_bl)) pss_nil)
      (pss_one (ps_if (pt_cmpR op_ne (pe_meth (pv 2) T.C_Craft.cl T.m_Craft_is_over.me G_Craft_is_over hr_Craft_is_over T.m_Craft_is_over.b .nil pass0 (pa_cons (pv 5) pa_nil)) (pe_cmpR (op_inTA (α := Int × Int × Int) (hu65 hr)) (pv 5) (pe_meth0 (pe_ix ix_tup (pe_fld (pv 2) rfl) pe_int (fun _ _ => rfl)) T.C_Sky.cl T.m_Sky_standings.me G_Sky_standings hr_Sky_standings T.m_Sky_standings.b .nil pass0) (by rfl)) (nomark _)) (pss_one (ps_ret pe_bl)) pss_nil))))))))))
      (pss_cons (ps_set (i := 18) sc_law.nd rfl (.inl rfl) (pe_call G_law_belief hr_law_belief (by rfl) T.d_law_belief.m T.d_law_belief.k T.d_law_belief.b .nil pass0 (pa_cons (pv 1) (pa_cons (pv 2) pa_nil))))
      (pss_cons (ps_for PassesOwn.never rfl (pi_tup (pe_fld (pv 2) rfl)) (pg_name (i := 19) sc_law.nd rfl (.inr rfl)) (pss_cons (ps_set (i := 20) sc_law.nd rfl (.inl rfl) (pe_lst pa_nil))
      (pss_cons (ps_for PassesOwn.never rfl (pi_tup (pv 18)) (pg_name (i := 5) sc_law.nd rfl (.inl rfl)) (pss_cons (ps_if (pt_cmpR (op_neA (α := List (Int × Int × Int)) hr.units) (pe_callTy call_list_of (by rfl) T.n_list (by decide +kernel) (pa_cons (pe_call G_ends_of hr_ends_of (by rfl) T.d_ends_of.m T.d_ends_of.k T.d_ends_of.b .nil pass0 (pa_cons (pv 2) (pa_cons (pv 5) (pa_cons (pv 19) pa_nil)))) pa_nil)) (pe_call G_law_ends hr_law_ends (by rfl) T.d_law_ends.m T.d_law_ends.k T.d_law_ends.b .nil pass0 (pa_cons (pv 2) (pa_cons (pv 5) (pa_cons (pv 19) pa_nil)))) (nomark _)) (pss_one (ps_ret pe_bl)) pss_nil)
      (pss_one (ps_set (i := 20) sc_law.nd rfl (.inl rfl) (pe_op op_cat (pv 20) (pe_call G_law_ends hr_law_ends (by rfl) T.d_law_ends.m T.d_law_ends.k T.d_law_ends.b .nil pass0 (pa_cons (pv 2) (pa_cons (pv 5) (pa_cons (pv 19) pa_nil)))))))))
      (pss_cons (ps_if (PW.pt (pw_or (pt_cmpR (op_neA (α := Tp (Int × Int × Int)) hr.units) (pe_call G_behind hr_behind (by rfl) T.d_behind.m T.d_behind.k T.d_behind.b .nil pass0 (pa_cons (pv 2) (pa_cons (pv 18) (pa_cons (pv 19) pa_nil)))) (pe_callTy call_tuple_of (by rfl) T.n_tuple (by decide +kernel) (pa_cons (pe_callB (cr_sortedSA rfl) (by rfl) T.n_sorted (by decide +kernel) (pa_cons (pe_callTy (cr_setA rfl hr.units) (by rfl) T.n_set (by decide +kernel) (pa_cons (pv 20) pa_nil)) pa_nil)) pa_nil)) (nomark _)) (pw_or1 (pt_cmpR op_ne (pe_call G_is_end hr_is_end (by rfl) T.d_is_end.m T.d_is_end.k T.d_is_end.b .nil pass0 (pa_cons (pv 19) pa_nil)) (pe_cmpR op_in_seq (pe_fld (pv 19) rfl) (pe_tup (pa_cons pe_str (pa_cons pe_str pa_nil))) (by rfl)) (nomark _))))) (pss_one (ps_ret pe_bl)) pss_nil)
      (pss_one (ps_if (pt_cmpR op_ne (pe_call G_is_kept hr_is_kept (by rfl) T.d_is_kept.m T.d_is_kept.k T.d_is_kept.b .nil pass0 (pa_cons (pv 2) (pa_cons (pv 18) (pa_cons (pv 19) pa_nil)))) (pe_callB (cr_all rfl) (by rfl) T.n_all (by decide +kernel) (pa_cons (pe_lc (own := [("end", 21)]) (g := gName 21) rfl sc_law.nd (pi_list (pv 20)) (blkOk_by (N := ["script", "draw", "craft", "craters", "once", "standing", "shift", "quarters", "moved", "swung", "crater", "x", "y", "size", "u", "v", "quarter", "below", "belief", "deed", "rows", "end"]) (sc := defScope s_law) (by decide +kernel)) (fun _ _ _ _ _ => (pg_name (i := 21) sc_law.nd rfl (.inl rfl))) (fun _ _ _ _ _ => pts_nil) (fun _ _ _ _ _ => (pe_call G_law_whole hr_law_whole (by rfl) T.d_law_whole.m T.d_law_whole.k T.d_law_whole.b .nil pass0 (pa_cons (pv 2) (pa_cons (pv 19) (pa_cons (pv 21) pa_nil)))))) pa_nil)) (nomark _)) (pss_one (ps_ret pe_bl)) pss_nil))))))
      (pss_one (ps_ret pe_bl))))))), ?_⟩
    refine ⟨_, rfl, by show 2 ≤ sizeLine; decide, fun dd hdd => ?_⟩
    have dr0 : Drw K (upd H dd (.lst [.ref a, .int 0])) dd a ns := by
      refine ⟨0, upd_same, ex_l (Ex.new hdd) hS, ?_, Int.le_refl _⟩
      rcases hS with (h | ⟨o, h⟩) | h
      · exact .inl (ne_of_none h hdd)
      · exact .inl (ne_of_none h hdd)
      · exact .inr fun H => .inr h
    refine ⟨_, rfl, dd, a, ns, rfl, dr0, fun H1 p ks cs tn area foot r ds e1 d1 hcf ksne kslen hsk hds dslen lc => ?_⟩
    obtain ⟨k, ks', rfl⟩ : ∃ k ks', ks = k :: ks' := by
      cases ks with
      | nil => exact absurd rfl ksne
      | cons k r => exact ⟨k, r, rfl⟩
    obtain ⟨cam, hk, sm⟩ := hsk k List.mem_cons_self
    have oks : okSky ⟨cs, cam, tn, area⟩ := lawC.sky lc.tu lc.t2 lc.ar lc.aw.2 lc.ah
    have hlc := lc.len
    obtain ⟨dc, ta, tf, td, c1, c2, c3, c4⟩ := id hcf
    obtain ⟨_, e0, hf1⟩ := c3.p2_inv
    cases e0
    obtain ⟨dk, g, cm, tu, ar, k1, ⟨dg, cr, g1, g2⟩, _⟩ := id hk
    obtain ⟨_, xs, e0, hcr, ra⟩ := g2.tp_inv
    cases e0
    refine ⟨_, rfl, p, T.C_Craft.C, dc, _, _, rfl, c1, T.C_Craft.cl, T.a_Craft_skies, crf_s _ _ _ _, ta, _, 0, V.ref k, rfl, rfl, c2, at_of (j := 0) rfl rfl, k, T.C_Sky.C, dk, _, _, rfl, k1, T.C_Sky.cl, T.a_Sky_ground, sf_g _ _ _ _, g, T.C_Ground.C, dg, _, _, rfl, g1, T.C_Ground.cl, T.a_Ground_craters, lk_eq, ?_⟩
    refine ⟨6, rfl, by decide, by decide, ?_⟩
    refine for_it walk_range (fun i σ' H' => ∃ v4 v5 v6 v7 v8 v9 v10 v11 v12 v13 v14 v15 v16 v17, σ' = lawG a dd p cr v4 v5 v6 v7 v8 v9 v10 v11 v12 v13 v14 v15 v16 v17 none none none ∧ ExD dd H1 H' ∧ Drw K H' dd a ns)
      ⟨none, none, none, none, none, none, none, none, none, none, none, none, none, none, rfl, .refl _ _, d1⟩ (fun _ _ _ _ _ => trivial) ?_ ?_
    · rintro i x σ' Ha Hb hi ⟨v4, v5, v6, v7, v8, v9, v10, v11, v12, v13, v14, v15, v16, v17, rfl, e, dr⟩ y
      obtain ⟨rfl, rfl⟩ := y
      refine ⟨_, rfl, dd, 4, a, ns, rfl, dr, by decide, fun h H2 h0 h4 e2 d2 => ?_⟩
      refine ⟨_, rfl, dd, 9, a, ns, rfl, d2, by decide, fun sa H3 a0 a1 e3 d3 => ⟨_, _, rfl, rfl, ?_⟩⟩
      refine ⟨_, rfl, dd, 9, a, ns, rfl, d3, by decide, fun sb H4 b0 b1 e4 d4 => ⟨_, _, rfl, rfl, ?_⟩⟩
      refine ⟨by show 3 ≤ sizeLine; decide, fun ts hts => ?_⟩
      have xs1 := Ex.new (o := .tup [.int h, .int (sa - 4), .int (sb - 4)]) hts
      obtain ⟨s0, hs0⟩ : ∃ s0 : P3, s0 = (h, sa - 4, sb - 4) := ⟨_, rfl⟩
      have hs : 0 ≤ s0.1 ∧ s0.1 ≤ 3 := by
        rw [hs0]
        exact ⟨h0, by show h ≤ 3; omega⟩
      have rs : Rep K (upd H4 ts (.tup [.int h, .int (sa - 4), .int (sb - 4)])) (.ref ts) s0 := by
        rw [hs0]
        exact Rep.p3 (st_of upd_same)
      have d4' := d4.ex xs1
      refine ⟨_, rfl, dd, 7, a, ns, rfl, d4', by decide, fun oa H5 f0 f1 e5 d5 => ⟨_, _, rfl, rfl, ?_⟩⟩
      refine ⟨_, rfl, dd, 7, a, ns, rfl, d5, by decide, fun ob H6 f2 f3 e6 d6 => ⟨_, _, rfl, rfl, ?_⟩⟩
      refine ⟨by show 2 ≤ sizeLine; decide, fun to hto => ?_⟩
      have xo := Ex.new (o := .tup [.int (oa - 3), .int (ob - 3)]) hto
      obtain ⟨o, ho⟩ : ∃ o : PR, o = (oa - 3, ob - 3) := ⟨_, rfl⟩
      have ro : Rep K (upd H6 to (.tup [.int (oa - 3), .int (ob - 3)])) (.ref to) o := by
        rw [ho]
        exact Rep.p2 (st_of upd_same)
      have d6' := d6.ex xo
      refine ⟨_, rfl, dd, 3, a, ns, rfl, d6', by decide, fun n H7 n0 n1 e7 d7 => ⟨_, _, rfl, rfl, _, _, rfl, ?_⟩⟩
      have e46 := (e5.trans e6).trans (.of xo)
      have rs7 := (rs.exd e46 d4'.lst).exd e7 d6'.lst
      have ro7 := ro.exd e7 d6'.lst
      have eS := ((((((e.trans e2).trans e3).trans e4).trans (.of xs1)).trans e46)).trans e7
      have nb : 1 ≤ (1 + n) ∧ (1 + n) ≤ 3 := by omega
      have hcf7 := hcf.xd eS d1.lst
      have hk7 := hk.exd eS d1.lst
      have ra7 := ra.exd eS d1.lst
      have hcr7 := eS.tup d1.lst hcr
      have c17 := eS.ins d1.lst c1
      have c27 := eS.tup d1.lst c2
      have hf7 := eS.tup d1.lst hf1
      clear rs ro d4' d6' e46
      obtain ⟨_, e0, rs7t⟩ := rs7.p3_inv
      cases e0
      obtain ⟨_, e0, ro7t⟩ := ro7.p2_inv
      cases e0
      refine ⟨_, rfl, p, dc, _, rfl, c17, crf_noT _ _ _ _, _, rfl, _, rfl, p, ts, to, s0, o, rfl, rs7, ro7, fun vm H8 e8 hm => ?_⟩
      refine ⟨_, rfl, p, dc, _, rfl, e8 _ _ c17, crf_noW _ _ _ _, _, rfl, _, rfl, p, ts, _, foot, r, ds, s0, (1 + n), rfl, hcf7.ex e8, rs7.ex e8, fun vs H9 e9 hw => ⟨_, _, rfl, ?_⟩⟩
      have hm9 := hm.ex e9
      obtain ⟨um, rfl, _⟩ := hm9.p3_inv
      obtain ⟨us, rfl, _⟩ := hw.p3_inv
      have e79 := e8.trans e9
      have sh := swung_head (foot := foot) hs.1 hs.2 nb.1 nb.2
      refine ⟨_, rfl, cr, rfl, ⟨_, ex_t e79 hcr7⟩, ?_⟩
      refine for_it walk_tup (fun i2 σ' H' => ∃ v10 v11 v12 v13 v14 v15 v16, σ' = lawG a dd p cr (some (.int (0 + (i : Int)))) (some (.ref ts)) (some (.ref to)) (some (.int (1 + n))) (some (.ref um)) (some (.ref us)) v10 v11 v12 v13 v14 v15 v16 v17 none none none ∧ Ex H9 H')
        ⟨_, _, _, _, _, _, _, rfl, .refl _⟩ (fun i2 σ' H' _ ⟨_, _, _, _, _, _, _, _, e⟩ => ex_t (e79.trans e) hcr7) ?_ ?_
      · rintro i2 x σ' Hc Hd hi2 ⟨v10, v11, v12, v13, v14, v15, v16, rfl, eC⟩ ⟨rfl, hx⟩
        have e7c := e79.trans eC
        obtain ⟨b, hb, rb⟩ := (ra7.ex e7c).get hx
        obtain ⟨z, rfl, hz⟩ := rb.p3_inv
        refine ⟨_, rfl, _, rfl, ts, z, s0, b, rfl, rs7.ex e7c, rb, hs, fun u HA eA _ hu => ?_⟩
        refine ⟨u, _, rfl, hu, rfl, _, _, rfl, _, _, rfl, _, _, rfl, rfl, ?_⟩
        refine ⟨_, rfl, _, rfl, um, z, stepF s0 o, b, rfl, (hm9.ex eC).ex eA, rb.ex eA, hs, fun u2 HB eB _ hu2 => ?_⟩
        have e7b := (e7c.trans eA).trans eB
        have toB := ex_t e7b ro7t
        refine ⟨_, rfl, _, rfl, to, _, 0, _, rfl, rfl, toB, rfl, _, _, rfl, rfl, _, rfl, _, rfl, to, _, 1, _, rfl, rfl, toB, rfl, _, _, rfl, rfl, _, rfl, by show 3 ≤ sizeLine; decide, fun u3 hu3 => ?_⟩
        have x3 := Ex.new (o := .tup [.int ((viewF b s0).1 - o.1), .int ((viewF b s0).2.1 - o.2), .int (viewF b s0).2.2]) hu3
        refine ⟨viewF b (stepF s0 o), viewF b (stepF s0 o), Rep.p3 (ex_t x3 hu2), by rw [view_step]; exact Rep.p3 (st_of upd_same), _, rfl, iteNS rfl ?_⟩
        have e7d := e7b.trans x3
        have c1d := e7d _ _ c17
        have hfd := ex_t e7d hf7
        refine ⟨_, rfl, _, rfl, p, T.C_Craft.C, dc, _, _, rfl, c1d, T.C_Craft.cl, T.a_Craft_foot, crf_f _ _ _ _, tf, _, 0, _, rfl, rfl, hfd, rfl, _, _, rfl, rfl, _, rfl, _, rfl, p, T.C_Craft.C, dc, _, _, rfl, c1d, T.C_Craft.cl, T.a_Craft_foot, crf_f _ _ _ _, tf, _, 1, _, rfl, rfl, hfd, rfl, _, _, rfl, rfl, _, _, rfl, ?_⟩
        refine ⟨_, rfl, (1 + n), rfl, by omega, by omega, ?_⟩
        refine for_it walk_range (fun i3 σ' H' => ∃ v16, σ' = lawG a dd p cr (some (.int (0 + (i : Int)))) (some (.ref ts)) (some (.ref to)) (some (.int (1 + n))) (some (.ref um)) (some (.ref us)) (some (.ref z)) (some (.int (viewF b s0).1)) (some (.int (viewF b s0).2.1)) (some (.int (viewF b s0).2.2)) (some (.int (rotN ((viewF b s0).1 - foot.1) ((viewF b s0).2.1 - foot.2) i3).1)) (some (.int (rotN ((viewF b s0).1 - foot.1) ((viewF b s0).2.1 - foot.2) i3).2)) v16 v17 none none none ∧ H' = upd HB u3 (.tup [.int ((viewF b s0).1 - o.1), .int ((viewF b s0).2.1 - o.2), .int (viewF b s0).2.2])) ⟨_, rfl, rfl⟩ (fun _ _ _ _ _ => trivial) ?_ ?_
        · rintro i3 x σ' He Hf hi3 ⟨v16, rfl, rfl⟩ y
          obtain ⟨rfl, rfl⟩ := y
          exact ⟨_, rfl, _, rfl, _, rfl, _, _, rfl, _, rfl, rfl⟩
        · rintro σ' He ⟨v16, rfl, rfl⟩
          have e9r := turned_rot (x := (viewF b s0).1 - foot.1) (y := (viewF b s0).2.1 - foot.2) (by omega : 0 ≤ (1 + n)) nb.2
          rw [← e9r]
          have e9d := ((eC.trans eA).trans eB).trans x3
          refine ⟨_, rfl, _, rfl, us, z, swungF foot s0 (1 + n), b, rfl, hw.ex e9d, ((rb.ex eA).ex eB).ex x3, sh, fun u4 HG eG _ hu4 => ?_⟩
          have e7g := e7d.trans eG
          have c1g := e7g _ _ c17
          have hfg := ex_t e7g hf7
          refine ⟨_, rfl, _, rfl, p, T.C_Craft.C, dc, _, _, rfl, c1g, T.C_Craft.cl, T.a_Craft_foot, crf_f _ _ _ _, tf, _, 0, _, rfl, rfl, hfg, rfl, _, _, rfl, rfl, _, rfl, _, rfl, p, T.C_Craft.C, dc, _, _, rfl, c1g, T.C_Craft.cl, T.a_Craft_foot, crf_f _ _ _ _, tf, _, 1, _, rfl, rfl, hfg, rfl, _, _, rfl, rfl, _, rfl, by show 3 ≤ sizeLine; decide, fun u5 hu5 => ?_⟩
          refine ⟨viewF b (swungF foot s0 (1 + n)), viewF b (swungF foot s0 (1 + n)), Rep.p3 (ex_t (Ex.new hu5) hu4), by rw [view_swung hs.1 hs.2 nb.1 nb.2]; exact Rep.p3 (st_of upd_same), _, rfl, iteNS rfl ?_⟩
          exact ⟨_, _, _, _, _, _, _, rfl, (e9d.trans eG).trans (Ex.new hu5)⟩
      rintro σ' HJ ⟨w10, w11, w12, w13, w14, w15, w16, rfl, eJ⟩
      have e7J := e79.trans eJ
      have c1J := e7J _ _ c17
      refine ⟨_, rfl, p, dc, _, rfl, c1J, crf_noB _ _ _ _, _, rfl, p, ts, _, foot, r, ds, s0, rfl, hcf7.ex e7J, rs7.ex e7J, fun vb HK eK hb => ?_⟩
      obtain ⟨ub, rfl, hub⟩ := hb.p2_inv
      have e7K := e7J.trans eK
      refine ⟨_, rfl, _, rfl, by show 1 ≤ sizeLine; decide, fun u1 hu1 => ?_⟩
      have y1 := Ex.new (o := .tup [.int 1]) hu1
      refine ⟨ub, u1, [.int (belowF foot s0).1, .int (belowF foot s0).2], [.int 1], rfl, rfl, ex_t y1 hub, st_of upd_same, by simp, by show 3 ≤ sizeLine; decide, (fun z => absurd z (by simp)), fun _ u2 hu2 => ?_⟩
      have y2 := Ex.new (o := .tup [.int (belowF foot s0).1, .int (belowF foot s0).2, .int 1]) hu2
      refine ⟨ts, u2, s0, ((belowF foot s0).1, (belowF foot s0).2, 1), rfl, ((rs7.ex e7K).ex y1).ex y2, Rep.p3 (st_of upd_same), hs, fun u HL eL _ hu => ?_⟩
      rw [view_below (z := 1) hs.1 hs.2] at hu
      refine ⟨2, rfl, u, _, rfl, hu, (by show ¬ (HT.sIx 3 0 none = 0 ∧ HT.sIx 3 3 (some 2) = 3); decide), fun p3 hp3 => ?_⟩
      have y3 := Ex.new (o := .tup (cutV [V.int foot.1, V.int foot.2, V.int 1] none (some 2))) hp3
      have hp3' : SqT K (upd HL p3 (.tup (cutV [V.int foot.1, V.int foot.2, V.int 1] none (some 2)))) p3 [V.int foot.1, V.int foot.2] := st_of upd_same
      have eKM := ((y1.trans y2).trans eL).trans y3
      have e7M := e7K.trans eKM
      refine ⟨_, rfl, p, T.C_Craft.C, dc, _, _, rfl, e7M _ _ c17, T.C_Craft.cl, T.a_Craft_foot, crf_f _ _ _ _, foot, foot, Rep.p2 hp3', Rep.p2 (ex_t e7M hf7), _, rfl, iteNS rfl ?_⟩
      refine ⟨_, rfl, p, dc, _, rfl, e7M _ _ c17, crf_noB _ _ _ _, _, rfl, p, us, _, foot, r, ds, swungF foot s0 (1 + n), rfl, hcf7.ex e7M, ((hw.ex eJ).ex eK).ex eKM, fun vb2 HN eN hb2 => ?_⟩
      have eKN := eKM.trans eN
      have e7N := e7K.trans eKN
      refine ⟨_, rfl, belowF foot (swungF foot s0 (1 + n)), belowF foot s0, hb2, hb.ex eKN, _, rfl, iteNS (below_swung hs.1 hs.2 nb.1 nb.2) ?_⟩
      -- safe
      refine ⟨_, rfl, p, dc, _, rfl, e7N _ _ c17, crf_noS _ _ _ _, _, rfl, p, ts, k, ks', foot, r, ds, ⟨cs, cam, tn, area⟩, s0, rfl, hcf7.ex e7N, hk7.ex e7N, by show cs.length ≤ 100; omega, rs7.ex e7N, fun HO eO => ?_⟩
      have eKO := eKN.trans eO
      have e7O := e7K.trans eKO
      have raO := ra7.ex e7O
      refine ⟨_, rfl, cr, rfl, ⟨_, ex_t e7O hcr7⟩, fun D hD => ?_⟩
      refine lc_val walk_tup hD (lawG a dd p cr (some (.int (0 + (i : Int)))) (some (.ref ts)) (some (.ref to)) (some (.int (1 + n))) (some (.ref um)) (some (.ref us)) w10 none none none w14 w15 w16 (some (.ref ub)) none none none) rfl (fun _ _ e h => ex_t e h) (ex_t e7O hcr7) cs (fun _ => true) (fun c => .bl (decide (maxF (absF (c.1 - (belowF foot s0).1)) (absF (c.2.1 - (belowF foot s0).2)) > r + c.2.2))) raO.length.symm (by rw [raO.length]; show cs.length ≤ 100000; omega) (fun i4 c y Ha Hb hi4 e1' yy R0 R _ hR => ?_) (fun HP eP hL => ?_)
      · obtain ⟨rfl, hy⟩ := yy
        obtain ⟨c', hc', rc⟩ := (raO.ex e1').get hy
        rw [hi4] at hc'
        obtain rfl := Option.some.inj hc'
        obtain ⟨uc, rfl, huc⟩ := rc.p3_inv
        have hubA := ex_t e1' (ex_t eKO hub)
        refine ⟨uc, _, rfl, huc, rfl, _, _, rfl, _, _, rfl, _, _, rfl, rfl, rfl, ?_⟩
        refine ⟨_, rfl, _, rfl, ub, _, 0, _, rfl, rfl, hubA, rfl, _, _, rfl, rfl, _, rfl, _, rfl, _, rfl, ub, _, 1, _, rfl, rfl, hubA, rfl, _, _, rfl, rfl, _, rfl, _, _, rfl, ?_⟩
        refine ⟨_, rfl, p, T.C_Craft.C, dc, _, _, rfl, e1' _ _ (e7O _ _ c17), T.C_Craft.cl, T.a_Craft_room, crf_r _ _ _ _, _, rfl, _, _, rfl, rfl, _, _, rfl, rfl, ?_⟩
        exact hR _ (Ex.refl _) rfl
      have hL2 : HP D = some (.lst ((cs.map fun c => decide (maxF (absF (c.1 - (belowF foot s0).1)) (absF (c.2.1 - (belowF foot s0).2)) > r + c.2.2)).map V.bl)) := by
        rw [hL, filter_true, List.map_map]
        rfl
      refine ⟨D, _, rfl, sq_of hL2, rfl, _, rfl, iteNS ?_ ?_⟩
      · rw [safe_below hs.1 hs.2, List.all_map]
        rfl
      -- over
      have eKP := eKO.trans eP
      have e7P := e7K.trans eKP
      refine ⟨_, rfl, p, dc, _, rfl, e7P _ _ c17, crf_noO _ _ _ _, _, rfl, p, ts, k, ks', foot, r, ds, ⟨cs, cam, tn, area⟩, s0, rfl, hcf7.ex e7P, hk7.ex e7P, rs7.ex e7P, fun HQ eQ => ?_⟩
      have e7Q := e7P.trans eQ
      have hkQ := hk7.ex e7Q
      obtain ⟨dkQ, _, _, _, _, k1Q, _⟩ := id hkQ
      refine ⟨_, rfl, _, rfl, p, T.C_Craft.C, dc, _, _, rfl, e7Q _ _ c17, T.C_Craft.cl, T.a_Craft_skies, crf_s _ _ _ _, ta, _, 0, V.ref k, rfl, rfl, ex_t e7Q c27, at_of (j := 0) rfl rfl, k, dkQ, _, rfl, k1Q, sf_noSg _ _ _ _, k, ⟨cs, cam, tn, area⟩, rfl, hkQ, oks, fun v HR eR rv => ?_⟩
      refine ⟨s0, standF ⟨cs, cam, tn, area⟩, (rs7.ex e7Q).ex eR, rv, fun b hb2 => ⟨rfl, _, rfl, iteNS (by rw [stand_is hb2]) ?_⟩⟩
      have e7R := e7Q.trans eR
      exact ⟨_, _, _, _, _, _, _, _, _, _, _, _, _, _, rfl, eS.trans (.of e7R), d7.ex e7R⟩
    rintro σ' HS ⟨v4, v5, v6, v7, v8, v9, v10, v11, v12, v13, v14, v15, v16, v17, rfl, eS, dS⟩
    have hcfS := hcf.xd eS d1.lst
    have hkS := hk.exd eS d1.lst
    refine ⟨_, rfl, _, rfl, dd, p, a, k, ns, ks', foot, r, ds, ⟨cs, cam, tn, area⟩, rfl, dS, hcfS, hkS, oks, standF_bound lc.t2 lc.aw.2 lc.ah, standF_two oks lc.aw.1, fun HT vb bel eT dT rb bne bl5 bsub => ?_⟩
    have eT1 := eS.trans eT
    have hcfT := hcf.xd eT1 d1.lst
    have hkT := hk.exd eT1 d1.lst
    have hdsT := hds.xd eT1 d1.lst
    have c1T := eT1.ins d1.lst c1
    have c4T := eT1.tup d1.lst c4
    obtain ⟨tb, yb, rfl, hyb, rab⟩ := rb.tp_inv
    have head : ∀ b ∈ bel, 0 ≤ b.1 ∧ b.1 ≤ 3 := fun b hb => lc.tu.2.1 _ (mem_stand.mp (bsub.subset hb)).1
    refine ⟨_, rfl, p, T.C_Craft.C, dc, _, _, rfl, c1T, T.C_Craft.cl, T.a_Craft_deeds, crf_d _ _ _ _, td, rfl, ⟨_, c4T⟩, ?_⟩
    refine for_it walk_tup (fun i σ' H' => ∃ v5 v19 v20, σ' = lawG a dd p cr v4 v5 v6 v7 v8 v9 v10 v11 v12 v13 v14 v15 v16 v17 (some (.ref tb)) v19 v20 ∧ Ex HT H') ⟨_, none, none, rfl, .refl _⟩ (fun i σ' H' _ ⟨_, _, _, _, e⟩ => ex_t e c4T) ?_ ?_
    · rintro i x σ' Ha Hb hi ⟨v5, v19, v20, rfl, e⟩ ⟨rfl, hx⟩
      rw [List.getElem?_map] at hx
      obtain ⟨pd, hpd, rfl⟩ := Option.map_eq_some_iff.mp hx
      obtain ⟨xd, xat, xok⟩ := hdsT pd (List.mem_of_getElem? hpd)
      have few15 : ∀ (l : List P3), l.length ≤ 5 → (l.flatMap fun s => srt (endsL foot s xd)).length ≤ 15 := fun l hl => by
        have : ∀ l : List P3, (l.flatMap fun s => srt (endsL foot s xd)).length ≤ l.length * 3 := fun l => by
          induction l with
          | nil => simp
          | cons s l ih =>
            rw [List.flatMap_cons, List.length_append, List.length_cons]
            have := ends_few (foot := foot) (s := s) xok.sl
            omega
        have := this l
        omega
      refine ⟨by show 0 ≤ sizeLine; decide, fun r0 hr0 => ?_⟩
      have xr := Ex.new (o := .lst []) hr0
      refine ⟨_, rfl, tb, rfl, ⟨_, ex_t (e.trans xr) hyb⟩, ?_⟩
      refine for_it walk_tup (fun j σ' H' => ∃ v5 pr yr, σ' = lawG a dd p cr v4 v5 v6 v7 v8 v9 v10 v11 v12 v13 v14 v15 v16 v17 (some (.ref tb)) (some (.ref pd)) (some (.ref pr)) ∧ Ex HT H' ∧ H' pr = some (.lst yr) ∧ RAll K H' yr ((bel.take j).flatMap fun s => srt (endsL foot s xd)))
        ⟨_, r0, [], rfl, e.trans xr, upd_same, .nil⟩ (fun j σ' H' _ ⟨_, _, _, _, e, _⟩ => ex_t e hyb) ?_ ?_
      · rintro j y σ' Hc Hd hj ⟨v5, pr, yr, rfl, eC, hpr, ry⟩ ⟨rfl, hy⟩
        obtain ⟨b, hb, rbb⟩ := (rab.ex eC).get hy
        obtain ⟨u, rfl, hu⟩ := rbb.p3_inv
        refine ⟨_, rfl, _, rfl, _, rfl, p, u, pd, _, foot, r, ds, xd, b, rfl, hcfT.ex eC, rbb, xat.ex eC, xok.ai, by have := xok.sl; omega, fun v H4 e4 hv => ?_⟩
        obtain ⟨l, zs, rfl, hl0, hl, rl⟩ := hv
        refine ⟨l, zs, rfl, .inl (sq_of hl), fun l1 hl1 => ?_⟩
        have y1 := Ex.new (o := .lst zs) hl1
        have eD := (eC.trans e4).trans y1
        refine ⟨_, rfl, _, rfl, _, rfl, p, u, pd, _, foot, r, ds, xd, b, rfl, hcfT.ex eD, rbb.ex (e4.trans y1), xat.ex eD, xok.ai, by have := xok.sl; omega, xok.nd, head b (List.mem_of_getElem? hb), fun l2 z2 H6 e6 hl2 rl2 => ?_⟩
        refine ⟨srt (endsL foot b xd), srt (endsL foot b xd), Rep.lst (sq_of (e6 _ _ upd_same)) ((rl.ex y1).ex e6), Rep.lst (sq_of hl2) rl2, _, rfl, iteNS rfl ?_⟩
        have eE := eD.trans e6
        have e46 := (e4.trans y1).trans e6
        refine ⟨_, rfl, _, rfl, _, rfl, _, rfl, p, u, pd, _, foot, r, ds, xd, b, rfl, hcfT.ex eE, rbb.ex e46, xat.ex eE, xok.ai, by have := xok.sl; omega, xok.nd, head b (List.mem_of_getElem? hb), fun l3 z3 H7 e7 hl3 rl3 => ?_⟩
        have e47 := e46.trans e7
        have b1 := ry.length
        have b2 := few15 (bel.take j) (by rw [List.length_take]; omega)
        have b3 := rl3.length
        have b4 := ends_few (foot := foot) (s := b) xok.sl
        refine ⟨pr, l3, yr, z3, rfl, rfl, e47 _ _ hpr, hl3, Nat.le_of_lt (sz_lt (by omega)), fun p2 hp2 => ?_⟩
        have y2 := Ex.new (o := .lst (yr ++ z3)) hp2
        refine ⟨_, p2, yr ++ z3, rfl, (eE.trans e7).trans y2, upd_same, ?_⟩
        rw [flat_tk _ hb]
        exact ((ry.ex e47).append rl3).ex y2
      rintro σ' HU ⟨v5, pr, yr, rfl, eU, hpr, ry⟩
      rw [rab.length, List.take_length] at ry
      have ry : RAll K HU yr (endsF foot xd bel) := ry
      have few := few15 bel bl5
      have few : (endsF foot xd bel).length ≤ 15 := few
      refine ⟨_, rfl, _, rfl, _, rfl, p, tb, pd, _, foot, r, ds, xd, bel, rfl, hcfT.ex eU, rb.ex eU, xat.ex eU, xok.ai, by have := xok.sl; omega, by omega, fun v HV bs eV rv hset => ?_⟩
      refine ⟨_, rfl, ?_⟩
      dsimp only [tNil]
      refine set_sorted (as := endsF foot xd bel) (.inl (sq_of (eV _ _ hpr))) (ry.ex eV) (by omega) (fun zs bs2 l HW eW hl rl nd mem pw => ?_)
      refine ⟨l, zs, rfl, .inl ⟨sq_of hl, fun u hu => ?_⟩⟩
      have y3 := Ex.new (o := .tup zs) hu
      refine ⟨Tp.mk bs, Tp.mk bs2, (rv.ex eW).ex y3, Rep.tp (st_of upd_same) (rl.ex y3), _, rfl, iteNS (congrArg Tp.mk (setA_uniq hset ⟨nd, mem, pw⟩ fun _ => Iff.rfl)) ?_⟩
      have eUW := (eV.trans eW).trans y3
      have eX := eU.trans eUW
      refine ⟨_, rfl, pd, xd, rfl, xat.ex eX, fun HX e9 => ?_⟩
      have eY := eX.trans e9
      obtain ⟨dx9, v9', t9, x91, _⟩ := id (xat.ex eY)
      refine ⟨_, rfl, pd, T.C_Deed.C, dx9, _, _, rfl, x91, T.C_Deed.cl, T.a_Deed_kind, df_k _ _ _ _, by show 2 ≤ sizeLine; decide, fun u9 hu9 => ?_⟩
      have y4 := Ex.new (o := .tup [V.str "land", V.str "away"]) hu9
      refine ⟨u9, ([("land" : Str), "away"]).map V.str, rfl, .inr (st_of upd_same), rfl, strs_flat _, rfl, _, rfl, iteNS ?_ ?_⟩
      · show V.bl (decide (xd.kind ∈ [("land" : Str), "away"])) = V.bl (inV (.str xd.kind) (([("land" : Str), "away"]).map V.str))
        rw [inV_of]
      have eZ := eY.trans y4
      have eUZ := (eUW.trans e9).trans y4
      refine ⟨_, rfl, _, rfl, _, rfl, p, tb, pd, k, ks', foot, r, ds, ⟨cs, cam, tn, area⟩, xd, bel, rfl, hcfT.ex eZ, hkT.ex eZ, by show cs.length ≤ 100; omega, rb.ex eZ, xat.ex eZ, xok.ai, by have := xok.sl; omega, fun HA2 eA2 => ?_⟩
      have eUA := eUZ.trans eA2
      have eTA := eU.trans eUA
      have ryA := ry.ex eUA
      refine ⟨_, rfl, pr, rfl, ⟨_, sq_of (eUA _ _ hpr)⟩, fun D hD => ?_⟩
      refine lc_val (walk_list (K := K) (xs := yr)) hD (lawG a dd p cr v4 v5 v6 v7 v8 v9 v10 v11 v12 v13 v14 v15 v16 v17 (some (.ref tb)) (some (.ref pd)) (some (.ref pr))) rfl (fun _ _ e h => ex_l e h) (sq_of (eUA _ _ hpr)) (endsF foot xd bel) (fun _ => true) (fun b => .bl (wholeB ⟨cs, cam, tn, area⟩ foot r xd.kind b)) ryA.length.symm (by rw [ryA.length]; omega) (fun i4 b y Ha Hb hi4 e1' yy R0 R _ hR => ?_) (fun HB2 eB2 hL => ?_)
      · obtain ⟨rfl, hy⟩ := yy
        obtain ⟨b', hb', rbb⟩ := (ryA.ex e1').get hy
        rw [hi4] at hb'
        obtain rfl := Option.some.inj hb'
        obtain ⟨u, rfl, hu⟩ := rbb.p3_inv
        have hbm := List.mem_of_getElem? hi4
        obtain ⟨s1, hs1, hbs⟩ := List.mem_flatMap.mp (show b ∈ bel.flatMap fun s => srt (endsL foot s xd) from hbm)
        have hh := head s1 hs1
        have eF := eTA.trans e1'
        exact ⟨rfl, _, rfl, _, rfl, _, rfl, p, pd, u, k, ks', foot, r, ds, ⟨cs, cam, tn, area⟩, xd, b, rfl, hcfT.ex eF, hkT.ex eF, oks, by show cs.length ≤ 100; omega, xat.ex eF, rbb, ends_head xok.ai hh.1 hh.2 b hbs, fun H9 e9 => hR H9 e9 rfl⟩
      have hL2 : HB2 D = some (.lst (((endsF foot xd bel).map fun b => wholeB ⟨cs, cam, tn, area⟩ foot r xd.kind b).map V.bl)) := by
        rw [hL, filter_true, List.map_map]
        rfl
      refine ⟨D, _, rfl, sq_of hL2, rfl, _, rfl, iteNS ?_ ?_⟩
      · rw [List.all_map]
        rfl
      exact ⟨_, _, _, rfl, eTA.trans eB2⟩
    rintro σ' HZ ⟨v5, v19, v20, rfl, eZ⟩
    exact q _
end
end My


-- End
namespace My
open PySem L2 Evl
def spL (K : PySem.W.Frag) : Sp := fun vs H Q _ => ∃ (a : Addr) (ns : List Int), vs = [.ref a] ∧ SqL K H a (ns.map V.int) ∧ ∀ H', Q (.bl true) H'
theorem all_mk {l : PySem.W.OpenLaw} {w : World} {K : PySem.W.Frag} {h : Heap} {mg : Str → Option Value} {fa : Addr} (X : K.In h) (G : h.Ns mainGlobals mg) (hfa : mg "law" = some (.ref fa))
    {tk_MOST_CRATERS : Tok}
    {tk_MOST_SIZE : Tok}
    {tk_FARTHEST : Tok}
    {tk_FARTHEST_STEP : Tok}
    {q_CAMERA_BOUNDS : Addr} {o1_CAMERA_BOUNDS : Option Addr} {o2_CAMERA_BOUNDS : Array (Option Value)} {n_CAMERA_BOUNDS : Nat}
    {q_CAMERA_BOUNDS_0 : Addr}
    {q_CAMERA_BOUNDS_1 : Addr}
    {q_CAMERA_BOUNDS_2 : Addr}
    {q_CAMERA_BOUNDS_3 : Addr}
    {q_CAMERA_BOUNDS_4 : Addr}
    {o1_CAMERA_BOUNDS_0 : Option Addr} {o2_CAMERA_BOUNDS_0 : Array (Option Value)} {n_CAMERA_BOUNDS_0 : Nat}
    {t_CAMERA_BOUNDS_0_0 : Tok}
    {t_CAMERA_BOUNDS_0_1 : Tok}
    {t_CAMERA_BOUNDS_0_2 : Tok}
    {o1_CAMERA_BOUNDS_1 : Option Addr} {o2_CAMERA_BOUNDS_1 : Array (Option Value)} {n_CAMERA_BOUNDS_1 : Nat}
    {t_CAMERA_BOUNDS_1_0 : Tok}
    {t_CAMERA_BOUNDS_1_1 : Tok}
    {t_CAMERA_BOUNDS_1_2 : Tok}
    {o1_CAMERA_BOUNDS_2 : Option Addr} {o2_CAMERA_BOUNDS_2 : Array (Option Value)} {n_CAMERA_BOUNDS_2 : Nat}
    {t_CAMERA_BOUNDS_2_0 : Tok}
    {t_CAMERA_BOUNDS_2_1 : Tok}
    {t_CAMERA_BOUNDS_2_2 : Tok}
    {o1_CAMERA_BOUNDS_3 : Option Addr} {o2_CAMERA_BOUNDS_3 : Array (Option Value)} {n_CAMERA_BOUNDS_3 : Nat}
    {t_CAMERA_BOUNDS_3_0 : Tok}
    {t_CAMERA_BOUNDS_3_1 : Tok}
    {t_CAMERA_BOUNDS_3_2 : Tok}
    {o1_CAMERA_BOUNDS_4 : Option Addr} {o2_CAMERA_BOUNDS_4 : Array (Option Value)} {n_CAMERA_BOUNDS_4 : Nat}
    {t_CAMERA_BOUNDS_4_0 : Tok}
    {t_CAMERA_BOUNDS_4_1 : Tok}
    {t_CAMERA_BOUNDS_4_2 : Tok}
    {tk_MOST_STANDINGS : Tok}
    {q_KINDS : Addr} {o1_KINDS : Option Addr} {o2_KINDS : Array (Option Value)} {n_KINDS : Nat}
    {t_KINDS_0 : Tok}
    {t_KINDS_1 : Tok}
    {t_KINDS_2 : Tok}
    {t_KINDS_3 : Tok}
    {t_KINDS_4 : Tok}
    {q_SLIPPING : Addr} {o1_SLIPPING : Option Addr} {o2_SLIPPING : Array (Option Value)} {n_SLIPPING : Nat}
    {t_SLIPPING_0 : Tok}
    {t_SLIPPING_1 : Tok}
    {q_NO_SLIPS : Addr} {o1_NO_SLIPS : Option Addr} {o2_NO_SLIPS : Array (Option Value)} {n_NO_SLIPS : Nat}
    {q_NO_SLIPS_0 : Addr}
    {o1_NO_SLIPS_0 : Option Addr} {o2_NO_SLIPS_0 : Array (Option Value)} {n_NO_SLIPS_0 : Nat}
    {t_NO_SLIPS_0_0 : Tok}
    {t_NO_SLIPS_0_1 : Tok}
    {tk_MOST_FUEL : Tok}
    {tk_MOST_CAMERA : Tok}
    {tk_MOST_ROOM : Tok}
    {f_is_whole : Addr} {od_is_whole an_is_whole : Option Addr} {sl_is_whole : Array (Option Value)} {oc_is_whole kV_is_whole dc_is_whole pm_is_whole cd_is_whole ct_is_whole : Value}
    {f_is_between : Addr} {od_is_between an_is_between : Option Addr} {sl_is_between : Array (Option Value)} {oc_is_between kV_is_between dc_is_between pm_is_between cd_is_between ct_is_between : Value}
    {f_is_triple : Addr} {od_is_triple an_is_triple : Option Addr} {sl_is_triple : Array (Option Value)} {oc_is_triple kV_is_triple dc_is_triple pm_is_triple cd_is_triple ct_is_triple : Value}
    {f_is_point : Addr} {od_is_point an_is_point : Option Addr} {sl_is_point : Array (Option Value)} {oc_is_point kV_is_point dc_is_point pm_is_point cd_is_point ct_is_point : Value}
    {f_is_crater : Addr} {od_is_crater an_is_crater : Option Addr} {sl_is_crater : Array (Option Value)} {oc_is_crater kV_is_crater dc_is_crater pm_is_crater cd_is_crater ct_is_crater : Value}
    {f_is_pair : Addr} {od_is_pair an_is_pair : Option Addr} {sl_is_pair : Array (Option Value)} {oc_is_pair kV_is_pair dc_is_pair pm_is_pair cd_is_pair ct_is_pair : Value}
    {f_is_turn : Addr} {od_is_turn an_is_turn : Option Addr} {sl_is_turn : Array (Option Value)} {oc_is_turn kV_is_turn dc_is_turn pm_is_turn cd_is_turn ct_is_turn : Value}
    {f_turned : Addr} {od_turned an_turned : Option Addr} {sl_turned : Array (Option Value)} {oc_turned kV_turned dc_turned pm_turned cd_turned ct_turned : Value}
    {f_are_turns : Addr} {od_are_turns an_are_turns : Option Addr} {sl_are_turns : Array (Option Value)} {oc_are_turns kV_are_turns dc_are_turns pm_are_turns cd_are_turns ct_are_turns : Value}
    {f_is_area : Addr} {od_is_area an_is_area : Option Addr} {sl_is_area : Array (Option Value)} {oc_is_area kV_is_area dc_is_area pm_is_area cd_is_area ct_is_area : Value}
    {f_ends_of : Addr} {od_ends_of an_ends_of : Option Addr} {sl_ends_of : Array (Option Value)} {oc_ends_of kV_ends_of dc_ends_of pm_ends_of cd_ends_of ct_ends_of : Value}
    {f_behind : Addr} {od_behind an_behind : Option Addr} {sl_behind : Array (Option Value)} {oc_behind kV_behind dc_behind pm_behind cd_behind ct_behind : Value}
    {f_is_kept : Addr} {od_is_kept an_is_kept : Option Addr} {sl_is_kept : Array (Option Value)} {oc_is_kept kV_is_kept dc_is_kept pm_is_kept cd_is_kept ct_is_kept : Value}
    {f_is_whole_at : Addr} {od_is_whole_at an_is_whole_at : Option Addr} {sl_is_whole_at : Array (Option Value)} {oc_is_whole_at kV_is_whole_at dc_is_whole_at pm_is_whole_at cd_is_whole_at ct_is_whole_at : Value}
    {f_is_end : Addr} {od_is_end an_is_end : Option Addr} {sl_is_end : Array (Option Value)} {oc_is_end kV_is_end dc_is_end pm_is_end cd_is_end ct_is_end : Value}
    {f_is_aim : Addr} {od_is_aim an_is_aim : Option Addr} {sl_is_aim : Array (Option Value)} {oc_is_aim kV_is_aim dc_is_aim pm_is_aim cd_is_aim ct_is_aim : Value}
    {f_are_slips : Addr} {od_are_slips an_are_slips : Option Addr} {sl_are_slips : Array (Option Value)} {oc_are_slips kV_are_slips dc_are_slips pm_are_slips cd_are_slips ct_are_slips : Value}
    {f_step : Addr} {od_step an_step : Option Addr} {sl_step : Array (Option Value)} {oc_step kV_step dc_step pm_step cd_step ct_step : Value}
    {f_turn : Addr} {od_turn an_turn : Option Addr} {sl_turn : Array (Option Value)} {oc_turn kV_turn dc_turn pm_turn cd_turn ct_turn : Value}
    {f_look : Addr} {od_look an_look : Option Addr} {sl_look : Array (Option Value)} {oc_look kV_look dc_look pm_look cd_look ct_look : Value}
    {f_land : Addr} {od_land an_land : Option Addr} {sl_land : Array (Option Value)} {oc_land kV_land dc_land pm_land cd_land ct_land : Value}
    {f_away : Addr} {od_away an_away : Option Addr} {sl_away : Array (Option Value)} {oc_away kV_away dc_away pm_away cd_away ct_away : Value}
    {f_are_skies : Addr} {od_are_skies an_are_skies : Option Addr} {sl_are_skies : Array (Option Value)} {oc_are_skies kV_are_skies dc_are_skies pm_are_skies cd_are_skies ct_are_skies : Value}
    {f_are_deeds : Addr} {od_are_deeds an_are_deeds : Option Addr} {sl_are_deeds : Array (Option Value)} {oc_are_deeds kV_are_deeds dc_are_deeds pm_are_deeds cd_are_deeds ct_are_deeds : Value}
    {f_law_number : Addr} {od_law_number an_law_number : Option Addr} {sl_law_number : Array (Option Value)} {oc_law_number kV_law_number dc_law_number pm_law_number cd_law_number ct_law_number : Value}
    {f_law_take : Addr} {od_law_take an_law_take : Option Addr} {sl_law_take : Array (Option Value)} {oc_law_take kV_law_take dc_law_take pm_law_take cd_law_take ct_law_take : Value}
    {f_law_pick : Addr} {od_law_pick an_law_pick : Option Addr} {sl_law_pick : Array (Option Value)} {oc_law_pick kV_law_pick dc_law_pick pm_law_pick cd_law_pick ct_law_pick : Value}
    {f_law_ground : Addr} {od_law_ground an_law_ground : Option Addr} {sl_law_ground : Array (Option Value)} {oc_law_ground kV_law_ground dc_law_ground pm_law_ground cd_law_ground ct_law_ground : Value}
    {f_law_camera : Addr} {od_law_camera an_law_camera : Option Addr} {sl_law_camera : Array (Option Value)} {oc_law_camera kV_law_camera dc_law_camera pm_law_camera cd_law_camera ct_law_camera : Value}
    {f_law_deeds : Addr} {od_law_deeds an_law_deeds : Option Addr} {sl_law_deeds : Array (Option Value)} {oc_law_deeds kV_law_deeds dc_law_deeds pm_law_deeds cd_law_deeds ct_law_deeds : Value}
    {f_law_craft : Addr} {od_law_craft an_law_craft : Option Addr} {sl_law_craft : Array (Option Value)} {oc_law_craft kV_law_craft dc_law_craft pm_law_craft cd_law_craft ct_law_craft : Value}
    {f_law_belief : Addr} {od_law_belief an_law_belief : Option Addr} {sl_law_belief : Array (Option Value)} {oc_law_belief kV_law_belief dc_law_belief pm_law_belief cd_law_belief ct_law_belief : Value}
    {f_law_view : Addr} {od_law_view an_law_view : Option Addr} {sl_law_view : Array (Option Value)} {oc_law_view kV_law_view dc_law_view pm_law_view cd_law_view ct_law_view : Value}
    {f_law_ends : Addr} {od_law_ends an_law_ends : Option Addr} {sl_law_ends : Array (Option Value)} {oc_law_ends kV_law_ends dc_law_ends pm_law_ends cd_law_ends ct_law_ends : Value}
    {f_law_whole : Addr} {od_law_whole an_law_whole : Option Addr} {sl_law_whole : Array (Option Value)} {oc_law_whole kV_law_whole dc_law_whole pm_law_whole cd_law_whole ct_law_whole : Value}
    {f_law : Addr} {od_law an_law : Option Addr} {sl_law : Array (Option Value)} {oc_law kV_law dc_law pm_law cd_law ct_law : Value}
    {C_Ground : Addr}
    {f_Ground_init : Addr} {od_Ground_init an_Ground_init : Option Addr} {sl_Ground_init : Array (Option Value)} {oc_Ground_init kV_Ground_init dc_Ground_init pm_Ground_init cd_Ground_init ct_Ground_init : Value}
    {f_Ground_eq : Addr} {od_Ground_eq an_Ground_eq : Option Addr} {sl_Ground_eq : Array (Option Value)} {oc_Ground_eq kV_Ground_eq dc_Ground_eq pm_Ground_eq cd_Ground_eq ct_Ground_eq : Value}
    {C_Camera : Addr}
    {f_Camera_init : Addr} {od_Camera_init an_Camera_init : Option Addr} {sl_Camera_init : Array (Option Value)} {oc_Camera_init kV_Camera_init dc_Camera_init pm_Camera_init cd_Camera_init ct_Camera_init : Value}
    {f_Camera_eq : Addr} {od_Camera_eq an_Camera_eq : Option Addr} {sl_Camera_eq : Array (Option Value)} {oc_Camera_eq kV_Camera_eq dc_Camera_eq pm_Camera_eq cd_Camera_eq ct_Camera_eq : Value}
    {C_Sky : Addr}
    {f_Sky_init : Addr} {od_Sky_init an_Sky_init : Option Addr} {sl_Sky_init : Array (Option Value)} {oc_Sky_init kV_Sky_init dc_Sky_init pm_Sky_init cd_Sky_init ct_Sky_init : Value}
    {f_Sky_eq : Addr} {od_Sky_eq an_Sky_eq : Option Addr} {sl_Sky_eq : Array (Option Value)} {oc_Sky_eq kV_Sky_eq dc_Sky_eq pm_Sky_eq cd_Sky_eq ct_Sky_eq : Value}
    {f_Sky_standings : Addr} {od_Sky_standings an_Sky_standings : Option Addr} {sl_Sky_standings : Array (Option Value)} {oc_Sky_standings kV_Sky_standings dc_Sky_standings pm_Sky_standings cd_Sky_standings ct_Sky_standings : Value}
    {f_Sky_is_standing : Addr} {od_Sky_is_standing an_Sky_is_standing : Option Addr} {sl_Sky_is_standing : Array (Option Value)} {oc_Sky_is_standing kV_Sky_is_standing dc_Sky_is_standing pm_Sky_is_standing cd_Sky_is_standing ct_Sky_is_standing : Value}
    {f_Sky_place : Addr} {od_Sky_place an_Sky_place : Option Addr} {sl_Sky_place : Array (Option Value)} {oc_Sky_place kV_Sky_place dc_Sky_place pm_Sky_place cd_Sky_place ct_Sky_place : Value}
    {f_Sky_places : Addr} {od_Sky_places an_Sky_places : Option Addr} {sl_Sky_places : Array (Option Value)} {oc_Sky_places kV_Sky_places dc_Sky_places pm_Sky_places cd_Sky_places ct_Sky_places : Value}
    {C_Deed : Addr}
    {f_Deed_init : Addr} {od_Deed_init an_Deed_init : Option Addr} {sl_Deed_init : Array (Option Value)} {oc_Deed_init kV_Deed_init dc_Deed_init pm_Deed_init cd_Deed_init ct_Deed_init : Value}
    {f_Deed_eq : Addr} {od_Deed_eq an_Deed_eq : Option Addr} {sl_Deed_eq : Array (Option Value)} {oc_Deed_eq kV_Deed_eq dc_Deed_eq pm_Deed_eq cd_Deed_eq ct_Deed_eq : Value}
    {C_Craft : Addr}
    {f_Craft_init : Addr} {od_Craft_init an_Craft_init : Option Addr} {sl_Craft_init : Array (Option Value)} {oc_Craft_init kV_Craft_init dc_Craft_init pm_Craft_init cd_Craft_init ct_Craft_init : Value}
    {f_Craft_eq : Addr} {od_Craft_eq an_Craft_eq : Option Addr} {sl_Craft_eq : Array (Option Value)} {oc_Craft_eq kV_Craft_eq dc_Craft_eq pm_Craft_eq cd_Craft_eq ct_Craft_eq : Value}
    {f_Craft_is_over : Addr} {od_Craft_is_over an_Craft_is_over : Option Addr} {sl_Craft_is_over : Array (Option Value)} {oc_Craft_is_over kV_Craft_is_over dc_Craft_is_over pm_Craft_is_over cd_Craft_is_over ct_Craft_is_over : Value}
    {f_Craft_is_safe : Addr} {od_Craft_is_safe an_Craft_is_safe : Option Addr} {sl_Craft_is_safe : Array (Option Value)} {oc_Craft_is_safe kV_Craft_is_safe dc_Craft_is_safe pm_Craft_is_safe cd_Craft_is_safe ct_Craft_is_safe : Value}
    {f_Craft_cell_below : Addr} {od_Craft_cell_below an_Craft_cell_below : Option Addr} {sl_Craft_cell_below : Array (Option Value)} {oc_Craft_cell_below kV_Craft_cell_below dc_Craft_cell_below pm_Craft_cell_below cd_Craft_cell_below ct_Craft_cell_below : Value}
    {f_Craft_stepped : Addr} {od_Craft_stepped an_Craft_stepped : Option Addr} {sl_Craft_stepped : Array (Option Value)} {oc_Craft_stepped kV_Craft_stepped dc_Craft_stepped pm_Craft_stepped cd_Craft_stepped ct_Craft_stepped : Value}
    {f_Craft_swung : Addr} {od_Craft_swung an_Craft_swung : Option Addr} {sl_Craft_swung : Array (Option Value)} {oc_Craft_swung kV_Craft_swung dc_Craft_swung pm_Craft_swung cd_Craft_swung ct_Craft_swung : Value}
    (zn_abs : PySem.W.nsIn K mainGlobals "abs" = some none)
    (zn_all : PySem.W.nsIn K mainGlobals "all" = some none)
    (zn_bool : PySem.W.nsIn K mainGlobals "bool" = some none)
    (zn_enumerate : PySem.W.nsIn K mainGlobals "enumerate" = some none)
    (zn_int : PySem.W.nsIn K mainGlobals "int" = some none)
    (zn_isinstance : PySem.W.nsIn K mainGlobals "isinstance" = some none)
    (zn_len : PySem.W.nsIn K mainGlobals "len" = some none)
    (zn_list : PySem.W.nsIn K mainGlobals "list" = some none)
    (zn_max : PySem.W.nsIn K mainGlobals "max" = some none)
    (zn_range : PySem.W.nsIn K mainGlobals "range" = some none)
    (zn_set : PySem.W.nsIn K mainGlobals "set" = some none)
    (zn_sorted : PySem.W.nsIn K mainGlobals "sorted" = some none)
    (zn_str : PySem.W.nsIn K mainGlobals "str" = some none)
    (zn_tuple : PySem.W.nsIn K mainGlobals "tuple" = some none)
    (zn_zip : PySem.W.nsIn K mainGlobals "zip" = some none)
    (zc_MOST_CRATERS : PySem.W.nsIn K mainGlobals "MOST_CRATERS" = some (some (.int 100 tk_MOST_CRATERS)))
    (zc_MOST_SIZE : PySem.W.nsIn K mainGlobals "MOST_SIZE" = some (some (.int 99 tk_MOST_SIZE)))
    (zc_FARTHEST : PySem.W.nsIn K mainGlobals "FARTHEST" = some (some (.int 1000000 tk_FARTHEST)))
    (zc_FARTHEST_STEP : PySem.W.nsIn K mainGlobals "FARTHEST_STEP" = some (some (.int 1000 tk_FARTHEST_STEP)))
    (zq_CAMERA_BOUNDS : PySem.W.nsIn K mainGlobals "CAMERA_BOUNDS" = some (some (.ref q_CAMERA_BOUNDS)))
    (zt_CAMERA_BOUNDS : K.lookup q_CAMERA_BOUNDS = some ⟨.type "tuple", o1_CAMERA_BOUNDS, .seq (#[.ref q_CAMERA_BOUNDS_0, .ref q_CAMERA_BOUNDS_1, .ref q_CAMERA_BOUNDS_2, .ref q_CAMERA_BOUNDS_3, .ref q_CAMERA_BOUNDS_4] : Array Value) n_CAMERA_BOUNDS, o2_CAMERA_BOUNDS⟩)
    (zt_CAMERA_BOUNDS_0 : K.lookup q_CAMERA_BOUNDS_0 = some ⟨.type "tuple", o1_CAMERA_BOUNDS_0, .seq (#[.str "width" t_CAMERA_BOUNDS_0_0, .int 1 t_CAMERA_BOUNDS_0_1, .int 1000 t_CAMERA_BOUNDS_0_2] : Array Value) n_CAMERA_BOUNDS_0, o2_CAMERA_BOUNDS_0⟩)
    (zt_CAMERA_BOUNDS_1 : K.lookup q_CAMERA_BOUNDS_1 = some ⟨.type "tuple", o1_CAMERA_BOUNDS_1, .seq (#[.str "height" t_CAMERA_BOUNDS_1_0, .int 1 t_CAMERA_BOUNDS_1_1, .int 1000 t_CAMERA_BOUNDS_1_2] : Array Value) n_CAMERA_BOUNDS_1, o2_CAMERA_BOUNDS_1⟩)
    (zt_CAMERA_BOUNDS_2 : K.lookup q_CAMERA_BOUNDS_2 = some ⟨.type "tuple", o1_CAMERA_BOUNDS_2, .seq (#[.str "error" t_CAMERA_BOUNDS_2_0, .int 0 t_CAMERA_BOUNDS_2_1, .int 100 t_CAMERA_BOUNDS_2_2] : Array Value) n_CAMERA_BOUNDS_2, o2_CAMERA_BOUNDS_2⟩)
    (zt_CAMERA_BOUNDS_3 : K.lookup q_CAMERA_BOUNDS_3 = some ⟨.type "tuple", o1_CAMERA_BOUNDS_3, .seq (#[.str "false" t_CAMERA_BOUNDS_3_0, .int 0 t_CAMERA_BOUNDS_3_1, .int 100 t_CAMERA_BOUNDS_3_2] : Array Value) n_CAMERA_BOUNDS_3, o2_CAMERA_BOUNDS_3⟩)
    (zt_CAMERA_BOUNDS_4 : K.lookup q_CAMERA_BOUNDS_4 = some ⟨.type "tuple", o1_CAMERA_BOUNDS_4, .seq (#[.str "lost" t_CAMERA_BOUNDS_4_0, .int 0 t_CAMERA_BOUNDS_4_1, .int 100 t_CAMERA_BOUNDS_4_2] : Array Value) n_CAMERA_BOUNDS_4, o2_CAMERA_BOUNDS_4⟩)
    (zc_MOST_STANDINGS : PySem.W.nsIn K mainGlobals "MOST_STANDINGS" = some (some (.int 40000 tk_MOST_STANDINGS)))
    (zq_KINDS : PySem.W.nsIn K mainGlobals "KINDS" = some (some (.ref q_KINDS)))
    (zt_KINDS : K.lookup q_KINDS = some ⟨.type "tuple", o1_KINDS, .seq (#[.str "step" t_KINDS_0, .str "turn" t_KINDS_1, .str "look" t_KINDS_2, .str "land" t_KINDS_3, .str "away" t_KINDS_4] : Array Value) n_KINDS, o2_KINDS⟩)
    (zq_SLIPPING : PySem.W.nsIn K mainGlobals "SLIPPING" = some (some (.ref q_SLIPPING)))
    (zt_SLIPPING : K.lookup q_SLIPPING = some ⟨.type "tuple", o1_SLIPPING, .seq (#[.str "step" t_SLIPPING_0, .str "land" t_SLIPPING_1] : Array Value) n_SLIPPING, o2_SLIPPING⟩)
    (zq_NO_SLIPS : PySem.W.nsIn K mainGlobals "NO_SLIPS" = some (some (.ref q_NO_SLIPS)))
    (zt_NO_SLIPS : K.lookup q_NO_SLIPS = some ⟨.type "tuple", o1_NO_SLIPS, .seq (#[.ref q_NO_SLIPS_0] : Array Value) n_NO_SLIPS, o2_NO_SLIPS⟩)
    (zt_NO_SLIPS_0 : K.lookup q_NO_SLIPS_0 = some ⟨.type "tuple", o1_NO_SLIPS_0, .seq (#[.int 0 t_NO_SLIPS_0_0, .int 0 t_NO_SLIPS_0_1] : Array Value) n_NO_SLIPS_0, o2_NO_SLIPS_0⟩)
    (zc_MOST_FUEL : PySem.W.nsIn K mainGlobals "MOST_FUEL" = some (some (.int 1000 tk_MOST_FUEL)))
    (zc_MOST_CAMERA : PySem.W.nsIn K mainGlobals "MOST_CAMERA" = some (some (.int 1000 tk_MOST_CAMERA)))
    (zc_MOST_ROOM : PySem.W.nsIn K mainGlobals "MOST_ROOM" = some (some (.int 1000 tk_MOST_ROOM)))
    (za_is_whole : PySem.W.nsIn K mainGlobals "is_whole" = some (some (.ref f_is_whole)))
    (zl_is_whole : K.lookup f_is_whole = some ⟨oc_is_whole, od_is_whole, .func (PySem.W.fnOf "is_whole" "is_whole" (defArgs s_is_whole) (defBody s_is_whole) (defScope s_is_whole) .none kV_is_whole dc_is_whole pm_is_whole an_is_whole cd_is_whole ct_is_whole), sl_is_whole⟩)
    (zd_is_whole : PySem.W.codeIn K cd_is_whole "is_whole" = true)
    (zk_is_whole : PySem.W.keepIn K (.ref f_is_whole) = true)
    (za_is_between : PySem.W.nsIn K mainGlobals "is_between" = some (some (.ref f_is_between)))
    (zl_is_between : K.lookup f_is_between = some ⟨oc_is_between, od_is_between, .func (PySem.W.fnOf "is_between" "is_between" (defArgs s_is_between) (defBody s_is_between) (defScope s_is_between) .none kV_is_between dc_is_between pm_is_between an_is_between cd_is_between ct_is_between), sl_is_between⟩)
    (zd_is_between : PySem.W.codeIn K cd_is_between "is_between" = true)
    (zk_is_between : PySem.W.keepIn K (.ref f_is_between) = true)
    (za_is_triple : PySem.W.nsIn K mainGlobals "is_triple" = some (some (.ref f_is_triple)))
    (zl_is_triple : K.lookup f_is_triple = some ⟨oc_is_triple, od_is_triple, .func (PySem.W.fnOf "is_triple" "is_triple" (defArgs s_is_triple) (defBody s_is_triple) (defScope s_is_triple) .none kV_is_triple dc_is_triple pm_is_triple an_is_triple cd_is_triple ct_is_triple), sl_is_triple⟩)
    (zd_is_triple : PySem.W.codeIn K cd_is_triple "is_triple" = true)
    (zk_is_triple : PySem.W.keepIn K (.ref f_is_triple) = true)
    (za_is_point : PySem.W.nsIn K mainGlobals "is_point" = some (some (.ref f_is_point)))
    (zl_is_point : K.lookup f_is_point = some ⟨oc_is_point, od_is_point, .func (PySem.W.fnOf "is_point" "is_point" (defArgs s_is_point) (defBody s_is_point) (defScope s_is_point) .none kV_is_point dc_is_point pm_is_point an_is_point cd_is_point ct_is_point), sl_is_point⟩)
    (zd_is_point : PySem.W.codeIn K cd_is_point "is_point" = true)
    (zk_is_point : PySem.W.keepIn K (.ref f_is_point) = true)
    (za_is_crater : PySem.W.nsIn K mainGlobals "is_crater" = some (some (.ref f_is_crater)))
    (zl_is_crater : K.lookup f_is_crater = some ⟨oc_is_crater, od_is_crater, .func (PySem.W.fnOf "is_crater" "is_crater" (defArgs s_is_crater) (defBody s_is_crater) (defScope s_is_crater) .none kV_is_crater dc_is_crater pm_is_crater an_is_crater cd_is_crater ct_is_crater), sl_is_crater⟩)
    (zd_is_crater : PySem.W.codeIn K cd_is_crater "is_crater" = true)
    (zk_is_crater : PySem.W.keepIn K (.ref f_is_crater) = true)
    (za_is_pair : PySem.W.nsIn K mainGlobals "is_pair" = some (some (.ref f_is_pair)))
    (zl_is_pair : K.lookup f_is_pair = some ⟨oc_is_pair, od_is_pair, .func (PySem.W.fnOf "is_pair" "is_pair" (defArgs s_is_pair) (defBody s_is_pair) (defScope s_is_pair) .none kV_is_pair dc_is_pair pm_is_pair an_is_pair cd_is_pair ct_is_pair), sl_is_pair⟩)
    (zd_is_pair : PySem.W.codeIn K cd_is_pair "is_pair" = true)
    (zk_is_pair : PySem.W.keepIn K (.ref f_is_pair) = true)
    (za_is_turn : PySem.W.nsIn K mainGlobals "is_turn" = some (some (.ref f_is_turn)))
    (zl_is_turn : K.lookup f_is_turn = some ⟨oc_is_turn, od_is_turn, .func (PySem.W.fnOf "is_turn" "is_turn" (defArgs s_is_turn) (defBody s_is_turn) (defScope s_is_turn) .none kV_is_turn dc_is_turn pm_is_turn an_is_turn cd_is_turn ct_is_turn), sl_is_turn⟩)
    (zd_is_turn : PySem.W.codeIn K cd_is_turn "is_turn" = true)
    (zk_is_turn : PySem.W.keepIn K (.ref f_is_turn) = true)
    (za_turned : PySem.W.nsIn K mainGlobals "turned" = some (some (.ref f_turned)))
    (zl_turned : K.lookup f_turned = some ⟨oc_turned, od_turned, .func (PySem.W.fnOf "turned" "turned" (defArgs s_turned) (defBody s_turned) (defScope s_turned) .none kV_turned dc_turned pm_turned an_turned cd_turned ct_turned), sl_turned⟩)
    (zd_turned : PySem.W.codeIn K cd_turned "turned" = true)
    (zk_turned : PySem.W.keepIn K (.ref f_turned) = true)
    (za_are_turns : PySem.W.nsIn K mainGlobals "_are_turns" = some (some (.ref f_are_turns)))
    (zl_are_turns : K.lookup f_are_turns = some ⟨oc_are_turns, od_are_turns, .func (PySem.W.fnOf "_are_turns" "_are_turns" (defArgs s_are_turns) (defBody s_are_turns) (defScope s_are_turns) .none kV_are_turns dc_are_turns pm_are_turns an_are_turns cd_are_turns ct_are_turns), sl_are_turns⟩)
    (zd_are_turns : PySem.W.codeIn K cd_are_turns "_are_turns" = true)
    (zk_are_turns : PySem.W.keepIn K (.ref f_are_turns) = true)
    (za_is_area : PySem.W.nsIn K mainGlobals "_is_area" = some (some (.ref f_is_area)))
    (zl_is_area : K.lookup f_is_area = some ⟨oc_is_area, od_is_area, .func (PySem.W.fnOf "_is_area" "_is_area" (defArgs s_is_area) (defBody s_is_area) (defScope s_is_area) .none kV_is_area dc_is_area pm_is_area an_is_area cd_is_area ct_is_area), sl_is_area⟩)
    (zd_is_area : PySem.W.codeIn K cd_is_area "_is_area" = true)
    (zk_is_area : PySem.W.keepIn K (.ref f_is_area) = true)
    (za_ends_of : PySem.W.nsIn K mainGlobals "ends_of" = some (some (.ref f_ends_of)))
    (zl_ends_of : K.lookup f_ends_of = some ⟨oc_ends_of, od_ends_of, .func (PySem.W.fnOf "ends_of" "ends_of" (defArgs s_ends_of) (defBody s_ends_of) (defScope s_ends_of) .none kV_ends_of dc_ends_of pm_ends_of an_ends_of cd_ends_of ct_ends_of), sl_ends_of⟩)
    (zd_ends_of : PySem.W.codeIn K cd_ends_of "ends_of" = true)
    (zk_ends_of : PySem.W.keepIn K (.ref f_ends_of) = true)
    (za_behind : PySem.W.nsIn K mainGlobals "behind" = some (some (.ref f_behind)))
    (zl_behind : K.lookup f_behind = some ⟨oc_behind, od_behind, .func (PySem.W.fnOf "behind" "behind" (defArgs s_behind) (defBody s_behind) (defScope s_behind) .none kV_behind dc_behind pm_behind an_behind cd_behind ct_behind), sl_behind⟩)
    (zd_behind : PySem.W.codeIn K cd_behind "behind" = true)
    (zk_behind : PySem.W.keepIn K (.ref f_behind) = true)
    (za_is_kept : PySem.W.nsIn K mainGlobals "is_kept" = some (some (.ref f_is_kept)))
    (zl_is_kept : K.lookup f_is_kept = some ⟨oc_is_kept, od_is_kept, .func (PySem.W.fnOf "is_kept" "is_kept" (defArgs s_is_kept) (defBody s_is_kept) (defScope s_is_kept) .none kV_is_kept dc_is_kept pm_is_kept an_is_kept cd_is_kept ct_is_kept), sl_is_kept⟩)
    (zd_is_kept : PySem.W.codeIn K cd_is_kept "is_kept" = true)
    (zk_is_kept : PySem.W.keepIn K (.ref f_is_kept) = true)
    (za_is_whole_at : PySem.W.nsIn K mainGlobals "is_whole_at" = some (some (.ref f_is_whole_at)))
    (zl_is_whole_at : K.lookup f_is_whole_at = some ⟨oc_is_whole_at, od_is_whole_at, .func (PySem.W.fnOf "is_whole_at" "is_whole_at" (defArgs s_is_whole_at) (defBody s_is_whole_at) (defScope s_is_whole_at) .none kV_is_whole_at dc_is_whole_at pm_is_whole_at an_is_whole_at cd_is_whole_at ct_is_whole_at), sl_is_whole_at⟩)
    (zd_is_whole_at : PySem.W.codeIn K cd_is_whole_at "is_whole_at" = true)
    (zk_is_whole_at : PySem.W.keepIn K (.ref f_is_whole_at) = true)
    (za_is_end : PySem.W.nsIn K mainGlobals "is_end" = some (some (.ref f_is_end)))
    (zl_is_end : K.lookup f_is_end = some ⟨oc_is_end, od_is_end, .func (PySem.W.fnOf "is_end" "is_end" (defArgs s_is_end) (defBody s_is_end) (defScope s_is_end) .none kV_is_end dc_is_end pm_is_end an_is_end cd_is_end ct_is_end), sl_is_end⟩)
    (zd_is_end : PySem.W.codeIn K cd_is_end "is_end" = true)
    (zk_is_end : PySem.W.keepIn K (.ref f_is_end) = true)
    (za_is_aim : PySem.W.nsIn K mainGlobals "_is_aim" = some (some (.ref f_is_aim)))
    (zl_is_aim : K.lookup f_is_aim = some ⟨oc_is_aim, od_is_aim, .func (PySem.W.fnOf "_is_aim" "_is_aim" (defArgs s_is_aim) (defBody s_is_aim) (defScope s_is_aim) .none kV_is_aim dc_is_aim pm_is_aim an_is_aim cd_is_aim ct_is_aim), sl_is_aim⟩)
    (zd_is_aim : PySem.W.codeIn K cd_is_aim "_is_aim" = true)
    (zk_is_aim : PySem.W.keepIn K (.ref f_is_aim) = true)
    (za_are_slips : PySem.W.nsIn K mainGlobals "_are_slips" = some (some (.ref f_are_slips)))
    (zl_are_slips : K.lookup f_are_slips = some ⟨oc_are_slips, od_are_slips, .func (PySem.W.fnOf "_are_slips" "_are_slips" (defArgs s_are_slips) (defBody s_are_slips) (defScope s_are_slips) .none kV_are_slips dc_are_slips pm_are_slips an_are_slips cd_are_slips ct_are_slips), sl_are_slips⟩)
    (zd_are_slips : PySem.W.codeIn K cd_are_slips "_are_slips" = true)
    (zk_are_slips : PySem.W.keepIn K (.ref f_are_slips) = true)
    (za_step : PySem.W.nsIn K mainGlobals "step" = some (some (.ref f_step)))
    (zl_step : K.lookup f_step = some ⟨oc_step, od_step, .func (PySem.W.fnOf "step" "step" (defArgs s_step) (defBody s_step) (defScope s_step) .none kV_step dc_step pm_step an_step cd_step ct_step), sl_step⟩)
    (zd_step : PySem.W.codeIn K cd_step "step" = true)
    (zk_step : PySem.W.keepIn K (.ref f_step) = true)
    (za_turn : PySem.W.nsIn K mainGlobals "turn" = some (some (.ref f_turn)))
    (zl_turn : K.lookup f_turn = some ⟨oc_turn, od_turn, .func (PySem.W.fnOf "turn" "turn" (defArgs s_turn) (defBody s_turn) (defScope s_turn) .none kV_turn dc_turn pm_turn an_turn cd_turn ct_turn), sl_turn⟩)
    (zd_turn : PySem.W.codeIn K cd_turn "turn" = true)
    (zk_turn : PySem.W.keepIn K (.ref f_turn) = true)
    (za_look : PySem.W.nsIn K mainGlobals "look" = some (some (.ref f_look)))
    (zl_look : K.lookup f_look = some ⟨oc_look, od_look, .func (PySem.W.fnOf "look" "look" (defArgs s_look) (defBody s_look) (defScope s_look) .none kV_look dc_look pm_look an_look cd_look ct_look), sl_look⟩)
    (zd_look : PySem.W.codeIn K cd_look "look" = true)
    (zk_look : PySem.W.keepIn K (.ref f_look) = true)
    (za_land : PySem.W.nsIn K mainGlobals "land" = some (some (.ref f_land)))
    (zl_land : K.lookup f_land = some ⟨oc_land, od_land, .func (PySem.W.fnOf "land" "land" (defArgs s_land) (defBody s_land) (defScope s_land) .none kV_land dc_land pm_land an_land cd_land ct_land), sl_land⟩)
    (zd_land : PySem.W.codeIn K cd_land "land" = true)
    (zk_land : PySem.W.keepIn K (.ref f_land) = true)
    (za_away : PySem.W.nsIn K mainGlobals "away" = some (some (.ref f_away)))
    (zl_away : K.lookup f_away = some ⟨oc_away, od_away, .func (PySem.W.fnOf "away" "away" (defArgs s_away) (defBody s_away) (defScope s_away) .none kV_away dc_away pm_away an_away cd_away ct_away), sl_away⟩)
    (zd_away : PySem.W.codeIn K cd_away "away" = true)
    (zk_away : PySem.W.keepIn K (.ref f_away) = true)
    (za_are_skies : PySem.W.nsIn K mainGlobals "_are_skies" = some (some (.ref f_are_skies)))
    (zl_are_skies : K.lookup f_are_skies = some ⟨oc_are_skies, od_are_skies, .func (PySem.W.fnOf "_are_skies" "_are_skies" (defArgs s_are_skies) (defBody s_are_skies) (defScope s_are_skies) .none kV_are_skies dc_are_skies pm_are_skies an_are_skies cd_are_skies ct_are_skies), sl_are_skies⟩)
    (zd_are_skies : PySem.W.codeIn K cd_are_skies "_are_skies" = true)
    (zk_are_skies : PySem.W.keepIn K (.ref f_are_skies) = true)
    (za_are_deeds : PySem.W.nsIn K mainGlobals "_are_deeds" = some (some (.ref f_are_deeds)))
    (zl_are_deeds : K.lookup f_are_deeds = some ⟨oc_are_deeds, od_are_deeds, .func (PySem.W.fnOf "_are_deeds" "_are_deeds" (defArgs s_are_deeds) (defBody s_are_deeds) (defScope s_are_deeds) .none kV_are_deeds dc_are_deeds pm_are_deeds an_are_deeds cd_are_deeds ct_are_deeds), sl_are_deeds⟩)
    (zd_are_deeds : PySem.W.codeIn K cd_are_deeds "_are_deeds" = true)
    (zk_are_deeds : PySem.W.keepIn K (.ref f_are_deeds) = true)
    (za_law_number : PySem.W.nsIn K mainGlobals "_law_number" = some (some (.ref f_law_number)))
    (zl_law_number : K.lookup f_law_number = some ⟨oc_law_number, od_law_number, .func (PySem.W.fnOf "_law_number" "_law_number" (defArgs s_law_number) (defBody s_law_number) (defScope s_law_number) .none kV_law_number dc_law_number pm_law_number an_law_number cd_law_number ct_law_number), sl_law_number⟩)
    (zd_law_number : PySem.W.codeIn K cd_law_number "_law_number" = true)
    (zk_law_number : PySem.W.keepIn K (.ref f_law_number) = true)
    (za_law_take : PySem.W.nsIn K mainGlobals "_law_take" = some (some (.ref f_law_take)))
    (zl_law_take : K.lookup f_law_take = some ⟨oc_law_take, od_law_take, .func (PySem.W.fnOf "_law_take" "_law_take" (defArgs s_law_take) (defBody s_law_take) (defScope s_law_take) .none kV_law_take dc_law_take pm_law_take an_law_take cd_law_take ct_law_take), sl_law_take⟩)
    (zd_law_take : PySem.W.codeIn K cd_law_take "_law_take" = true)
    (zk_law_take : PySem.W.keepIn K (.ref f_law_take) = true)
    (za_law_pick : PySem.W.nsIn K mainGlobals "_law_pick" = some (some (.ref f_law_pick)))
    (zl_law_pick : K.lookup f_law_pick = some ⟨oc_law_pick, od_law_pick, .func (PySem.W.fnOf "_law_pick" "_law_pick" (defArgs s_law_pick) (defBody s_law_pick) (defScope s_law_pick) .none kV_law_pick dc_law_pick pm_law_pick an_law_pick cd_law_pick ct_law_pick), sl_law_pick⟩)
    (zd_law_pick : PySem.W.codeIn K cd_law_pick "_law_pick" = true)
    (zk_law_pick : PySem.W.keepIn K (.ref f_law_pick) = true)
    (za_law_ground : PySem.W.nsIn K mainGlobals "_law_ground" = some (some (.ref f_law_ground)))
    (zl_law_ground : K.lookup f_law_ground = some ⟨oc_law_ground, od_law_ground, .func (PySem.W.fnOf "_law_ground" "_law_ground" (defArgs s_law_ground) (defBody s_law_ground) (defScope s_law_ground) .none kV_law_ground dc_law_ground pm_law_ground an_law_ground cd_law_ground ct_law_ground), sl_law_ground⟩)
    (zd_law_ground : PySem.W.codeIn K cd_law_ground "_law_ground" = true)
    (zk_law_ground : PySem.W.keepIn K (.ref f_law_ground) = true)
    (za_law_camera : PySem.W.nsIn K mainGlobals "_law_camera" = some (some (.ref f_law_camera)))
    (zl_law_camera : K.lookup f_law_camera = some ⟨oc_law_camera, od_law_camera, .func (PySem.W.fnOf "_law_camera" "_law_camera" (defArgs s_law_camera) (defBody s_law_camera) (defScope s_law_camera) .none kV_law_camera dc_law_camera pm_law_camera an_law_camera cd_law_camera ct_law_camera), sl_law_camera⟩)
    (zd_law_camera : PySem.W.codeIn K cd_law_camera "_law_camera" = true)
    (zk_law_camera : PySem.W.keepIn K (.ref f_law_camera) = true)
    (za_law_deeds : PySem.W.nsIn K mainGlobals "_law_deeds" = some (some (.ref f_law_deeds)))
    (zl_law_deeds : K.lookup f_law_deeds = some ⟨oc_law_deeds, od_law_deeds, .func (PySem.W.fnOf "_law_deeds" "_law_deeds" (defArgs s_law_deeds) (defBody s_law_deeds) (defScope s_law_deeds) .none kV_law_deeds dc_law_deeds pm_law_deeds an_law_deeds cd_law_deeds ct_law_deeds), sl_law_deeds⟩)
    (zd_law_deeds : PySem.W.codeIn K cd_law_deeds "_law_deeds" = true)
    (zk_law_deeds : PySem.W.keepIn K (.ref f_law_deeds) = true)
    (za_law_craft : PySem.W.nsIn K mainGlobals "_law_craft" = some (some (.ref f_law_craft)))
    (zl_law_craft : K.lookup f_law_craft = some ⟨oc_law_craft, od_law_craft, .func (PySem.W.fnOf "_law_craft" "_law_craft" (defArgs s_law_craft) (defBody s_law_craft) (defScope s_law_craft) .none kV_law_craft dc_law_craft pm_law_craft an_law_craft cd_law_craft ct_law_craft), sl_law_craft⟩)
    (zd_law_craft : PySem.W.codeIn K cd_law_craft "_law_craft" = true)
    (zk_law_craft : PySem.W.keepIn K (.ref f_law_craft) = true)
    (za_law_belief : PySem.W.nsIn K mainGlobals "_law_belief" = some (some (.ref f_law_belief)))
    (zl_law_belief : K.lookup f_law_belief = some ⟨oc_law_belief, od_law_belief, .func (PySem.W.fnOf "_law_belief" "_law_belief" (defArgs s_law_belief) (defBody s_law_belief) (defScope s_law_belief) .none kV_law_belief dc_law_belief pm_law_belief an_law_belief cd_law_belief ct_law_belief), sl_law_belief⟩)
    (zd_law_belief : PySem.W.codeIn K cd_law_belief "_law_belief" = true)
    (zk_law_belief : PySem.W.keepIn K (.ref f_law_belief) = true)
    (za_law_view : PySem.W.nsIn K mainGlobals "_law_view" = some (some (.ref f_law_view)))
    (zl_law_view : K.lookup f_law_view = some ⟨oc_law_view, od_law_view, .func (PySem.W.fnOf "_law_view" "_law_view" (defArgs s_law_view) (defBody s_law_view) (defScope s_law_view) .none kV_law_view dc_law_view pm_law_view an_law_view cd_law_view ct_law_view), sl_law_view⟩)
    (zd_law_view : PySem.W.codeIn K cd_law_view "_law_view" = true)
    (zk_law_view : PySem.W.keepIn K (.ref f_law_view) = true)
    (za_law_ends : PySem.W.nsIn K mainGlobals "_law_ends" = some (some (.ref f_law_ends)))
    (zl_law_ends : K.lookup f_law_ends = some ⟨oc_law_ends, od_law_ends, .func (PySem.W.fnOf "_law_ends" "_law_ends" (defArgs s_law_ends) (defBody s_law_ends) (defScope s_law_ends) .none kV_law_ends dc_law_ends pm_law_ends an_law_ends cd_law_ends ct_law_ends), sl_law_ends⟩)
    (zd_law_ends : PySem.W.codeIn K cd_law_ends "_law_ends" = true)
    (zk_law_ends : PySem.W.keepIn K (.ref f_law_ends) = true)
    (za_law_whole : PySem.W.nsIn K mainGlobals "_law_whole" = some (some (.ref f_law_whole)))
    (zl_law_whole : K.lookup f_law_whole = some ⟨oc_law_whole, od_law_whole, .func (PySem.W.fnOf "_law_whole" "_law_whole" (defArgs s_law_whole) (defBody s_law_whole) (defScope s_law_whole) .none kV_law_whole dc_law_whole pm_law_whole an_law_whole cd_law_whole ct_law_whole), sl_law_whole⟩)
    (zd_law_whole : PySem.W.codeIn K cd_law_whole "_law_whole" = true)
    (zk_law_whole : PySem.W.keepIn K (.ref f_law_whole) = true)
    (za_law : PySem.W.nsIn K mainGlobals "law" = some (some (.ref f_law)))
    (zl_law : K.lookup f_law = some ⟨oc_law, od_law, .func (PySem.W.fnOf "law" "law" (defArgs s_law) (defBody s_law) (defScope s_law) .none kV_law dc_law pm_law an_law cd_law ct_law), sl_law⟩)
    (zd_law : PySem.W.codeIn K cd_law "law" = true)
    (zk_law : PySem.W.keepIn K (.ref f_law) = true)
    (ym_Ground : PySem.W.nsIn K mainGlobals "Ground" = some (some (.ref C_Ground)))
    (ypg_Ground : PySem.W.plainGet K C_Ground Str.empty = true)
    (yhd_Ground : PySem.W.hasDictIn K C_Ground = true)
    (ypo_Ground : PySem.W.plainOver K C_Ground = true)
    (ysa_Ground : PySem.W.findIn K (.ref C_Ground) "__setattr__" = some (some (.builtin "object.__setattr__")))
    (ymk_Ground : PySem.W.makesIn K C_Ground = true)
    (ykp_Ground : PySem.W.keepIn K (.ref C_Ground) = true)
    (yne_Ground : PySem.W.findIn K (.ref C_Ground) "__ne__" = some (some (.builtin "object.__ne__")))
    (yob_Ground : PySem.W.mroIn K C_Ground (.type "object") = some true)
    (ycl_Ground : PySem.W.findIn K (.ref C_Ground) "__class__" = some (some (.builtin "object.__class__")))
    (ygt_Ground : PySem.W.specialIn K (.builtin "object.__class__") "__get__" = some (some (.builtin "getset_descriptor.__get__")))
    (ytk_Ground : PySem.W.takesIn K (.builtin "object.__class__") = some true)
    (za_Ground_init : PySem.W.findIn K (.ref C_Ground) "__init__" = some (some (.ref f_Ground_init)))
    (zl_Ground_init : K.lookup f_Ground_init = some ⟨oc_Ground_init, od_Ground_init, .func (PySem.W.fnOf "__init__" "Ground.__init__" (defArgs s_Ground_init) (defBody s_Ground_init) (defScope s_Ground_init) .none kV_Ground_init dc_Ground_init pm_Ground_init an_Ground_init cd_Ground_init ct_Ground_init), sl_Ground_init⟩)
    (zd_Ground_init : PySem.W.codeIn K cd_Ground_init "Ground.__init__" = true)
    (zk_Ground_init : PySem.W.keepIn K (.ref f_Ground_init) = true)
    (zf_Ground_init : PySem.W.isFn K (.ref f_Ground_init) = true)
    (za_Ground_eq : PySem.W.findIn K (.ref C_Ground) "__eq__" = some (some (.ref f_Ground_eq)))
    (zl_Ground_eq : K.lookup f_Ground_eq = some ⟨oc_Ground_eq, od_Ground_eq, .func (PySem.W.fnOf "__eq__" "Ground.__eq__" (defArgs s_Ground_eq) (defBody s_Ground_eq) (defScope s_Ground_eq) .none kV_Ground_eq dc_Ground_eq pm_Ground_eq an_Ground_eq cd_Ground_eq ct_Ground_eq), sl_Ground_eq⟩)
    (zd_Ground_eq : PySem.W.codeIn K cd_Ground_eq "Ground.__eq__" = true)
    (zk_Ground_eq : PySem.W.keepIn K (.ref f_Ground_eq) = true)
    (zf_Ground_eq : PySem.W.isFn K (.ref f_Ground_eq) = true)
    (yn_Ground_craters : PySem.W.findIn K (.ref C_Ground) "craters" = some none)
    (ym_Camera : PySem.W.nsIn K mainGlobals "Camera" = some (some (.ref C_Camera)))
    (ypg_Camera : PySem.W.plainGet K C_Camera Str.empty = true)
    (yhd_Camera : PySem.W.hasDictIn K C_Camera = true)
    (ypo_Camera : PySem.W.plainOver K C_Camera = true)
    (ysa_Camera : PySem.W.findIn K (.ref C_Camera) "__setattr__" = some (some (.builtin "object.__setattr__")))
    (ymk_Camera : PySem.W.makesIn K C_Camera = true)
    (ykp_Camera : PySem.W.keepIn K (.ref C_Camera) = true)
    (yne_Camera : PySem.W.findIn K (.ref C_Camera) "__ne__" = some (some (.builtin "object.__ne__")))
    (yob_Camera : PySem.W.mroIn K C_Camera (.type "object") = some true)
    (ycl_Camera : PySem.W.findIn K (.ref C_Camera) "__class__" = some (some (.builtin "object.__class__")))
    (ygt_Camera : PySem.W.specialIn K (.builtin "object.__class__") "__get__" = some (some (.builtin "getset_descriptor.__get__")))
    (ytk_Camera : PySem.W.takesIn K (.builtin "object.__class__") = some true)
    (za_Camera_init : PySem.W.findIn K (.ref C_Camera) "__init__" = some (some (.ref f_Camera_init)))
    (zl_Camera_init : K.lookup f_Camera_init = some ⟨oc_Camera_init, od_Camera_init, .func (PySem.W.fnOf "__init__" "Camera.__init__" (defArgs s_Camera_init) (defBody s_Camera_init) (defScope s_Camera_init) .none kV_Camera_init dc_Camera_init pm_Camera_init an_Camera_init cd_Camera_init ct_Camera_init), sl_Camera_init⟩)
    (zd_Camera_init : PySem.W.codeIn K cd_Camera_init "Camera.__init__" = true)
    (zk_Camera_init : PySem.W.keepIn K (.ref f_Camera_init) = true)
    (zf_Camera_init : PySem.W.isFn K (.ref f_Camera_init) = true)
    (za_Camera_eq : PySem.W.findIn K (.ref C_Camera) "__eq__" = some (some (.ref f_Camera_eq)))
    (zl_Camera_eq : K.lookup f_Camera_eq = some ⟨oc_Camera_eq, od_Camera_eq, .func (PySem.W.fnOf "__eq__" "Camera.__eq__" (defArgs s_Camera_eq) (defBody s_Camera_eq) (defScope s_Camera_eq) .none kV_Camera_eq dc_Camera_eq pm_Camera_eq an_Camera_eq cd_Camera_eq ct_Camera_eq), sl_Camera_eq⟩)
    (zd_Camera_eq : PySem.W.codeIn K cd_Camera_eq "Camera.__eq__" = true)
    (zk_Camera_eq : PySem.W.keepIn K (.ref f_Camera_eq) = true)
    (zf_Camera_eq : PySem.W.isFn K (.ref f_Camera_eq) = true)
    (yn_Camera_width : PySem.W.findIn K (.ref C_Camera) "width" = some none)
    (yn_Camera_height : PySem.W.findIn K (.ref C_Camera) "height" = some none)
    (yn_Camera_error : PySem.W.findIn K (.ref C_Camera) "error" = some none)
    (yn_Camera_false : PySem.W.findIn K (.ref C_Camera) "false" = some none)
    (yn_Camera_lost : PySem.W.findIn K (.ref C_Camera) "lost" = some none)
    (ym_Sky : PySem.W.nsIn K mainGlobals "Sky" = some (some (.ref C_Sky)))
    (ypg_Sky : PySem.W.plainGet K C_Sky Str.empty = true)
    (yhd_Sky : PySem.W.hasDictIn K C_Sky = true)
    (ypo_Sky : PySem.W.plainOver K C_Sky = true)
    (ysa_Sky : PySem.W.findIn K (.ref C_Sky) "__setattr__" = some (some (.builtin "object.__setattr__")))
    (ymk_Sky : PySem.W.makesIn K C_Sky = true)
    (ykp_Sky : PySem.W.keepIn K (.ref C_Sky) = true)
    (yne_Sky : PySem.W.findIn K (.ref C_Sky) "__ne__" = some (some (.builtin "object.__ne__")))
    (yob_Sky : PySem.W.mroIn K C_Sky (.type "object") = some true)
    (ycl_Sky : PySem.W.findIn K (.ref C_Sky) "__class__" = some (some (.builtin "object.__class__")))
    (ygt_Sky : PySem.W.specialIn K (.builtin "object.__class__") "__get__" = some (some (.builtin "getset_descriptor.__get__")))
    (ytk_Sky : PySem.W.takesIn K (.builtin "object.__class__") = some true)
    (za_Sky_init : PySem.W.findIn K (.ref C_Sky) "__init__" = some (some (.ref f_Sky_init)))
    (zl_Sky_init : K.lookup f_Sky_init = some ⟨oc_Sky_init, od_Sky_init, .func (PySem.W.fnOf "__init__" "Sky.__init__" (defArgs s_Sky_init) (defBody s_Sky_init) (defScope s_Sky_init) .none kV_Sky_init dc_Sky_init pm_Sky_init an_Sky_init cd_Sky_init ct_Sky_init), sl_Sky_init⟩)
    (zd_Sky_init : PySem.W.codeIn K cd_Sky_init "Sky.__init__" = true)
    (zk_Sky_init : PySem.W.keepIn K (.ref f_Sky_init) = true)
    (zf_Sky_init : PySem.W.isFn K (.ref f_Sky_init) = true)
    (za_Sky_eq : PySem.W.findIn K (.ref C_Sky) "__eq__" = some (some (.ref f_Sky_eq)))
    (zl_Sky_eq : K.lookup f_Sky_eq = some ⟨oc_Sky_eq, od_Sky_eq, .func (PySem.W.fnOf "__eq__" "Sky.__eq__" (defArgs s_Sky_eq) (defBody s_Sky_eq) (defScope s_Sky_eq) .none kV_Sky_eq dc_Sky_eq pm_Sky_eq an_Sky_eq cd_Sky_eq ct_Sky_eq), sl_Sky_eq⟩)
    (zd_Sky_eq : PySem.W.codeIn K cd_Sky_eq "Sky.__eq__" = true)
    (zk_Sky_eq : PySem.W.keepIn K (.ref f_Sky_eq) = true)
    (zf_Sky_eq : PySem.W.isFn K (.ref f_Sky_eq) = true)
    (za_Sky_standings : PySem.W.findIn K (.ref C_Sky) "standings" = some (some (.ref f_Sky_standings)))
    (zl_Sky_standings : K.lookup f_Sky_standings = some ⟨oc_Sky_standings, od_Sky_standings, .func (PySem.W.fnOf "standings" "Sky.standings" (defArgs s_Sky_standings) (defBody s_Sky_standings) (defScope s_Sky_standings) .none kV_Sky_standings dc_Sky_standings pm_Sky_standings an_Sky_standings cd_Sky_standings ct_Sky_standings), sl_Sky_standings⟩)
    (zd_Sky_standings : PySem.W.codeIn K cd_Sky_standings "Sky.standings" = true)
    (zk_Sky_standings : PySem.W.keepIn K (.ref f_Sky_standings) = true)
    (zf_Sky_standings : PySem.W.isFn K (.ref f_Sky_standings) = true)
    (za_Sky_is_standing : PySem.W.findIn K (.ref C_Sky) "is_standing" = some (some (.ref f_Sky_is_standing)))
    (zl_Sky_is_standing : K.lookup f_Sky_is_standing = some ⟨oc_Sky_is_standing, od_Sky_is_standing, .func (PySem.W.fnOf "is_standing" "Sky.is_standing" (defArgs s_Sky_is_standing) (defBody s_Sky_is_standing) (defScope s_Sky_is_standing) .none kV_Sky_is_standing dc_Sky_is_standing pm_Sky_is_standing an_Sky_is_standing cd_Sky_is_standing ct_Sky_is_standing), sl_Sky_is_standing⟩)
    (zd_Sky_is_standing : PySem.W.codeIn K cd_Sky_is_standing "Sky.is_standing" = true)
    (zk_Sky_is_standing : PySem.W.keepIn K (.ref f_Sky_is_standing) = true)
    (zf_Sky_is_standing : PySem.W.isFn K (.ref f_Sky_is_standing) = true)
    (za_Sky_place : PySem.W.findIn K (.ref C_Sky) "place" = some (some (.ref f_Sky_place)))
    (zl_Sky_place : K.lookup f_Sky_place = some ⟨oc_Sky_place, od_Sky_place, .func (PySem.W.fnOf "place" "Sky.place" (defArgs s_Sky_place) (defBody s_Sky_place) (defScope s_Sky_place) .none kV_Sky_place dc_Sky_place pm_Sky_place an_Sky_place cd_Sky_place ct_Sky_place), sl_Sky_place⟩)
    (zd_Sky_place : PySem.W.codeIn K cd_Sky_place "Sky.place" = true)
    (zk_Sky_place : PySem.W.keepIn K (.ref f_Sky_place) = true)
    (zf_Sky_place : PySem.W.isFn K (.ref f_Sky_place) = true)
    (za_Sky_places : PySem.W.findIn K (.ref C_Sky) "places" = some (some (.ref f_Sky_places)))
    (zl_Sky_places : K.lookup f_Sky_places = some ⟨oc_Sky_places, od_Sky_places, .func (PySem.W.fnOf "places" "Sky.places" (defArgs s_Sky_places) (defBody s_Sky_places) (defScope s_Sky_places) .none kV_Sky_places dc_Sky_places pm_Sky_places an_Sky_places cd_Sky_places ct_Sky_places), sl_Sky_places⟩)
    (zd_Sky_places : PySem.W.codeIn K cd_Sky_places "Sky.places" = true)
    (zk_Sky_places : PySem.W.keepIn K (.ref f_Sky_places) = true)
    (zf_Sky_places : PySem.W.isFn K (.ref f_Sky_places) = true)
    (yn_Sky_ground : PySem.W.findIn K (.ref C_Sky) "ground" = some none)
    (yn_Sky_camera : PySem.W.findIn K (.ref C_Sky) "camera" = some none)
    (yn_Sky_turns : PySem.W.findIn K (.ref C_Sky) "turns" = some none)
    (yn_Sky_area : PySem.W.findIn K (.ref C_Sky) "area" = some none)
    (ym_Deed : PySem.W.nsIn K mainGlobals "Deed" = some (some (.ref C_Deed)))
    (ypg_Deed : PySem.W.plainGet K C_Deed Str.empty = true)
    (yhd_Deed : PySem.W.hasDictIn K C_Deed = true)
    (ypo_Deed : PySem.W.plainOver K C_Deed = true)
    (ysa_Deed : PySem.W.findIn K (.ref C_Deed) "__setattr__" = some (some (.builtin "object.__setattr__")))
    (ymk_Deed : PySem.W.makesIn K C_Deed = true)
    (ykp_Deed : PySem.W.keepIn K (.ref C_Deed) = true)
    (yne_Deed : PySem.W.findIn K (.ref C_Deed) "__ne__" = some (some (.builtin "object.__ne__")))
    (yob_Deed : PySem.W.mroIn K C_Deed (.type "object") = some true)
    (ycl_Deed : PySem.W.findIn K (.ref C_Deed) "__class__" = some (some (.builtin "object.__class__")))
    (ygt_Deed : PySem.W.specialIn K (.builtin "object.__class__") "__get__" = some (some (.builtin "getset_descriptor.__get__")))
    (ytk_Deed : PySem.W.takesIn K (.builtin "object.__class__") = some true)
    (za_Deed_init : PySem.W.findIn K (.ref C_Deed) "__init__" = some (some (.ref f_Deed_init)))
    (zl_Deed_init : K.lookup f_Deed_init = some ⟨oc_Deed_init, od_Deed_init, .func (PySem.W.fnOf "__init__" "Deed.__init__" (defArgs s_Deed_init) (defBody s_Deed_init) (defScope s_Deed_init) .none kV_Deed_init dc_Deed_init pm_Deed_init an_Deed_init cd_Deed_init ct_Deed_init), sl_Deed_init⟩)
    (zd_Deed_init : PySem.W.codeIn K cd_Deed_init "Deed.__init__" = true)
    (zk_Deed_init : PySem.W.keepIn K (.ref f_Deed_init) = true)
    (zf_Deed_init : PySem.W.isFn K (.ref f_Deed_init) = true)
    (za_Deed_eq : PySem.W.findIn K (.ref C_Deed) "__eq__" = some (some (.ref f_Deed_eq)))
    (zl_Deed_eq : K.lookup f_Deed_eq = some ⟨oc_Deed_eq, od_Deed_eq, .func (PySem.W.fnOf "__eq__" "Deed.__eq__" (defArgs s_Deed_eq) (defBody s_Deed_eq) (defScope s_Deed_eq) .none kV_Deed_eq dc_Deed_eq pm_Deed_eq an_Deed_eq cd_Deed_eq ct_Deed_eq), sl_Deed_eq⟩)
    (zd_Deed_eq : PySem.W.codeIn K cd_Deed_eq "Deed.__eq__" = true)
    (zk_Deed_eq : PySem.W.keepIn K (.ref f_Deed_eq) = true)
    (zf_Deed_eq : PySem.W.isFn K (.ref f_Deed_eq) = true)
    (yn_Deed_kind : PySem.W.findIn K (.ref C_Deed) "kind" = some none)
    (yn_Deed_fuel : PySem.W.findIn K (.ref C_Deed) "fuel" = some none)
    (yn_Deed_aim : PySem.W.findIn K (.ref C_Deed) "aim" = some none)
    (yn_Deed_slips : PySem.W.findIn K (.ref C_Deed) "slips" = some none)
    (ym_Craft : PySem.W.nsIn K mainGlobals "Craft" = some (some (.ref C_Craft)))
    (ypg_Craft : PySem.W.plainGet K C_Craft Str.empty = true)
    (yhd_Craft : PySem.W.hasDictIn K C_Craft = true)
    (ypo_Craft : PySem.W.plainOver K C_Craft = true)
    (ysa_Craft : PySem.W.findIn K (.ref C_Craft) "__setattr__" = some (some (.builtin "object.__setattr__")))
    (ymk_Craft : PySem.W.makesIn K C_Craft = true)
    (ykp_Craft : PySem.W.keepIn K (.ref C_Craft) = true)
    (yne_Craft : PySem.W.findIn K (.ref C_Craft) "__ne__" = some (some (.builtin "object.__ne__")))
    (yob_Craft : PySem.W.mroIn K C_Craft (.type "object") = some true)
    (ycl_Craft : PySem.W.findIn K (.ref C_Craft) "__class__" = some (some (.builtin "object.__class__")))
    (ygt_Craft : PySem.W.specialIn K (.builtin "object.__class__") "__get__" = some (some (.builtin "getset_descriptor.__get__")))
    (ytk_Craft : PySem.W.takesIn K (.builtin "object.__class__") = some true)
    (za_Craft_init : PySem.W.findIn K (.ref C_Craft) "__init__" = some (some (.ref f_Craft_init)))
    (zl_Craft_init : K.lookup f_Craft_init = some ⟨oc_Craft_init, od_Craft_init, .func (PySem.W.fnOf "__init__" "Craft.__init__" (defArgs s_Craft_init) (defBody s_Craft_init) (defScope s_Craft_init) .none kV_Craft_init dc_Craft_init pm_Craft_init an_Craft_init cd_Craft_init ct_Craft_init), sl_Craft_init⟩)
    (zd_Craft_init : PySem.W.codeIn K cd_Craft_init "Craft.__init__" = true)
    (zk_Craft_init : PySem.W.keepIn K (.ref f_Craft_init) = true)
    (zf_Craft_init : PySem.W.isFn K (.ref f_Craft_init) = true)
    (za_Craft_eq : PySem.W.findIn K (.ref C_Craft) "__eq__" = some (some (.ref f_Craft_eq)))
    (zl_Craft_eq : K.lookup f_Craft_eq = some ⟨oc_Craft_eq, od_Craft_eq, .func (PySem.W.fnOf "__eq__" "Craft.__eq__" (defArgs s_Craft_eq) (defBody s_Craft_eq) (defScope s_Craft_eq) .none kV_Craft_eq dc_Craft_eq pm_Craft_eq an_Craft_eq cd_Craft_eq ct_Craft_eq), sl_Craft_eq⟩)
    (zd_Craft_eq : PySem.W.codeIn K cd_Craft_eq "Craft.__eq__" = true)
    (zk_Craft_eq : PySem.W.keepIn K (.ref f_Craft_eq) = true)
    (zf_Craft_eq : PySem.W.isFn K (.ref f_Craft_eq) = true)
    (za_Craft_is_over : PySem.W.findIn K (.ref C_Craft) "is_over" = some (some (.ref f_Craft_is_over)))
    (zl_Craft_is_over : K.lookup f_Craft_is_over = some ⟨oc_Craft_is_over, od_Craft_is_over, .func (PySem.W.fnOf "is_over" "Craft.is_over" (defArgs s_Craft_is_over) (defBody s_Craft_is_over) (defScope s_Craft_is_over) .none kV_Craft_is_over dc_Craft_is_over pm_Craft_is_over an_Craft_is_over cd_Craft_is_over ct_Craft_is_over), sl_Craft_is_over⟩)
    (zd_Craft_is_over : PySem.W.codeIn K cd_Craft_is_over "Craft.is_over" = true)
    (zk_Craft_is_over : PySem.W.keepIn K (.ref f_Craft_is_over) = true)
    (zf_Craft_is_over : PySem.W.isFn K (.ref f_Craft_is_over) = true)
    (za_Craft_is_safe : PySem.W.findIn K (.ref C_Craft) "is_safe" = some (some (.ref f_Craft_is_safe)))
    (zl_Craft_is_safe : K.lookup f_Craft_is_safe = some ⟨oc_Craft_is_safe, od_Craft_is_safe, .func (PySem.W.fnOf "is_safe" "Craft.is_safe" (defArgs s_Craft_is_safe) (defBody s_Craft_is_safe) (defScope s_Craft_is_safe) .none kV_Craft_is_safe dc_Craft_is_safe pm_Craft_is_safe an_Craft_is_safe cd_Craft_is_safe ct_Craft_is_safe), sl_Craft_is_safe⟩)
    (zd_Craft_is_safe : PySem.W.codeIn K cd_Craft_is_safe "Craft.is_safe" = true)
    (zk_Craft_is_safe : PySem.W.keepIn K (.ref f_Craft_is_safe) = true)
    (zf_Craft_is_safe : PySem.W.isFn K (.ref f_Craft_is_safe) = true)
    (za_Craft_cell_below : PySem.W.findIn K (.ref C_Craft) "cell_below" = some (some (.ref f_Craft_cell_below)))
    (zl_Craft_cell_below : K.lookup f_Craft_cell_below = some ⟨oc_Craft_cell_below, od_Craft_cell_below, .func (PySem.W.fnOf "cell_below" "Craft.cell_below" (defArgs s_Craft_cell_below) (defBody s_Craft_cell_below) (defScope s_Craft_cell_below) .none kV_Craft_cell_below dc_Craft_cell_below pm_Craft_cell_below an_Craft_cell_below cd_Craft_cell_below ct_Craft_cell_below), sl_Craft_cell_below⟩)
    (zd_Craft_cell_below : PySem.W.codeIn K cd_Craft_cell_below "Craft.cell_below" = true)
    (zk_Craft_cell_below : PySem.W.keepIn K (.ref f_Craft_cell_below) = true)
    (zf_Craft_cell_below : PySem.W.isFn K (.ref f_Craft_cell_below) = true)
    (za_Craft_stepped : PySem.W.findIn K (.ref C_Craft) "stepped" = some (some (.ref f_Craft_stepped)))
    (zl_Craft_stepped : K.lookup f_Craft_stepped = some ⟨oc_Craft_stepped, od_Craft_stepped, .func (PySem.W.fnOf "stepped" "Craft.stepped" (defArgs s_Craft_stepped) (defBody s_Craft_stepped) (defScope s_Craft_stepped) .none kV_Craft_stepped dc_Craft_stepped pm_Craft_stepped an_Craft_stepped cd_Craft_stepped ct_Craft_stepped), sl_Craft_stepped⟩)
    (zd_Craft_stepped : PySem.W.codeIn K cd_Craft_stepped "Craft.stepped" = true)
    (zk_Craft_stepped : PySem.W.keepIn K (.ref f_Craft_stepped) = true)
    (zf_Craft_stepped : PySem.W.isFn K (.ref f_Craft_stepped) = true)
    (za_Craft_swung : PySem.W.findIn K (.ref C_Craft) "swung" = some (some (.ref f_Craft_swung)))
    (zl_Craft_swung : K.lookup f_Craft_swung = some ⟨oc_Craft_swung, od_Craft_swung, .func (PySem.W.fnOf "swung" "Craft.swung" (defArgs s_Craft_swung) (defBody s_Craft_swung) (defScope s_Craft_swung) .none kV_Craft_swung dc_Craft_swung pm_Craft_swung an_Craft_swung cd_Craft_swung ct_Craft_swung), sl_Craft_swung⟩)
    (zd_Craft_swung : PySem.W.codeIn K cd_Craft_swung "Craft.swung" = true)
    (zk_Craft_swung : PySem.W.keepIn K (.ref f_Craft_swung) = true)
    (zf_Craft_swung : PySem.W.isFn K (.ref f_Craft_swung) = true)
    (yn_Craft_skies : PySem.W.findIn K (.ref C_Craft) "skies" = some none)
    (yn_Craft_foot : PySem.W.findIn K (.ref C_Craft) "foot" = some none)
    (yn_Craft_room : PySem.W.findIn K (.ref C_Craft) "room" = some none)
    (yn_Craft_deeds : PySem.W.findIn K (.ref C_Craft) "deeds" = some none) :
    ∃ fd : FuncData, (∀ (s : Shared) (v : Value), BindsTo s fd ⟨[v], []⟩ [("script", v)]) ∧ ∀ base : Heap, K.In base → base.Ns mainGlobals mg → FnOk l.prog w K mg base CX0 10 fa fd ["script"] (spL K) := by
  have e := hfa.symm.trans (PySem.W.mg_of X G za_law)
  cases e
  exact ⟨PySem.W.fnOf "law" "law" (defArgs s_law) (defBody s_law) (defScope s_law) .none kV_law dc_law pm_law an_law cd_law ct_law, fun s v => .of_eq rfl, fun base _ _ => ok_law (P := l.prog) (w := w) (base := base) ({
    n_abs := PySem.W.mg_none_of X G zn_abs
    n_all := PySem.W.mg_none_of X G zn_all
    n_bool := PySem.W.mg_none_of X G zn_bool
    n_enumerate := PySem.W.mg_none_of X G zn_enumerate
    n_int := PySem.W.mg_none_of X G zn_int
    n_isinstance := PySem.W.mg_none_of X G zn_isinstance
    n_len := PySem.W.mg_none_of X G zn_len
    n_list := PySem.W.mg_none_of X G zn_list
    n_max := PySem.W.mg_none_of X G zn_max
    n_range := PySem.W.mg_none_of X G zn_range
    n_set := PySem.W.mg_none_of X G zn_set
    n_sorted := PySem.W.mg_none_of X G zn_sorted
    n_str := PySem.W.mg_none_of X G zn_str
    n_tuple := PySem.W.mg_none_of X G zn_tuple
    n_zip := PySem.W.mg_none_of X G zn_zip
    t_MOST_CRATERS := tk_MOST_CRATERS
    c_MOST_CRATERS := PySem.W.mg_of X G zc_MOST_CRATERS
    t_MOST_SIZE := tk_MOST_SIZE
    c_MOST_SIZE := PySem.W.mg_of X G zc_MOST_SIZE
    t_FARTHEST := tk_FARTHEST
    c_FARTHEST := PySem.W.mg_of X G zc_FARTHEST
    t_FARTHEST_STEP := tk_FARTHEST_STEP
    c_FARTHEST_STEP := PySem.W.mg_of X G zc_FARTHEST_STEP
    q_CAMERA_BOUNDS := q_CAMERA_BOUNDS
    c_CAMERA_BOUNDS := PySem.W.mg_of X G zq_CAMERA_BOUNDS
    k_CAMERA_BOUNDS := fun H => (.tup (show SqT K H q_CAMERA_BOUNDS [V.ref q_CAMERA_BOUNDS_0, V.ref q_CAMERA_BOUNDS_1, V.ref q_CAMERA_BOUNDS_2, V.ref q_CAMERA_BOUNDS_3, V.ref q_CAMERA_BOUNDS_4] from .inr ⟨_, _, _, zt_CAMERA_BOUNDS, rfl, rfl, (by show 5 ≤ sizeLine; decide), (.cons rfl (.cons rfl (.cons rfl (.cons rfl (.cons rfl .nil)))))⟩) (.cons (.tup (show SqT K H q_CAMERA_BOUNDS_0 [V.str "width", V.int 1, V.int 1000] from .inr ⟨_, _, _, zt_CAMERA_BOUNDS_0, rfl, rfl, (by show 3 ≤ sizeLine; decide), (.cons ⟨_, rfl⟩ (.cons ⟨_, rfl⟩ (.cons ⟨_, rfl⟩ .nil)))⟩) (.cons (.str _) (.cons (.int _) (.cons (.int _) .nil)))) (.cons (.tup (show SqT K H q_CAMERA_BOUNDS_1 [V.str "height", V.int 1, V.int 1000] from .inr ⟨_, _, _, zt_CAMERA_BOUNDS_1, rfl, rfl, (by show 3 ≤ sizeLine; decide), (.cons ⟨_, rfl⟩ (.cons ⟨_, rfl⟩ (.cons ⟨_, rfl⟩ .nil)))⟩) (.cons (.str _) (.cons (.int _) (.cons (.int _) .nil)))) (.cons (.tup (show SqT K H q_CAMERA_BOUNDS_2 [V.str "error", V.int 0, V.int 100] from .inr ⟨_, _, _, zt_CAMERA_BOUNDS_2, rfl, rfl, (by show 3 ≤ sizeLine; decide), (.cons ⟨_, rfl⟩ (.cons ⟨_, rfl⟩ (.cons ⟨_, rfl⟩ .nil)))⟩) (.cons (.str _) (.cons (.int _) (.cons (.int _) .nil)))) (.cons (.tup (show SqT K H q_CAMERA_BOUNDS_3 [V.str "false", V.int 0, V.int 100] from .inr ⟨_, _, _, zt_CAMERA_BOUNDS_3, rfl, rfl, (by show 3 ≤ sizeLine; decide), (.cons ⟨_, rfl⟩ (.cons ⟨_, rfl⟩ (.cons ⟨_, rfl⟩ .nil)))⟩) (.cons (.str _) (.cons (.int _) (.cons (.int _) .nil)))) (.cons (.tup (show SqT K H q_CAMERA_BOUNDS_4 [V.str "lost", V.int 0, V.int 100] from .inr ⟨_, _, _, zt_CAMERA_BOUNDS_4, rfl, rfl, (by show 3 ≤ sizeLine; decide), (.cons ⟨_, rfl⟩ (.cons ⟨_, rfl⟩ (.cons ⟨_, rfl⟩ .nil)))⟩) (.cons (.str _) (.cons (.int _) (.cons (.int _) .nil)))) .nil))))))
    t_MOST_STANDINGS := tk_MOST_STANDINGS
    c_MOST_STANDINGS := PySem.W.mg_of X G zc_MOST_STANDINGS
    q_KINDS := q_KINDS
    c_KINDS := PySem.W.mg_of X G zq_KINDS
    k_KINDS := fun H => (.tup (show SqT K H q_KINDS [V.str "step", V.str "turn", V.str "look", V.str "land", V.str "away"] from .inr ⟨_, _, _, zt_KINDS, rfl, rfl, (by show 5 ≤ sizeLine; decide), (.cons ⟨_, rfl⟩ (.cons ⟨_, rfl⟩ (.cons ⟨_, rfl⟩ (.cons ⟨_, rfl⟩ (.cons ⟨_, rfl⟩ .nil)))))⟩) (.cons (.str _) (.cons (.str _) (.cons (.str _) (.cons (.str _) (.cons (.str _) .nil))))))
    q_SLIPPING := q_SLIPPING
    c_SLIPPING := PySem.W.mg_of X G zq_SLIPPING
    k_SLIPPING := fun H => (.tup (show SqT K H q_SLIPPING [V.str "step", V.str "land"] from .inr ⟨_, _, _, zt_SLIPPING, rfl, rfl, (by show 2 ≤ sizeLine; decide), (.cons ⟨_, rfl⟩ (.cons ⟨_, rfl⟩ .nil))⟩) (.cons (.str _) (.cons (.str _) .nil)))
    q_NO_SLIPS := q_NO_SLIPS
    c_NO_SLIPS := PySem.W.mg_of X G zq_NO_SLIPS
    k_NO_SLIPS := fun H => (.tup (show SqT K H q_NO_SLIPS [V.ref q_NO_SLIPS_0] from .inr ⟨_, _, _, zt_NO_SLIPS, rfl, rfl, (by show 1 ≤ sizeLine; decide), (.cons rfl .nil)⟩) (.cons (.tup (show SqT K H q_NO_SLIPS_0 [V.int 0, V.int 0] from .inr ⟨_, _, _, zt_NO_SLIPS_0, rfl, rfl, (by show 2 ≤ sizeLine; decide), (.cons ⟨_, rfl⟩ (.cons ⟨_, rfl⟩ .nil))⟩) (.cons (.int _) (.cons (.int _) .nil))) .nil))
    t_MOST_FUEL := tk_MOST_FUEL
    c_MOST_FUEL := PySem.W.mg_of X G zc_MOST_FUEL
    t_MOST_CAMERA := tk_MOST_CAMERA
    c_MOST_CAMERA := PySem.W.mg_of X G zc_MOST_CAMERA
    t_MOST_ROOM := tk_MOST_ROOM
    c_MOST_ROOM := PySem.W.mg_of X G zc_MOST_ROOM
    d_is_whole := ⟨_, _, fun_mk (st := s_is_whole) zl_is_whole zd_is_whole zk_is_whole, PySem.W.mg_of X G za_is_whole, zk_is_whole, (fun_mk (st := s_is_whole) zl_is_whole zd_is_whole zk_is_whole).binds (ps := ["thing"]) fun _ _ _ _ _ _ us hl => match us, hl with | [_], _ => rfl⟩
    d_is_between := ⟨_, _, fun_mk (st := s_is_between) zl_is_between zd_is_between zk_is_between, PySem.W.mg_of X G za_is_between, zk_is_between, (fun_mk (st := s_is_between) zl_is_between zd_is_between zk_is_between).binds (ps := ["thing", "low", "high"]) fun _ _ _ _ _ _ us hl => match us, hl with | [_, _, _], _ => rfl⟩
    d_is_triple := ⟨_, _, fun_mk (st := s_is_triple) zl_is_triple zd_is_triple zk_is_triple, PySem.W.mg_of X G za_is_triple, zk_is_triple, (fun_mk (st := s_is_triple) zl_is_triple zd_is_triple zk_is_triple).binds (ps := ["thing"]) fun _ _ _ _ _ _ us hl => match us, hl with | [_], _ => rfl⟩
    d_is_point := ⟨_, _, fun_mk (st := s_is_point) zl_is_point zd_is_point zk_is_point, PySem.W.mg_of X G za_is_point, zk_is_point, (fun_mk (st := s_is_point) zl_is_point zd_is_point zk_is_point).binds (ps := ["thing"]) fun _ _ _ _ _ _ us hl => match us, hl with | [_], _ => rfl⟩
    d_is_crater := ⟨_, _, fun_mk (st := s_is_crater) zl_is_crater zd_is_crater zk_is_crater, PySem.W.mg_of X G za_is_crater, zk_is_crater, (fun_mk (st := s_is_crater) zl_is_crater zd_is_crater zk_is_crater).binds (ps := ["thing"]) fun _ _ _ _ _ _ us hl => match us, hl with | [_], _ => rfl⟩
    d_is_pair := ⟨_, _, fun_mk (st := s_is_pair) zl_is_pair zd_is_pair zk_is_pair, PySem.W.mg_of X G za_is_pair, zk_is_pair, (fun_mk (st := s_is_pair) zl_is_pair zd_is_pair zk_is_pair).binds (ps := ["thing"]) fun _ _ _ _ _ _ us hl => match us, hl with | [_], _ => rfl⟩
    d_is_turn := ⟨_, _, fun_mk (st := s_is_turn) zl_is_turn zd_is_turn zk_is_turn, PySem.W.mg_of X G za_is_turn, zk_is_turn, (fun_mk (st := s_is_turn) zl_is_turn zd_is_turn zk_is_turn).binds (ps := ["thing"]) fun _ _ _ _ _ _ us hl => match us, hl with | [_], _ => rfl⟩
    d_turned := ⟨_, _, fun_mk (st := s_turned) zl_turned zd_turned zk_turned, PySem.W.mg_of X G za_turned, zk_turned, (fun_mk (st := s_turned) zl_turned zd_turned zk_turned).binds (ps := ["x", "y", "turn"]) fun _ _ _ _ _ _ us hl => match us, hl with | [_, _, _], _ => rfl⟩
    d_are_turns := ⟨_, _, fun_mk (st := s_are_turns) zl_are_turns zd_are_turns zk_are_turns, PySem.W.mg_of X G za_are_turns, zk_are_turns, (fun_mk (st := s_are_turns) zl_are_turns zd_are_turns zk_are_turns).binds (ps := ["thing"]) fun _ _ _ _ _ _ us hl => match us, hl with | [_], _ => rfl⟩
    d_is_area := ⟨_, _, fun_mk (st := s_is_area) zl_is_area zd_is_area zk_is_area, PySem.W.mg_of X G za_is_area, zk_is_area, (fun_mk (st := s_is_area) zl_is_area zd_is_area zk_is_area).binds (ps := ["thing"]) fun _ _ _ _ _ _ us hl => match us, hl with | [_], _ => rfl⟩
    d_ends_of := ⟨_, _, fun_mk (st := s_ends_of) zl_ends_of zd_ends_of zk_ends_of, PySem.W.mg_of X G za_ends_of, zk_ends_of, (fun_mk (st := s_ends_of) zl_ends_of zd_ends_of zk_ends_of).binds (ps := ["craft", "standing", "deed"]) fun _ _ _ _ _ _ us hl => match us, hl with | [_, _, _], _ => rfl⟩
    d_behind := ⟨_, _, fun_mk (st := s_behind) zl_behind zd_behind zk_behind, PySem.W.mg_of X G za_behind, zk_behind, (fun_mk (st := s_behind) zl_behind zd_behind zk_behind).binds (ps := ["craft", "belief", "deed"]) fun _ _ _ _ _ _ us hl => match us, hl with | [_, _, _], _ => rfl⟩
    d_is_kept := ⟨_, _, fun_mk (st := s_is_kept) zl_is_kept zd_is_kept zk_is_kept, PySem.W.mg_of X G za_is_kept, zk_is_kept, (fun_mk (st := s_is_kept) zl_is_kept zd_is_kept zk_is_kept).binds (ps := ["craft", "belief", "deed"]) fun _ _ _ _ _ _ us hl => match us, hl with | [_, _, _], _ => rfl⟩
    d_is_whole_at := ⟨_, _, fun_mk (st := s_is_whole_at) zl_is_whole_at zd_is_whole_at zk_is_whole_at, PySem.W.mg_of X G za_is_whole_at, zk_is_whole_at, (fun_mk (st := s_is_whole_at) zl_is_whole_at zd_is_whole_at zk_is_whole_at).binds (ps := ["craft", "deed", "end"]) fun _ _ _ _ _ _ us hl => match us, hl with | [_, _, _], _ => rfl⟩
    d_is_end := ⟨_, _, fun_mk (st := s_is_end) zl_is_end zd_is_end zk_is_end, PySem.W.mg_of X G za_is_end, zk_is_end, (fun_mk (st := s_is_end) zl_is_end zd_is_end zk_is_end).binds (ps := ["deed"]) fun _ _ _ _ _ _ us hl => match us, hl with | [_], _ => rfl⟩
    d_is_aim := ⟨_, _, fun_mk (st := s_is_aim) zl_is_aim zd_is_aim zk_is_aim, PySem.W.mg_of X G za_is_aim, zk_is_aim, (fun_mk (st := s_is_aim) zl_is_aim zd_is_aim zk_is_aim).binds (ps := ["kind", "thing"]) fun _ _ _ _ _ _ us hl => match us, hl with | [_, _], _ => rfl⟩
    d_are_slips := ⟨_, _, fun_mk (st := s_are_slips) zl_are_slips zd_are_slips zk_are_slips, PySem.W.mg_of X G za_are_slips, zk_are_slips, (fun_mk (st := s_are_slips) zl_are_slips zd_are_slips zk_are_slips).binds (ps := ["kind", "thing"]) fun _ _ _ _ _ _ us hl => match us, hl with | [_, _], _ => rfl⟩
    d_step := ⟨_, _, fun_mk (st := s_step) zl_step zd_step zk_step, PySem.W.mg_of X G za_step, zk_step, (fun_mk (st := s_step) zl_step zd_step zk_step).binds (ps := ["fuel", "aim", "slips"]) fun _ _ _ _ _ _ us hl => match us, hl with | [_, _, _], _ => rfl⟩
    d_turn := ⟨_, _, fun_mk (st := s_turn) zl_turn zd_turn zk_turn, PySem.W.mg_of X G za_turn, zk_turn, (fun_mk (st := s_turn) zl_turn zd_turn zk_turn).binds (ps := ["fuel", "aim"]) fun _ _ _ _ _ _ us hl => match us, hl with | [_, _], _ => rfl⟩
    d_look := ⟨_, _, fun_mk (st := s_look) zl_look zd_look zk_look, PySem.W.mg_of X G za_look, zk_look, (fun_mk (st := s_look) zl_look zd_look zk_look).binds (ps := ["fuel", "aim"]) fun _ _ _ _ _ _ us hl => match us, hl with | [_, _], _ => rfl⟩
    d_land := ⟨_, _, fun_mk (st := s_land) zl_land zd_land zk_land, PySem.W.mg_of X G za_land, zk_land, (fun_mk (st := s_land) zl_land zd_land zk_land).binds (ps := ["fuel", "slips"]) fun _ _ _ _ _ _ us hl => match us, hl with | [_, _], _ => rfl⟩
    d_away := ⟨_, _, fun_mk (st := s_away) zl_away zd_away zk_away, PySem.W.mg_of X G za_away, zk_away, (fun_mk (st := s_away) zl_away zd_away zk_away).binds (ps := ["fuel"]) fun _ _ _ _ _ _ us hl => match us, hl with | [_], _ => rfl⟩
    d_are_skies := ⟨_, _, fun_mk (st := s_are_skies) zl_are_skies zd_are_skies zk_are_skies, PySem.W.mg_of X G za_are_skies, zk_are_skies, (fun_mk (st := s_are_skies) zl_are_skies zd_are_skies zk_are_skies).binds (ps := ["thing"]) fun _ _ _ _ _ _ us hl => match us, hl with | [_], _ => rfl⟩
    d_are_deeds := ⟨_, _, fun_mk (st := s_are_deeds) zl_are_deeds zd_are_deeds zk_are_deeds, PySem.W.mg_of X G za_are_deeds, zk_are_deeds, (fun_mk (st := s_are_deeds) zl_are_deeds zd_are_deeds zk_are_deeds).binds (ps := ["thing", "cameras"]) fun _ _ _ _ _ _ us hl => match us, hl with | [_, _], _ => rfl⟩
    d_law_number := ⟨_, _, fun_mk (st := s_law_number) zl_law_number zd_law_number zk_law_number, PySem.W.mg_of X G za_law_number, zk_law_number, (fun_mk (st := s_law_number) zl_law_number zd_law_number zk_law_number).binds (ps := ["script", "index"]) fun _ _ _ _ _ _ us hl => match us, hl with | [_, _], _ => rfl⟩
    d_law_take := ⟨_, _, fun_mk (st := s_law_take) zl_law_take zd_law_take zk_law_take, PySem.W.mg_of X G za_law_take, zk_law_take, (fun_mk (st := s_law_take) zl_law_take zd_law_take zk_law_take).binds (ps := ["draw", "many"]) fun _ _ _ _ _ _ us hl => match us, hl with | [_, _], _ => rfl⟩
    d_law_pick := ⟨_, _, fun_mk (st := s_law_pick) zl_law_pick zd_law_pick zk_law_pick, PySem.W.mg_of X G za_law_pick, zk_law_pick, (fun_mk (st := s_law_pick) zl_law_pick zd_law_pick zk_law_pick).binds (ps := ["draw", "items"]) fun _ _ _ _ _ _ us hl => match us, hl with | [_, _], _ => rfl⟩
    d_law_ground := ⟨_, _, fun_mk (st := s_law_ground) zl_law_ground zd_law_ground zk_law_ground, PySem.W.mg_of X G za_law_ground, zk_law_ground, (fun_mk (st := s_law_ground) zl_law_ground zd_law_ground zk_law_ground).binds (ps := ["draw"]) fun _ _ _ _ _ _ us hl => match us, hl with | [_], _ => rfl⟩
    d_law_camera := ⟨_, _, fun_mk (st := s_law_camera) zl_law_camera zd_law_camera zk_law_camera, PySem.W.mg_of X G za_law_camera, zk_law_camera, (fun_mk (st := s_law_camera) zl_law_camera zd_law_camera zk_law_camera).binds (ps := ["draw", "ground"]) fun _ _ _ _ _ _ us hl => match us, hl with | [_, _], _ => rfl⟩
    d_law_deeds := ⟨_, _, fun_mk (st := s_law_deeds) zl_law_deeds zd_law_deeds zk_law_deeds, PySem.W.mg_of X G za_law_deeds, zk_law_deeds, (fun_mk (st := s_law_deeds) zl_law_deeds zd_law_deeds zk_law_deeds).binds (ps := ["draw", "cameras"]) fun _ _ _ _ _ _ us hl => match us, hl with | [_, _], _ => rfl⟩
    d_law_craft := ⟨_, _, fun_mk (st := s_law_craft) zl_law_craft zd_law_craft zk_law_craft, PySem.W.mg_of X G za_law_craft, zk_law_craft, (fun_mk (st := s_law_craft) zl_law_craft zd_law_craft zk_law_craft).binds (ps := ["draw"]) fun _ _ _ _ _ _ us hl => match us, hl with | [_], _ => rfl⟩
    d_law_belief := ⟨_, _, fun_mk (st := s_law_belief) zl_law_belief zd_law_belief zk_law_belief, PySem.W.mg_of X G za_law_belief, zk_law_belief, (fun_mk (st := s_law_belief) zl_law_belief zd_law_belief zk_law_belief).binds (ps := ["draw", "craft"]) fun _ _ _ _ _ _ us hl => match us, hl with | [_, _], _ => rfl⟩
    d_law_view := ⟨_, _, fun_mk (st := s_law_view) zl_law_view zd_law_view zk_law_view, PySem.W.mg_of X G za_law_view, zk_law_view, (fun_mk (st := s_law_view) zl_law_view zd_law_view zk_law_view).binds (ps := ["standing", "crater"]) fun _ _ _ _ _ _ us hl => match us, hl with | [_, _], _ => rfl⟩
    d_law_ends := ⟨_, _, fun_mk (st := s_law_ends) zl_law_ends zd_law_ends zk_law_ends, PySem.W.mg_of X G za_law_ends, zk_law_ends, (fun_mk (st := s_law_ends) zl_law_ends zd_law_ends zk_law_ends).binds (ps := ["craft", "standing", "deed"]) fun _ _ _ _ _ _ us hl => match us, hl with | [_, _, _], _ => rfl⟩
    d_law_whole := ⟨_, _, fun_mk (st := s_law_whole) zl_law_whole zd_law_whole zk_law_whole, PySem.W.mg_of X G za_law_whole, zk_law_whole, (fun_mk (st := s_law_whole) zl_law_whole zd_law_whole zk_law_whole).binds (ps := ["craft", "deed", "end"]) fun _ _ _ _ _ _ us hl => match us, hl with | [_, _, _], _ => rfl⟩
    d_law := ⟨_, _, fun_mk (st := s_law) zl_law zd_law zk_law, PySem.W.mg_of X G za_law, zk_law, (fun_mk (st := s_law) zl_law zd_law zk_law).binds (ps := ["script"]) fun _ _ _ _ _ _ us hl => match us, hl with | [_], _ => rfl⟩
    C_Ground := ⟨C_Ground, ⟨ypg_Ground, yhd_Ground, ypo_Ground, ysa_Ground⟩, PySem.W.mg_of X G ym_Ground, ykp_Ground, ymk_Ground⟩
    e_Ground := ⟨yne_Ground, yob_Ground, ycl_Ground, ygt_Ground, ytk_Ground⟩
    m_Ground_init := ⟨f_Ground_init, _, fun_mk (st := s_Ground_init) zl_Ground_init zd_Ground_init zk_Ground_init, ⟨za_Ground_init, zf_Ground_init, zk_Ground_init⟩, (fun_mk (st := s_Ground_init) zl_Ground_init zd_Ground_init zk_Ground_init).binds (ps := ["self", "craters"]) fun _ _ _ _ _ _ us hl => match us, hl with | [_, _], _ => rfl⟩
    m_Ground_eq := ⟨f_Ground_eq, _, fun_mk (st := s_Ground_eq) zl_Ground_eq zd_Ground_eq zk_Ground_eq, ⟨za_Ground_eq, zf_Ground_eq, zk_Ground_eq⟩, (fun_mk (st := s_Ground_eq) zl_Ground_eq zd_Ground_eq zk_Ground_eq).binds (ps := ["self", "other"]) fun _ _ _ _ _ _ us hl => match us, hl with | [_, _], _ => rfl⟩
    a_Ground_craters := yn_Ground_craters
    C_Camera := ⟨C_Camera, ⟨ypg_Camera, yhd_Camera, ypo_Camera, ysa_Camera⟩, PySem.W.mg_of X G ym_Camera, ykp_Camera, ymk_Camera⟩
    e_Camera := ⟨yne_Camera, yob_Camera, ycl_Camera, ygt_Camera, ytk_Camera⟩
    m_Camera_init := ⟨f_Camera_init, _, fun_mk (st := s_Camera_init) zl_Camera_init zd_Camera_init zk_Camera_init, ⟨za_Camera_init, zf_Camera_init, zk_Camera_init⟩, (fun_mk (st := s_Camera_init) zl_Camera_init zd_Camera_init zk_Camera_init).binds (ps := ["self", "width", "height", "error", "false", "lost"]) fun _ _ _ _ _ _ us hl => match us, hl with | [_, _, _, _, _, _], _ => rfl⟩
    m_Camera_eq := ⟨f_Camera_eq, _, fun_mk (st := s_Camera_eq) zl_Camera_eq zd_Camera_eq zk_Camera_eq, ⟨za_Camera_eq, zf_Camera_eq, zk_Camera_eq⟩, (fun_mk (st := s_Camera_eq) zl_Camera_eq zd_Camera_eq zk_Camera_eq).binds (ps := ["self", "other"]) fun _ _ _ _ _ _ us hl => match us, hl with | [_, _], _ => rfl⟩
    a_Camera_width := yn_Camera_width
    a_Camera_height := yn_Camera_height
    a_Camera_error := yn_Camera_error
    a_Camera_false := yn_Camera_false
    a_Camera_lost := yn_Camera_lost
    C_Sky := ⟨C_Sky, ⟨ypg_Sky, yhd_Sky, ypo_Sky, ysa_Sky⟩, PySem.W.mg_of X G ym_Sky, ykp_Sky, ymk_Sky⟩
    e_Sky := ⟨yne_Sky, yob_Sky, ycl_Sky, ygt_Sky, ytk_Sky⟩
    m_Sky_init := ⟨f_Sky_init, _, fun_mk (st := s_Sky_init) zl_Sky_init zd_Sky_init zk_Sky_init, ⟨za_Sky_init, zf_Sky_init, zk_Sky_init⟩, (fun_mk (st := s_Sky_init) zl_Sky_init zd_Sky_init zk_Sky_init).binds (ps := ["self", "ground", "camera", "turns", "area"]) fun _ _ _ _ _ _ us hl => match us, hl with | [_, _, _, _, _], _ => rfl⟩
    m_Sky_eq := ⟨f_Sky_eq, _, fun_mk (st := s_Sky_eq) zl_Sky_eq zd_Sky_eq zk_Sky_eq, ⟨za_Sky_eq, zf_Sky_eq, zk_Sky_eq⟩, (fun_mk (st := s_Sky_eq) zl_Sky_eq zd_Sky_eq zk_Sky_eq).binds (ps := ["self", "other"]) fun _ _ _ _ _ _ us hl => match us, hl with | [_, _], _ => rfl⟩
    m_Sky_standings := ⟨f_Sky_standings, _, fun_mk (st := s_Sky_standings) zl_Sky_standings zd_Sky_standings zk_Sky_standings, ⟨za_Sky_standings, zf_Sky_standings, zk_Sky_standings⟩, (fun_mk (st := s_Sky_standings) zl_Sky_standings zd_Sky_standings zk_Sky_standings).binds (ps := ["self"]) fun _ _ _ _ _ _ us hl => match us, hl with | [_], _ => rfl⟩
    m_Sky_is_standing := ⟨f_Sky_is_standing, _, fun_mk (st := s_Sky_is_standing) zl_Sky_is_standing zd_Sky_is_standing zk_Sky_is_standing, ⟨za_Sky_is_standing, zf_Sky_is_standing, zk_Sky_is_standing⟩, (fun_mk (st := s_Sky_is_standing) zl_Sky_is_standing zd_Sky_is_standing zk_Sky_is_standing).binds (ps := ["self", "thing"]) fun _ _ _ _ _ _ us hl => match us, hl with | [_, _], _ => rfl⟩
    m_Sky_place := ⟨f_Sky_place, _, fun_mk (st := s_Sky_place) zl_Sky_place zd_Sky_place zk_Sky_place, ⟨za_Sky_place, zf_Sky_place, zk_Sky_place⟩, (fun_mk (st := s_Sky_place) zl_Sky_place zd_Sky_place zk_Sky_place).binds (ps := ["self", "crater", "standing"]) fun _ _ _ _ _ _ us hl => match us, hl with | [_, _, _], _ => rfl⟩
    m_Sky_places := ⟨f_Sky_places, _, fun_mk (st := s_Sky_places) zl_Sky_places zd_Sky_places zk_Sky_places, ⟨za_Sky_places, zf_Sky_places, zk_Sky_places⟩, (fun_mk (st := s_Sky_places) zl_Sky_places zd_Sky_places zk_Sky_places).binds (ps := ["self", "standing"]) fun _ _ _ _ _ _ us hl => match us, hl with | [_, _], _ => rfl⟩
    a_Sky_ground := yn_Sky_ground
    a_Sky_camera := yn_Sky_camera
    a_Sky_turns := yn_Sky_turns
    a_Sky_area := yn_Sky_area
    C_Deed := ⟨C_Deed, ⟨ypg_Deed, yhd_Deed, ypo_Deed, ysa_Deed⟩, PySem.W.mg_of X G ym_Deed, ykp_Deed, ymk_Deed⟩
    e_Deed := ⟨yne_Deed, yob_Deed, ycl_Deed, ygt_Deed, ytk_Deed⟩
    m_Deed_init := ⟨f_Deed_init, _, fun_mk (st := s_Deed_init) zl_Deed_init zd_Deed_init zk_Deed_init, ⟨za_Deed_init, zf_Deed_init, zk_Deed_init⟩, (fun_mk (st := s_Deed_init) zl_Deed_init zd_Deed_init zk_Deed_init).binds (ps := ["self", "kind", "fuel", "aim", "slips"]) fun _ _ _ _ _ _ us hl => match us, hl with | [_, _, _, _, _], _ => rfl⟩
    m_Deed_eq := ⟨f_Deed_eq, _, fun_mk (st := s_Deed_eq) zl_Deed_eq zd_Deed_eq zk_Deed_eq, ⟨za_Deed_eq, zf_Deed_eq, zk_Deed_eq⟩, (fun_mk (st := s_Deed_eq) zl_Deed_eq zd_Deed_eq zk_Deed_eq).binds (ps := ["self", "other"]) fun _ _ _ _ _ _ us hl => match us, hl with | [_, _], _ => rfl⟩
    a_Deed_kind := yn_Deed_kind
    a_Deed_fuel := yn_Deed_fuel
    a_Deed_aim := yn_Deed_aim
    a_Deed_slips := yn_Deed_slips
    C_Craft := ⟨C_Craft, ⟨ypg_Craft, yhd_Craft, ypo_Craft, ysa_Craft⟩, PySem.W.mg_of X G ym_Craft, ykp_Craft, ymk_Craft⟩
    e_Craft := ⟨yne_Craft, yob_Craft, ycl_Craft, ygt_Craft, ytk_Craft⟩
    m_Craft_init := ⟨f_Craft_init, _, fun_mk (st := s_Craft_init) zl_Craft_init zd_Craft_init zk_Craft_init, ⟨za_Craft_init, zf_Craft_init, zk_Craft_init⟩, (fun_mk (st := s_Craft_init) zl_Craft_init zd_Craft_init zk_Craft_init).binds (ps := ["self", "skies", "foot", "room", "deeds"]) fun _ _ _ _ _ _ us hl => match us, hl with | [_, _, _, _, _], _ => rfl⟩
    m_Craft_eq := ⟨f_Craft_eq, _, fun_mk (st := s_Craft_eq) zl_Craft_eq zd_Craft_eq zk_Craft_eq, ⟨za_Craft_eq, zf_Craft_eq, zk_Craft_eq⟩, (fun_mk (st := s_Craft_eq) zl_Craft_eq zd_Craft_eq zk_Craft_eq).binds (ps := ["self", "other"]) fun _ _ _ _ _ _ us hl => match us, hl with | [_, _], _ => rfl⟩
    m_Craft_is_over := ⟨f_Craft_is_over, _, fun_mk (st := s_Craft_is_over) zl_Craft_is_over zd_Craft_is_over zk_Craft_is_over, ⟨za_Craft_is_over, zf_Craft_is_over, zk_Craft_is_over⟩, (fun_mk (st := s_Craft_is_over) zl_Craft_is_over zd_Craft_is_over zk_Craft_is_over).binds (ps := ["self", "standing"]) fun _ _ _ _ _ _ us hl => match us, hl with | [_, _], _ => rfl⟩
    m_Craft_is_safe := ⟨f_Craft_is_safe, _, fun_mk (st := s_Craft_is_safe) zl_Craft_is_safe zd_Craft_is_safe zk_Craft_is_safe, ⟨za_Craft_is_safe, zf_Craft_is_safe, zk_Craft_is_safe⟩, (fun_mk (st := s_Craft_is_safe) zl_Craft_is_safe zd_Craft_is_safe zk_Craft_is_safe).binds (ps := ["self", "standing"]) fun _ _ _ _ _ _ us hl => match us, hl with | [_, _], _ => rfl⟩
    m_Craft_cell_below := ⟨f_Craft_cell_below, _, fun_mk (st := s_Craft_cell_below) zl_Craft_cell_below zd_Craft_cell_below zk_Craft_cell_below, ⟨za_Craft_cell_below, zf_Craft_cell_below, zk_Craft_cell_below⟩, (fun_mk (st := s_Craft_cell_below) zl_Craft_cell_below zd_Craft_cell_below zk_Craft_cell_below).binds (ps := ["self", "standing"]) fun _ _ _ _ _ _ us hl => match us, hl with | [_, _], _ => rfl⟩
    m_Craft_stepped := ⟨f_Craft_stepped, _, fun_mk (st := s_Craft_stepped) zl_Craft_stepped zd_Craft_stepped zk_Craft_stepped, ⟨za_Craft_stepped, zf_Craft_stepped, zk_Craft_stepped⟩, (fun_mk (st := s_Craft_stepped) zl_Craft_stepped zd_Craft_stepped zk_Craft_stepped).binds (ps := ["self", "standing", "shift"]) fun _ _ _ _ _ _ us hl => match us, hl with | [_, _, _], _ => rfl⟩
    m_Craft_swung := ⟨f_Craft_swung, _, fun_mk (st := s_Craft_swung) zl_Craft_swung zd_Craft_swung zk_Craft_swung, ⟨za_Craft_swung, zf_Craft_swung, zk_Craft_swung⟩, (fun_mk (st := s_Craft_swung) zl_Craft_swung zd_Craft_swung zk_Craft_swung).binds (ps := ["self", "standing", "quarters"]) fun _ _ _ _ _ _ us hl => match us, hl with | [_, _, _], _ => rfl⟩
    a_Craft_skies := yn_Craft_skies
    a_Craft_foot := yn_Craft_foot
    a_Craft_room := yn_Craft_room
    a_Craft_deeds := yn_Craft_deeds } : Env K mg)⟩
theorem walk {l : PySem.W.OpenLaw} {q : Program} {loose : List Str} {XP : (Str → Option Value) → Heap → Prop} {YP : World → Heap → Prop} {d : DefRec} {K : Params → PySem.W.Frag} (hn : l.most = some 63) (hdf : d.params.defaults = [])
    (hY : ∀ (w : World) (h : Heap), YP w h → (K w.params).In h)
    (F : ∀ (w : World) (mg : Str → Option Value) (fa : Addr) (h : Heap), (K w.params).In h → h.Ns mainGlobals mg → mg d.name = some (.ref fa) →
      ∃ fd : FuncData, (∀ (s : Shared) (u : Value), BindsTo s fd ⟨[u], []⟩ [("script", u)]) ∧ ∀ base : Heap, (K w.params).In base → base.Ns mainGlobals mg → FnOk l.prog w (K w.params) mg base CX0 10 fa fd ["script"] (spL (K w.params))) :
    PySem.W.WalkO q loose XP YP l.row.toRowW d [] (fun f vs => PySem.call f vs) :=
  L2.walk_of (n := 63) (k := 10) (x := "script") (CX := fun _ => CX0) (sp := fun w => spL (K w.params)) hn (by decide) hdf ⟨rfl, by decide, by decide⟩ hY F (fun _ _ a ns hl _ hS => ⟨a, ns, rfl, hS, fun _ => rfl⟩) fun _ _ _ _ _ z => z
end My
open PySem PySem.W PyProof.Rows
set_option maxRecDepth 100000 in
set_option maxHeartbeats 0 in
theorem PySem.Challenge.cw_moonfall_k08_whole_ways_holds : PySem.Challenge.rw_moonfall_k08_whole_ways.Holds := by
  w_on; o_law; k_head; (case hw => w_witness2)
  k_fill
  refine My.walk (l := PySem.Challenge.rw_moonfall_k08_whole_ways) rfl rfl (fun w h Y => PySem.W.kIn_of Y) ?F
  case F =>
    intro w mg fa h KX G hmg
    refine' My.all_mk KX G hmg ?zn_abs ?zn_all ?zn_bool ?zn_enumerate ?zn_int ?zn_isinstance ?zn_len ?zn_list ?zn_max ?zn_range ?zn_set ?zn_sorted ?zn_str ?zn_tuple ?zn_zip ?zc_MOST_CRATERS ?zc_MOST_SIZE ?zc_FARTHEST ?zc_FARTHEST_STEP ?zq_CAMERA_BOUNDS ?zt_CAMERA_BOUNDS ?zt_CAMERA_BOUNDS_0 ?zt_CAMERA_BOUNDS_1 ?zt_CAMERA_BOUNDS_2 ?zt_CAMERA_BOUNDS_3 ?zt_CAMERA_BOUNDS_4 ?zc_MOST_STANDINGS ?zq_KINDS ?zt_KINDS ?zq_SLIPPING ?zt_SLIPPING ?zq_NO_SLIPS ?zt_NO_SLIPS ?zt_NO_SLIPS_0 ?zc_MOST_FUEL ?zc_MOST_CAMERA ?zc_MOST_ROOM ?za_is_whole ?zl_is_whole ?zd_is_whole ?zk_is_whole ?za_is_between ?zl_is_between ?zd_is_between ?zk_is_between ?za_is_triple ?zl_is_triple ?zd_is_triple ?zk_is_triple ?za_is_point ?zl_is_point ?zd_is_point ?zk_is_point ?za_is_crater ?zl_is_crater ?zd_is_crater ?zk_is_crater ?za_is_pair ?zl_is_pair ?zd_is_pair ?zk_is_pair ?za_is_turn ?zl_is_turn ?zd_is_turn ?zk_is_turn ?za_turned ?zl_turned ?zd_turned ?zk_turned ?za_are_turns ?zl_are_turns ?zd_are_turns ?zk_are_turns ?za_is_area ?zl_is_area ?zd_is_area ?zk_is_area ?za_ends_of ?zl_ends_of ?zd_ends_of ?zk_ends_of ?za_behind ?zl_behind ?zd_behind ?zk_behind ?za_is_kept ?zl_is_kept ?zd_is_kept ?zk_is_kept ?za_is_whole_at ?zl_is_whole_at ?zd_is_whole_at ?zk_is_whole_at ?za_is_end ?zl_is_end ?zd_is_end ?zk_is_end ?za_is_aim ?zl_is_aim ?zd_is_aim ?zk_is_aim ?za_are_slips ?zl_are_slips ?zd_are_slips ?zk_are_slips ?za_step ?zl_step ?zd_step ?zk_step ?za_turn ?zl_turn ?zd_turn ?zk_turn ?za_look ?zl_look ?zd_look ?zk_look ?za_land ?zl_land ?zd_land ?zk_land ?za_away ?zl_away ?zd_away ?zk_away ?za_are_skies ?zl_are_skies ?zd_are_skies ?zk_are_skies ?za_are_deeds ?zl_are_deeds ?zd_are_deeds ?zk_are_deeds ?za_law_number ?zl_law_number ?zd_law_number ?zk_law_number ?za_law_take ?zl_law_take ?zd_law_take ?zk_law_take ?za_law_pick ?zl_law_pick ?zd_law_pick ?zk_law_pick ?za_law_ground ?zl_law_ground ?zd_law_ground ?zk_law_ground ?za_law_camera ?zl_law_camera ?zd_law_camera ?zk_law_camera ?za_law_deeds ?zl_law_deeds ?zd_law_deeds ?zk_law_deeds ?za_law_craft ?zl_law_craft ?zd_law_craft ?zk_law_craft ?za_law_belief ?zl_law_belief ?zd_law_belief ?zk_law_belief ?za_law_view ?zl_law_view ?zd_law_view ?zk_law_view ?za_law_ends ?zl_law_ends ?zd_law_ends ?zk_law_ends ?za_law_whole ?zl_law_whole ?zd_law_whole ?zk_law_whole ?za_law ?zl_law ?zd_law ?zk_law ?ym_Ground ?ypg_Ground ?yhd_Ground ?ypo_Ground ?ysa_Ground ?ymk_Ground ?ykp_Ground ?yne_Ground ?yob_Ground ?ycl_Ground ?ygt_Ground ?ytk_Ground ?za_Ground_init ?zl_Ground_init ?zd_Ground_init ?zk_Ground_init ?zf_Ground_init ?za_Ground_eq ?zl_Ground_eq ?zd_Ground_eq ?zk_Ground_eq ?zf_Ground_eq ?yn_Ground_craters ?ym_Camera ?ypg_Camera ?yhd_Camera ?ypo_Camera ?ysa_Camera ?ymk_Camera ?ykp_Camera ?yne_Camera ?yob_Camera ?ycl_Camera ?ygt_Camera ?ytk_Camera ?za_Camera_init ?zl_Camera_init ?zd_Camera_init ?zk_Camera_init ?zf_Camera_init ?za_Camera_eq ?zl_Camera_eq ?zd_Camera_eq ?zk_Camera_eq ?zf_Camera_eq ?yn_Camera_width ?yn_Camera_height ?yn_Camera_error ?yn_Camera_false ?yn_Camera_lost ?ym_Sky ?ypg_Sky ?yhd_Sky ?ypo_Sky ?ysa_Sky ?ymk_Sky ?ykp_Sky ?yne_Sky ?yob_Sky ?ycl_Sky ?ygt_Sky ?ytk_Sky ?za_Sky_init ?zl_Sky_init ?zd_Sky_init ?zk_Sky_init ?zf_Sky_init ?za_Sky_eq ?zl_Sky_eq ?zd_Sky_eq ?zk_Sky_eq ?zf_Sky_eq ?za_Sky_standings ?zl_Sky_standings ?zd_Sky_standings ?zk_Sky_standings ?zf_Sky_standings ?za_Sky_is_standing ?zl_Sky_is_standing ?zd_Sky_is_standing ?zk_Sky_is_standing ?zf_Sky_is_standing ?za_Sky_place ?zl_Sky_place ?zd_Sky_place ?zk_Sky_place ?zf_Sky_place ?za_Sky_places ?zl_Sky_places ?zd_Sky_places ?zk_Sky_places ?zf_Sky_places ?yn_Sky_ground ?yn_Sky_camera ?yn_Sky_turns ?yn_Sky_area ?ym_Deed ?ypg_Deed ?yhd_Deed ?ypo_Deed ?ysa_Deed ?ymk_Deed ?ykp_Deed ?yne_Deed ?yob_Deed ?ycl_Deed ?ygt_Deed ?ytk_Deed ?za_Deed_init ?zl_Deed_init ?zd_Deed_init ?zk_Deed_init ?zf_Deed_init ?za_Deed_eq ?zl_Deed_eq ?zd_Deed_eq ?zk_Deed_eq ?zf_Deed_eq ?yn_Deed_kind ?yn_Deed_fuel ?yn_Deed_aim ?yn_Deed_slips ?ym_Craft ?ypg_Craft ?yhd_Craft ?ypo_Craft ?ysa_Craft ?ymk_Craft ?ykp_Craft ?yne_Craft ?yob_Craft ?ycl_Craft ?ygt_Craft ?ytk_Craft ?za_Craft_init ?zl_Craft_init ?zd_Craft_init ?zk_Craft_init ?zf_Craft_init ?za_Craft_eq ?zl_Craft_eq ?zd_Craft_eq ?zk_Craft_eq ?zf_Craft_eq ?za_Craft_is_over ?zl_Craft_is_over ?zd_Craft_is_over ?zk_Craft_is_over ?zf_Craft_is_over ?za_Craft_is_safe ?zl_Craft_is_safe ?zd_Craft_is_safe ?zk_Craft_is_safe ?zf_Craft_is_safe ?za_Craft_cell_below ?zl_Craft_cell_below ?zd_Craft_cell_below ?zk_Craft_cell_below ?zf_Craft_cell_below ?za_Craft_stepped ?zl_Craft_stepped ?zd_Craft_stepped ?zk_Craft_stepped ?zf_Craft_stepped ?za_Craft_swung ?zl_Craft_swung ?zd_Craft_swung ?zk_Craft_swung ?zf_Craft_swung ?yn_Craft_skies ?yn_Craft_foot ?yn_Craft_room ?yn_Craft_deeds
    (case zn_abs => k_is)
    (case zn_all => k_is)
    (case zn_bool => k_is)
    (case zn_enumerate => k_is)
    (case zn_int => k_is)
    (case zn_isinstance => k_is)
    (case zn_len => k_is)
    (case zn_list => k_is)
    (case zn_max => k_is)
    (case zn_range => k_is)
    (case zn_set => k_is)
    (case zn_sorted => k_is)
    (case zn_str => k_is)
    (case zn_tuple => k_is)
    (case zn_zip => k_is)
    (case zc_MOST_CRATERS => k_is)
    (case zc_MOST_SIZE => k_is)
    (case zc_FARTHEST => k_is)
    (case zc_FARTHEST_STEP => k_is)
    (case zq_CAMERA_BOUNDS => k_is)
    (case zt_CAMERA_BOUNDS => k_is)
    (case zt_CAMERA_BOUNDS_0 => k_is)
    (case zt_CAMERA_BOUNDS_1 => k_is)
    (case zt_CAMERA_BOUNDS_2 => k_is)
    (case zt_CAMERA_BOUNDS_3 => k_is)
    (case zt_CAMERA_BOUNDS_4 => k_is)
    (case zc_MOST_STANDINGS => k_is)
    (case zq_KINDS => k_is)
    (case zt_KINDS => k_is)
    (case zq_SLIPPING => k_is)
    (case zt_SLIPPING => k_is)
    (case zq_NO_SLIPS => k_is)
    (case zt_NO_SLIPS => k_is)
    (case zt_NO_SLIPS_0 => k_is)
    (case zc_MOST_FUEL => k_is)
    (case zc_MOST_CAMERA => k_is)
    (case zc_MOST_ROOM => k_is)
    (case za_is_whole => k_is)
    (case zl_is_whole => k_is)
    (case zd_is_whole => k_is)
    (case zk_is_whole => k_is)
    (case za_is_between => k_is)
    (case zl_is_between => k_is)
    (case zd_is_between => k_is)
    (case zk_is_between => k_is)
    (case za_is_triple => k_is)
    (case zl_is_triple => k_is)
    (case zd_is_triple => k_is)
    (case zk_is_triple => k_is)
    (case za_is_point => k_is)
    (case zl_is_point => k_is)
    (case zd_is_point => k_is)
    (case zk_is_point => k_is)
    (case za_is_crater => k_is)
    (case zl_is_crater => k_is)
    (case zd_is_crater => k_is)
    (case zk_is_crater => k_is)
    (case za_is_pair => k_is)
    (case zl_is_pair => k_is)
    (case zd_is_pair => k_is)
    (case zk_is_pair => k_is)
    (case za_is_turn => k_is)
    (case zl_is_turn => k_is)
    (case zd_is_turn => k_is)
    (case zk_is_turn => k_is)
    (case za_turned => k_is)
    (case zl_turned => k_is)
    (case zd_turned => k_is)
    (case zk_turned => k_is)
    (case za_are_turns => k_is)
    (case zl_are_turns => k_is)
    (case zd_are_turns => k_is)
    (case zk_are_turns => k_is)
    (case za_is_area => k_is)
    (case zl_is_area => k_is)
    (case zd_is_area => k_is)
    (case zk_is_area => k_is)
    (case za_ends_of => k_is)
    (case zl_ends_of => k_is)
    (case zd_ends_of => k_is)
    (case zk_ends_of => k_is)
    (case za_behind => k_is)
    (case zl_behind => k_is)
    (case zd_behind => k_is)
    (case zk_behind => k_is)
    (case za_is_kept => k_is)
    (case zl_is_kept => k_is)
    (case zd_is_kept => k_is)
    (case zk_is_kept => k_is)
    (case za_is_whole_at => k_is)
    (case zl_is_whole_at => k_is)
    (case zd_is_whole_at => k_is)
    (case zk_is_whole_at => k_is)
    (case za_is_end => k_is)
    (case zl_is_end => k_is)
    (case zd_is_end => k_is)
    (case zk_is_end => k_is)
    (case za_is_aim => k_is)
    (case zl_is_aim => k_is)
    (case zd_is_aim => k_is)
    (case zk_is_aim => k_is)
    (case za_are_slips => k_is)
    (case zl_are_slips => k_is)
    (case zd_are_slips => k_is)
    (case zk_are_slips => k_is)
    (case za_step => k_is)
    (case zl_step => k_is)
    (case zd_step => k_is)
    (case zk_step => k_is)
    (case za_turn => k_is)
    (case zl_turn => k_is)
    (case zd_turn => k_is)
    (case zk_turn => k_is)
    (case za_look => k_is)
    (case zl_look => k_is)
    (case zd_look => k_is)
    (case zk_look => k_is)
    (case za_land => k_is)
    (case zl_land => k_is)
    (case zd_land => k_is)
    (case zk_land => k_is)
    (case za_away => k_is)
    (case zl_away => k_is)
    (case zd_away => k_is)
    (case zk_away => k_is)
    (case za_are_skies => k_is)
    (case zl_are_skies => k_is)
    (case zd_are_skies => k_is)
    (case zk_are_skies => k_is)
    (case za_are_deeds => k_is)
    (case zl_are_deeds => k_is)
    (case zd_are_deeds => k_is)
    (case zk_are_deeds => k_is)
    (case za_law_number => k_is)
    (case zl_law_number => k_is)
    (case zd_law_number => k_is)
    (case zk_law_number => k_is)
    (case za_law_take => k_is)
    (case zl_law_take => k_is)
    (case zd_law_take => k_is)
    (case zk_law_take => k_is)
    (case za_law_pick => k_is)
    (case zl_law_pick => k_is)
    (case zd_law_pick => k_is)
    (case zk_law_pick => k_is)
    (case za_law_ground => k_is)
    (case zl_law_ground => k_is)
    (case zd_law_ground => k_is)
    (case zk_law_ground => k_is)
    (case za_law_camera => k_is)
    (case zl_law_camera => k_is)
    (case zd_law_camera => k_is)
    (case zk_law_camera => k_is)
    (case za_law_deeds => k_is)
    (case zl_law_deeds => k_is)
    (case zd_law_deeds => k_is)
    (case zk_law_deeds => k_is)
    (case za_law_craft => k_is)
    (case zl_law_craft => k_is)
    (case zd_law_craft => k_is)
    (case zk_law_craft => k_is)
    (case za_law_belief => k_is)
    (case zl_law_belief => k_is)
    (case zd_law_belief => k_is)
    (case zk_law_belief => k_is)
    (case za_law_view => k_is)
    (case zl_law_view => k_is)
    (case zd_law_view => k_is)
    (case zk_law_view => k_is)
    (case za_law_ends => k_is)
    (case zl_law_ends => k_is)
    (case zd_law_ends => k_is)
    (case zk_law_ends => k_is)
    (case za_law_whole => k_is)
    (case zl_law_whole => k_is)
    (case zd_law_whole => k_is)
    (case zk_law_whole => k_is)
    (case za_law => k_is)
    (case zl_law => k_is)
    (case zd_law => k_is)
    (case zk_law => k_is)
    (case ym_Ground => k_is)
    (case ypg_Ground => k_is)
    (case yhd_Ground => k_is)
    (case ypo_Ground => k_is)
    (case ysa_Ground => k_is)
    (case ymk_Ground => k_is)
    (case ykp_Ground => k_is)
    (case yne_Ground => k_is)
    (case yob_Ground => k_is)
    (case ycl_Ground => k_is)
    (case ygt_Ground => k_is)
    (case ytk_Ground => k_is)
    (case za_Ground_init => k_is)
    (case zl_Ground_init => k_is)
    (case zd_Ground_init => k_is)
    (case zk_Ground_init => k_is)
    (case zf_Ground_init => k_is)
    (case za_Ground_eq => k_is)
    (case zl_Ground_eq => k_is)
    (case zd_Ground_eq => k_is)
    (case zk_Ground_eq => k_is)
    (case zf_Ground_eq => k_is)
    (case yn_Ground_craters => k_is)
    (case ym_Camera => k_is)
    (case ypg_Camera => k_is)
    (case yhd_Camera => k_is)
    (case ypo_Camera => k_is)
    (case ysa_Camera => k_is)
    (case ymk_Camera => k_is)
    (case ykp_Camera => k_is)
    (case yne_Camera => k_is)
    (case yob_Camera => k_is)
    (case ycl_Camera => k_is)
    (case ygt_Camera => k_is)
    (case ytk_Camera => k_is)
    (case za_Camera_init => k_is)
    (case zl_Camera_init => k_is)
    (case zd_Camera_init => k_is)
    (case zk_Camera_init => k_is)
    (case zf_Camera_init => k_is)
    (case za_Camera_eq => k_is)
    (case zl_Camera_eq => k_is)
    (case zd_Camera_eq => k_is)
    (case zk_Camera_eq => k_is)
    (case zf_Camera_eq => k_is)
    (case yn_Camera_width => k_is)
    (case yn_Camera_height => k_is)
    (case yn_Camera_error => k_is)
    (case yn_Camera_false => k_is)
    (case yn_Camera_lost => k_is)
    (case ym_Sky => k_is)
    (case ypg_Sky => k_is)
    (case yhd_Sky => k_is)
    (case ypo_Sky => k_is)
    (case ysa_Sky => k_is)
    (case ymk_Sky => k_is)
    (case ykp_Sky => k_is)
    (case yne_Sky => k_is)
    (case yob_Sky => k_is)
    (case ycl_Sky => k_is)
    (case ygt_Sky => k_is)
    (case ytk_Sky => k_is)
    (case za_Sky_init => k_is)
    (case zl_Sky_init => k_is)
    (case zd_Sky_init => k_is)
    (case zk_Sky_init => k_is)
    (case zf_Sky_init => k_is)
    (case za_Sky_eq => k_is)
    (case zl_Sky_eq => k_is)
    (case zd_Sky_eq => k_is)
    (case zk_Sky_eq => k_is)
    (case zf_Sky_eq => k_is)
    (case za_Sky_standings => k_is)
    (case zl_Sky_standings => k_is)
    (case zd_Sky_standings => k_is)
    (case zk_Sky_standings => k_is)
    (case zf_Sky_standings => k_is)
    (case za_Sky_is_standing => k_is)
    (case zl_Sky_is_standing => k_is)
    (case zd_Sky_is_standing => k_is)
    (case zk_Sky_is_standing => k_is)
    (case zf_Sky_is_standing => k_is)
    (case za_Sky_place => k_is)
    (case zl_Sky_place => k_is)
    (case zd_Sky_place => k_is)
    (case zk_Sky_place => k_is)
    (case zf_Sky_place => k_is)
    (case za_Sky_places => k_is)
    (case zl_Sky_places => k_is)
    (case zd_Sky_places => k_is)
    (case zk_Sky_places => k_is)
    (case zf_Sky_places => k_is)
    (case yn_Sky_ground => k_is)
    (case yn_Sky_camera => k_is)
    (case yn_Sky_turns => k_is)
    (case yn_Sky_area => k_is)
    (case ym_Deed => k_is)
    (case ypg_Deed => k_is)
    (case yhd_Deed => k_is)
    (case ypo_Deed => k_is)
    (case ysa_Deed => k_is)
    (case ymk_Deed => k_is)
    (case ykp_Deed => k_is)
    (case yne_Deed => k_is)
    (case yob_Deed => k_is)
    (case ycl_Deed => k_is)
    (case ygt_Deed => k_is)
    (case ytk_Deed => k_is)
    (case za_Deed_init => k_is)
    (case zl_Deed_init => k_is)
    (case zd_Deed_init => k_is)
    (case zk_Deed_init => k_is)
    (case zf_Deed_init => k_is)
    (case za_Deed_eq => k_is)
    (case zl_Deed_eq => k_is)
    (case zd_Deed_eq => k_is)
    (case zk_Deed_eq => k_is)
    (case zf_Deed_eq => k_is)
    (case yn_Deed_kind => k_is)
    (case yn_Deed_fuel => k_is)
    (case yn_Deed_aim => k_is)
    (case yn_Deed_slips => k_is)
    (case ym_Craft => k_is)
    (case ypg_Craft => k_is)
    (case yhd_Craft => k_is)
    (case ypo_Craft => k_is)
    (case ysa_Craft => k_is)
    (case ymk_Craft => k_is)
    (case ykp_Craft => k_is)
    (case yne_Craft => k_is)
    (case yob_Craft => k_is)
    (case ycl_Craft => k_is)
    (case ygt_Craft => k_is)
    (case ytk_Craft => k_is)
    (case za_Craft_init => k_is)
    (case zl_Craft_init => k_is)
    (case zd_Craft_init => k_is)
    (case zk_Craft_init => k_is)
    (case zf_Craft_init => k_is)
    (case za_Craft_eq => k_is)
    (case zl_Craft_eq => k_is)
    (case zd_Craft_eq => k_is)
    (case zk_Craft_eq => k_is)
    (case zf_Craft_eq => k_is)
    (case za_Craft_is_over => k_is)
    (case zl_Craft_is_over => k_is)
    (case zd_Craft_is_over => k_is)
    (case zk_Craft_is_over => k_is)
    (case zf_Craft_is_over => k_is)
    (case za_Craft_is_safe => k_is)
    (case zl_Craft_is_safe => k_is)
    (case zd_Craft_is_safe => k_is)
    (case zk_Craft_is_safe => k_is)
    (case zf_Craft_is_safe => k_is)
    (case za_Craft_cell_below => k_is)
    (case zl_Craft_cell_below => k_is)
    (case zd_Craft_cell_below => k_is)
    (case zk_Craft_cell_below => k_is)
    (case zf_Craft_cell_below => k_is)
    (case za_Craft_stepped => k_is)
    (case zl_Craft_stepped => k_is)
    (case zd_Craft_stepped => k_is)
    (case zk_Craft_stepped => k_is)
    (case zf_Craft_stepped => k_is)
    (case za_Craft_swung => k_is)
    (case zl_Craft_swung => k_is)
    (case zd_Craft_swung => k_is)
    (case zk_Craft_swung => k_is)
    (case zf_Craft_swung => k_is)
    (case yn_Craft_skies => k_is)
    (case yn_Craft_foot => k_is)
    (case yn_Craft_room => k_is)
    (case yn_Craft_deeds => k_is)

