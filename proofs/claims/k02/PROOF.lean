import PyProof.Rows.All
import Wide.All
import OpenK.AllK
import Wide.FinOn
import HandS.ForExc
import HandS.Comp
import HandS.Zip
import PyProof.EnumIter
import HandS.Rev
import HandS.Text
import HandS.EndBits
import HandS.Wide
import HandS.Defaults
import HandS.IsInst
import HandS.Style
import HandS.Flow
import HandS.GenBody
import HandS.GenYield
import HandS.GenCall
import HandS.GenList
import HandS.WideBits
import PySem.Challenge.RW_alreadytold_k02_whole_wires_and_fillings
import HandS.More
import KE.DataEq
set_option Elab.async false
set_option linter.all false
set_option maxRecDepth 100000
set_option maxHeartbeats 4000000
/-! zip of two things, each a list or a tuple: of one's own, for lists and tuples side by side -/
namespace Y00
open PySem L2
/-- a tuple (true) or a list (false) -/
def Sq (t : Bool) (h : Heap) (l : Addr) (q : Array Value) : Prop := bif t then h.IsTuple l q else h.IsList l q
/-- its walker -/
def Sw (t : Bool) (h : Heap) (v l : Addr) (i : Nat) : Prop := bif t then h.IsTupleIter v l i else h.IsListIter v l i
theorem Sq.but {t : Bool} {h h' : Heap} {l b : Addr} {q : Array Value} (x : Sq t h l q) (e : Heap.ExtBut b h h') (n : l ≠ b) : Sq t h' l q := by
  cases t
  · exact Heap.IsList.extBut (show h.IsList l q from x) e n
  · exact Heap.IsTuple.extBut (show h.IsTuple l q from x) e n
theorem Sw.but {t : Bool} {h h' : Heap} {v l b : Addr} {i : Nat} (x : Sw t h v l i) (e : Heap.ExtBut b h h') (n : v ≠ b) : Sw t h' v l i := by
  cases t
  · exact Heap.IsListIter.extBut (show h.IsListIter v l i from x) e n
  · exact Heap.IsTupleIter.extBut (show h.IsTupleIter v l i from x) e n
theorem Sw.at {t : Bool} {h h' : Heap} {v l : Addr} {i : Nat} (x : Sw t h v l i) (e : ∀ o, h.get? v = some o → h'.get? v = some o) : Sw t h' v l i := by
  cases t
  · exact Heap.IsListIter.at (show h.IsListIter v l i from x) e
  · exact Heap.IsTupleIter.at (show h.IsTupleIter v l i from x) e
theorem Sw.ex {t : Bool} {h : Heap} {v l : Addr} {i : Nat} (x : Sw t h v l i) : ∃ (o : Obj) (vs : Array Value), h.get? v = some o ∧ o.data = .fields vs := by
  cases t
  · obtain ⟨o, e, _, d⟩ := (show h.IsListIter v l i from x); exact ⟨o, _, e, d⟩
  · obtain ⟨o, e, _, d⟩ := (show h.IsTupleIter v l i from x); exact ⟨o, _, e, d⟩
section
variable {prog : Program} {w : World} {A : Around} {E : Value → Shared → Prop} {s : Shared}
theorem nx_item {t : Bool} {v l : Addr} {i : Nat} {q : Array Value} {x : Value} {Q : Value → Shared → Prop} (hv : Sw t s.heap v l i) (hl : Sq t s.heap l q) (hx : q[i]? = some x)
    (hQ : ∀ h', Sw t h' v l (i + 1) → Heap.SameBut v s.heap h' → Q x { s with heap := h' }) : wpAny (model prog w) A (Builtin.SmallTypes.nextOf (.ref v)) Q E s := by
  cases t
  · exact wpAny_nextOf_list_item (show s.heap.IsListIter v l i from hv) (show s.heap.IsList l q from hl) hx hQ
  · exact RZ.nextOf_tuple_item (show s.heap.IsTupleIter v l i from hv) (show s.heap.IsTuple l q from hl) hx hQ
theorem nx_end {t : Bool} {v l : Addr} {i : Nat} {q : Array Value} {Q : Value → Shared → Prop} (hh : A.handled = none) (hv : Sw t s.heap v l i) (hl : Sq t s.heap l q) (hx : q[i]? = none)
    (hE : ∀ h' e, Heap.ExtBut v s.heap h' → (∃ o, h'.get? e = some o ∧ o.cls = .type "StopIteration") → E (.ref e) { s with heap := h' }) : wpAny (model prog w) A (Builtin.SmallTypes.nextOf (.ref v)) Q E s := by
  cases t
  · exact wpAny_nextOf_list_end hh (show s.heap.IsListIter v l i from hv) (show s.heap.IsList l q from hl) hx hE
  · exact RZ.nextOf_tuple_end hh (show s.heap.IsTupleIter v l i from hv) (show s.heap.IsTuple l q from hl) hx hE
end
end Y00
set_option Elab.async false
set_option linter.all false
set_option maxRecDepth 100000
set_option maxHeartbeats 4000000
namespace Y00
open PySem L2
section
variable {prog : Program} {w : World} {A : Around} {E : Value → Shared → Prop} {s : Shared}
theorem zn_item {tl tm : Bool} {Z U V p q l m : Addr} {i j : Nat} {as bs : Array Value} {x y x0 y0 : Value} {Q : Value → Shared → Prop} (D : ZipApart Z U V p q l m)
    (eZ : IsZip s.heap Z U V .none) (eU : IsPair s.heap U (.ref p) (.ref q)) (eV : IsPair s.heap V x0 y0) (wp : Sw tl s.heap p l i) (wq : Sw tm s.heap q m j) (sl : Sq tl s.heap l as) (sm : Sq tm s.heap m bs) (gx : as[i]? = some x) (gy : bs[j]? = some y)
    (k : ∀ h', IsZip h' Z U V (rawInt s.heap.objs.size) → IsPair h' V x y → Sw tl h' p l (i + 1) → Sw tm h' q m (j + 1) → IsPair h' s.heap.objs.size x y → h'.objs.size = s.heap.objs.size + 1 →
      (∀ c o, c ≠ Z → c ≠ V → c ≠ p → c ≠ q → s.heap.get? c = some o → h'.get? c = some o) → Q (.ref s.heap.objs.size) { s with heap := h' }) :
    wpAny (model prog w) A (Builtin.«zip.__next__» ⟨[.ref Z], []⟩) (fun fin s' => ∃ v, fin = .done (.ret v) ∧ Q v s') E s := by
  show wpAny _ _ (field (.ref Z) 2 >>= _) _ _ _
  refine wpAny_bind (wpAny_field eZ rfl (x := .bool false) rfl ?_)
  show wpAny _ _ (field (.ref Z) 3 >>= _) _ _ _
  refine wpAny_bind (wpAny_field eZ rfl (x := .ref U) rfl (wpAny_bind (wpAny_seqItems eU rfl ?_)))
  show wpAny _ _ (Builtin.SmallTypes.ownedTupleIsFree (.ref Z) >>= _) _ _ _
  refine wpAny_bind ?_; unfold Builtin.SmallTypes.ownedTupleIsFree
  refine wpAny_bind (wpAny_field eZ rfl (x := .none) rfl (wpAny_pure ?_)); simp only [if_true]
  refine wpAny_bind (wpAny_rule (wpAny_bind (wpAny_field eZ rfl (x := .ref V) rfl ?_)))
  refine wpAny_bind (wpAny_setField_rec eZ (by simp) fun g1 Z1 b1 => ?_)
  have Z1 : IsZip g1 Z U V .ellipsis := Z1
  refine wpAny_bind ?_; simp only [List.zipIdx_cons, List.zipIdx_nil, List.forIn_cons, List.forIn_nil]
  refine wpAny_bind (wpAny_bind (wpAny_onRaise ?_)); show wpAny _ _ (Builtin.SmallTypes.nextOf (.ref p) >>= _) _ _ _
  refine wpAny_bind (nx_item (wp.but b1.extBut D.i1z) (sl.but b1.extBut D.l1z) gx fun g2 p2 b2 => wpAny_pure ?_)
  have V2 : IsPair g2 V x0 y0 := b2.extBut _ _ D.TOi1 (b1.extBut _ _ D.TOz eV)
  refine wpAny_bind (wpAny_seqItems V2 rfl (wpAny_bind (wpAny_updateSeq_pair V2 fun g3 V3 b3 => ?_)))
  have V3 : IsPair g3 V x y0 := V3
  refine wpAny_bind (wpAny_letGo (wpAny_pure (wpAny_bind (wpAny_bind (wpAny_onRaise ?_)))))
  show wpAny _ _ (Builtin.SmallTypes.nextOf (.ref q) >>= _) _ _ _
  refine wpAny_bind (nx_item (((wq.but b1.extBut D.i2z).but b2.extBut D.i12.symm).but b3.extBut D.TOi2.symm) (((sm.but b1.extBut D.l2z).but b2.extBut D.l2i1).but b3.extBut D.l2TO) gy fun g4 q4 b4 => wpAny_pure ?_)
  have V4 : IsPair g4 V x y0 := b4.extBut _ _ D.TOi2 V3
  refine wpAny_bind (wpAny_seqItems V4 rfl (wpAny_bind (wpAny_updateSeq_pair V4 fun g5 V5 b5 => ?_)))
  have V5 : IsPair g5 V x y := V5
  refine wpAny_bind (wpAny_letGo (wpAny_pure (wpAny_pure (wpAny_bind (wpAny_seqItems V5 rfl (wpAny_bind (wpAny_newTuple ?_)))))))
  have z5 : g5.objs.size = s.heap.objs.size := by rw [b5.1, b4.1, b3.1, b2.1, b1.1]
  have Z5 : IsZip g5 Z U V .ellipsis := b5.extBut _ _ D.TOz.symm (b4.extBut _ _ D.i2z.symm (b3.extBut _ _ D.TOz.symm (b2.extBut _ _ D.i1z.symm Z1)))
  have r5 : ∀ c o, c ≠ Z → c ≠ V → c ≠ p → c ≠ q → s.heap.get? c = some o → g5.get? c = some o := fun c o n1 n2 n3 n4 e => b5.extBut _ _ n2 (b4.extBut _ _ n4 (b3.extBut _ _ n2 (b2.extBut _ _ n3 (b1.extBut _ _ n1 e))))
  have p5 : Sw tl g5 p l (i + 1) := ((p2.but b3.extBut D.TOi1.symm).but b4.extBut D.i12).but b5.extBut D.TOi1.symm
  have q5 : Sw tm g5 q m (j + 1) := q4.but b5.extBut D.TOi2.symm
  have lZ : Z < g5.objs.size := Heap.lt_size Z5
  have lV : V < g5.objs.size := Heap.lt_size V5
  show wpAny _ _ (Builtin.SmallTypes.ownedTupleHandOut (.ref Z) (.ref g5.objs.size) >>= _) _ _ _
  refine wpAny_bind ?_; unfold Builtin.SmallTypes.ownedTupleHandOut
  have Z6 : IsZip (g5.push { cls := .type "tuple", data := .seq #[x, y] }) Z U V .ellipsis := Heap.get?_push_of_some _ Z5
  refine wpAny_bind (wpAny_setField_rec Z6 (by simp) fun g7 Z7 b7 => ?_)
  have Z7 : IsZip g7 Z U V (rawInt g5.objs.size) := Z7
  refine wpAny_setField_rec Z7 (by simp) fun g8 Z8 b8 => ?_
  have Z8 : IsZip g8 Z U V (rawInt g5.objs.size) := Z8
  have up : ∀ c o, c ≠ Z → g5.get? c = some o → g8.get? c = some o := fun c o n1 e => b8.extBut _ _ n1 (b7.extBut _ _ n1 (Heap.get?_push_of_some _ e))
  have T8 : IsPair g8 g5.objs.size x y := b8.extBut _ _ (Nat.ne_of_gt lZ) (b7.extBut _ _ (Nat.ne_of_gt lZ) (Heap.get?_push_size _ rfl))
  have z8 : g8.objs.size = g5.objs.size + 1 := by rw [b8.1, b7.1, Heap.size_push]
  rw [z5] at Z8 T8 z8
  refine wpAny_pure ⟨_, rfl, ?_⟩
  show Q (.ref g5.objs.size) _; rw [z5]
  exact k g8 Z8 (up _ _ D.TOz V5) (p5.at fun o e => up _ o D.i1z e) (q5.at fun o e => up _ o D.i2z e) T8 z8 fun c o n1 n2 n3 n4 e => up c o n1 (r5 c o n1 n2 n3 n4 e)
theorem zn_end {tl tm : Bool} {Z U V p q l m : Addr} {i j : Nat} {as bs : Array Value} {x0 y0 : Value} {Q : Fin → Shared → Prop} (hh : A.handled = none) (D : ZipApart Z U V p q l m)
    (eZ : IsZip s.heap Z U V .none) (eU : IsPair s.heap U (.ref p) (.ref q)) (eV : IsPair s.heap V x0 y0) (wp : Sw tl s.heap p l i) (wq : Sw tm s.heap q m j) (sl : Sq tl s.heap l as) (sm : Sq tm s.heap m bs) (ge : as[i]? = none ∨ bs[j]? = none)
    (k : ∀ h' e, (∀ c o, c ≠ Z → c ≠ V → c ≠ p → c ≠ q → s.heap.get? c = some o → h'.get? c = some o) → (∃ o, h'.get? e = some o ∧ o.cls = .type "StopIteration") → E (.ref e) { s with heap := h' }) :
    wpAny (model prog w) A (Builtin.«zip.__next__» ⟨[.ref Z], []⟩) Q E s := by
  show wpAny _ _ (field (.ref Z) 2 >>= _) _ _ _
  refine wpAny_bind (wpAny_field eZ rfl (x := .bool false) rfl ?_)
  show wpAny _ _ (field (.ref Z) 3 >>= _) _ _ _
  refine wpAny_bind (wpAny_field eZ rfl (x := .ref U) rfl (wpAny_bind (wpAny_seqItems eU rfl ?_)))
  show wpAny _ _ (Builtin.SmallTypes.ownedTupleIsFree (.ref Z) >>= _) _ _ _
  refine wpAny_bind ?_; unfold Builtin.SmallTypes.ownedTupleIsFree
  refine wpAny_bind (wpAny_field eZ rfl (x := .none) rfl (wpAny_pure ?_)); simp only [if_true]
  refine wpAny_bind (wpAny_rule (wpAny_bind (wpAny_field eZ rfl (x := .ref V) rfl ?_)))
  refine wpAny_bind (wpAny_setField_rec eZ (by simp) fun g1 Z1 b1 => ?_)
  have Z1 : IsZip g1 Z U V .ellipsis := Z1
  refine wpAny_bind ?_; simp only [List.zipIdx_cons, List.zipIdx_nil, List.forIn_cons, List.forIn_nil]
  refine wpAny_bind (wpAny_bind (wpAny_onRaise ?_)); show wpAny _ _ (Builtin.SmallTypes.nextOf (.ref p) >>= _) _ _ _
  cases gx : as[i]? with
  | none =>
    refine wpAny_bind (nx_end hh (wp.but b1.extBut D.i1z) (sl.but b1.extBut D.l1z) gx fun g2 e b2 he => ?_)
    obtain ⟨oe, he, ce⟩ := he
    have Z2 : IsZip g2 Z U V .ellipsis := b2 _ _ D.i1z.symm Z1
    have ne : e ≠ Z := fun x => by subst x; rw [Z2] at he; cases he; simp at ce
    refine wpAny_setField_rec Z2 (by simp) fun g3 _ b3 => k g3 e (fun c o n1 _ n3 _ x => b3.extBut _ _ n1 (b2 _ _ n3 (b1.extBut _ _ n1 x))) ⟨oe, b3.extBut _ _ ne he, ce⟩
  | some x =>
    have gy : bs[j]? = none := by rcases ge with z | z; rw [gx] at z; cases z; exact z
    refine wpAny_bind (nx_item (wp.but b1.extBut D.i1z) (sl.but b1.extBut D.l1z) gx fun g2 p2 b2 => wpAny_pure ?_)
    have V2 : IsPair g2 V x0 y0 := b2.extBut _ _ D.TOi1 (b1.extBut _ _ D.TOz eV)
    refine wpAny_bind (wpAny_seqItems V2 rfl (wpAny_bind (wpAny_updateSeq_pair V2 fun g3 V3 b3 => ?_)))
    refine wpAny_bind (wpAny_letGo (wpAny_pure (wpAny_bind (wpAny_bind (wpAny_onRaise ?_)))))
    show wpAny _ _ (Builtin.SmallTypes.nextOf (.ref q) >>= _) _ _ _
    refine wpAny_bind (nx_end hh (((wq.but b1.extBut D.i2z).but b2.extBut D.i12.symm).but b3.extBut D.TOi2.symm) (((sm.but b1.extBut D.l2z).but b2.extBut D.l2i1).but b3.extBut D.l2TO) gy fun g4 e b4 he => ?_)
    obtain ⟨oe, he, ce⟩ := he
    have Z4 : IsZip g4 Z U V .ellipsis := b4 _ _ D.i2z.symm (b3.extBut _ _ D.TOz.symm (b2.extBut _ _ D.i1z.symm Z1))
    have ne : e ≠ Z := fun x => by subst x; rw [Z4] at he; cases he; simp at ce
    refine wpAny_setField_rec Z4 (by simp) fun g5 _ b5 => k g5 e (fun c o n1 n2 n3 n4 x => b5.extBut _ _ n1 (b4 _ _ n4 (b3.extBut _ _ n2 (b2.extBut _ _ n3 (b1.extBut _ _ n1 x))))) ⟨oe, b5.extBut _ _ ne he, ce⟩
theorem pn_item {tl tm : Bool} {Z U V p q l m : Addr} {i j : Nat} {as bs : Array Value} {x y x0 y0 : Value} {Q : Option Value → Shared → Prop} (D : ZipApart Z U V p q l m)
    (eZ : IsZip s.heap Z U V .none) (eU : IsPair s.heap U (.ref p) (.ref q)) (eV : IsPair s.heap V x0 y0) (wp : Sw tl s.heap p l i) (wq : Sw tm s.heap q m j) (sl : Sq tl s.heap l as) (sm : Sq tm s.heap m bs) (gx : as[i]? = some x) (gy : bs[j]? = some y)
    (k : ∀ h', IsZip h' Z U V (rawInt s.heap.objs.size) → IsPair h' V x y → Sw tl h' p l (i + 1) → Sw tm h' q m (j + 1) → IsPair h' s.heap.objs.size x y → h'.objs.size = s.heap.objs.size + 1 →
      (∀ c o, c ≠ Z → c ≠ V → c ≠ p → c ≠ q → s.heap.get? c = some o → h'.get? c = some o) → Q (some (.ref s.heap.objs.size)) { s with heap := h' }) : wpAny (model prog w) A (pyNext (.ref Z)) Q E s := by
  have ty : s.TypeIs (.ref Z) "zip" := ⟨_, eZ, rfl⟩
  unfold pyNext
  exact wpAny_bind (wpAny_attempt (wpAny_callSpecial?_slot (name := Str.ofString "__next__") ty F.slot_zip_next (wpAny_call_entry F.slot_zip_next ty F.entry_zip_next
    (zn_item D eZ eU eV wp wq sl sm gx gy fun h' a b c d e f g => wpAny_pure (k h' a b c d e f g)) (F.args_zip_next_1 _))))
theorem pn_end {tl tm : Bool} {Z U V p q l m : Addr} {i j : Nat} {as bs : Array Value} {x0 y0 : Value} {Q : Option Value → Shared → Prop} (hh : A.handled = none) (D : ZipApart Z U V p q l m)
    (eZ : IsZip s.heap Z U V .none) (eU : IsPair s.heap U (.ref p) (.ref q)) (eV : IsPair s.heap V x0 y0) (wp : Sw tl s.heap p l i) (wq : Sw tm s.heap q m j) (sl : Sq tl s.heap l as) (sm : Sq tm s.heap m bs) (ge : as[i]? = none ∨ bs[j]? = none)
    (k : ∀ h', (∀ c o, c ≠ Z → c ≠ V → c ≠ p → c ≠ q → s.heap.get? c = some o → h'.get? c = some o) → Q none { s with heap := h' }) : wpAny (model prog w) A (pyNext (.ref Z)) Q E s := by
  have ty : s.TypeIs (.ref Z) "zip" := ⟨_, eZ, rfl⟩
  unfold pyNext
  refine wpAny_bind (wpAny_attempt (wpAny_callSpecial?_slot (name := Str.ofString "__next__") ty F.slot_zip_next (wpAny_call_entry F.slot_zip_next ty F.entry_zip_next
    (zn_end hh D eZ eU eV wp wq sl sm ge fun h' e r he => ?_) (F.args_zip_next_1 _))))
  obtain ⟨o, ho, hc⟩ := he
  exact wpAny_bind (wpAny_isInstance (T := "StopIteration") (b := true) ⟨o, ho, hc⟩ isSubtype_stop (wpAny_pure (k _ r)))
end
/-- the walker that iter(l) makes -/
def swObj (t : Bool) (l : Addr) : Obj := { cls := .type (bif t then "tuple_iterator" else "list_iterator"), data := .fields #[.ref l, .int 0 0] }
theorem sw_at {t : Bool} {h : Heap} {v l : Addr} (e : h.get? v = some (swObj t l)) : Sw t h v l 0 := by
  cases t
  · exact ⟨_, e, rfl, rfl⟩
  · exact ⟨_, e, rfl, rfl⟩
theorem it_of {prog : Program} {w : World} {A : Around} {E : Value → Shared → Prop} {s : Shared} {t : Bool} {l : Addr} {q : Array Value} {Q : Value → Shared → Prop} (h : Sq t s.heap l q) (k : Q (.ref s.heap.objs.size) { s with heap := s.heap.push (swObj t l) }) :
    wpAny (model prog w) A (pyIter (.ref l)) Q E s := by
  cases t
  · exact wpAny_pyIter_list (show s.heap.IsList l q from h) k
  · exact wpAny_pyIter_tuple (show s.heap.IsTuple l q from h) k
theorem sq_push {t : Bool} {h : Heap} {l : Addr} {q : Array Value} (x : Sq t h l q) (o : Obj) : Sq t (h.push o) l q := by
  cases t
  · exact Heap.IsList.push (show h.IsList l q from x) o
  · exact Heap.IsTuple.push (show h.IsTuple l q from x) o
abbrev y1 (tl : Bool) (h : Heap) (l : Addr) : Heap := h.push (swObj tl l)
abbrev y2 (tl tm : Bool) (h : Heap) (l m : Addr) : Heap := (y1 tl h l).push (swObj tm m)
abbrev y3 (tl tm : Bool) (h : Heap) (l m : Addr) : Heap := (y2 tl tm h l m).push { cls := .type "tuple", data := .seq #[.ref h.objs.size, .ref (y1 tl h l).objs.size] }
abbrev y4 (tl tm : Bool) (h : Heap) (l m : Addr) : Heap := (y3 tl tm h l m).push { cls := .type "tuple", data := .seq #[.none, .none] }
abbrev y5 (tl tm : Bool) (h : Heap) (l m : Addr) : Heap := (y4 tl tm h l m).push { cls := .type "zip", data := .fields #[.none, .bool false, .bool false, .ref (y2 tl tm h l m).objs.size, .ref (y3 tl tm h l m).objs.size] }
theorem new_zip (tl tm : Bool) (l m : Addr) (as bs : Array Value) :
    Meets (Builtin.«zip.__new__» ⟨[.type "zip", .ref l, .ref m], []⟩) (fun _ R s => Sq tl s.heap l as ∧ Sq tm s.heap m bs ∧ R (.ok (.ret (.ref (y4 tl tm s.heap l m).objs.size))) { s with heap := y5 tl tm s.heap l m }) :=
  .of_wp fun prog w A R s h => by
    obtain ⟨hp, g, d, tk, os⟩ := s
    obtain ⟨sl, sm, h⟩ := h
    have sub := sub_zip
    have L1 : Sq tl (Shared.heap ⟨hp, g, d, tk, os⟩) l as := sl
    have L2 : Sq tm (Shared.heap ⟨hp.push (swObj tl l), g, d, tk, os⟩) m bs := sq_push sm _
    wp_walk using it_of L1, it_of L2
    exact ⟨_, rfl, h⟩
section
variable {prog : Program} {w : World} {A : Around} {E : Value → Shared → Prop} {s : Shared}
theorem call_zipM {tl tm : Bool} {l m : Addr} {as bs : Array Value} {Q : Value → Shared → Prop} (sl : Sq tl s.heap l as) (sm : Sq tm s.heap m bs)
    (k : ∀ h', IsZip h' (s.heap.objs.size + 4) (s.heap.objs.size + 2) (s.heap.objs.size + 3) .none → IsPair h' (s.heap.objs.size + 2) (.ref s.heap.objs.size) (.ref (s.heap.objs.size + 1)) → IsPair h' (s.heap.objs.size + 3) .none .none →
      Sw tl h' s.heap.objs.size l 0 → Sw tm h' (s.heap.objs.size + 1) m 0 → (∀ c o, s.heap.get? c = some o → h'.get? c = some o) → Q (.ref (s.heap.objs.size + 4)) { s with heap := h' }) :
    wpAny (model prog w) A (call (.type "zip") [.ref l, .ref m]) Q E s := by
  refine callType_new F.called_zip (by decide) (F.typeCall_zip_2 _ _) (F.newCall_zip_2 _ _) (fun ob => F.args_object_init_3 ob _ _) F.entry_zip_new (new_zip tl tm l m as bs) ⟨sl, sm, ?_⟩
  have n1 : (y1 tl s.heap l).objs.size = s.heap.objs.size + 1 := Heap.size_push ..
  have n2 : (y2 tl tm s.heap l m).objs.size = s.heap.objs.size + 2 := by rw [Heap.size_push, n1]
  have n3 : (y3 tl tm s.heap l m).objs.size = s.heap.objs.size + 3 := by rw [Heap.size_push, n2]
  have n4 : (y4 tl tm s.heap l m).objs.size = s.heap.objs.size + 4 := by rw [Heap.size_push, n3]
  have e5 : (y5 tl tm s.heap l m).get? (y4 tl tm s.heap l m).objs.size = some _ := Heap.get?_push_size _ rfl
  have e4 : (y5 tl tm s.heap l m).get? (y3 tl tm s.heap l m).objs.size = some _ := Heap.get?_push_of_some _ (Heap.get?_push_size _ rfl)
  have e3 : (y5 tl tm s.heap l m).get? (y2 tl tm s.heap l m).objs.size = some _ := Heap.get?_push_of_some _ (Heap.get?_push_of_some _ (Heap.get?_push_size _ rfl))
  have e2 : (y5 tl tm s.heap l m).get? (y1 tl s.heap l).objs.size = some (swObj tm m) := Heap.get?_push_of_some _ (Heap.get?_push_of_some _ (Heap.get?_push_of_some _ (Heap.get?_push_size _ rfl)))
  have e1 : (y5 tl tm s.heap l m).get? s.heap.objs.size = some (swObj tl l) := Heap.get?_push_of_some _ (Heap.get?_push_of_some _ (Heap.get?_push_of_some _ (Heap.get?_push_of_some _ (Heap.get?_push_size _ rfl))))
  show _ ∧ _
  rw [n2, n3, n4] at e5; rw [n1, n2] at e3; rw [n3] at e4; rw [n1] at e2; rw [n4]
  exact ⟨⟨_, e5, rfl⟩, k _ e5 e3 e4 (sw_at e1) (sw_at e2) fun c o x => Heap.get?_push_of_some _ (Heap.get?_push_of_some _ (Heap.get?_push_of_some _ (Heap.get?_push_of_some _ (Heap.get?_push_of_some _ x))))⟩
end
end Y00
set_option Elab.async false
set_option linter.all false
set_option maxRecDepth 100000
set_option maxHeartbeats 4000000
namespace Y00
open PySem L2
/-- a tuple (true) or a list (false) as the hand sees it -/
def SqM (K : PySem.W.Frag) (t : Bool) (H : Hp) (a : Addr) (xs : List V) : Prop := bif t then SqT K H a xs else SqL K H a xs
section
variable {X : Cx} {pins : List (Addr × Obj)} {σ : St} {H : Hp} {s : Shared}
theorem sqM_at (I : Inv X pins σ H s) {t : Bool} {a : Addr} {xs : List V} (h : SqM X.K t H a xs) : ∃ its : List Value, Vals xs its ∧ Sq t s.heap a its.toArray ∧ a < s.heap.objs.size := by
  cases t
  · obtain ⟨its, rv, p, _⟩ := I.list (show SqL X.K H a xs from h)
    exact ⟨its, rv, p.isList, p.lt⟩
  · obtain ⟨its, rv, p, _⟩ := I.tuple (show SqT X.K H a xs from h)
    obtain ⟨o, e, r⟩ := id p
    exact ⟨its, rv, ⟨o, e, r⟩, Heap.lt_size e⟩
theorem sqM_inj (I : Inv X pins σ H s) {t : Bool} {a : Addr} {xs ys : List V} (h : SqM X.K t H a xs) (h' : SqM X.K t H a ys) : xs = ys := by
  cases t
  · exact I.list_inj (show SqL X.K H a xs from h) h'
  · exact I.tuple_inj (show SqT X.K H a xs from h) h'
end
/-- what two sequences, each a list or a tuple, hand out side by side -/
def ItzM (K : PySem.W.Frag) (tl tm : Bool) (a b : Addr) : It :=
  ⟨fun i H => ∃ (xs ys : List V) (x y : V), SqM K tl H a xs ∧ SqM K tm H b ys ∧ xs[i]? = some x ∧ ys[i]? = some y,
   fun i H v H' => ∃ T x y, v = .ref T ∧ H T = none ∧ H' = upd H T (.tup [x, y]) ∧ (∀ xs, SqM K tl H a xs → xs[i]? = some x) ∧ ∀ ys, SqM K tm H b ys → ys[i]? = some y,
   fun i H => ∃ xs ys : List V, SqM K tl H a xs ∧ SqM K tm H b ys ∧ (xs.length ≤ i ∨ ys.length ≤ i)⟩
theorem five {c a b d e f : Addr} (h : c ∈ [a, b, d, e, f]) : c = a ∨ c = b ∨ c = d ∨ c = e ∨ c = f := by simpa using h
theorem turn_zipM {P : Program} {w : World} {K : PySem.W.Frag} {es : List Expr} {kk : Nat} {tp : Pos} {tl tm : Bool} {a b Z U W p q : Addr} (D : ZipApart Z U W p q a b) :
    Turn P w K (.Tuple es kk tp) (ItzM K tl tm a b) [Z, U, W, p, q] Z (fun i h => IsZip h Z U W .none ∧ IsPair h U (.ref p) (.ref q) ∧ (∃ x y, IsPair h W x y) ∧ Sw tl h p a i ∧ Sw tm h q b i) where
  mem := by simp
  obj := by
    intro i h st c hc
    obtain ⟨eZ, eU, ⟨x, y, eW⟩, wp, wq⟩ := st
    obtain ⟨o1, _, e1, d1⟩ := wp.ex
    obtain ⟨o2, _, e2, d2⟩ := wq.ex
    rcases five hc with r | r | r | r | r
    · rw [r]; exact ⟨_, eZ, fun v z => nomatch z⟩
    · rw [r]; exact ⟨_, eU, fun v z => nomatch z⟩
    · rw [r]; exact ⟨_, eW, fun v z => nomatch z⟩
    · exact ⟨o1, r ▸ e1, fun v z => by rw [d1] at z; cases z⟩
    · exact ⟨o2, r ▸ e2, fun v z => by rw [d2] at z; cases z⟩
  keep := by
    intro i h h' st k
    obtain ⟨eZ, eU, ⟨x, y, eW⟩, wp, wq⟩ := st
    exact ⟨k Z (by simp) _ eZ, k U (by simp) _ eU, ⟨x, y, k W (by simp) _ eW⟩, wp.at fun o z => k p (by simp) o z, wq.at fun o z => k q (by simp) o z⟩
  item := by
    intro X hP hw hK hc i pins s σ H E I hf st hg
    subst hP hw hK
    obtain ⟨eZ, eU, ⟨x0, y0, eW⟩, wp, wq⟩ := st
    obtain ⟨xs, ys, x, y, sx, sy, gx, gy⟩ := hg
    obtain ⟨its, rv, sl, _⟩ := sqM_at I sx
    obtain ⟨jts, rw', sm, _⟩ := sqM_at I sy
    obtain ⟨u, hu, ru⟩ := rv.get gx
    obtain ⟨v, hv, rv'⟩ := rw'.get gy
    have lZ : Z < s.heap.objs.size := Heap.lt_size eZ
    have nb : ∀ {c : Addr}, c ∉ [Z, U, W, p, q] → c ≠ Z ∧ c ≠ W ∧ c ≠ p ∧ c ≠ q := fun h => ⟨fun z => h (by simp [z]), fun z => h (by simp [z]), fun z => h (by simp [z]), fun z => h (by simp [z])⟩
    refine pn_item D eZ eU eW wp wq sl sm (x := u) (y := v) (by simpa using hu) (by simpa using hv) fun h' Z' W' wp' wq' T' sz r => ?_
    refine ⟨_, rfl, wpAny_letOwnedTupleGo_zip (s := { s with heap := h' }) Z' fun h2 Z2 sb => ?_⟩
    have T2 : h2.get? s.heap.objs.size = some { cls := .type "tuple", data := .seq #[u, v] } := (sb.2 _ (Nat.ne_of_gt lZ)).trans T'
    have ok : ObjOk X.prog X.w (upd H s.heap.objs.size (.tup [x, y])) h2 s.heap.objs.size (.tup [x, y]) := ⟨by show 2 ≤ sizeLine; decide, [u, v], .cons ru (.cons rv' .nil), ⟨_, T2, rfl, _, rfl⟩⟩
    have I1 : Inv X pins σ (upd H s.heap.objs.size (.tup [x, y])) { s with heap := h2 } :=
      I.turnedNew (t' := s.toks) (ch := [Z, U, W, p, q]) (fun c o hb z => (sb.2 c (nb hb).1).trans (r c o (nb hb).1 (nb hb).2.1 (nb hb).2.2.1 (nb hb).2.2.2 z)) hf (Nat.le_refl _) ok
    refine ⟨.ref s.heap.objs.size, _, I1, rfl, ⟨_, x, y, rfl, I.hok.fresh (Nat.le_refl _), rfl, fun l hl => by rw [sqM_inj I hl sx]; exact gx, fun l hl => by rw [sqM_inj I hl sy]; exact gy⟩, ⟨Z2, ?_, ⟨u, v, ?_⟩, ?_, ?_⟩, fun c hcm => ?_⟩
    · exact (sb.2 _ D.TIz).trans (r _ _ D.TIz D.TITO D.TIi1 D.TIi2 eU)
    · exact (sb.2 _ D.TOz).trans W'
    · exact wp'.at fun o z => (sb.2 _ D.i1z).trans z
    · exact wq'.at fun o z => (sb.2 _ D.i2z).trans z
    · have lt : c < s.heap.objs.size := by
        obtain ⟨_, _, e1, _⟩ := wp.ex
        obtain ⟨_, _, e2, _⟩ := wq.ex
        rcases five hcm with z | z | z | z | z <;> rw [z]
        · exact lZ
        · exact Heap.lt_size eU
        · exact Heap.lt_size eW
        · exact Heap.lt_size e1
        · exact Heap.lt_size e2
      rw [upd_ne (Nat.ne_of_lt lt)]; exact (hf c hcm).1
  done := by
    intro X hP hw hK hc i pins s σ H E I hf st hg
    subst hP hw hK
    obtain ⟨eZ, eU, ⟨x0, y0, eW⟩, wp, wq⟩ := st
    obtain ⟨xs, ys, sx, sy, ge⟩ := hg
    obtain ⟨its, rv, sl, _⟩ := sqM_at I sx
    obtain ⟨jts, rw', sm, _⟩ := sqM_at I sy
    have n1 := rv.length
    have n2 := rw'.length
    have no : its.toArray[i]? = none ∨ jts.toArray[i]? = none := by
      rcases ge with z | z
      · left; simp; omega
      · right; simp; omega
    have nb : ∀ {c : Addr}, c ∉ [Z, U, W, p, q] → c ≠ Z ∧ c ≠ W ∧ c ≠ p ∧ c ≠ q := fun h => ⟨fun z => h (by simp [z]), fun z => h (by simp [z]), fun z => h (by simp [z]), fun z => h (by simp [z])⟩
    exact pn_end (I.ok.hd hc) D eZ eU eW wp wq sl sm no fun h' r => ⟨rfl, I.turnedL (t' := s.toks) (ch := [Z, U, W, p, q]) (fun c o hb z => r c o (nb hb).1 (nb hb).2.1 (nb hb).2.2.1 (nb hb).2.2.2 z) hf⟩
  self := fun A i s Q E st k => wpAny_pyIter_zip st.1 k
def iZipM (K : PySem.W.Frag) (ta : TA) : TI := fun σ H R => ta σ H fun vs H1 => ∃ a b xs ys tl tm, vs = [.ref a, .ref b] ∧ SqM K tl H1 a xs ∧ SqM K tm H1 b ys ∧ R (ItzM K tl tm a b) H1
theorem pi_zipM {X : Cx} {e e2 : Expr} {ta : TA} {p pos tp : Pos} {es : List Expr} {kk : Nat} (hg : Gl X "zip") (hm : X.mg "zip" = none) (ha : PA X [e, e2] ta)
    (hs : starEach [e, e2] X.env = (false, eval e X.env) :: starEach [e2] X.env := by rfl) (hpl : (backTo pos (starEach [e2] X.env)).any (·.1) = false := by rfl) :
    PI X (.Tuple es kk tp) (.Call (.Name "zip" p) [e, e2] [] pos) (iZipM X.K ta) := by
  refine ⟨fun pins s σ H R I h => PyProof.Rows.Call_ (ld_blt I hg hm PyProof.Rows.boot_zip (PyProof.Rows.callWith_type1 (thn (ha.run pos pins s σ H _ I h) fun us s1 ⟨vs, H1, I1, r1, q1⟩ => ?_) hs hpl))⟩
  obtain ⟨a, b, xs, ys, tl, tm, ex, sx, sy, k⟩ := q1
  subst ex
  cases r1 with
  | cons r rr =>
    cases rr with
    | cons r' rr =>
      cases rr
      cases r
      cases r'
      have fp : ∀ c, c ∈ [s1.heap.objs.size + 4, s1.heap.objs.size + 2, s1.heap.objs.size + 3, s1.heap.objs.size, s1.heap.objs.size + 1] → FpOk X pins H1 c := by
        intro c hc
        have le : s1.heap.objs.size ≤ c := by rcases five hc with z | z | z | z | z <;> rw [z] <;> omega
        exact I1.fpOk le (I1.hok.fresh le)
      obtain ⟨its, rv, sl, la⟩ := sqM_at I1 sx
      obtain ⟨jts, rw', sm, lb⟩ := sqM_at I1 sy
      refine call_zipM sl sm fun h' eZ eU eW wp wq r => wpAny_pyIter_zip eZ ?_
      have I2 : Inv X pins σ H1 { s1 with heap := h' } := I1.kept (t' := s1.toks) r
      exact ⟨s1.heap.objs.size + 4, [s1.heap.objs.size + 4, s1.heap.objs.size + 2, s1.heap.objs.size + 3, s1.heap.objs.size, s1.heap.objs.size + 1], _, _, H1, rfl, I2, turn_zipM (PySem.W.ktu_apart s1.heap.objs.size a b la lb), ⟨eZ, eU, ⟨_, _, eW⟩, wp, wq⟩, fp, k⟩
/-- a loop over two sequences of one length side by side -/
theorem for_zipM {K : PySem.W.Frag} {tl tm : Bool} {a b : Addr} {xs ys : List V} {g : TG} {tb : TS} {D : Ends} {σ : L2.St} {H : Hp} (hl : xs.length = ys.length) (Pv : Nat → L2.St → Hp → Prop) (h0 : Pv 0 σ H) (hq : ∀ i σ H, Pv i σ H → SqM K tl H a xs ∧ SqM K tm H b ys)
    (hs : ∀ (i : Nat) (x y : V) (T : Addr) (σ : L2.St) (H : Hp), xs[i]? = some x → ys[i]? = some y → Pv i σ H → H T = none → g (.ref T) σ (upd H T (.tup [x, y])) fun σ2 H2 => tb { D with nx := Pv (i + 1), ct := Pv (i + 1), bk := D.nx } σ2 H2) (hd : ∀ σ H, Pv xs.length σ H → D.nx σ H) :
    ∃ W : Nat → Nat → L2.St → Hp → Prop, (∃ m, W 0 m σ H) ∧ ∀ i m σ H, W i m σ H →
      ((ItzM K tl tm a b).stop i H ∧ D.nx σ H) ∨ ((ItzM K tl tm a b).go i H ∧ ∃ N : L2.St → Hp → Prop, (∀ σ' H', N σ' H' → ∃ m', m' < m ∧ W (i + 1) m' σ' H') ∧ ∀ v H', (ItzM K tl tm a b).yld i H v H' → g v σ H' fun σ2 H2 => tb { D with nx := N, ct := N, bk := D.nx } σ2 H2) := by
  refine ⟨fun i m σ H => m = xs.length - i ∧ i ≤ xs.length ∧ Pv i σ H, ⟨_, rfl, Nat.zero_le _, h0⟩, ?_⟩
  rintro i m σ H ⟨rfl, le, p⟩
  obtain ⟨sx, sy⟩ := hq i σ H p
  rcases Nat.lt_or_ge i xs.length with lt | ge
  · refine .inr ⟨⟨xs, ys, xs[i], ys[i], sx, sy, List.getElem?_eq_getElem _, List.getElem?_eq_getElem _⟩, Pv (i + 1), fun σ' H' p' => ⟨_, by omega, rfl, lt, p'⟩, ?_⟩
    rintro v H' ⟨T, x', y', rfl, hT, rfl, f1, f2⟩
    exact hs i x' y' T σ H (f1 xs sx) (f2 ys sy) p hT
  · have e : i = xs.length := Nat.le_antisymm le ge
    subst e
    exact .inl ⟨⟨xs, ys, sx, sy, .inl (Nat.le_refl _)⟩, hd σ H p⟩
end Y00
set_option Elab.async false
set_option linter.all false
set_option maxRecDepth 100000
set_option maxHeartbeats 4000000
namespace Y00
open PySem L2
theorem SqM.same {K : PySem.W.Frag} {t : Bool} {H H' : Hp} {a : Addr} {xs : List V} (h : SqM K t H a xs) (s : Same H H') : SqM K t H' a xs := by
  cases t
  · exact s.seq (show SqL K H a xs from h)
  · rcases (show SqT K H a xs from h) with (h | ⟨o, h⟩) | h
    · exact .inl (.inl (s _ _ h))
    · exact .inl (.inr ⟨o, s _ _ h⟩)
    · exact .inr h
theorem SqM.len {K : PySem.W.Frag} {t : Bool} {H : Hp} {a : Addr} {xs : List V} (h : SqM K t H a xs) : SqL K H a xs ∨ SqT K H a xs := by
  cases t
  · exact .inl h
  · exact .inr h
theorem SqM.ofL {K : PySem.W.Frag} {H : Hp} {a : Addr} {xs : List V} (h : SqL K H a xs) : SqM K false H a xs := h
theorem SqM.ofT {K : PySem.W.Frag} {H : Hp} {a : Addr} {xs : List V} (h : SqT K H a xs) : SqM K true H a xs := h
theorem SqM.ix {K : PySem.W.Frag} {t : Bool} {H : Hp} {a : Addr} {xs : List V} (h : SqM K t H a xs) {i : Int} {v : V} {Q : VK} (e : atI xs i = some v) (q : Q v H) : rIx K (.ref a) (.int i) H Q := by
  cases t
  · exact .inl ⟨a, xs, i, v, rfl, rfl, h, e, q⟩
  · exact .inr (.inl ⟨a, xs, i, v, rfl, rfl, h, e, q⟩)
/-- what a list or a tuple hands out -/
def ItM (K : PySem.W.Frag) (t : Bool) (a : Addr) : It := bif t then Itt K a else Itl K a
def iSeqT (t : Bool) (K : PySem.W.Frag) (tl : TE) : TI := fun σ H R => tl σ H fun x H1 => ∃ a, x = .ref a ∧ (∃ xs, SqM K t H1 a xs) ∧ R (ItM K t a) H1
theorem pi_seqT (t : Bool) {X : Cx} {tg l : Expr} {tl : TE} (h : PE X l tl) : PI X tg l (iSeqT t X.K tl) := by
  cases t
  · exact pi_list h
  · exact pi_tup h
theorem for_seqT {K : PySem.W.Frag} {t : Bool} {a : Addr} {xs : List V} {g : TG} {tb : TS} {D : Ends} {σ : L2.St} {H : Hp} (Pv : Nat → L2.St → Hp → Prop) (h0 : Pv 0 σ H) (hl : ∀ i σ H, i ≤ xs.length → Pv i σ H → SqM K t H a xs)
    (hs : ∀ i x σ H, xs[i]? = some x → Pv i σ H → g x σ H fun σ2 H2 => tb { D with nx := Pv (i + 1), ct := Pv (i + 1), bk := D.nx } σ2 H2) (hd : ∀ σ H, Pv xs.length σ H → D.nx σ H) :
    ∃ W : Nat → Nat → L2.St → Hp → Prop, (∃ m, W 0 m σ H) ∧ ∀ i m σ H, W i m σ H → ((ItM K t a).stop i H ∧ D.nx σ H) ∨ ((ItM K t a).go i H ∧ ∃ N : L2.St → Hp → Prop, (∀ σ' H', N σ' H' → ∃ m', m' < m ∧ W (i + 1) m' σ' H') ∧
      ∀ x H', (ItM K t a).yld i H x H' → g x σ H' fun σ2 H2 => tb { D with nx := N, ct := N, bk := D.nx } σ2 H2) := by
  cases t
  · exact for_list Pv h0 hl hs hd
  · exact for_tup Pv h0 hl hs hd
theorem lc_seqT {K : PySem.W.Frag} {t : Bool} {a : Addr} {xs : List V} {g : TG} {tt : TT} {te : TE} {vs : List Nat} {σ : L2.St} {H1 : Hp} {D : Addr} {Qd : Hp → Prop} (Pv : Nat → Hp → Prop) (h0 : Pv 0 (upd H1 D (.lst []))) (hl : ∀ i H, i ≤ xs.length → Pv i H → SqM K t H a xs)
    (hs : ∀ i x H, xs[i]? = some x → Pv i H → g x (wipe σ vs) H fun σ2 H2 => wipe σ2 vs = wipe σ vs ∧ tt σ2 H2 fun b H3 => if b = true then te σ2 H3 fun y H4 => ∃ acc, H4 D = some (.lst acc) ∧ acc.length < sizeLine ∧ Pv (i + 1) (upd H4 D (.lst (acc ++ [y]))) else Pv (i + 1) H3)
    (hd : ∀ H, Pv xs.length H → Qd H) :
    ∃ W : Nat → Nat → Hp → Prop, (∃ m, W 0 m (upd H1 D (.lst []))) ∧ ∀ i m H, W i m H → ((ItM K t a).stop i H ∧ Qd H) ∨ ((ItM K t a).go i H ∧ ∃ Nx : Hp → Prop, (∀ H', Nx H' → ∃ m', m' < m ∧ W (i + 1) m' H') ∧
      ∀ x H', (ItM K t a).yld i H x H' → g x (wipe σ vs) H' fun σ2 H2 => wipe σ2 vs = wipe σ vs ∧ tt σ2 H2 fun b H3 => if b = true then te σ2 H3 fun y H4 => ∃ acc, H4 D = some (.lst acc) ∧ acc.length < sizeLine ∧ Nx (upd H4 D (.lst (acc ++ [y]))) else Nx H3) := by
  cases t
  · exact lc_list Pv h0 hl hs hd
  · exact lc_tup Pv h0 hl hs hd
end Y00
set_option Elab.async false
set_option linter.all false
set_option maxRecDepth 100000
set_option maxHeartbeats 4000000
/-! walks over a str, and backwards over a list or a tuple -/
namespace Y00
open PySem L2
theorem for_str {x : Str} {g : TG} {tb : TS} {D : Ends} {σ : L2.St} {H : Hp} (Pv : Nat → L2.St → Hp → Prop) (h0 : Pv 0 σ H)
    (hs : ∀ i c σ H, x.cps[i]? = some c → Pv i σ H → g (.str ⟨#[c]⟩) σ H fun σ2 H2 => tb { D with nx := Pv (i + 1), ct := Pv (i + 1), bk := D.nx } σ2 H2) (hd : ∀ σ H, Pv x.cps.size σ H → D.nx σ H) :
    ∃ W : Nat → Nat → L2.St → Hp → Prop, (∃ m, W 0 m σ H) ∧ ∀ i m σ H, W i m σ H → ((Its x).stop i H ∧ D.nx σ H) ∨ ((Its x).go i H ∧ ∃ N : L2.St → Hp → Prop, (∀ σ' H', N σ' H' → ∃ m', m' < m ∧ W (i + 1) m' σ' H') ∧
      ∀ v H', (Its x).yld i H v H' → g v σ H' fun σ2 H2 => tb { D with nx := N, ct := N, bk := D.nx } σ2 H2) := by
  refine ⟨fun i m σ H => m = x.cps.size - i ∧ i ≤ x.cps.size ∧ Pv i σ H, ⟨_, rfl, Nat.zero_le _, h0⟩, ?_⟩
  rintro i m σ H ⟨rfl, le, p⟩
  rcases Nat.lt_or_ge i x.cps.size with lt | ge
  · refine .inr ⟨lt, Pv (i + 1), fun σ' H' p' => ⟨_, by omega, rfl, lt, p'⟩, ?_⟩
    rintro v H' ⟨rfl, c, hc, rfl⟩
    exact hs i c σ _ hc p
  · have e : i = x.cps.size := Nat.le_antisymm le ge
    subst e
    exact .inl ⟨Nat.le_refl _, hd σ H p⟩
theorem lc_strS {x : Str} {g : TG} {tt : TT} {te : TE} {vs : List Nat} {σ : L2.St} {H1 : Hp} {D : Addr} {Qd : Hp → Prop} (Pv : Nat → Hp → Prop) (h0 : Pv 0 (upd H1 D (.lst [])))
    (hs : ∀ i c H, x.cps[i]? = some c → Pv i H → g (.str ⟨#[c]⟩) (wipe σ vs) H fun σ2 H2 => wipe σ2 vs = wipe σ vs ∧ tt σ2 H2 fun b H3 => if b = true then te σ2 H3 fun y H4 => ∃ acc, H4 D = some (.lst acc) ∧ acc.length < sizeLine ∧ Pv (i + 1) (upd H4 D (.lst (acc ++ [y]))) else Pv (i + 1) H3)
    (hd : ∀ H, Pv x.cps.size H → Qd H) :
    ∃ W : Nat → Nat → Hp → Prop, (∃ m, W 0 m (upd H1 D (.lst []))) ∧ ∀ i m H, W i m H → ((Its x).stop i H ∧ Qd H) ∨ ((Its x).go i H ∧ ∃ Nx : Hp → Prop, (∀ H', Nx H' → ∃ m', m' < m ∧ W (i + 1) m' H') ∧
      ∀ v H', (Its x).yld i H v H' → g v (wipe σ vs) H' fun σ2 H2 => wipe σ2 vs = wipe σ vs ∧ tt σ2 H2 fun b H3 => if b = true then te σ2 H3 fun y H4 => ∃ acc, H4 D = some (.lst acc) ∧ acc.length < sizeLine ∧ Nx (upd H4 D (.lst (acc ++ [y]))) else Nx H3) := by
  refine ⟨fun i m H => m = x.cps.size - i ∧ i ≤ x.cps.size ∧ Pv i H, ⟨_, rfl, Nat.zero_le _, h0⟩, ?_⟩
  rintro i m H ⟨rfl, le, p⟩
  rcases Nat.lt_or_ge i x.cps.size with lt | ge
  · refine .inr ⟨lt, Pv (i + 1), fun H' p' => ⟨_, by omega, rfl, lt, p'⟩, ?_⟩
    rintro v H' ⟨rfl, c, hc, rfl⟩
    exact hs i c _ hc p
  · have e : i = x.cps.size := Nat.le_antisymm le ge
    subst e
    exact .inl ⟨Nat.le_refl _, hd H p⟩
/-- what reversed(a list or a tuple) hands out -/
def ItvM (K : PySem.W.Frag) (t : Bool) (a : Addr) (n : Nat) : It := bif t then RT.ItvT K a n else Itv K a n
theorem rev_var {K : PySem.W.Frag} {n : Nat} {σ : L2.St} {t : Bool} {a : Addr} {xs : List V} {H : Hp} {R : It → Hp → Prop} (hv : tVar n σ H fun v H1 => v = .ref a ∧ H1 = H) (h : SqM K t H a xs) (r : R (ItvM K t a xs.length) H) : RT.iRevA K (tVar n) σ H R := by
  obtain ⟨v, e, rfl, _⟩ := hv
  cases t
  · exact ⟨_, e, a, xs, rfl, .inl ⟨h, r⟩⟩
  · exact ⟨_, e, a, xs, rfl, .inr ⟨h, r⟩⟩
theorem for_revT {K : PySem.W.Frag} {t : Bool} {a : Addr} {xs : List V} {g : TG} {tb : TS} {D : Ends} {σ : L2.St} {H : Hp} (Pv : Nat → L2.St → Hp → Prop) (h0 : Pv 0 σ H) (hq : ∀ i σ H, Pv i σ H → SqM K t H a xs)
    (hs : ∀ (i : Nat) (x : V) (σ : L2.St) (H : Hp), i < xs.length → xs[xs.length - 1 - i]? = some x → Pv i σ H → g x σ H fun σ2 H2 => tb { D with nx := Pv (i + 1), ct := Pv (i + 1), bk := D.nx } σ2 H2) (hd : ∀ σ H, Pv xs.length σ H → D.nx σ H) :
    ∃ W : Nat → Nat → L2.St → Hp → Prop, (∃ m, W 0 m σ H) ∧ ∀ i m σ H, W i m σ H →
      ((ItvM K t a xs.length).stop i H ∧ D.nx σ H) ∨ ((ItvM K t a xs.length).go i H ∧ ∃ N : L2.St → Hp → Prop, (∀ σ' H', N σ' H' → ∃ m', m' < m ∧ W (i + 1) m' σ' H') ∧ ∀ v H', (ItvM K t a xs.length).yld i H v H' → g v σ H' fun σ2 H2 => tb { D with nx := N, ct := N, bk := D.nx } σ2 H2) := by
  cases t
  · exact RT.for_Itv Pv h0 hq hs hd
  · exact RT.for_ItvT Pv h0 hq hs hd
end Y00
set_option linter.all false
namespace K02M
/-- the figures of n over these sizes, the first fastest -/
def digs : List Nat → Nat → List Nat
  | [], _ => []
  | s :: r, n => n % s :: digs r (n / s)
def prod : List Nat → Nat
  | [] => 1
  | s :: r => s * prod r
def val : List Nat → List Nat → Nat
  | s :: r, w :: t => w + s * val r t
  | _, _ => 0
def Fit : List Nat → List Nat → Prop
  | [], [] => True
  | s :: r, w :: t => w < s ∧ Fit r t
  | _, _ => False
theorem Fit.len : ∀ {ss ws : List Nat}, Fit ss ws → ws.length = ss.length
  | [], [], _ => rfl
  | s :: r, w :: t, h => congrArg Nat.succ (Fit.len h.2)
  | [], _ :: _, h => h.elim
  | _ :: _, [], h => h.elim
theorem digs_len : ∀ (ss : List Nat) (n : Nat), (digs ss n).length = ss.length
  | [], _ => rfl
  | s :: r, n => congrArg Nat.succ (digs_len r _)
theorem digs_fit : ∀ {ss : List Nat} (n : Nat), (∀ s ∈ ss, 0 < s) → Fit ss (digs ss n)
  | [], _, _ => trivial
  | s :: r, n, h => ⟨Nat.mod_lt _ (h s (by simp)), digs_fit _ fun x hx => h x (by simp [hx])⟩
theorem val_digs : ∀ {ss : List Nat} {n : Nat}, n < prod ss → val ss (digs ss n) = n
  | [], n, h => by have : n < 1 := h; simp [val]; omega
  | s :: r, n, h => by
    have h : n < s * prod r := h
    have s0 : 0 < s := Nat.pos_of_ne_zero fun z => by rw [z, Nat.zero_mul] at h; omega
    show n % s + s * val r (digs r (n / s)) = n
    rw [val_digs (Nat.div_lt_of_lt_mul h)]
    exact Nat.mod_add_div n s
theorem val_lt : ∀ {ss ws : List Nat}, Fit ss ws → val ss ws < prod ss
  | [], [], _ => Nat.zero_lt_one
  | s :: r, w :: t, h => by
    have e := val_lt h.2
    show w + s * val r t < s * prod r
    have : s * val r t + s ≤ s * prod r := by
      have := Nat.mul_le_mul_left s (show val r t + 1 ≤ prod r from e)
      rw [Nat.mul_add, Nat.mul_one] at this
      exact this
    have := h.1
    omega
  | [], _ :: _, h => h.elim
  | _ :: _, [], h => h.elim
theorem digs_val : ∀ {ss ws : List Nat}, Fit ss ws → digs ss (val ss ws) = ws
  | [], [], _ => rfl
  | s :: r, w :: t, h => by
    have e := digs_val h.2
    have s0 : 0 < s := Nat.lt_of_le_of_lt (Nat.zero_le _) h.1
    show (w + s * val r t) % s :: digs r ((w + s * val r t) / s) = _
    rw [Nat.add_mul_mod_self_left, Nat.mod_eq_of_lt h.1, Nat.add_mul_div_left _ _ s0, Nat.div_eq_of_lt h.1, Nat.zero_add, e]
  | [], _ :: _, h => h.elim
  | _ :: _, [], h => h.elim
theorem step (b : List Nat) : ∀ (a : List Nat) (n : Nat), (∀ s ∈ a, 0 < s) → digs a n = a.map (· - 1) → ∃ m, digs (a ++ b) n = a.map (· - 1) ++ digs b m ∧ digs (a ++ b) (n + 1) = List.replicate a.length 0 ++ digs b (m + 1)
  | [], n, _, _ => ⟨n, rfl, rfl⟩
  | s :: a, n, hp, h => by
    have h : n % s :: digs a (n / s) = (s - 1) :: a.map (· - 1) := h
    injection h with h1 h2
    have s0 : 0 < s := hp s (by simp)
    obtain ⟨m, m1, m2⟩ := step b a (n / s) (fun x hx => hp x (by simp [hx])) h2
    have e := Nat.mod_add_div n s
    have e1 : n + 1 = s * (n / s + 1) := by rw [Nat.mul_add, Nat.mul_one]; omega
    refine ⟨m, ?_, ?_⟩
    · show n % s :: digs (a ++ b) (n / s) = _
      rw [h1, m1]
      rfl
    · show (n + 1) % s :: digs (a ++ b) ((n + 1) / s) = _
      rw [e1, Nat.mul_mod_right, Nat.mul_div_cancel_left _ s0, m2]
      rfl
theorem val_max : ∀ (a : List Nat), (∀ s ∈ a, 0 < s) → val a (a.map (· - 1)) + 1 = prod a
  | [], _ => rfl
  | s :: a, hp => by
    have e := val_max a fun x hx => hp x (by simp [hx])
    have s0 : 0 < s := hp s (by simp)
    show s - 1 + s * val a (a.map (· - 1)) + 1 = s * prod a
    rw [← e, Nat.mul_add, Nat.mul_one]
    omega
theorem prod_app : ∀ a b : List Nat, prod (a ++ b) = prod a * prod b
  | [], b => by simp [prod]
  | s :: a, b => by show s * prod (a ++ b) = s * prod a * prod b; rw [prod_app a b, Nat.mul_assoc]
theorem prod_rev : ∀ a : List Nat, prod a.reverse = prod a
  | [] => rfl
  | s :: a => by rw [List.reverse_cons, prod_app, prod_rev a]; show prod a * (s * 1) = s * prod a; rw [Nat.mul_one, Nat.mul_comm]
/-- the filling with number n, the last worth fastest -/
def fill (ss : List Nat) (n : Nat) : List Nat := (digs ss.reverse n).reverse
def num (ss ws : List Nat) : Nat := val ss.reverse ws.reverse
theorem fill_len (ss : List Nat) (n : Nat) : (fill ss n).length = ss.length := by
  unfold fill
  rw [List.length_reverse, digs_len, List.length_reverse]
theorem num_fill {ss : List Nat} {n : Nat} (h : n < prod ss) : num ss (fill ss n) = n := by
  unfold num fill
  rw [List.reverse_reverse]
  exact val_digs (by rw [prod_rev]; exact h)
theorem Fit.rev : ∀ {a w : List Nat}, Fit a w → Fit a.reverse w.reverse := by
  have app : ∀ {a w b v : List Nat}, Fit a w → Fit b v → Fit (a ++ b) (w ++ v) := by
    intro a
    induction a with
    | nil => intro w b v h1 h2; cases w with | nil => exact h2 | cons _ _ => exact h1.elim
    | cons s a ih => intro w b v h1 h2; cases w with | nil => exact h1.elim | cons x w => exact ⟨h1.1, ih h1.2 h2⟩
  intro a
  induction a with
  | nil => intro w h; cases w with | nil => trivial | cons _ _ => exact h.elim
  | cons s a ih =>
    intro w h
    cases w with
    | nil => exact h.elim
    | cons x w =>
      rw [List.reverse_cons, List.reverse_cons]
      exact app (ih h.2) ⟨h.1, trivial⟩
theorem fill_fit {ss : List Nat} (n : Nat) (h : ∀ s ∈ ss, 0 < s) : Fit ss (fill ss n) := by
  have e := (digs_fit (ss := ss.reverse) n fun s hs => h s (List.mem_reverse.mp hs)).rev
  rw [List.reverse_reverse] at e
  exact e
theorem num_lt {ss ws : List Nat} (h : Fit ss ws) : num ss ws < prod ss := by
  have := val_lt h.rev
  rw [prod_rev] at this
  exact this
theorem fill_num {ss ws : List Nat} (h : Fit ss ws) : fill ss (num ss ws) = ws := by
  unfold fill num
  rw [digs_val h.rev, List.reverse_reverse]
/-- one more: the last worths that are greatest go to 0, the one ahead goes up -/
theorem odo {b c : List Nat} {s : Nat} {n : Nat} {u : List Nat} {w : Nat} (hp : ∀ x ∈ c, 0 < x) (h : fill (b ++ s :: c) n = u ++ w :: c.map (· - 1)) (hu : u.length = b.length) (hw : w ≠ s - 1) :
    fill (b ++ s :: c) (n + 1) = u ++ (w + 1) :: List.replicate c.length 0 := by
  have er : (b ++ s :: c).reverse = c.reverse ++ (s :: b.reverse) := by simp
  have h1 : digs (c.reverse ++ (s :: b.reverse)) n = (c.reverse.map (· - 1)) ++ (w :: u.reverse) := by
    have := congrArg List.reverse h
    unfold fill at this
    rw [List.reverse_reverse, er] at this
    rw [this]
    simp [List.map_reverse]
  have cut : ∀ (a d : List Nat) (n : Nat), (digs (a ++ d) n).take a.length = digs a n := by
    intro a
    induction a with
    | nil => intro d n; rfl
    | cons x a ih => intro d n; show _ :: (digs (a ++ d) (n / x)).take a.length = _; rw [ih]; rfl
  have h2 : digs c.reverse n = c.reverse.map (· - 1) := by
    rw [← cut c.reverse (s :: b.reverse) n, h1]
    exact List.take_left' (by simp)
  obtain ⟨m, m1, m2⟩ := step (s :: b.reverse) c.reverse n (fun x hx => hp x (List.mem_reverse.mp hx)) h2
  have e3 : digs (s :: b.reverse) m = w :: u.reverse := List.append_cancel_left (m1.symm.trans h1)
  have e3 : m % s :: digs b.reverse (m / s) = w :: u.reverse := e3
  injection e3 with e4 e5
  unfold fill
  rw [er, m2]
  show (List.replicate c.reverse.length 0 ++ ((m + 1) % s :: digs b.reverse ((m + 1) / s))).reverse = _
  have e6 := Nat.mod_add_div m s
  rcases Nat.eq_zero_or_pos s with z | s0
  · subst z
    rw [Nat.mod_zero] at e4
    rw [Nat.div_zero] at e5
    rw [Nat.mod_zero, Nat.div_zero, e5, e4]
    simp
  · have e7 := Nat.mod_lt m s0
    have e8 : m + 1 = (w + 1) + s * (m / s) := by omega
    have e9 : w + 1 < s := by omega
    rw [e8, Nat.add_mul_mod_self_left, Nat.mod_eq_of_lt e9, Nat.add_mul_div_left _ _ s0, Nat.div_eq_of_lt e9, Nat.zero_add, e5]
    simp
theorem odo_end {ss : List Nat} {n : Nat} (hp : ∀ x ∈ ss, 0 < x) (hn : n < prod ss) (h : fill ss n = ss.map (· - 1)) : n + 1 = prod ss := by
  have e := num_fill hn
  rw [h] at e
  unfold num at e
  rw [← List.map_reverse] at e
  have m := val_max ss.reverse fun x hx => hp x (List.mem_reverse.mp hx)
  rw [e, prod_rev] at m
  exact m
theorem max_fit : ∀ {ss : List Nat}, (∀ x ∈ ss, 0 < x) → Fit ss (ss.map (· - 1))
  | [], _ => trivial
  | s :: r, h => ⟨by have := h s (by simp); show s - 1 < s; omega, max_fit fun x hx => h x (by simp [hx])⟩
theorem fill_last {ss : List Nat} {n : Nat} (hp : ∀ x ∈ ss, 0 < x) (e : n + 1 = prod ss) : fill ss n = ss.map (· - 1) := by
  have m := val_max ss.reverse fun x hx => hp x (List.mem_reverse.mp hx)
  rw [prod_rev] at m
  have : num ss (ss.map (· - 1)) = n := by
    unfold num
    rw [← List.map_reverse]
    omega
  rw [← this]
  exact fill_num (max_fit hp)
theorem fill_zero (ss : List Nat) : fill ss 0 = List.replicate ss.length 0 := by
  unfold fill
  have : ∀ a : List Nat, digs a 0 = List.replicate a.length 0 := by
    intro a
    induction a with
    | nil => rfl
    | cons s a ih => show 0 % s :: digs a (0 / s) = _; rw [Nat.zero_mod, Nat.zero_div, ih]; rfl
  rw [this]
  simp
end K02M
set_option linter.all false
namespace K02M
theorem num_snoc (ss ws : List Nat) (s w : Nat) : num (ss ++ [s]) (ws ++ [w]) = num ss ws * s + w := by
  unfold num
  rw [List.reverse_append, List.reverse_append]
  show w + s * val ss.reverse ws.reverse = _
  rw [Nat.mul_comm, Nat.add_comm]
theorem prod_snoc (a : List Nat) (s : Nat) : prod (a ++ [s]) = prod a * s := by
  rw [prod_app]
  show prod a * (s * 1) = _
  rw [Nat.mul_one]
theorem digs_snoc : ∀ (a : List Nat) (s n : Nat), digs (a ++ [s]) n = digs a n ++ [(n / prod a) % s]
  | [], s, n => by show [n % s] = [n / 1 % s]; rw [Nat.div_one]
  | x :: a, s, n => by
    show n % x :: digs (a ++ [s]) (n / x) = n % x :: (digs a (n / x) ++ [n / (x * prod a) % s])
    rw [digs_snoc a s (n / x), Nat.div_div_eq_div_mul]
theorem prod_pos : ∀ {a : List Nat}, (∀ s ∈ a, 0 < s) → 0 < prod a
  | [], _ => Nat.zero_lt_one
  | s :: r, h => Nat.mul_pos (h s (by simp)) (prod_pos fun x hx => h x (by simp [hx]))
theorem take_le (a : List Nat) (i : Nat) (h : ∀ s ∈ a, 0 < s) : prod (a.take i) ≤ prod a := by
  have e : prod a = prod (a.take i) * prod (a.drop i) := by rw [← prod_app, List.take_append_drop]
  have p : 0 < prod (a.drop i) := prod_pos fun x hx => h x (List.mem_of_mem_drop hx)
  have := Nat.mul_le_mul_left (prod (a.take i)) (show 1 ≤ prod (a.drop i) from p)
  rw [e]
  omega
theorem mem_le {a : List Nat} {s : Nat} (h : ∀ s ∈ a, 0 < s) (m : s ∈ a) : s ≤ prod a := by
  obtain ⟨l, r, rfl⟩ := List.append_of_mem m
  rw [prod_app]
  show s ≤ prod l * (s * prod r)
  have p1 : 0 < prod l := prod_pos fun x hx => h x (by simp [hx])
  have p2 : 0 < prod r := prod_pos fun x hx => h x (by simp [hx])
  have h1 := Nat.mul_le_mul_left s (show 1 ≤ prod r from p2)
  have h2 := Nat.mul_le_mul_right (s * prod r) (show 1 ≤ prod l from p1)
  omega
theorem take_succ {α : Type} {l : List α} {i : Nat} {x : α} (h : l[i]? = some x) : l.take (i + 1) = l.take i ++ [x] := by
  rw [List.take_add_one, h]
  rfl
/-- the figure at a place, counted from the end -/
theorem rev_at {α : Type} {l : List α} {i : Nat} (h : i < l.length) : l.reverse[i]? = l[l.length - 1 - i]? := List.getElem?_reverse h
theorem fit_at : ∀ {ss ws : List Nat} {i s : Nat}, Fit ss ws → ss[i]? = some s → ∃ w, ws[i]? = some w ∧ w < s
  | s :: r, w :: t, 0, _, h, e => by cases e; exact ⟨w, rfl, h.1⟩
  | s :: r, w :: t, i + 1, _, h, e => fit_at (ss := r) (ws := t) h.2 e
  | [], [], _, _, _, e => by simp at e
  | [], _ :: _, _, _, h, _ => h.elim
  | _ :: _, [], _, _, h, _ => h.elim
/-- numbers of different fillings differ, and fill is what has that number -/
theorem fill_inj {ss ws : List Nat} {n : Nat} (f : Fit ss ws) (e : num ss ws = n) : fill ss n = ws := by rw [← e]; exact fill_num f
theorem num_take {ss ws : List Nat} {i s w : Nat} (e1 : ss[i]? = some s) (e2 : ws[i]? = some w) : num (ss.take (i + 1)) (ws.take (i + 1)) = num (ss.take i) (ws.take i) * s + w := by
  rw [take_succ e1, take_succ e2, num_snoc]
theorem fit_take : ∀ (i : Nat) {ss ws : List Nat}, Fit ss ws → Fit (ss.take i) (ws.take i)
  | 0, _, _, _ => trivial
  | _ + 1, [], [], _ => trivial
  | i + 1, _ :: _, _ :: _, h => ⟨h.1, fit_take i h.2⟩
  | _ + 1, [], _ :: _, h => h.elim
  | _ + 1, _ :: _, [], h => h.elim
theorem num_take_lt {ss ws : List Nat} (i : Nat) (h : Fit ss ws) : num (ss.take i) (ws.take i) < prod (ss.take i) := num_lt (fit_take i h)
end K02M
set_option Elab.async false
set_option linter.all false
set_option maxRecDepth 100000
set_option maxHeartbeats 4000000
namespace K02
open PySem L2 Y00
def top (i : Nat) : Stmt := PySem.Challenge.pw_alreadytold_k02_whole_wires_and_fillings.main.body.getD i (.Pass ⟨0, 0, 0, 0⟩)

abbrev sis_whole : Stmt := top 4
theorem scis_whole : FnScope ["thing", "low", "high"] ["thing", "low", "high"] (defScope sis_whole) := ⟨rfl, rfl, rfl, by decide +kernel, rfl, by decide +kernel, by decide +kernel⟩

abbrev sis_sequence : Stmt := top 8
theorem scis_sequence : FnScope ["thing", "least", "most"] ["thing", "least", "most"] (defScope sis_sequence) := ⟨rfl, rfl, rfl, by decide +kernel, rfl, by decide +kernel, by decide +kernel⟩

abbrev sis_name : Stmt := top 9
theorem scis_name : FnScope ["thing", "sign"] ["thing"] (defScope sis_name) := ⟨rfl, rfl, rfl, by decide +kernel, rfl, by decide +kernel, by decide +kernel⟩

abbrev sis_wire : Stmt := top 10
theorem scis_wire : FnScope ["thing"] ["thing"] (defScope sis_wire) := ⟨rfl, rfl, rfl, by decide +kernel, rfl, by decide +kernel, by decide +kernel⟩

abbrev sis_filling : Stmt := top 11
theorem scis_filling : FnScope ["sizes", "thing", "size", "worth"] ["sizes", "thing"] (defScope sis_filling) := ⟨rfl, rfl, rfl, by decide +kernel, rfl, by decide +kernel, by decide +kernel⟩

abbrev scount_fillings : Stmt := top 12
theorem sccount_fillings : FnScope ["sizes", "many", "size"] ["sizes"] (defScope scount_fillings) := ⟨rfl, rfl, rfl, by decide +kernel, rfl, by decide +kernel, by decide +kernel⟩

abbrev sfillings_of : Stmt := top 13
theorem scfillings_of : GScope ["sizes", "worths", "_", "place"] ["sizes"] (defScope sfillings_of) := ⟨rfl, rfl, rfl, by decide +kernel, rfl, by decide +kernel, by decide +kernel⟩

abbrev sfilling_number : Stmt := top 14
theorem scfilling_number : FnScope ["sizes", "filling", "number", "size", "worth"] ["sizes", "filling"] (defScope sfilling_number) := ⟨rfl, rfl, rfl, by decide +kernel, rfl, by decide +kernel, by decide +kernel⟩

abbrev sfilling_by_number : Stmt := top 15
theorem scfilling_by_number : FnScope ["sizes", "number", "worths", "rest", "size", "worth"] ["sizes", "number"] (defScope sfilling_by_number) := ⟨rfl, rfl, rfl, by decide +kernel, rfl, by decide +kernel, by decide +kernel⟩

abbrev s_law_hand : Stmt := top 17
theorem sc_law_hand : FnScope ["_law_script", "_law_total", "_law_cells", "_law_cell"] ["_law_script"] (defScope s_law_hand) := ⟨rfl, rfl, rfl, by decide +kernel, rfl, by decide +kernel, by decide +kernel⟩

abbrev s_law_mixed : Stmt := top 18
theorem sc_law_mixed : FnScope ["_law_number_here", "_law_turn", "_law_once", "_law_twice"] ["_law_number_here", "_law_turn"] (defScope s_law_mixed) := ⟨rfl, rfl, rfl, by decide +kernel, rfl, by decide +kernel, by decide +kernel⟩

abbrev s_law_take : Stmt := top 19
theorem sc_law_take : FnScope ["_law_hand_here", "_law_many_here", "_law_cell", "_law_rest"] ["_law_hand_here", "_law_many_here"] (defScope s_law_take) := ⟨rfl, rfl, rfl, by decide +kernel, rfl, by decide +kernel, by decide +kernel⟩

abbrev s_law_many : Stmt := top 20
theorem sc_law_many : FnScope ["_law_sizes", "_law_many_here", "_law_size"] ["_law_sizes"] (defScope s_law_many) := ⟨rfl, rfl, rfl, by decide +kernel, rfl, by decide +kernel, by decide +kernel⟩

abbrev s_law_filling : Stmt := top 21
theorem sc_law_filling : FnScope ["_law_sizes", "_law_number_here", "_law_out", "_law_back", "_law_size"] ["_law_sizes", "_law_number_here"] (defScope s_law_filling) := ⟨rfl, rfl, rfl, by decide +kernel, rfl, by decide +kernel, by decide +kernel⟩

abbrev s_law_fillings : Stmt := top 22
theorem sc_law_fillings : FnScope ["_law_sizes", "_law_number_here"] ["_law_sizes"] (defScope s_law_fillings) := ⟨rfl, rfl, rfl, by decide +kernel, rfl, by decide +kernel, by decide +kernel⟩

abbrev s_law_number : Stmt := top 23
theorem sc_law_number : FnScope ["_law_sizes", "_law_filling_here", "_law_number_here", "_law_at"] ["_law_sizes", "_law_filling_here"] (defScope s_law_number) := ⟨rfl, rfl, rfl, by decide +kernel, rfl, by decide +kernel, by decide +kernel⟩

abbrev s_law_name : Stmt := top 24
theorem sc_law_name : FnScope ["_law_hand_here", "_law_first", "_law_word", "_law_step"] ["_law_hand_here", "_law_first"] (defScope s_law_name) := ⟨rfl, rfl, rfl, by decide +kernel, rfl, by decide +kernel, by decide +kernel⟩

abbrev s_law_tuples : Stmt := top 25
theorem sc_law_tuples : FnScope ["_law_thing", "_law_item"] ["_law_thing"] (defScope s_law_tuples) := ⟨rfl, rfl, rfl, by decide +kernel, rfl, by decide +kernel, by decide +kernel⟩

abbrev s_law_odd : Stmt := top 26
theorem sc_law_odd : FnScope ["_law_hand_here", "_law_bound", "_law_kind"] ["_law_hand_here", "_law_bound"] (defScope s_law_odd) := ⟨rfl, rfl, rfl, by decide +kernel, rfl, by decide +kernel, by decide +kernel⟩

abbrev s_law_rid : Stmt := top 27
theorem sc_law_rid : FnScope ["_law_hand_here"] ["_law_hand_here"] (defScope s_law_rid) := ⟨rfl, rfl, rfl, by decide +kernel, rfl, by decide +kernel, by decide +kernel⟩

abbrev s_law_lists : Stmt := top 28
theorem sc_law_lists : FnScope ["_law_hand_here", "_law_thing"] ["_law_hand_here", "_law_thing"] (defScope s_law_lists) := ⟨rfl, rfl, rfl, by decide +kernel, rfl, by decide +kernel, by decide +kernel⟩

abbrev s_law_whole : Stmt := top 29
theorem sc_law_whole : FnScope ["_law_thing", "_law_low", "_law_high"] ["_law_thing", "_law_low", "_law_high"] (defScope s_law_whole) := ⟨rfl, rfl, rfl, by decide +kernel, rfl, by decide +kernel, by decide +kernel⟩

abbrev s_law_like : Stmt := top 30
theorem sc_law_like : FnScope ["_law_told", "_law_thing"] ["_law_told", "_law_thing"] (defScope s_law_like) := ⟨rfl, rfl, rfl, by decide +kernel, rfl, by decide +kernel, by decide +kernel⟩

abbrev s_law_truth : Stmt := top 31
theorem sc_law_truth : FnScope ["_law_told", "_law_due"] ["_law_told", "_law_due"] (defScope s_law_truth) := ⟨rfl, rfl, rfl, by decide +kernel, rfl, by decide +kernel, by decide +kernel⟩

abbrev s_law_int : Stmt := top 32
theorem sc_law_int : FnScope ["_law_thing"] ["_law_thing"] (defScope s_law_int) := ⟨rfl, rfl, rfl, by decide +kernel, rfl, by decide +kernel, by decide +kernel⟩

abbrev s_law_is_name : Stmt := top 33
theorem sc_law_is_name : FnScope ["_law_thing", "_law_sign"] ["_law_thing"] (defScope s_law_is_name) := ⟨rfl, rfl, rfl, by decide +kernel, rfl, by decide +kernel, by decide +kernel⟩

abbrev s_law_is_wire : Stmt := top 34
theorem sc_law_is_wire : FnScope ["_law_thing"] ["_law_thing"] (defScope s_law_is_wire) := ⟨rfl, rfl, rfl, by decide +kernel, rfl, by decide +kernel, by decide +kernel⟩

abbrev s_law_is_filling : Stmt := top 35
theorem sc_law_is_filling : FnScope ["_law_sizes", "_law_thing", "_law_at"] ["_law_sizes", "_law_thing"] (defScope s_law_is_filling) := ⟨rfl, rfl, rfl, by decide +kernel, rfl, by decide +kernel, by decide +kernel⟩

abbrev s_law_no_wire : Stmt := top 36
theorem sc_law_no_wire : FnScope ["_law_hand_here"] ["_law_hand_here"] (defScope s_law_no_wire) := ⟨rfl, rfl, rfl, by decide +kernel, rfl, by decide +kernel, by decide +kernel⟩

abbrev s_law_no_name : Stmt := top 37
theorem sc_law_no_name : FnScope ["_law_hand_here"] ["_law_hand_here"] (defScope s_law_no_name) := ⟨rfl, rfl, rfl, by decide +kernel, rfl, by decide +kernel, by decide +kernel⟩

abbrev s_law_spoilt_row : Stmt := top 38
theorem sc_law_spoilt_row : FnScope ["_law_hand_here", "_law_sizes", "_law_row", "_law_out", "_law_kind", "_law_at"] ["_law_hand_here", "_law_sizes", "_law_row"] (defScope s_law_spoilt_row) := ⟨rfl, rfl, rfl, by decide +kernel, rfl, by decide +kernel, by decide +kernel⟩

abbrev s_law_by_number : Stmt := top 39
theorem sc_law_by_number : FnScope ["_law_sizes", "_law_number_here", "_law_found", "wrong"] ["_law_sizes", "_law_number_here"] (defScope s_law_by_number) := ⟨rfl, rfl, rfl, by decide +kernel, rfl, by decide +kernel, by decide +kernel⟩

abbrev s_law_its_number : Stmt := top 40
theorem sc_law_its_number : FnScope ["_law_sizes", "_law_filling_here", "_law_found", "wrong"] ["_law_sizes", "_law_filling_here"] (defScope s_law_its_number) := ⟨rfl, rfl, rfl, by decide +kernel, rfl, by decide +kernel, by decide +kernel⟩

abbrev s_law_drawn_sizes : Stmt := top 41
theorem sc_law_drawn_sizes : FnScope ["_law_hand_here", "_law_sizes", "_law_turn", "_law_size"] ["_law_hand_here"] (defScope s_law_drawn_sizes) := ⟨rfl, rfl, rfl, by decide +kernel, rfl, by decide +kernel, by decide +kernel⟩

abbrev slaw : Stmt := top 42
theorem sclaw : FnScope ["_law_script", "_law_hand_here", "_law_sizes", "_law_many_here", "_law_due", "_law_told", "_law_turn", "_law_number_here", "_law_filling_here", "_law_row", "_law_right", "_law_name_here", "_law_thing", "_law_size", "_law_wire"] ["_law_script"] (defScope slaw) := ⟨rfl, rfl, rfl, by decide +kernel, rfl, by decide +kernel, by decide +kernel⟩

/-- a def as it stands behind the top: where, its facts -/
structure Fn (K : PySem.W.Frag) (mg : Str → Option Value) (x : Str) (st : Stmt) (ps : List Str) where
  f : Addr
  fd : FuncData
  F : Fun K x x st f fd
  g : mg x = some (.ref f)
  b : Binds K fd ps []
structure FnD (K : PySem.W.Frag) (mg : Str → Option Value) (x : Str) (st : Stmt) (ps : List Str) (dvs : List V) where
  f : Addr
  fd : FuncData
  F : FunD K x x (defArgs st) (defBody st) (defScope st) dvs [] f fd
  g : mg x = some (.ref f)
  b : ∀ j, j ≤ dvs.length → ∃ ds, Vals (dvs.drop j) ds ∧ Binds K fd ps ds
end K02
set_option Elab.async false
set_option linter.all false
set_option maxRecDepth 100000
set_option maxHeartbeats 4000000
namespace K02
open PySem L2
/-- a statement, then the rest, with a word between them -/
def tCut (t u : TS) : TS := fun D σ H => ∃ Mid : L2.St → Hp → Prop, t { D with nx := Mid } σ H ∧ ∀ σ' H', Mid σ' H' → u D σ' H'
theorem cut {X : Cx} {st : Stmt} {rest : List Stmt} {t u : TS} (h1 : PS X st t) (h2 : PSs X rest u) : PSs X (st :: rest) (tCut t u) := by
  refine ⟨fun pins s σ H D I h => ?_⟩
  obtain ⟨Mid, hm, hu⟩ := h
  refine wpAny_execs_cons (thn (h1.run pins s σ H { D with nx := Mid } I hm) fun f s1 q => ?_)
  cases f with
  | next =>
    obtain ⟨σ', H', I', q⟩ := q
    exact h2.run pins s1 σ' H' D I' (hu σ' H' q)
  | ret v => exact q
  | brk => exact q
  | cont => exact q
/-! ### the drawing hand -/
/-- a hand stands at h: its cells in a list at c -/
structure HandAt (H : Hp) (h c : Addr) (cells : List Int) (i rest total : Int) : Prop where
  oh : H h = some (.lst [.ref c, .int i, .int rest, .int total])
  oc : H c = some (.lst (cells.map V.int))
  ne : h ≠ c
  len : cells.length ≤ 63
  i0 : 0 ≤ i
  i1 : i ≤ 63
  r0 : 0 ≤ rest
  t0 : 0 ≤ total
  t1 : total < 4294967296
  pos : ∀ z ∈ cells, 0 ≤ z
def Hand (H : Hp) (h c : Addr) : Prop := ∃ cells i rest total, HandAt H h c cells i rest total
/-- all but h stands as it stood -/
def Kept (h : Addr) (H H' : Hp) : Prop := ∀ b o, b ≠ h → H b = some o → H' b = some o
theorem Kept.refl {h : Addr} {H : Hp} : Kept h H H := fun _ _ _ e => e
theorem Kept.trans {h : Addr} {H H1 H2 : Hp} (a : Kept h H H1) (b : Kept h H1 H2) : Kept h H H2 := fun c o n e => b c o n (a c o n e)
theorem Kept.upd {h : Addr} {H : Hp} {o : HO} : Kept h H (upd H h o) := fun b u n e => by rw [upd_ne n]; exact e
theorem kept_new {h p : Addr} {H : Hp} {o : HO} (n : H p = none) : Kept h H (upd H p o) := fun b u _ e => by rw [upd_ne (ne_of_none e n)]; exact e
theorem same_new {p : Addr} {H : Hp} {o : HO} (n : H p = none) : Same H (upd H p o) := fun b u e => by rw [upd_ne (ne_of_none e n)]; exact e
theorem Same.kept {h : Addr} {H H' : Hp} (s : Same H H') : Kept h H H' := fun b o _ e => s b o e
theorem HandAt.same {H H' : Hp} {h c : Addr} {cells : List Int} {i rest total : Int} (A : HandAt H h c cells i rest total) (s : Same H H') : HandAt H' h c cells i rest total :=
  { A with oh := s _ _ A.oh, oc := s _ _ A.oc }
theorem Hand.same {H H' : Hp} {h c : Addr} (A : Hand H h c) (s : Same H H') : Hand H' h c := by
  obtain ⟨cells, i, rest, total, A⟩ := A
  exact ⟨cells, i, rest, total, A.same s⟩
/-- the hand's own list changed -/
theorem HandAt.put {H : Hp} {h c : Addr} {cells : List Int} {i rest total i' rest' total' : Int} (A : HandAt H h c cells i rest total) (a0 : 0 ≤ i') (a1 : i' ≤ 63) (b0 : 0 ≤ rest') (c0 : 0 ≤ total') (c1 : total' < 4294967296) :
    HandAt (upd H h (.lst [.ref c, .int i', .int rest', .int total'])) h c cells i' rest' total' :=
  ⟨upd_same, by rw [upd_ne (Ne.symm A.ne)]; exact A.oc, A.ne, A.len, a0, a1, b0, c0, c1, A.pos⟩

def spHand (K : PySem.W.Frag) : Sp := fun vs H Q _ => ∃ (a : Addr) (ns : List Int), vs = [.ref a] ∧ SqL K H a (ns.map V.int) ∧ ns.length ≤ 63 ∧
  ∀ (h c : Addr) (H' : Hp), H h = none → Same H H' → Hand H' h c → Q (.ref h) H'
def spMixed : Sp := fun vs H Q _ => ∃ (n t : Int), vs = [.int n, .int t] ∧ 0 ≤ n ∧ n < 4294967296 ∧ 0 ≤ t ∧ t ≤ 64 ∧ ∀ r : Int, 0 ≤ r → Q (.int r) H
def spTake : Sp := fun vs H Q _ => ∃ (h c : Addr) (m : Int), vs = [.ref h, .int m] ∧ 0 < m ∧ m.natAbs < 2 ^ 9000 ∧ Hand H h c ∧
  ∀ (r : Int) (H' : Hp), 0 ≤ r → r < m → Kept h H H' → Hand H' h c → Q (.int r) H'
theorem small64 {n : Nat} (h : n ≤ 64) : n < sizeLine := small1000 (by omega)
structure TxA (K : PySem.W.Frag) (mg : Str → Option Value) where
  law_hand : Fn K mg "_law_hand" s_law_hand ["_law_script"]
  law_mixed : Fn K mg "_law_mixed" s_law_mixed ["_law_number_here", "_law_turn"]
  law_take : Fn K mg "_law_take" s_law_take ["_law_hand_here", "_law_many_here"]
  len : mg "len" = none
  abs : mg "abs" = none
  int : mg "int" = none
section
variable {P : Program} {w : World} {K : PySem.W.Frag} {mg : Str → Option Value} {base : Heap}
theorem ok_hand (T : TxA K mg) : FnOk P w K mg base CX0 1 T.law_hand.f T.law_hand.fd ["_law_script"] (spHand K) := by
  refine T.law_hand.F.ok sc_law_hand (fun vs H Q E h => ?_) (fun cdv A outer s H vs Q E hr h => ?_)
  · obtain ⟨a, ns, rfl, _⟩ := h
    rfl
  · obtain ⟨a, ns, rfl, hS, hlen, k⟩ := h
    refine ⟨_, (pss_cons (ps_set (i := 1) sc_law_hand.nd rfl (Or.inl rfl) (pe_op op_add (pe_callB call_len_seq (by rfl) T.len PySem.boot_len (pa_cons (pv 0) pa_nil)) pe_int))
  (pss_cons (ps_set (i := 2) sc_law_hand.nd rfl (Or.inl rfl) (pe_lst pa_nil))
  (pss_cons (ps_for PassesOwn.never rfl (pi_list (pv 0)) (pg_name (i := 3) sc_law_hand.nd rfl (Or.inl rfl))
  (pss_cons (ps_set (i := 1) sc_law_hand.nd rfl (Or.inl rfl) (pe_op op_mod (pe_callTy call_int1 (by rfl) T.int (by decide +kernel) (pa_cons (pe_op op_add (pe_op op_mulW (pv 1) pe_int) (pe_callTy call_int1 (by rfl) T.int (by decide +kernel) (pa_cons (pv 3) pa_nil))) pa_nil)) pe_int))
  (pss_one (ps_expr (pe_bm PySem.F.plainAttrs_list PySem.F.slot_list_append PySem.F.type_list_append mt_append (pv 2) (pa_cons (pe_callB call_abs (by rfl) T.abs (by decide +kernel) (pa_cons (pe_callTy call_int1 (by rfl) T.int (by decide +kernel) (pa_cons (pv 3) pa_nil)) pa_nil)) pa_nil))))))
  (pss_one (ps_ret (pe_lst (pa_cons (pv 2) (pa_cons pe_int (pa_cons pe_int (pa_cons (pv 1) pa_nil)))))))))), ?_⟩
    -- total = len(script) + 71; cells = []
    refine ⟨_, rfl, a, _, rfl, .inl hS, _, _, rfl, rfl, (by show 0 ≤ sizeLine; decide), fun c hc => ?_⟩
    have s0 : Same H (upd H c (.lst [])) := same_new hc
    refine ⟨_, rfl, a, rfl, ⟨_, s0.seq hS⟩, for_list (K := K) (a := a) (xs := ns.map V.int)
      (fun i σ H2 => ∃ (cells : List Int) (total : Int) (v : Option V), σ = [some (.ref a), some (.int total), some (.ref c), v] ∧ Same H H2 ∧ H2 c = some (.lst (cells.map V.int)) ∧ cells.length = i ∧ 0 ≤ total ∧ total < 4294967296 ∧ ∀ z ∈ cells, 0 ≤ z)
      ⟨[], _, none, rfl, s0, upd_same, rfl, ?_, ?_, by simp⟩ (fun i σ H2 _ ⟨_, _, _, _, s2, _⟩ => s2.seq hS) ?_ ?_⟩
    · simp only [List.length_map]; omega
    · simp only [List.length_map]; omega
    · rintro i y σ H2 hi ⟨cells, total, v, rfl, s2, hcs, hl, t0, t1, pos⟩
      have hil : i < (ns.map V.int).length := (List.getElem?_eq_some_iff.mp hi).1
      rw [List.length_map] at hil
      obtain ⟨z, rfl⟩ : ∃ z, y = V.int z := by
        rw [List.getElem?_map] at hi
        cases e : ns[i]? with
        | none => rw [e] at hi; cases hi
        | some z => rw [e] at hi; exact ⟨z, (Option.some.inj hi).symm⟩
      -- total = int(total * 1033 + int(cell)) % 2147483563
      refine ⟨_, rfl, _, _, rfl, rfl, wide_mul (a := 32) (b := 32) (by omega) (by decide) (by decide) (by decide) (by decide), _, rfl, .inl ⟨_, rfl, _, _, rfl, rfl, .inl ⟨_, rfl, _, _, rfl, rfl, (by show (0 : Int) < 2147483563; decide), ?_⟩⟩⟩
      -- cells.append(abs(int(cell)))
      refine ⟨_, rfl, .inl ⟨rfl, _, SqL.of hcs⟩, _, rfl, .inl ⟨_, rfl, _, rfl, c, _, _, rfl, rfl, hcs, small64 (by rw [List.length_map]; omega), ?_⟩⟩
      refine ⟨cells ++ [if z < 0 then -z else z], _, some (.int z), rfl, fun b o e => ?_, ?_, by simp [hl], ?_, ?_, ?_⟩
      · rw [upd_ne (ne_of_none e hc)]; exact s2 b o e
      · rw [upd_same, List.map_append]; rfl
      · exact Int.emod_nonneg _ (by decide)
      · have := Int.emod_lt_of_pos (total * 1033 + z) (show (0 : Int) < 2147483563 by decide)
        omega
      · intro x hx
        rcases List.mem_append.mp hx with hx | hx
        · exact pos x hx
        · rw [List.mem_singleton.mp hx]
          split <;> omega
    · rintro σ H2 ⟨cells, total, v, rfl, s2, hcs, hl, t0, t1, pos⟩
      rw [List.length_map] at hl
      refine ⟨_, rfl, _, rfl, (by show 4 ≤ sizeLine; decide), fun p hp => ?_⟩
      refine k p c _ (s2.free hp) (s2.trans (same_new hp)) ⟨cells, 0, 0, total, upd_same, ?_, (ne_of_none hcs hp).symm, by omega, by decide, by decide, by decide, t0, t1, pos⟩
      rw [upd_ne (ne_of_none hcs hp)]; exact hcs
end
end K02
set_option Elab.async false
set_option linter.all false
set_option maxRecDepth 100000
set_option maxHeartbeats 4000000
namespace K02
open PySem L2
theorem md {x m : Int} (h : 0 < m) : 0 ≤ x % m ∧ x % m < m := ⟨Int.emod_nonneg _ (by omega), Int.emod_lt_of_pos _ h⟩
section
variable {P : Program} {w : World} {K : PySem.W.Frag} {mg : Str → Option Value} {base : Heap}
theorem ok_mixed (T : TxA K mg) : FnOk P w K mg base CX0 1 T.law_mixed.f T.law_mixed.fd ["_law_number_here", "_law_turn"] spMixed := by
  refine T.law_mixed.F.ok sc_law_mixed (fun vs H Q E h => ?_) (fun cdv A outer s H vs Q E hr h => ?_)
  · obtain ⟨n, t, rfl, _⟩ := h
    rfl
  · obtain ⟨n, t, rfl, n0, n1, t0, t1, k⟩ := h
    refine ⟨_, (cut (ps_set (i := 2) sc_law_mixed.nd rfl (Or.inl rfl) (pe_op op_mod (pe_callTy call_int1 (by rfl) T.int (by decide +kernel) (pa_cons (pe_op op_add (pe_op op_add (pe_op op_mulW (pv 0) pe_int) (pe_op op_mulW (pv 1) pe_int)) pe_int) pa_nil)) pe_int))
  (cut (ps_set (i := 3) sc_law_mixed.nd rfl (Or.inl rfl) (pe_op op_mod (pe_callTy call_int1 (by rfl) T.int (by decide +kernel) (pa_cons (pe_op op_add (pe_op op_add (pe_op op_mulW (pv 2) (pv 2)) (pe_op op_mulW (pv 1) pe_int)) (pe_op op_fdivW (pv 2) pe_int)) pa_nil)) pe_int))
  (pss_one (ps_ret (pe_op op_fdivW (pe_callTy call_int1 (by rfl) T.int (by decide +kernel) (pa_cons (pe_op op_mod (pe_callTy call_int1 (by rfl) T.int (by decide +kernel) (pa_cons (pe_op op_add (pe_op op_mulW (pv 3) pe_int) (pe_op op_fdivW (pv 2) pe_int)) pa_nil)) pe_int) pa_nil)) pe_int))))), ?_⟩
    have wm : ∀ {x y : Int}, 0 ≤ x → x < 4294967296 → 0 ≤ y → y < 4294967296 → CMulW x y := fun a b c d => wide_mul (a := 32) (b := 32) (by omega) (by omega) (by decide) (by decide) (by decide)
    refine ⟨fun σ' H' => H' = H ∧ ∃ o : Int, (0 ≤ o ∧ o < 2147483399) ∧ σ' = [some (.int n), some (.int t), some (.int o), none], ?_, ?_⟩
    · exact ⟨_, rfl, _, _, rfl, rfl, wm n0 n1 (by decide) (by decide), _, rfl, _, _, rfl, rfl, wm t0 (by omega) (by decide) (by decide), _, _, rfl, rfl, _, _, rfl, rfl, .inl ⟨_, rfl, _, _, rfl, rfl, (by show (0 : Int) < 2147483399; decide), rfl, _, md (by decide), rfl⟩⟩
    rintro σ' H' ⟨rfl, o, o1, rfl⟩
    refine ⟨fun σ' H2 => H2 = H' ∧ ∃ q : Int, (0 ≤ q ∧ q < 2147483629) ∧ σ' = [some (.int n), some (.int t), some (.int o), some (.int q)], ?_, ?_⟩
    · exact ⟨_, rfl, _, rfl, _, _, rfl, rfl, wm o1.1 (by omega) o1.1 (by omega), _, rfl, _, _, rfl, rfl, wm t0 (by omega) (by decide) (by decide), _, _, rfl, rfl, _, rfl, _, _, rfl, rfl, wide_div (b := 8) (by decide) (by decide) (by decide) (by decide), _, _, rfl, rfl, .inl ⟨_, rfl, _, _, rfl, rfl, (by show (0 : Int) < 2147483629; decide), rfl, _, md (by decide), rfl⟩⟩
    rintro σ' H2 ⟨rfl, q, o2, rfl⟩
    exact ⟨_, rfl, _, _, rfl, rfl, wm o2.1 (by omega) (by decide) (by decide), _, rfl, _, _, rfl, rfl, wide_div (b := 8) (by decide) (by decide) (by decide) (by decide), _, _, rfl, rfl, .inl ⟨_, rfl, _, _, rfl, rfl, (by show (0 : Int) < 2147483587; decide), .inl ⟨_, rfl, _, _, rfl, rfl, wide_div (b := 8) (by decide) (by decide) (by decide) (by decide), k _ (Int.ediv_nonneg (md (by decide)).1 (by decide))⟩⟩⟩

theorem ok_take (T : TxA K mg) : FnOk P w K mg base CX0 2 T.law_take.f T.law_take.fd ["_law_hand_here", "_law_many_here"] spTake := by
  have GM : FnOk P w K mg base CX0 1 T.law_mixed.f T.law_mixed.fd ["_law_number_here", "_law_turn"] spMixed := ok_mixed T
  refine T.law_take.F.ok sc_law_take (fun vs H Q E h => ?_) (fun cdv A outer s H vs Q E hr h => ?_)
  · obtain ⟨n, _, t, rfl, _⟩ := h
    rfl
  · obtain ⟨h, c, m, rfl, m0, m1, ⟨cells, i, rest, total, A⟩, k⟩ := h
    refine ⟨_, (cut (ps_if (PW.pt (pw_and (pt_cmpR op_eq (pe_ix ix_list (pv 0) pe_int (fun _ _ => rfl)) pe_int (nomark _)) (pw_and1 (pt_cmpR op_lt (pe_ix ix_list (pv 0) pe_int (fun _ _ => rfl)) (pe_callB call_len_seq (by rfl) T.len PySem.boot_len (pa_cons (pe_ix ix_list (pv 0) pe_int (fun _ _ => rfl)) pa_nil)) (nomark _))))) (pss_cons (ps_set (i := 2) sc_law_take.nd rfl (Or.inl rfl) (pe_ix ix_list (pe_ix ix_list (pv 0) pe_int (fun _ _ => rfl)) (pe_ix ix_list (pv 0) pe_int (fun _ _ => rfl)) (fun _ _ => rfl)))
  (pss_cons (ps_asg (pe_op op_add (pe_ix ix_list (pv 0) pe_int (fun _ _ => rfl)) pe_int) (pg_sub (pv 0) pe_int set_list))
  (pss_cons (ps_if (pt_cmpR op_lt (pv 2) (pe_op op_pow pe_int pe_int) (nomark _)) (pss_one (ps_ret (pe_op op_mod (pe_callTy call_int1 (by rfl) T.int (by decide +kernel) (pa_cons (pe_call GM (hr.mono (by decide)) rfl T.law_mixed.g T.law_mixed.F.kp T.law_mixed.b .nil pass0 (pa_cons (pe_op op_mod (pe_callTy call_int1 (by rfl) T.int (by decide +kernel) (pa_cons (pv 2) pa_nil)) pe_int) (pa_cons (pe_ix ix_list (pv 0) pe_int (fun _ _ => rfl)) pa_nil))) pa_nil)) (pv 1)))) pss_nil)
  (pss_one (ps_asg (pv 2) (pg_sub (pv 0) pe_int set_list)))))) pss_nil)
  (pss_cons (ps_if (pt_cmpR op_gt (pe_ix ix_list (pv 0) pe_int (fun _ _ => rfl)) pe_int (nomark _)) (pss_cons (ps_set (i := 3) sc_law_take.nd rfl (Or.inl rfl) (pe_ix ix_list (pv 0) pe_int (fun _ _ => rfl)))
  (pss_cons (ps_asg (pe_op op_fdivW (pe_callTy call_int1 (by rfl) T.int (by decide +kernel) (pa_cons (pv 3) pa_nil)) (pv 1)) (pg_sub (pv 0) pe_int set_list))
  (pss_one (ps_ret (pe_op op_mod (pe_callTy call_int1 (by rfl) T.int (by decide +kernel) (pa_cons (pv 3) pa_nil)) (pv 1)))))) pss_nil)
  (cut (ps_asg (pe_op op_mod (pe_callTy call_int1 (by rfl) T.int (by decide +kernel) (pa_cons (pe_op op_add (pe_ix ix_list (pv 0) pe_int (fun _ _ => rfl)) pe_int) pa_nil)) pe_int) (pg_sub (pv 0) pe_int set_list))
  (pss_one (ps_ret (pe_op op_mod (pe_callTy call_int1 (by rfl) T.int (by decide +kernel) (pa_cons (pe_call GM (hr.mono (by decide)) rfl T.law_mixed.g T.law_mixed.F.kp T.law_mixed.b .nil pass0 (pa_cons (pe_ix ix_list (pv 0) pe_int (fun _ _ => rfl)) (pa_cons (pe_ix ix_list (pv 0) pe_int (fun _ _ => rfl)) pa_nil))) pa_nil)) (pv 1))))))), ?_⟩
    have at2 : ∀ {H2 : Hp} {i' r' t' : Int}, H2 h = some (.lst [.ref c, .int i', .int r', .int t']) → SqL K H2 h [.ref c, .int i', .int r', .int t'] := fun e => SqL.of e
    refine ⟨fun σ' H' => ∃ (i' rest' : Int) (v2 : Option V), σ' = [some (.ref h), some (.int m), v2, none] ∧ Kept h H H' ∧ HandAt H' h c cells i' rest' total, ?_, ?_⟩
    · refine ⟨_, rfl, h, _, 2, .int rest, rfl, rfl, at2 A.oh, atI_nat rfl, rfl, _, rfl, ?_⟩
      refine ite2 (fun e => ?_) (fun e => ?_)
      · refine ⟨_, rfl, h, _, 1, .int i, rfl, rfl, at2 A.oh, atI_nat rfl, _, rfl, h, _, 0, .ref c, rfl, rfl, at2 A.oh, atI_nat rfl, c, _, rfl, .inl (SqL.of A.oc), _, _, rfl, rfl, _, rfl, ?_⟩
        refine ite2 (fun e1 => ?_) (fun e1 => ?_)
        · rw [List.length_map] at e1
          have il : i < cells.length := of_decide_eq_true e1
          obtain ⟨z, hz⟩ : ∃ z, cells[i.toNat]? = some z := ⟨cells[i.toNat]'(by have := A.i0; omega), List.getElem?_eq_getElem _⟩
          have zp : 0 ≤ z := A.pos z (List.mem_of_getElem? hz)
          have A0 := A.i0
          have AL := A.len
          refine ⟨_, rfl, h, _, 0, .ref c, rfl, rfl, at2 A.oh, atI_nat rfl, _, rfl, h, _, 1, .int i, rfl, rfl, at2 A.oh, atI_nat rfl, c, _, i, .int z, rfl, rfl, SqL.of A.oc, at_of (j := i.toNat) (by omega) (by rw [List.getElem?_map, hz]; rfl), ?_⟩
          -- hand[1] = hand[1] + 1
          refine ⟨_, rfl, h, _, 1, .int i, rfl, rfl, at2 A.oh, atI_nat rfl, _, _, rfl, rfl, _, rfl, h, _, 1, 1, rfl, rfl, A.oh, rfl, ?_⟩
          have B : HandAt (upd H h (.lst [.ref c, .int (i + 1), .int rest, .int total])) h c cells (i + 1) rest total := A.put (by omega) (by omega) A.r0 A.t0 A.t1
          refine ⟨_, rfl, _, _, rfl, rfl, (by show CPow 10 18; unfold CPow; decide), _, _, rfl, rfl, _, rfl, ?_⟩
          refine ite2 (fun e2 => ?_) (fun e2 => ?_)
          · refine ⟨_, rfl, .inl ⟨_, rfl, _, _, rfl, rfl, (by show (0 : Int) < 2147483399; decide), _, rfl, h, _, 1, .int (i + 1), rfl, rfl, at2 B.oh, atI_nat rfl, _, _, rfl, (md (by decide)).1, ?_, by omega, by omega, fun r r0 => ?_⟩⟩
            · have := (md (x := z) (show (0 : Int) < 2147483399 by decide)).2
              omega
            · exact .inl ⟨_, rfl, _, rfl, _, _, rfl, rfl, m0, k _ _ (md m0).1 (md m0).2 Kept.upd ⟨_, _, _, _, B⟩⟩
          · refine ⟨_, rfl, _, rfl, h, _, 2, 2, rfl, rfl, B.oh, rfl, ?_⟩
            exact ⟨i + 1, z, _, rfl, Kept.upd.trans Kept.upd, B.put (by omega) (by omega) zp A.t0 A.t1⟩
        · exact ⟨i, rest, _, rfl, Kept.refl, A⟩
      · exact ⟨i, rest, _, rfl, Kept.refl, A⟩
    rintro σ' H2 ⟨i', rest', v2, rfl, kp, B⟩
    have B0 := B.i0
    have B1 := B.i1
    -- if hand[2] > 0
    refine ⟨_, rfl, h, _, 2, .int rest', rfl, rfl, at2 B.oh, atI_nat rfl, _, _, rfl, rfl, _, rfl, ?_⟩
    refine ite2 (fun e => ?_) (fun e => ?_)
    · refine ⟨_, rfl, h, _, 2, .int rest', rfl, rfl, at2 B.oh, atI_nat rfl, _, rfl, .inl ⟨_, rfl, _, rfl, _, _, rfl, rfl, wide_div m0 m1 (by decide) (by decide), _, rfl, h, _, 2, 2, rfl, rfl, B.oh, rfl, ?_⟩⟩
      refine ⟨_, rfl, .inl ⟨_, rfl, _, rfl, _, _, rfl, rfl, m0, k _ _ (md m0).1 (md m0).2 (kp.trans Kept.upd) ⟨_, _, _, _, B.put B.i0 B.i1 (Int.ediv_nonneg B.r0 (by omega)) B.t0 B.t1⟩⟩⟩
    · refine ⟨fun σ' H3 => ∃ total' : Int, σ' = [some (.ref h), some (.int m), v2, none] ∧ Kept h H H3 ∧ HandAt H3 h c cells i' rest' total', ?_, ?_⟩
      · have t2 := md (x := total + 1) (show (0 : Int) < 2147483563 by decide)
        refine ⟨_, rfl, h, _, 3, .int total, rfl, rfl, at2 B.oh, atI_nat rfl, _, _, rfl, rfl, .inl ⟨_, rfl, _, _, rfl, rfl, (by show (0 : Int) < 2147483563; decide), _, rfl, h, _, 3, 3, rfl, rfl, B.oh, rfl, ?_⟩⟩
        exact ⟨_, rfl, kp.trans Kept.upd, B.put B.i0 B.i1 B.r0 t2.1 (by omega)⟩
      rintro σ' H3 ⟨total', rfl, kp3, C⟩
      refine ⟨_, rfl, h, _, 3, .int total', rfl, rfl, at2 C.oh, atI_nat rfl, _, rfl, h, _, 1, .int i', rfl, rfl, at2 C.oh, atI_nat rfl, _, _, rfl, C.t0, C.t1, C.i0, by have := C.i1; omega, fun r r0 => ?_⟩
      exact .inl ⟨_, rfl, _, rfl, _, _, rfl, rfl, m0, k _ _ (md m0).1 (md m0).2 kp3 ⟨_, _, _, _, C⟩⟩
end
end K02
set_option Elab.async false
set_option linter.all false
set_option maxRecDepth 100000
set_option maxHeartbeats 4000000
namespace K02
open PySem L2 Y00 K02M
abbrev nI (n : Nat) : V := V.int (n : Int)
structure TxG (K : PySem.W.Frag) (mg : Str → Option Value) extends TxA K mg where
  fillings_of : Fn K mg "fillings_of" sfillings_of ["sizes"]
  tuple : mg "tuple" = none
theorem get_lst {X : Cx} : PGet X (fun x y H Q => ∃ p xs j v, x = .ref p ∧ y = .int ((j : Nat) : Int) ∧ SqL X.K H p xs ∧ xs[j]? = some v ∧ Q v H) := by
  intro pins s σ H o i ov iv Q I ro ri h
  obtain ⟨p, xs, j, v, rfl, rfl, hq, hv, q⟩ := h
  cases ro
  obtain ⟨t, rfl⟩ := ri
  obtain ⟨its, r, pl, hz⟩ := I.list hq
  obtain ⟨u, hu, ru⟩ := r.get hv
  have hj : j < xs.length := (List.getElem?_eq_some_iff.mp hv).1
  have hn := line63
  exact wpAny_getItem_list pl.isList (Int.natCast_nonneg _) (by omega) (by simpa using hu) ⟨v, H, I, ru, q⟩
theorem ixn {n j : Nat} (h : j < n) : ixN n (j : Int) = some j := by
  unfold ixN
  rw [if_pos (by omega), if_pos (by omega)]
  rfl
/-- all fillings of sizes that stand in a list or a tuple, one after another -/
def spFills (K : PySem.W.Frag) : SpG := fun vs H Q _ => ∃ (a : Addr) (t : Bool) (ss : List Nat), vs = [.ref a] ∧ SqM K t H a (ss.map nI) ∧ (∀ s ∈ ss, 0 < s) ∧ prod ss < sizeLine ∧ ss.length ≤ 1000 ∧
  ∀ (out : List V) (H' : Hp), Same H H' → out.length = prod ss → (∀ i v, out[i]? = some v → ∃ p, v = .ref p ∧ H' p = some (.tup ((fill ss i).map nI))) → Q out H'
section
variable {P : Program} {w : World} {K : PySem.W.Frag} {mg : Str → Option Value} {base : Heap}
theorem ok_fillings_of (T : TxG K mg) : GFn P w K mg base 1 T.fillings_of.f T.fillings_of.fd ["sizes"] (spFills K) := by
  obtain ⟨oc, od, kV, doc, pm, an, cdv, ct, osl, e, lk, hcd⟩ := T.fillings_of.F.ex
  rw [e] at lk ⊢
  refine gfn_of lk hcd scfillings_of (fun vs H Q E h => ?_) (fun A outer s H vs Q E pn hr h => ?_)
  · obtain ⟨_, _, _, rfl, _⟩ := h
    rfl
  · obtain ⟨a, t, ss, rfl, hS, hp, hb, hl, k⟩ := h
    refine ⟨_, (gss_cons (gs_ps (ps_setLc (i := 1) (own := [("_", 2)]) (g := gName 2) rfl scfillings_of.nd rfl rfl (by rfl) (pi_seqT t (pv 0)) (blkOk_by (N := ["sizes", "worths", "_", "place"]) (sc := defScope sfillings_of) (by decide +kernel)) (fun _ _ _ _ _ => pg_name (i := 2) scfillings_of.nd rfl (Or.inl rfl)) (fun _ _ _ _ _ => pts_nil) (fun _ _ _ _ _ => pe_int)))
      (gss_cons (gs_while owns_gcx (pt_val pe_bl)
        (gss_cons (gs_yield (pe_callTy call_tuple_of (by rfl) T.tuple (by decide +kernel) (pa_cons (pv 1) pa_nil)))
        (gss_cons (gs_ps (ps_set (i := 3) scfillings_of.nd rfl (Or.inl rfl) (pe_op op_sub (pe_callB call_len_seq (by rfl) T.len PySem.boot_len (pa_cons (pv 1) pa_nil)) pe_int)))
        (gss_cons (gs_ps (ps_while owns_gcx (PW.pt (pw_and (pt_cmpR op_ge (pv 3) pe_int (nomark _)) (pw_and1 (pt_cmpR op_eq (pe_ix ix_list (pv 1) (pv 3) (fun _ _ => rfl)) (pe_op op_sub (pe_ix ix_seq (pv 0) (pv 3) (fun _ _ => rfl)) pe_int) (nomark _)))))
          (pss_cons (ps_asg pe_int (pg_sub (pv 1) (pv 3) set_list))
          (pss_one (ps_aug (i := 3) scfillings_of.nd rfl (Or.inl rfl) pe_int ip_sub)))))
        (gss_cons (gs_ps (ps_if (pt_cmpR op_lt (pv 3) pe_int (nomark _)) (pss_one ps_retN) pss_nil))
        (gss_cons (gs_ps (ps_augS (pv 1) (pv 3) get_lst pe_int ip_add set_list)) gss_nil)))))) gss_nil)), ?_⟩
    have nI0 : nI 0 = V.int 0 := rfl
    refine ⟨_, rfl, a, rfl, ⟨_, hS⟩, fun D nD => ?_⟩
    refine lc_seqT (K := K) (a := a) (t := t) (xs := ss.map nI) (tt := tYes) (te := tC (V.int 0)) (vs := [2]) (fun i H' => Same H H' ∧ H' D = some (.lst ((List.replicate i 0).map nI))) ⟨same_new nD, upd_same⟩ (fun i H' _ p => hS.same p.1) ?_ ?_
    · rintro i x H' hx ⟨s1, e1⟩
      have hi : i < (ss.map nI).length := (List.getElem?_eq_some_iff.mp hx).1
      rw [List.length_map] at hi
      refine ⟨rfl, ⟨_, e1, small1000 (by rw [List.length_map, List.length_replicate]; omega), fun b o z => ?_, ?_⟩⟩
      · rw [upd_ne (ne_of_none z nD)]; exact s1 b o z
      · rw [upd_same, List.replicate_succ', List.map_append]; rfl
    · rintro H1 ⟨s1, e1⟩
      rw [List.length_map, ← fill_zero] at e1
      have pr0 : 0 < prod ss := by
        have := num_lt (fill_fit (ss := ss) 0 hp)
        omega
      refine ⟨fun m ys σ H2 => ∃ n v2 v3, m = prod ss - n ∧ n < prod ss ∧ ys.length = n ∧ σ = [some (.ref a), some (.ref D), v2, v3] ∧ Same H H2 ∧ H2 D = some (.lst ((fill ss n).map nI)) ∧
        ∀ i v, ys[i]? = some v → ∃ p, v = .ref p ∧ H2 p = some (.tup ((fill ss i).map nI)), ⟨_, 0, _, _, rfl, pr0, rfl, rfl, s1, e1, fun i v z => by simp at z⟩, ?_⟩
      rintro m ys σ H2 ⟨n, v2, v3, rfl, hn, yl, rfl, s2, e2, ok⟩
      refine ⟨_, rfl, iteT ⟨fun ys' σ' H' => ∃ n' v2 v3, n' = n + 1 ∧ n' < prod ss ∧ ys'.length = n' ∧ σ' = [some (.ref a), some (.ref D), v2, v3] ∧ Same H H' ∧ H' D = some (.lst ((fill ss n').map nI)) ∧
        ∀ i v, ys'[i]? = some v → ∃ p, v = .ref p ∧ H' p = some (.tup ((fill ss i).map nI)), ?_, ?_⟩⟩
      · rintro ys' σ' H' ⟨n', v2, v3, rfl, hn', r⟩
        exact ⟨_, by omega, _, v2, v3, rfl, hn', r⟩
      refine ⟨by omega, ?_⟩
      refine ⟨_, rfl, D, _, rfl, .inl ⟨SqL.of e2, fun p np => ?_⟩⟩
      have pD : p ≠ D := fun z => by rw [z, e2] at np; cases np
      have s3 : Same H (upd H2 p (.tup ((fill ss n).map nI))) := s2.trans (same_new np)
      have e3 : (upd H2 p (.tup ((fill ss n).map nI))) D = some (.lst ((fill ss n).map nI)) := by rw [upd_ne (Ne.symm pD)]; exact e2
      have ok3 : ∀ i v, (ys ++ [V.ref p])[i]? = some v → ∃ q, v = .ref q ∧ (upd H2 p (.tup ((fill ss n).map nI))) q = some (.tup ((fill ss i).map nI)) := by
        intro i v hv
        rcases Nat.lt_or_ge i ys.length with lt | ge
        · rw [List.getElem?_append_left lt] at hv
          obtain ⟨q, rfl, eq⟩ := ok i v hv
          exact ⟨q, rfl, by rw [upd_ne (ne_of_none eq np)]; exact eq⟩
        · rw [List.getElem?_append_right ge] at hv
          have : i = ys.length := by
            rcases Nat.lt_or_ge (i - ys.length) 1 with l | g
            · omega
            · rw [List.getElem?_eq_none (by simpa using g)] at hv; cases hv
          subst this
          rw [Nat.sub_self] at hv
          cases hv
          exact ⟨p, rfl, by rw [upd_same, yl]⟩
      generalize upd H2 p (.tup ((fill ss n).map nI)) = H3 at s3 e3 ok3
      have fl := fill_len ss n
      refine ⟨_, rfl, D, _, rfl, .inl (SqL.of e3), _, _, rfl, rfl, ?_⟩
      -- the walk back
      refine ⟨fun m σ H' => ∃ (b c u : List Nat), m = b.length ∧ ss = b ++ c ∧ fill ss n = u ++ c.map (· - 1) ∧ u.length = b.length ∧ σ = [some (.ref a), some (.ref D), v2, some (.int ((b.length : Int) - 1))] ∧ Same H H' ∧ H' D = some (.lst ((u ++ List.replicate c.length 0).map nI)) ∧
        ∀ i v, (ys ++ [V.ref p])[i]? = some v → ∃ q, v = .ref q ∧ H' q = some (.tup ((fill ss i).map nI)), ⟨_, ss, [], fill ss n, rfl, by simp, by simp, fl, ?_, s3, by simpa using e3, ok3⟩, ?_⟩
      · show [_, _, _, some (V.int (((fill ss n).map nI).length - 1))] = _
        rw [List.length_map, fl]
      rintro m σ H4 ⟨b, c, u, rfl, eb, ef, hu, rfl, s4, e4, ok4⟩
      rcases List.eq_nil_or_concat b with rfl | ⟨b', x, rfl⟩
      · -- all are greatest: the end
        have u0 : u = [] := List.length_eq_zero_iff.mp hu
        subst u0
        have es : ss = c := by simpa using eb
        have en : n + 1 = prod ss := odo_end hp hn (by rw [ef, es]; rfl)
        refine ⟨_, rfl, _, _, rfl, rfl, _, rfl, ?_⟩
        refine ite2 (fun e => absurd (of_decide_eq_true e) (by simp)) (fun _ => ?_)
        refine iteF ?_
        refine ⟨_, rfl, _, _, rfl, rfl, _, rfl, ?_⟩
        refine ite2 (fun _ => ?_) (fun e => absurd (decide_eq_true (by simp)) e)
        exact ⟨rfl, k _ _ s4 (by rw [List.length_append, yl, ← en]; rfl) ok4⟩
      · have lb : (b'.concat x).length = b'.length + 1 := by simp
        rw [lb] at hu
        rcases List.eq_nil_or_concat u with rfl | ⟨u', y, rfl⟩
        · simp at hu
        have lu : u'.length = b'.length := by simpa using hu
        have es : ss = b' ++ x :: c := by rw [eb]; simp
        have ef' : fill ss n = u' ++ y :: c.map (· - 1) := by rw [ef]; simp
        have x0 : 0 < x := hp x (by rw [es]; simp)
        have ip : (((b'.concat x).length : Nat) : Int) - 1 = (b'.length : Int) := by rw [lb]; omega
        have el : ((u'.concat y) ++ List.replicate c.length 0).map nI = (u' ++ y :: List.replicate c.length 0).map nI := by simp
        rw [ip]
        rw [el] at e4
        have gw : ((u' ++ y :: List.replicate c.length 0).map nI)[b'.length]? = some (nI y) := by rw [List.getElem?_map, ← lu]; simp
        have gs : (ss.map nI)[b'.length]? = some (nI x) := by rw [List.getElem?_map, es]; simp
        have li : b'.length < ((u' ++ y :: List.replicate c.length 0).map nI).length := by simp; omega
        have sets : ∀ z : Nat, ((u' ++ y :: List.replicate c.length 0).map nI).set b'.length (nI z) = (u' ++ z :: List.replicate c.length 0).map nI := by
          intro z
          rw [← List.map_set, ← lu]
          simp
        have ok5 : ∀ o, ∀ i v, (ys ++ [V.ref p])[i]? = some v → ∃ q, v = .ref q ∧ (upd H4 D o) q = some (.tup ((fill ss i).map nI)) := by
          intro o i v hv
          obtain ⟨q, rfl, eq⟩ := ok4 i v hv
          exact ⟨q, rfl, by rw [upd_ne (fun z => by rw [z, e4] at eq; cases eq)]; exact eq⟩
        have s5 : ∀ o, Same H (upd H4 D o) := fun o b u z => by rw [upd_ne (ne_of_none z nD)]; exact s4 b u z
        refine ⟨_, rfl, _, _, rfl, rfl, _, rfl, ?_⟩
        refine ite2 (fun _ => ?_) (fun e => absurd (decide_eq_true (Int.natCast_nonneg _)) e)
        refine ⟨_, rfl, _, rfl, D, _, _, _, rfl, rfl, SqL.of e4, at_of rfl gw, _, rfl, _, rfl, (hS.same s4).ix (at_of rfl gs) ?_⟩
        refine ⟨_, _, rfl, rfl, rfl, _, rfl, ?_⟩
        refine ite2 (fun e => ?_) (fun e => ?_)
        · -- it is the greatest: to nought, one back
          have e' : (y : Int) = (x : Int) - 1 := by have := of_decide_eq_true e; injection this
          have yx : y = x - 1 := by omega
          refine ⟨fun σ' H' => ∃ (b c u : List Nat), b.length = b'.length ∧ ss = b ++ c ∧ fill ss n = u ++ c.map (· - 1) ∧ u.length = b.length ∧ σ' = [some (.ref a), some (.ref D), v2, some (.int ((b.length : Int) - 1))] ∧ Same H H' ∧ H' D = some (.lst ((u ++ List.replicate c.length 0).map nI)) ∧
            ∀ i v, (ys ++ [V.ref p])[i]? = some v → ∃ q, v = .ref q ∧ H' q = some (.tup ((fill ss i).map nI)), ?_, ?_⟩
          · rintro σ' H' ⟨b2, c2, u2, q1, q⟩
            exact ⟨b2.length, by rw [lb, q1]; omega, b2, c2, u2, rfl, q⟩
          · refine ⟨_, rfl, _, rfl, D, _, _, _, rfl, rfl, e4, ixn li, ?_⟩
            refine ⟨_, rfl, _, _, rfl, rfl, ?_⟩
            refine ⟨b', x :: c, u', rfl, es, by rw [ef', yx]; rfl, lu, rfl, s5 _, ?_, ok5 _⟩
            rw [upd_same]
            exact congrArg (fun z => some (HO.lst z)) (sets 0)
        · -- one more here
          have ne : y ≠ x - 1 := by
            intro z
            apply e
            apply decide_eq_true
            have : (y : Int) = (x : Int) - 1 := by omega
            show V.int (y : Int) = V.int ((x : Int) - 1)
            rw [this]
          have hn1 : n + 1 < prod ss := by
            rcases Nat.lt_or_ge (n + 1) (prod ss) with l | ge
            · exact l
            · exfalso
              have := fill_last hp (show n + 1 = prod ss by omega)
              rw [ef', es, List.map_append, List.map_cons] at this
              have := (List.append_inj this (by simp [lu])).2
              injection this with t1 _
              exact ne t1
          have fn : fill ss (n + 1) = u' ++ (y + 1) :: List.replicate c.length 0 := by
            rw [es]
            exact odo (fun z hz => hp z (by rw [es]; simp [hz])) (by rw [← es]; exact ef') lu ne
          refine ⟨_, rfl, _, _, rfl, rfl, _, rfl, ?_⟩
          refine ite2 (fun e => absurd (of_decide_eq_true e) (by omega)) (fun _ => ?_)
          refine ⟨_, rfl, _, rfl, D, _, b'.length, _, rfl, rfl, SqL.of e4, gw, _, _, rfl, rfl, D, _, _, _, rfl, rfl, e4, ixn li, ?_⟩
          refine ⟨_, _, _, rfl, hn1, by rw [List.length_append, yl]; rfl, rfl, s5 _, ?_, ok5 _⟩
          rw [upd_same, fn]
          exact congrArg (fun z => some (HO.lst z)) (sets (y + 1))
end
end K02
set_option Elab.async false
set_option linter.all false
set_option maxRecDepth 100000
set_option maxHeartbeats 4000000
namespace PySem
namespace LowX
open PySem.W PySem.Calls PyProof.Rows PySem.HandSPX
/-! ### the text of __init__ -/
def iA (p1 p2 : Pos) : Arguments := { posonlyargs := [], args := [{ arg := "self", annotation := none, pos := p1 }, { arg := "thing", annotation := none, pos := p2 }], vararg := none, kwonlyargs := [], kw_defaults := [], kwarg := none, defaults := [] }
def iB (q1 q2 q3 q4 : Pos) : List Stmt := [.Assign [.Attribute (.Name "self" q1) "thing" q2] (.Name "thing" q3) q4]
def iS : Scope := { kind := .function, names := [(PySem.Str.ofString "self", .local), (PySem.Str.ofString "thing", .local)], isGenerator := false, isCoroutine := false, more := [] }
/-- what the written part says of Low, at C, and of its __init__, at fI -/
structure LowTxt (K : Frag) (mg : Str → Option Value) (C fI : Addr) : Prop where
  gC : mg "NoFilling" = some (.ref C)
  cls : ∃ nm q N bs bm sn sub ab col dd k0 k1 k2 k3 k5, K.lookup C = some (excClassObj nm q C N bs bm true sn sub ab col dd k0 k1 k2 k3 k5 "ValueError.__new__") ∧ refsVE bm = true
  sa : findIn K (.ref C) "__setattr__" = some (some (.builtin "object.__setattr__"))
  ga : findIn K (.ref C) "__getattribute__" = some (some (.builtin "BaseException.__getattribute__"))
  gg : findIn K (.ref C) "__getattr__" = some none
  noN : findIn K (.ref C) "thing" = some none
  iC : findIn K (.ref C) "__init__" = some (some (.ref fI))
  tC : typeIn K (.ref fI) = some (.type "function")
  kC : keepIn K (.ref C) = true
  exC : subIn K (.ref C) (.type "BaseException") = some true
  tyC : typeIn K (.ref C) = some (.type "type")
  hdC : hasDictIn K C = true
  te : exmOne K (.ref C) (.ref C) = some true
  fn : ∃ (oc : Value) (od : Option Addr) (doc pm : Value) (an : Option Addr) (cdv ct : Value) (osl : Array (Option Value)) (p1 p2 q1 q2 q3 q4 : Pos),
    K.lookup fI = some ⟨oc, od, .func (fnOf "__init__" "NoFilling.__init__" (iA p1 p2) (iB q1 q2 q3 q4) iS .none .none doc pm an cdv ct), osl⟩ ∧ codeIn K cdv "NoFilling.__init__" = true
theorem one_size (v : Value) : [v].length ≤ sizeLine := by
  rw [sizeLine_eq]
  exact (by decide : 1 ≤ 16777216)
theorem kept_but {K : Frag} {h h' : Heap} {x : Addr} (X : K.In h) (hx : K.lookup x = none) (k : ∀ b o, b ≠ x → h.get? b = some o → h'.get? b = some o) : K.In h' := fun a o e =>
  k a o (fun z => by rw [z, hx] at e; cases e) (X a o e)
theorem ldC {M : Model} {s : Shared} {name : Str} {scope : Scope} {L a : Addr} {cd : Value} {m : Str → Option Value} {x : Str} {pos : Pos} {v : Value} {Q : Value → Shared → Prop} {A : Around} {E : Value → Shared → Prop} (hn : s.heap.Ns L m) (hv : m x = some v) (h : Q v s)
    (hk : scope.kind = .function := by rfl) (hl : (envOfC name scope L a cd).kindOf x = some .local := by rfl) (hd : (x == ("__debug__" : Str)) = false := by decide) :
    wpAny M A (eval (.Name x pos) (envOfC name scope L a cd)) Q E s := wpAny_Name (wpAny_loadName_local hk hl hn hv h) hd
/-- what __init__ leaves of a fresh exception at x -/
structure InitEnd (h h' : Heap) (x C dx t1 : Addr) (v : Value) : Prop where
  keep : ∀ b o, b ≠ x → h.get? b = some o → h'.get? b = some o
  obj : h'.get? x = some { cls := .ref C, dict := some dx, data := .fields #[.ref t1, .none, .none, .none, .bool false, .none] }
  dbig : h.objs.size ≤ dx
  dne : dx ≠ x
  ns : h'.Ns1 dx (fun y => if y = "thing" then some v else none)
/-- a made Low -/
structure OwnMade (h h' : Heap) (e C d : Addr) (v : Value) : Prop where
  keep : ∀ b o, h.get? b = some o → h'.get? b = some o
  new : h.objs.size ≤ e
  obj : ∃ oe vs, h'.get? e = some oe ∧ oe.cls = .ref C ∧ oe.dict = some d ∧ oe.data = .fields vs ∧ vs[1]? = some .none
  dbig : h.objs.size ≤ d
  dne : d ≠ e
  ns : h'.Ns1 d (fun y => if y = "thing" then some v else none)
section
variable {prog : Program} {w : World} {A : Around} {E : Value → Shared → Prop} {R : Result → Shared → Prop} {s : Shared} {K : Frag} {mg : Str → Option Value} {C fI : Addr}
theorem low_init (T : LowTxt K mg C fI) {x t0 : Addr} {v : Value} (X : K.In s.heap) (hlim : s.heap.NoLimit) (hx : s.heap.get? x = some (excO C t0)) (hnx : K.lookup x = none) (hroom : A.depth < recursionLimit)
    (hq : ∀ h' tk dx, InitEnd s.heap h' x C dx t0 v → R (.ok (.ret .none)) { s with heap := h', toks := tk }) :
    codeAny (model prog w) A (.call (.ref fI) ⟨[.ref x, v], []⟩) R s := by
  obtain ⟨oc, od, doc, pm, an, cdv, ct, osl, p1, p2, q1, q2, q3, q4, ho, hcd⟩ := T.fn
  obtain ⟨nm, q, N, bs, bm, sn, sub, ab, col, dd, k0, k1, k2, k3, k5, hC, hbm⟩ := T.cls
  have hcl : clsIn K C = some { name := nm, bases := bs, mro := .ref C :: bm, ns := N, qualname := q, hasDict := true, slotNames := sn, subclasses := sub, abstract := ab, collection := col, hasDel := false } := by unfold clsIn; rw [hC] <;> rfl
  refine Att.call_fn (binds := [("self", .ref x), ("thing", v)]) X hlim ho hcd hroom (BindsTo.of_eq (by first | rfl | with_unfolding_all rfl)) (by first | rfl | decide | with_unfolding_all rfl) (fun s₁ IC => ?_) rfl rfl rfl
  obtain ⟨h₁, tk₁, rfl⟩ := IC.toInCall.same
  have k : ∀ b o, s.heap.get? b = some o → h₁.get? b = some o := IC.toInCall.keep
  have hn := IC.toInCall.ns
  have hxL : s.heap.objs.size ≠ x := Nat.ne_of_gt (Heap.lt_size hx)
  have X₁ : K.In h₁ := X.keeps k
  have hx₁ := k _ _ hx
  -- self.by = by
  show wpAny _ _ (execs _ _) _ _ _
  refine wpAny_execs_cons (plainObj_wpAny_Assign_Attribute ?_)
  refine ldC (v := v) hn (by first | rfl | with_unfolding_all rfl | kernel_rfl) (ldC (v := .ref x) hn (by first | rfl | with_unfolding_all rfl | kernel_rfl) ?_)
  refine set_plain X₁ (ox := excO C t0) (od := none) ⟨hx₁, rfl, rfl, trivial⟩ T.sa ?_
  refine exc_osa X₁ hx₁ hcl (show refsVE (.ref C :: bm) = true from hbm) rfl T.noN (fun h₃ tk₃ dx k₃ dn dne hx₃ hn₃ => ?_)
  show wpAny _ _ (execs _ _) _ _ _
  have z : s.heap.objs.size < h₁.objs.size := hn.lt
  exact wpAny_execs_nil (hq h₃ tk₃ dx ⟨fun b o hb e => k₃ b o hb (k b o e), hx₃, Nat.le_of_lt (Nat.lt_of_lt_of_le z dn), dne, hn₃⟩)
theorem low_made (T : LowTxt K mg C fI) {v : Value} (X : K.In s.heap) (hlim : s.heap.NoLimit) (hroom : A.depth + 1 < recursionLimit)
    (hq : ∀ h' tk e d, OwnMade s.heap h' e C d v → R (.ok (.ret (.ref e))) { s with heap := h', toks := tk }) :
    codeAny (model prog w) A (.call (.ref C) ⟨[v], []⟩) R s := by
  obtain ⟨nm, q, N, bs, bm, sn, sub, ab, col, dd, k0, k1, k2, k3, k5, hC, hbm⟩ := T.cls
  obtain ⟨hp, g, dr, tk, os⟩ := s
  have k : ∀ b o, hp.get? b = some o → ((hp.push (kdv_tup [v])).push (excO C hp.objs.size)).get? b = some o := fun b o e => Heap.get?_push_of_some _ (Heap.get?_push_of_some _ e)
  have hget : ((hp.push (kdv_tup [v])).push (excO C hp.objs.size)).get? (hp.objs.size + 1) = some (excO C hp.objs.size) := by heap_get
  have hnx : K.lookup (hp.objs.size + 1) = none := by
    cases e : K.lookup (hp.objs.size + 1) with
    | none => rfl
    | some o =>
      have z : hp.get? (hp.objs.size + 1) = some o := X _ _ e
      exact absurd (Nat.lt_of_succ_lt (Heap.lt_size z)) (Nat.lt_irrefl _)
  refine call_own F.excBase_ValueError (fun X => refsVE_contains X bm hbm) (X _ _ hC) (looks_findIn X T.iC) (fun self => bind_fn X self T.tC) (one_size v) ?_
  refine low_init (s := ⟨(hp.push (kdv_tup [v])).push (excO C hp.objs.size), g, dr, tk, os⟩) T (X.keeps k) (hlim.keeps k) hget hnx ?_ fun h' tk' dx ⟨k', hx, dn, dne, hns⟩ => ?_
  · show A.depth + 1 < recursionLimit
    exact hroom
  · have old : ∀ b o, hp.get? b = some o → h'.get? b = some o := fun b o e => k' b o (Nat.ne_of_lt (Nat.lt_succ_of_lt (Heap.lt_size e))) (k b o e)
    have z : hp.objs.size + 1 + 1 ≤ dx := by
      first
        | (simpa only [Heap.size_push] using dn)
        | exact dn
        | (have q := dn; rw [Heap.size_push, Heap.size_push] at q; exact q)
    exact ⟨rfl, hq h' tk' (hp.objs.size + 1) dx ⟨old, Nat.le_succ _, ⟨_, _, hx, rfl, rfl, rfl, rfl⟩, Nat.le_trans (Nat.le_trans (Nat.le_succ _) (Nat.le_succ _)) z, dne, hns⟩⟩
end
end LowX
end PySem
namespace L2
open PySem PySem.Spec PyProof.Rows
theorem relO_low {v : V} {v' : Value} (r : RelV v v') (f : Str) : RelO (List.lookup f [(("thing" : Str), v)]) (if f = "thing" then some v' else none) := by
  by_cases hw : f = "thing"
  · subst hw
    rw [if_pos rfl]
    have q : List.lookup ("thing" : Str) [(("thing" : Str), v)] = some v := by simp [List.lookup]
    rw [q]
    exact r
  · rw [if_neg hw]
    have qw : (f == ("thing" : Str)) = false := by simpa using hw
    have q2 : List.lookup f [(("thing" : Str), v)] = none := by simp [List.lookup, qw]
    rw [q2]
    trivial
section
variable {X : Cx} {C fI : Addr}
/-- Low(e) -/
def tMkLow (C : Addr) (ta : TA) : St → Hp → XK → Prop := fun σ H Q => ta σ H fun vs H1 => ∃ v, vs = [v] ∧ ∀ d, H1 d = none → Q (.ref C) (some d) (upd H1 d (.xd [(("thing" : Str), v)]))
theorem pmk_low {a : Expr} {ta : TA} {p pos : Pos} {k : Nat} (T : PySem.LowX.LowTxt X.K X.mg C fI) (hr : Room k X.A) (ha : PA X [a] ta) (hg : Gl X "NoFilling" := by rfl)
    (he : starEach (a :: []) X.env = (false, eval a X.env) :: starEach [] X.env := by rfl) (hpl : (backTo pos (starEach [] X.env)).any (·.1) = false := by rfl) :
    PMk X (.Call (.Name "NoFilling" p) [a] [] pos) (tMkLow C ta) := by
  intro pins s σ H Q I h
  refine wpAny_Call_Name_kw (ld_glob I hg T.gC ?_)
  refine PySem.W.callWith_K (h₀ := X.base) I.ok.mod.kin T.kC (thn (ha.run pos pins s σ H _ I h) fun us s1 hh => ?_) he hpl
  obtain ⟨vs, H1, I1, r1, v, ev, q1⟩ := hh
  subst ev
  refine ⟨I1.kIn, ?_⟩
  cases r1 with
  | cons rv rn =>
    rename_i v' us'
    cases rn
    show wpAny _ _ (call (.ref C) [v']) _ _ _
    have hlim := I1.nolimit
    obtain ⟨hp, g, dr, tk, os⟩ := s1
    refine wpAny_call (PySem.LowX.low_made T I1.kIn hlim (by have := hr.dp; omega) fun h' tk' e d M => ?_)
    show MkP X pins σ Q (.ref e) ⟨h', g, dr, tk', os⟩
    obtain ⟨oe, fv, hoe, hc, hd, hdat, h1⟩ := M.obj
    have hns := M.ns
    obtain ⟨G', g1, g2⟩ := restrict h' fun b => decide (b ≠ e)
    have gk : ∀ b, b ≠ e → G'.get? b = h'.get? b := fun b hb => g1 b (decide_eq_true hb)
    have ge : G'.get? e = none := g2 e (by simp)
    have old : ∀ b o, hp.get? b = some o → G'.get? b = some o := fun b o q => (gk b (Nat.ne_of_lt (Nat.lt_of_lt_of_le (Heap.lt_size q) M.new))).trans (M.keep b o q)
    have ob : ObjOk X.prog X.w (upd H1 d (.xd [(("thing" : Str), v)])) G' d (.xd [(("thing" : Str), v)]) :=
      ⟨_, hns.at (fun o q => (gk d M.dne).trans q), fun f => relO_low rv f⟩
    have J : Inv X pins σ (upd H1 d (.xd [(("thing" : Str), v)])) ⟨G', g, dr, tk', os⟩ := I1.laid (t' := tk') old M.dbig ob
    refine ⟨e, oe, fv, ⟨G', g, dr, tk', os⟩, _, .ref C, some d, rfl, J, fun b o q => ?_, ge, hoe, ⟨hc, hd⟩, hdat, h1, ?_, rfl, I1.bare, raises_own T.exC T.tyC, q1 d (I1.hok.fresh M.dbig)⟩
    · by_cases hb : b = e
      · have q' : G'.get? b = some o := q
        rw [hb, ge] at q'; cases q'
      · exact (gk b hb).symm.trans q
    · rw [upd_ne (Ne.symm M.dne)]
      exact I1.hok.fresh M.new
/-- raise Low(e) -/
def tRaiseLow (C : Addr) (W : WX) (ta : TA) : TS := fun _ σ H => tMkLow C ta σ H fun cls d H' => W cls d σ H'
theorem ps_raiseLow {a : Expr} {ta : TA} {W : WX} {p pos pos2 : Pos} {k : Nat} (hc : X.calm = true) (T : PySem.LowX.LowTxt X.K X.mg C fI) (hr : Room k X.A) (tk : Takes X W) (ha : PA X [a] ta) (hg : Gl X "NoFilling" := by rfl)
    (he : starEach (a :: []) X.env = (false, eval a X.env) :: starEach [] X.env := by rfl) (hpl : (backTo pos (starEach [] X.env)).any (·.1) = false := by rfl) :
    PS X (.Raise (some (.Call (.Name "NoFilling" p) [a] [] pos)) none pos2) (tRaiseLow C W ta) := ps_raise hc tk (pmk_low T hr ha hg he hpl)
/-- low.by, low the exception that the suite holds (at a; its class cls, its dict d) -/
def tByLow (C : Addr) (a : Addr) (cls : Value) (d : Option Addr) (te : TE) : TE := fun σ H Q => te σ H fun x H1 => x = .ref a ∧ cls = .ref C ∧ ∃ (dd : Addr) (v : V), d = some dd ∧ H1 dd = some (.xd [(("thing" : Str), v)]) ∧ Q v H1
theorem pe_byLow {a : Addr} {oe : Obj} {cls : Value} {d : Option Addr} {pn : List (Addr × Obj)} {e : Expr} {te : TE} {pos : Pos} (T : PySem.LowX.LowTxt X.K X.mg C fI) (hz : Zc cls d oe) (hf : ∃ vs, oe.data = .fields vs) (he : PE (X.suite a ((a, oe) :: pn)) e te)
    (hb : attributeBase e "thing" X.env (eval e X.env) = eval e X.env := by rfl) :
    PE (X.suite a ((a, oe) :: pn)) (.Attribute e "thing" pos) (tByLow C a cls d te) := by
  refine ⟨fun pins s σ H Q I h => ?_⟩
  refine attr_of hb (thn (he.run pins s σ H _ I h) fun u s1 hh => ?_)
  obtain ⟨x, H1, I1, rx, ex, ec, dd, v, ed, ea, q⟩ := hh
  subst ex
  obtain rfl : u = Value.ref a := rx
  subst ec
  subst ed
  obtain ⟨ha, _⟩ := I1.pin (a, oe) (List.mem_append_left _ List.mem_cons_self)
  obtain ⟨vs, hd⟩ := hf
  have hx : ObjOk X.prog X.w H1 s1.heap dd (.xd [(("thing" : Str), v)]) := I1.hok dd _ ea
  obtain ⟨mA, hns, hr⟩ := hx
  obtain ⟨od, ho, hl⟩ := lookIn_ns hns
  have l : List.lookup ("thing" : Str) [(("thing" : Str), v)] = some v := by simp [List.lookup]
  obtain ⟨u, hu, ru⟩ := RelO.some_of (v := v) (o := mA "thing") (by rw [← l]; exact hr "thing")
  have J : PySem.W.InstAt s1.heap a oe C (some od) := ⟨ha, hz.1, by unfold PySem.W.notCls; rw [hd] <;> rfl, by rw [hz.2]; exact ho⟩
  exact HandSPX.exc_get I1.kIn J T.ga T.gg T.exC (PySem.W.findObj_own T.hdC T.noN rfl (by rw [hl, hu])) (handed_of ru) ⟨v, H1, I1.tok _, ru, q⟩
end
end L2
set_option Elab.async false
set_option linter.all false
set_option maxRecDepth 100000
set_option maxHeartbeats 4000000
namespace K02
open PySem L2 Y00 K02M
def lets : Str := "abcdefghijklmnopqrstuvwxyz"
/-- what the top has written -/
structure Tx (K : PySem.W.Frag) (mg : Str → Option Value) extends TxG K mg where
  C : Addr
  fI : Addr
  low : PySem.LowX.LowTxt K mg C fI
  is_whole : FnD K mg "is_whole" sis_whole ["thing", "low", "high"] [.non, .non]
  is_sequence : FnD K mg "is_sequence" sis_sequence ["thing", "least", "most"] [.non]
  is_name : Fn K mg "is_name" sis_name ["thing"]
  is_wire : Fn K mg "is_wire" sis_wire ["thing"]
  is_filling : Fn K mg "is_filling" sis_filling ["sizes", "thing"]
  count_fillings : Fn K mg "count_fillings" scount_fillings ["sizes"]
  filling_number : Fn K mg "filling_number" sfilling_number ["sizes", "filling"]
  filling_by_number : Fn K mg "filling_by_number" sfilling_by_number ["sizes", "number"]
  law_many : Fn K mg "_law_many" s_law_many ["_law_sizes"]
  law_filling : Fn K mg "_law_filling" s_law_filling ["_law_sizes", "_law_number_here"]
  law_fillings : Fn K mg "_law_fillings" s_law_fillings ["_law_sizes"]
  law_number : Fn K mg "_law_number" s_law_number ["_law_sizes", "_law_filling_here"]
  law_name : Fn K mg "_law_name" s_law_name ["_law_hand_here", "_law_first"]
  law_tuples : Fn K mg "_law_tuples" s_law_tuples ["_law_thing"]
  law_odd : Fn K mg "_law_odd" s_law_odd ["_law_hand_here", "_law_bound"]
  law_rid : Fn K mg "_law_rid" s_law_rid ["_law_hand_here"]
  law_lists : Fn K mg "_law_lists" s_law_lists ["_law_hand_here", "_law_thing"]
  law_whole : Fn K mg "_law_whole" s_law_whole ["_law_thing", "_law_low", "_law_high"]
  law_like : Fn K mg "_law_like" s_law_like ["_law_told", "_law_thing"]
  law_truth : Fn K mg "_law_truth" s_law_truth ["_law_told", "_law_due"]
  law_int : Fn K mg "_law_int" s_law_int ["_law_thing"]
  law_is_name : Fn K mg "_law_is_name" s_law_is_name ["_law_thing"]
  law_is_wire : Fn K mg "_law_is_wire" s_law_is_wire ["_law_thing"]
  law_is_filling : Fn K mg "_law_is_filling" s_law_is_filling ["_law_sizes", "_law_thing"]
  law_no_wire : Fn K mg "_law_no_wire" s_law_no_wire ["_law_hand_here"]
  law_no_name : Fn K mg "_law_no_name" s_law_no_name ["_law_hand_here"]
  law_spoilt_row : Fn K mg "_law_spoilt_row" s_law_spoilt_row ["_law_hand_here", "_law_sizes", "_law_row"]
  law_by_number : Fn K mg "_law_by_number" s_law_by_number ["_law_sizes", "_law_number_here"]
  law_its_number : Fn K mg "_law_its_number" s_law_its_number ["_law_sizes", "_law_filling_here"]
  law_drawn_sizes : Fn K mg "_law_drawn_sizes" s_law_drawn_sizes ["_law_hand_here"]
  range : mg "range" = none
  bool : mg "bool" = none
  list : mg "list" = none
  str : mg "str" = none
  isinstance : mg "isinstance" = none
  zip : mg "zip" = none
  reversed : mg "reversed" = none
  divmod : mg "divmod" = none
  lT : Tok
  gLETTERS : mg "LETTERS" = some (.str lets lT)
  nT : Tok
  gLONGEST_NAME : mg "LONGEST_NAME" = some (.int 8 nT)
theorem seqT_same {K : PySem.W.Frag} {H H' : Hp} {a : Addr} {xs : List V} (e : Same H H') (h : SqT K H a xs) : SqT K H' a xs := by
  rcases h with (h | ⟨o, h⟩) | h
  · exact .inl (.inl (e _ _ h))
  · exact .inl (.inr ⟨o, e _ _ h⟩)
  · exact .inr h
mutual
theorem Dp.same {K : PySem.W.Frag} {H H' : Hp} (s : Same H H') : ∀ {v : V} {d : PyData}, Dp K H v d → Dp K H' v d
  | _, _, .non => .non
  | _, _, .bl b => .bl b
  | _, _, .int i => .int i
  | _, _, .str x => .str x
  | _, _, .lst h a => .lst (s.seq h) (DpAll.same s a)
  | _, _, .tup h a => .tup (seqT_same s h) (DpAll.same s a)
theorem DpAll.same {K : PySem.W.Frag} {H H' : Hp} (s : Same H H') : ∀ {vs : List V} {ds : List PyData}, DpAll K H vs ds → DpAll K H' vs ds
  | _, _, .nil => .nil
  | _, _, .cons a b => .cons (Dp.same s a) (DpAll.same s b)
end
theorem dpall_len {K : PySem.W.Frag} {H : Hp} : ∀ {xs : List V} {ds : List PyData}, DpAll K H xs ds → xs.length = ds.length
  | _, _, .nil => rfl
  | _, _, .cons _ t => congrArg Nat.succ (dpall_len t)
theorem dpall_get {K : PySem.W.Frag} {H : Hp} : ∀ {xs : List V} {ds : List PyData} {i : Nat} {x : V} {d : PyData}, DpAll K H xs ds → xs[i]? = some x → ds[i]? = some d → Dp K H x d
  | _, _, 0, _, _, .cons a _, e1, e2 => by cases e1; cases e2; exact a
  | _, _, i + 1, _, _, .cons _ t, e1, e2 => dpall_get t e1 e2
theorem dpall_ints {K : PySem.W.Frag} {H : Hp} : ∀ ns : List Nat, DpAll K H (ns.map nI) (ns.map fun n : Nat => PyData.int (n : Int))
  | [] => .nil
  | n :: r => .cons (.int _) (dpall_ints r)
theorem dpall_app {K : PySem.W.Frag} {H : Hp} : ∀ {xs ys : List V} {ds es : List PyData}, DpAll K H xs ds → DpAll K H ys es → DpAll K H (xs ++ ys) (ds ++ es)
  | _, _, _, _, .nil, b => b
  | _, _, _, _, .cons a t, b => .cons a (dpall_app t b)
/-- things: data, or a dict -/
inductive Td where
  | d (x : PyData)
  | dic
def DpX (K : PySem.W.Frag) (H : Hp) (v : V) : Td → Prop
  | .d x => Dp K H v x
  | .dic => ∃ a kvs, v = .ref a ∧ H a = some (.dK kvs) ∧ (kvs.map (·.1)).Nodup ∧ ∀ p ∈ kvs, flatB p.2 = true
theorem DpX.same {K : PySem.W.Frag} {H H' : Hp} {v : V} {t : Td} (s : Same H H') (h : DpX K H v t) : DpX K H' v t := by
  cases t with
  | d x => exact Dp.same s h
  | dic =>
    obtain ⟨a, kvs, e, h, r⟩ := h
    exact ⟨a, kvs, e, s _ _ h, r⟩
def isIB : Td → Bool | .d (.int _) => true | .d (.bool _) => true | _ => false
def isB : Td → Bool | .d (.bool _) => true | _ => false
def isT : Td → Bool | .d (.tuple _) => true | _ => false
def isL : Td → Bool | .d (.list _) => true | _ => false
def isS : Td → Bool | .d (.str _) => true | _ => false
theorem ty_of {K : PySem.W.Frag} {H : Hp} {v : V} {t : Td} (h : DpX K H v t) : ∃ n, TyX K H v (.type n) ∧ kitB n "int" = some (isIB t) ∧ kitB n "bool" = some (isB t) ∧ kitB n "tuple" = some (isT t) ∧ kitB n "list" = some (isL t) ∧ kitB n "str" = some (isS t) := by
  cases t with
  | dic =>
    obtain ⟨a, kvs, rfl, e, _⟩ := h
    exact ⟨"dict", .base (.dK e), (show kitB "dict" "int" = some false by decide +kernel), (show kitB "dict" "bool" = some false by decide +kernel), (show kitB "dict" "tuple" = some false by decide +kernel), (show kitB "dict" "list" = some false by decide +kernel), (show kitB "dict" "str" = some false by decide +kernel)⟩
  | d x =>
    cases (show Dp K H v x from h) with
    | non => exact ⟨"NoneType", .base .non, (show kitB "NoneType" "int" = some false by decide +kernel), (show kitB "NoneType" "bool" = some false by decide +kernel), (show kitB "NoneType" "tuple" = some false by decide +kernel), (show kitB "NoneType" "list" = some false by decide +kernel), (show kitB "NoneType" "str" = some false by decide +kernel)⟩
    | bl b => exact ⟨"bool", .base (.bl b), (show kitB "bool" "int" = some true by decide +kernel), (show kitB "bool" "bool" = some true by decide +kernel), (show kitB "bool" "tuple" = some false by decide +kernel), (show kitB "bool" "list" = some false by decide +kernel), (show kitB "bool" "str" = some false by decide +kernel)⟩
    | int i => exact ⟨"int", .base (.int i), (show kitB "int" "int" = some true by decide +kernel), (show kitB "int" "bool" = some false by decide +kernel), (show kitB "int" "tuple" = some false by decide +kernel), (show kitB "int" "list" = some false by decide +kernel), (show kitB "int" "str" = some false by decide +kernel)⟩
    | str x => exact ⟨"str", .base (.str x), (show kitB "str" "int" = some false by decide +kernel), (show kitB "str" "bool" = some false by decide +kernel), (show kitB "str" "tuple" = some false by decide +kernel), (show kitB "str" "list" = some false by decide +kernel), (show kitB "str" "str" = some true by decide +kernel)⟩
    | lst h1 _ =>
      refine ⟨"list", ?_, (show kitB "list" "int" = some false by decide +kernel), (show kitB "list" "bool" = some false by decide +kernel), (show kitB "list" "tuple" = some false by decide +kernel), (show kitB "list" "list" = some true by decide +kernel), (show kitB "list" "str" = some false by decide +kernel)⟩
      rcases h1 with (h1 | ⟨o, h1⟩) | ⟨o, its, n, l, c, _⟩
      · exact .base (.lst h1)
      · exact .base (.frz h1)
      · exact .kList l c
    | tup h1 _ =>
      refine ⟨"tuple", ?_, (show kitB "tuple" "int" = some false by decide +kernel), (show kitB "tuple" "bool" = some false by decide +kernel), (show kitB "tuple" "tuple" = some true by decide +kernel), (show kitB "tuple" "list" = some false by decide +kernel), (show kitB "tuple" "str" = some false by decide +kernel)⟩
      rcases h1 with (h1 | ⟨o, h1⟩) | ⟨o, its, n, l, c, _⟩
      · exact .base (.tup h1)
      · exact .fTuple h1
      · exact .kTuple l c
/-- is it a list or a tuple -/
def isQ (t : Td) : Bool := isL t || isT t
theorem any_lt {K : PySem.W.Frag} {H : Hp} {v : V} {t : Td} (h : DpX K H v t) : ∃ n, TyX K H v (.type n) ∧ PySem.W.kitAny K (.type n) [.type "list", .type "tuple"] = some (isQ t) := by
  obtain ⟨n, ty, _, _, k3, k4, _⟩ := ty_of h
  refine ⟨n, ty, kitAny_cons (kit_ty k4) (fun e => kitAny_cons (kit_ty k3) (fun e2 => ?_) fun e2 => ?_) fun e => ?_⟩
  · unfold isQ; rw [e, e2]; rfl
  · unfold isQ; rw [e, e2]; rfl
  · unfold isQ; rw [e]; rfl
theorem q_of {K : PySem.W.Frag} {H : Hp} {v : V} {t : Td} (h : DpX K H v t) (e : isQ t = true) : ∃ (b : Bool) (a : Addr) (xs : List V) (ds : List PyData), v = .ref a ∧ SqM K b H a xs ∧ DpAll K H xs ds ∧ t = .d (bif b then .tuple ds else .list ds) := by
  cases t with
  | dic => cases e
  | d x =>
    cases (show Dp K H v x from h) with
    | non => cases e
    | bl b => cases e
    | int i => cases e
    | str x => cases e
    | lst h1 a => exact ⟨false, _, _, _, rfl, h1, a, rfl⟩
    | tup h1 a => exact ⟨true, _, _, _, rfl, h1, a, rfl⟩
def lenT : Td → Nat
  | .d (.list ds) => ds.length
  | .d (.tuple ds) => ds.length
  | _ => 0
def optV : Option Int → V
  | none => .non
  | some i => .int i
def lowOk : Option Int → Int → Bool
  | none, _ => true
  | some l, i => decide (l ≤ i)
def highOk : Option Int → Int → Bool
  | none, _ => true
  | some h, i => decide (i ≤ h)
def isW (d : PyData) (low high : Option Int) : Bool := match d with
  | .int i => lowOk low i && highOk high i
  | _ => false
def spWhole (K : PySem.W.Frag) : Sp := fun vs H Q _ => ∃ (v : V) (d : PyData) (low high : Option Int), vs = [v, optV low, optV high] ∧ Dp K H v d ∧ Q (.bl (isW d low high)) H
/-- list or tuple with so many things -/
def seqB (t : Td) (l m : Int) : Bool := isQ t && (decide (l ≤ (lenT t : Int)) && decide ((lenT t : Int) ≤ m))
def spSeq (K : PySem.W.Frag) : Sp := fun vs H Q _ => ∃ (v : V) (t : Td) (l m : Int), vs = [v, .int l, .int m] ∧ DpX K H v t ∧ ∀ H', Same H H' → Q (.bl (seqB t l m)) H'
/-- one of the letters -/
def inL (c : Nat) : Bool := !(Builtin.Str.occurrences lets ⟨#[c]⟩ 0 lets.length 1).isEmpty
def nameS (s : Str) : Bool := decide (1 ≤ (s.length : Int)) && (decide ((s.length : Int) ≤ 8) && s.cps.toList.all inL)
def nameB : PyData → Bool
  | .str s => nameS s
  | _ => false
def smN : PyData → Prop
  | .str s => s.length ≤ 1000
  | _ => True
def spName (K : PySem.W.Frag) : Sp := fun vs H Q _ => ∃ (v : V) (d : PyData), vs = [v] ∧ Dp K H v d ∧ smN d ∧ Q (.bl (nameB d)) H
def spNameS (K : PySem.W.Frag) : Sp := fun vs H Q _ => ∃ (v : V) (d : PyData), vs = [v] ∧ Dp K H v d ∧ smN d ∧ ∀ H', Same H H' → Q (.bl (nameB d)) H'
def wireB : PyData → Bool
  | .list [a, b] => nameB a && isW b (some 2) (some 4)
  | .tuple [a, b] => nameB a && isW b (some 2) (some 4)
  | _ => false
def smW : PyData → Prop
  | .list ds => ∀ d ∈ ds, smN d
  | .tuple ds => ∀ d ∈ ds, smN d
  | _ => True
def spWire (K : PySem.W.Frag) : Sp := fun vs H Q _ => ∃ (v : V) (d : PyData), vs = [v] ∧ Dp K H v d ∧ smW d ∧ ∀ H', Same H H' → Q (.bl (wireB d)) H'
def allW : List Nat → List PyData → Bool
  | s :: r, d :: t => isW d (some 0) (some ((s : Int) - 1)) && allW r t
  | _, _ => true
def itemsT : Td → List PyData
  | .d (.list ds) => ds
  | .d (.tuple ds) => ds
  | _ => []
def fillB (ss : List Nat) (t : Td) : Bool := isQ t && (decide (lenT t = ss.length) && allW ss (itemsT t))
def spFilling (K : PySem.W.Frag) : Sp := fun vs H Q _ => ∃ (a : Addr) (b : Bool) (ss : List Nat) (v : V) (t : Td), vs = [.ref a, v] ∧ SqM K b H a (ss.map nI) ∧ DpX K H v t ∧ ∀ H', Same H H' → Q (.bl (fillB ss t)) H'
theorem allW_iff : ∀ {ss : List Nat} {ds : List PyData}, allW ss ds = true ↔ ∀ (i s : Nat) (d : PyData), ss[i]? = some s → ds[i]? = some d → isW d (some 0) (some ((s : Int) - 1)) = true
  | [], _ => ⟨fun _ i s d e => by simp at e, fun _ => by unfold allW; rfl⟩
  | _ :: _, [] => ⟨fun _ i s d _ e => by simp at e, fun _ => by unfold allW; rfl⟩
  | s :: r, d :: t => by
    constructor
    · intro h i s' d' e1 e2
      obtain ⟨h1, h2⟩ := Bool.and_eq_true_iff.mp (show (isW d (some 0) (some ((s : Int) - 1)) && allW r t) = true from h)
      cases i with
      | zero => cases e1; cases e2; exact h1
      | succ i => exact allW_iff.mp h2 i s' d' e1 e2
    · intro h
      show (isW d (some 0) (some ((s : Int) - 1)) && allW r t) = true
      rw [h 0 s d rfl rfl, Bool.true_and]
      exact allW_iff.mpr fun i s' d' e1 e2 => h (i + 1) s' d' e1 e2
/-- what fits is told by whole numbers below the sizes -/
theorem allW_fit : ∀ {ss : List Nat} {ds : List PyData}, ds.length = ss.length → allW ss ds = true → ∃ ws : List Nat, Fit ss ws ∧ ds = ws.map fun n : Nat => PyData.int (n : Int)
  | [], [], _, _ => ⟨[], trivial, rfl⟩
  | s :: r, d :: t, e, h => by
    obtain ⟨h1, h2⟩ := Bool.and_eq_true_iff.mp (show (isW d (some 0) (some ((s : Int) - 1)) && allW r t) = true from h)
    obtain ⟨ws, f, rfl⟩ := allW_fit (by simpa using e) h2
    cases d with
    | int i =>
      obtain ⟨l, u⟩ := Bool.and_eq_true_iff.mp (show (decide (0 ≤ i) && decide (i ≤ (s : Int) - 1)) = true from h1)
      have l := of_decide_eq_true l
      have u := of_decide_eq_true u
      refine ⟨i.toNat :: ws, ⟨by omega, f⟩, ?_⟩
      show _ = PyData.int ((i.toNat : Nat) : Int) :: _
      rw [Int.toNat_of_nonneg l]
    | _ => cases h1
  | [], _ :: _, e, _ => by simp at e
  | _ :: _, [], e, _ => by simp at e
theorem fit_allW : ∀ {ss ws : List Nat}, Fit ss ws → allW ss (ws.map fun n : Nat => PyData.int (n : Int)) = true
  | [], [], _ => rfl
  | s :: r, w :: t, h => by
    show (decide ((0 : Int) ≤ (w : Int)) && decide ((w : Int) ≤ (s : Int) - 1) && allW r _) = true
    rw [fit_allW h.2, decide_eq_true (Int.natCast_nonneg w), decide_eq_true (by have := h.1; omega)]
    rfl
  | [], _ :: _, h => h.elim
  | _ :: _, [], h => h.elim
end K02
set_option Elab.async false
set_option linter.all false
set_option maxRecDepth 100000
set_option maxHeartbeats 4000000
namespace K02
open PySem L2 Y00 K02M
theorem z2 : (2 : Nat) ≤ sizeLine := by decide
section
variable {P : Program} {w : World} {K : PySem.W.Frag} {mg : Str → Option Value} {base : Heap}
theorem ok_is_whole (T : Tx K mg) {CX : CXT} : FnOk P w K mg base CX 1 T.is_whole.f T.is_whole.fd ["thing", "low", "high"] (spWhole K) := by
  refine T.is_whole.F.ok scis_whole (fun vs H Q E h => ?_) (fun cdv A outer s H vs Q E hr h => ?_)
  · obtain ⟨_, _, _, _, rfl, _⟩ := h
    rfl
  · obtain ⟨v, d, low, high, rfl, hd, k⟩ := h
    obtain ⟨t, ty, k1, k2, _⟩ := ty_of (show DpX K H v (.d d) from hd)
    refine ⟨_, (pss_cons (ps_if (PW.pt (pw_or (pt_not (pt_val (pe_callB call_isi (by rfl) T.isinstance (by decide +kernel) (pa_cons (pv 0) (pa_cons (pe_bltn (v := .ty "int") (by rfl) T.int (by decide +kernel) rfl) pa_nil))))) (pw_or1 (pt_val (pe_callB call_isi (by rfl) T.isinstance (by decide +kernel) (pa_cons (pv 0) (pa_cons (pe_bltn (v := .ty "bool") (by rfl) T.bool (by decide +kernel) rfl) pa_nil))))))) (pss_one (ps_ret pe_bl)) pss_nil)
  (pss_cons (ps_if (PW.pt (pw_and (pt_cmp (pc_notN (pv 1))) (pw_and1 (pt_cmpR op_lt (pv 0) (pv 1) (nomark _))))) (pss_one (ps_ret pe_bl)) pss_nil)
  (pss_one (ps_ret (pe_or (pe_cmp (pc_isN (pv 2)) rfl) (pe_one (pe_cmpR op_le (pv 0) (pv 2) (nomark _)))))))), ?_⟩
    refine ⟨_, rfl, _, _, _, _, _, rfl, .ty _, ty, kit_ty k1, _, rfl, ?_⟩
    cases e1 : isIB (.d d) with
    | false =>
      have e2 : isW d low high = false := by
        cases d <;> first | rfl | (cases e1)
      rw [e2] at k
      refine iteT (iteT ?_)
      exact k
    | true =>
      refine iteF ?_
      refine ⟨_, rfl, _, _, _, _, _, rfl, .ty _, ty, kit_ty k2, _, rfl, ?_⟩
      cases e2 : isB (.d d) with
      | true =>
        have e3 : isW d low high = false := by
          cases d <;> first | rfl | (cases e2)
        rw [e3] at k
        refine iteT ?_
        exact k
      | false =>
        refine iteF ?_
        obtain ⟨i, rfl⟩ : ∃ i, d = .int i := by
          cases d <;> first | exact ⟨_, rfl⟩ | exact Bool.noConfusion (show false = true from e1) | exact Bool.noConfusion (show true = false from e2)
        cases hd
        have k' : Q (.bl (lowOk low i && highOk high i)) H := k
        have last : ∀ Q' : VK, (∀ b, b = highOk high i → Q' (.bl b) H) → (tOrV (tIsN (tVar 2)) (tOp (rI0 fun i j => .bl (decide (i ≤ j))) (tVar 0) (tVar 2))) [some (.int i), some (optV low), some (optV high)] H Q' := by
          intro Q' q
          refine ⟨_, rfl, _, rfl, ?_⟩
          cases high with
          | none => exact iteT (q true rfl)
          | some hh => exact iteF ⟨_, rfl, _, rfl, _, _, rfl, rfl, q _ rfl⟩
        refine ⟨_, rfl, _, rfl, ?_⟩
        cases low with
        | none =>
          refine iteF (iteF ?_)
          exact last _ fun b e => by rw [e]; exact k'
        | some l =>
          refine iteT ?_
          refine ⟨_, rfl, _, rfl, _, _, rfl, rfl, _, rfl, ?_⟩
          refine ite2 (fun e => ?_) (fun e => ?_)
          · have e' : i < l := of_decide_eq_true e
            have e3 : lowOk (some l) i = false := decide_eq_false (by omega)
            rw [e3] at k'
            exact k'
          · have e' : ¬ i < l := fun z => e (decide_eq_true z)
            have e3 : lowOk (some l) i = true := decide_eq_true (by omega)
            rw [e3] at k'
            exact last _ fun b e => by rw [e]; exact k'
theorem ok_is_sequence (T : Tx K mg) : FnOk P w K mg base CX0 1 T.is_sequence.f T.is_sequence.fd ["thing", "least", "most"] (spSeq K) := by
  refine T.is_sequence.F.ok scis_sequence (fun vs H Q E h => ?_) (fun cdv A outer s H vs Q E hr h => ?_)
  · obtain ⟨_, _, _, _, rfl, _⟩ := h
    rfl
  · obtain ⟨v, t, l, m, rfl, hd, k⟩ := h
    refine ⟨_, (pss_cons (ps_if (PW.pt (pw_or (pt_not (pt_val (pe_callB call_isiT (by rfl) T.isinstance (by decide +kernel) (pa_cons (pv 0) (pa_cons (pe_tup (pa_cons (pe_bltn (v := .ty "list") (by rfl) T.list (by decide +kernel) rfl) (pa_cons (pe_bltn (v := .ty "tuple") (by rfl) T.tuple (by decide +kernel) rfl) pa_nil))) pa_nil))))) (pw_or1 (pt_cmpR op_lt (pe_callB call_len_seq (by rfl) T.len PySem.boot_len (pa_cons (pv 0) pa_nil)) (pv 1) (nomark _))))) (pss_one (ps_ret pe_bl)) pss_nil)
  (pss_one (ps_ret (pe_or (pe_cmp (pc_isN (pv 2)) rfl) (pe_one (pe_cmpR op_le (pe_callB call_len_seq (by rfl) T.len PySem.boot_len (pa_cons (pv 0) pa_nil)) (pv 2) (nomark _))))))), ?_⟩
    refine ⟨_, rfl, z2, fun p fp => ?_⟩
    have s1 : Same H (upd H p (.tup [.ty "list", .ty "tuple"])) := same_new fp
    obtain ⟨n, ty, kk⟩ := any_lt (hd.same s1)
    refine ⟨_, p, _, _, _, _, rfl, upd_same, .cons (.ty _) (.cons (.ty _) .nil), ty, kk, _, rfl, ?_⟩
    have k := k _ s1
    unfold seqB at k
    cases e : isQ t with
    | false =>
      rw [e] at k
      refine iteT (iteT ?_)
      exact k
    | true =>
      rw [e] at k
      obtain ⟨b, a, xs, ds, rfl, hS, ha, et⟩ := q_of (hd.same s1) e
      have el : (lenT t : Int) = (xs.length : Int) := by
        rw [dpall_len ha, et]
        cases b <;> rfl
      rw [el] at k
      refine iteF ?_
      refine ⟨_, rfl, a, _, rfl, hS.len, _, rfl, _, _, rfl, rfl, _, rfl, ?_⟩
      refine ite2 (fun e => ?_) (fun e => ?_)
      · have e' := of_decide_eq_true e
        rw [decide_eq_false (by omega)] at k
        exact k
      · have e' : ¬ (xs.length : Int) < l := fun z => e (decide_eq_true z)
        rw [decide_eq_true (by omega)] at k
        exact ⟨_, rfl, _, rfl, iteF ⟨_, rfl, a, _, rfl, hS.len, _, rfl, _, _, rfl, rfl, k⟩⟩
theorem all_get {l : List Nat} {p : Nat → Bool} (h : ∀ (i c : Nat), l[i]? = some c → p c = true) : l.all p = true := List.all_eq_true.mpr fun c hc => by
  obtain ⟨i, hi⟩ := List.getElem?_of_mem hc
  exact h i c hi
theorem all_not {l : List Nat} {p : Nat → Bool} {i c : Nat} (h : l[i]? = some c) (e : p c = false) : l.all p = false := by
  cases z : l.all p with
  | false => rfl
  | true =>
    have := List.all_eq_true.mp z c (List.mem_of_getElem? h)
    rw [e] at this
    cases this
theorem cps_get {s : Str} {i c : Nat} (h : s.cps[i]? = some c) : s.cps.toList[i]? = some c := by rw [Array.getElem?_toList]; exact h
theorem ok_is_name (T : Tx K mg) : FnOk P w K mg base CX0 1 T.is_name.f T.is_name.fd ["thing"] (spName K) := by
  refine T.is_name.F.ok scis_name (fun vs H Q E h => ?_) (fun cdv A outer s H vs Q E hr h => ?_)
  · obtain ⟨_, _, rfl, _⟩ := h
    rfl
  · obtain ⟨v, d, rfl, hd, sm, k⟩ := h
    obtain ⟨n, ty, _, _, _, _, k5⟩ := ty_of (show DpX K H v (.d d) from hd)
    refine ⟨_, (pss_cons (ps_if (PW.pt (pw_or (pt_not (pt_val (pe_callB call_isi (by rfl) T.isinstance (by decide +kernel) (pa_cons (pv 0) (pa_cons (pe_bltn (v := .ty "str") (by rfl) T.str (by decide +kernel) rfl) pa_nil))))) (pw_or1 (pt_not (pt_chain op_le op_le pe_int (pe_callB call_len_str (by rfl) T.len PySem.boot_len (pa_cons (pv 0) pa_nil)) (pe_glob (v := .int 8) rfl T.gLONGEST_NAME ⟨_, rfl⟩)))))) (pss_one (ps_ret pe_bl)) pss_nil)
  (pss_cons (ps_for PassesOwn.never rfl (pi_str (pv 0)) (pg_name (i := 1) scis_name.nd rfl (Or.inl rfl))
  (pss_one (ps_if (pt_cmpR op_notIn_str (pv 1) (pe_glob (v := .str lets) rfl T.gLETTERS ⟨_, rfl⟩) rfl) (pss_one (ps_ret pe_bl)) pss_nil)))
  (pss_one (ps_ret pe_bl)))), ?_⟩
    refine ⟨_, rfl, _, _, _, _, _, rfl, .ty _, ty, kit_ty k5, _, rfl, ?_⟩
    cases e1 : isS (.d d) with
    | false =>
      have e2 : nameB d = false := by
        cases d <;> first | rfl | (cases e1)
      rw [e2] at k
      refine iteT (iteT ?_)
      exact k
    | true =>
      obtain ⟨s, rfl⟩ : ∃ s, d = .str s := by
        cases d <;> first | exact ⟨_, rfl⟩ | exact Bool.noConfusion (show false = true from e1)
      cases hd
      have k : Q (.bl (nameS s)) H := k
      have sm : s.length ≤ 1000 := sm
      have sl : s.length ≤ sizeLine := Nat.le_of_lt (small1000 sm)
      unfold nameS at k
      refine iteF ?_
      refine ⟨_, rfl, s, rfl, sl, _, _, rfl, rfl, _, rfl, ?_⟩
      refine ite2 (fun e => ?_) (fun e => ?_)
      · rw [show decide (1 ≤ (s.length : Int)) = true from e, Bool.true_and] at k
        refine ⟨_, _, rfl, rfl, _, rfl, ?_⟩
        cases e2 : decide ((s.length : Int) ≤ 8) with
        | false =>
          rw [e2] at k
          exact iteT k
        | true =>
          rw [e2, Bool.true_and] at k
          refine iteF ?_
          refine ⟨_, rfl, s, rfl, for_str (x := s) (fun i σ H2 => H2 = H ∧ (∃ v, σ = [some (.str s), v]) ∧ ∀ (j c : Nat), j < i → s.cps[j]? = some c → inL c = true) ⟨rfl, ⟨none, rfl⟩, fun j c h => absurd h (Nat.not_lt_zero _)⟩ ?_ ?_⟩
          · rintro i c σ H2 hc ⟨rfl, ⟨v, rfl⟩, ok⟩
            refine ⟨_, rfl, _, _, rfl, rfl, _, rfl, ?_⟩
            refine ite2 (fun e3 => ?_) (fun e3 => ?_)
            · have e4 : inL c = false := by
                have e3 : (!inL c) = true := e3
                cases z : inL c with
                | false => rfl
                | true => rw [z] at e3; cases e3
              rw [all_not (cps_get hc) e4] at k
              exact k
            · have e4 : inL c = true := by
                cases z : inL c with
                | true => rfl
                | false => exact absurd (show (!inL c) = true by rw [z]; rfl) e3
              refine ⟨rfl, ⟨_, rfl⟩, fun j d hj hd => ?_⟩
              rcases Nat.lt_or_ge j i with l | g
              · exact ok j d l hd
              · obtain rfl : j = i := by omega
                rw [hc] at hd
                cases hd
                exact e4
          · rintro σ H2 ⟨rfl, ⟨v, rfl⟩, ok⟩
            have e5 : s.cps.toList.all inL = true := all_get fun i c hc => by
              rw [Array.getElem?_toList] at hc
              refine ok i c ?_ hc
              exact (Array.getElem?_eq_some_iff.mp hc).1
            rw [e5] at k
            exact k
      · rw [decide_eq_false (fun z => e (decide_eq_true z))] at k
        exact ⟨_, rfl, iteT k⟩
end
end K02
set_option Elab.async false
set_option linter.all false
set_option maxRecDepth 100000
set_option maxHeartbeats 4000000
namespace K02
open PySem L2 Y00 K02M
theorem two_of {α : Type} {l : List α} (h : l.length = 2) : ∃ a b, l = [a, b] := by
  match l, h with
  | [a, b], _ => exact ⟨a, b, rfl⟩
section
variable {P : Program} {w : World} {K : PySem.W.Frag} {mg : Str → Option Value} {base : Heap}
theorem ok_is_wire (T : Tx K mg) : FnOk P w K mg base CX0 2 T.is_wire.f T.is_wire.fd ["thing"] (spWire K) := by
  have Gis_sequence : FnOk P w K mg base CX0 1 T.is_sequence.f T.is_sequence.fd ["thing", "least", "most"] (spSeq K) := ok_is_sequence T
  have Gis_name : FnOk P w K mg base CX0 1 T.is_name.f T.is_name.fd ["thing"] (spName K) := ok_is_name T
  have Gis_whole : FnOk P w K mg base CX0 1 T.is_whole.f T.is_whole.fd ["thing", "low", "high"] (spWhole K) := ok_is_whole T
  obtain ⟨ds1, hv1, hbS⟩ := T.is_sequence.b 1 (by decide)
  cases hv1
  obtain ⟨ds2, hv2, hbW⟩ := T.is_whole.b 2 (by decide)
  cases hv2
  refine T.is_wire.F.ok scis_wire (fun vs H Q E h => ?_) (fun cdv A outer s H vs Q E hr h => ?_)
  · obtain ⟨_, _, rfl, _⟩ := h
    rfl
  · obtain ⟨v, d, rfl, hd, sm, k⟩ := h
    refine ⟨_, (pss_one (ps_ret (pe_and (pe_call Gis_sequence (hr.mono (by decide)) rfl T.is_sequence.g T.is_sequence.F.kp hbS .nil pass0 (pa_cons (pv 0) (pa_cons pe_int (pa_cons pe_int pa_nil)))) (pe_and (pe_call Gis_name (hr.mono (by decide)) rfl T.is_name.g T.is_name.F.kp T.is_name.b .nil pass0 (pa_cons (pe_ix ix_seq (pv 0) pe_int (fun _ _ => rfl)) pa_nil)) (pe_one (pe_call Gis_whole (hr.mono (by decide)) rfl T.is_whole.g T.is_whole.F.kp hbW .nil pass0 (pa_cons (pe_ix ix_seq (pv 0) pe_int (fun _ _ => rfl)) (pa_cons pe_int (pa_cons pe_int pa_nil))))))))), ?_⟩
    refine ⟨_, rfl, v, .d d, 2, 2, rfl, hd, fun H1 s1 => ⟨_, rfl, ?_⟩⟩
    cases e : seqB (.d d) 2 2 with
    | false =>
      have e2 : wireB d = false := by
        cases z : wireB d with
        | false => rfl
        | true =>
          unfold wireB at z
          split at z
          · cases e
          · cases e
          · cases z
      rw [e2] at k
      exact iteF (k _ s1)
    | true =>
      obtain ⟨e1, e2⟩ := Bool.and_eq_true_iff.mp (show (isQ (.d d) && _) = true from e)
      obtain ⟨e3, e4⟩ := Bool.and_eq_true_iff.mp e2
      have e3 := of_decide_eq_true e3
      have e4 := of_decide_eq_true e4
      obtain ⟨b, a, xs, ds, rfl, hS, ha, et⟩ := q_of (DpX.same s1 (show DpX K H v (.d d) from hd)) e1
      have dl : ds.length = 2 := by
        injection et with et
        subst et
        cases b
        · have e3 : (2 : Int) ≤ (ds.length : Int) := e3
          have e4 : (ds.length : Int) ≤ 2 := e4
          omega
        · have e3 : (2 : Int) ≤ (ds.length : Int) := e3
          have e4 : (ds.length : Int) ≤ 2 := e4
          omega
      obtain ⟨d0, d1, rfl⟩ := two_of dl
      obtain ⟨x0, x1, rfl⟩ := two_of ((dpall_len ha).trans dl)
      have p0 : Dp K H1 x0 d0 := dpall_get (i := 0) ha rfl rfl
      have p1 : Dp K H1 x1 d1 := dpall_get (i := 1) ha rfl rfl
      have sm0 : smN d0 := by
        injection et with et
        subst et
        cases b
        · exact sm d0 (by simp)
        · exact sm d0 (by simp)
      have ew : wireB d = (nameB d0 && isW d1 (some 2) (some 4)) := by
        injection et with et
        subst et
        cases b <;> rfl
      rw [ew] at k
      refine iteT ?_
      refine ⟨_, rfl, hS.ix (atI_nat rfl) ?_⟩
      refine ⟨x0, d0, rfl, p0, sm0, _, rfl, ?_⟩
      cases e5 : nameB d0 with
      | false =>
        rw [e5] at k
        exact iteF (k _ s1)
      | true =>
        rw [e5, Bool.true_and] at k
        refine iteT ?_
        refine ⟨_, rfl, hS.ix (atI_nat rfl) ?_⟩
        exact ⟨x1, d1, some 2, some 4, rfl, p1, k _ s1⟩
theorem ok_is_filling (T : Tx K mg) : FnOk P w K mg base CX0 2 T.is_filling.f T.is_filling.fd ["sizes", "thing"] (spFilling K) := by
  have Gis_sequence : FnOk P w K mg base CX0 1 T.is_sequence.f T.is_sequence.fd ["thing", "least", "most"] (spSeq K) := ok_is_sequence T
  have Gis_whole : FnOk P w K mg base CX0 1 T.is_whole.f T.is_whole.fd ["thing", "low", "high"] (spWhole K) := ok_is_whole T
  obtain ⟨ds1, hv1, hbS⟩ := T.is_sequence.b 1 (by decide)
  cases hv1
  obtain ⟨ds2, hv2, hbW⟩ := T.is_whole.b 2 (by decide)
  cases hv2
  refine T.is_filling.F.ok scis_filling (fun vs H Q E h => ?_) (fun cdv A outer s H vs Q E hr h => ?_)
  · obtain ⟨_, _, _, _, _, rfl, _⟩ := h
    rfl
  · obtain ⟨a, b, ss, v, t, rfl, hS, hd, k⟩ := h
    refine ⟨_, (pss_cons (ps_if (pt_not (pt_val (pe_call Gis_sequence (hr.mono (by decide)) rfl T.is_sequence.g T.is_sequence.F.kp hbS .nil pass0 (pa_cons (pv 1) (pa_cons (pe_callB call_len_seq (by rfl) T.len PySem.boot_len (pa_cons (pv 0) pa_nil)) (pa_cons (pe_callB call_len_seq (by rfl) T.len PySem.boot_len (pa_cons (pv 0) pa_nil)) pa_nil)))))) (pss_one (ps_ret pe_bl)) pss_nil)
  (pss_cons (ps_for PassesOwn.never rfl (pi_zipM (by rfl) T.zip (pa_cons (pv 0) (pa_cons (pv 1) pa_nil))) (pg_tup (by rfl) (pgs_cons (pg_name (i := 2) scis_filling.nd rfl (Or.inl rfl)) (pgs_cons (pg_name (i := 3) scis_filling.nd rfl (Or.inl rfl)) pgs_nil)))
  (pss_one (ps_if (pt_not (pt_val (pe_call Gis_whole (hr.mono (by decide)) rfl T.is_whole.g T.is_whole.F.kp hbW .nil pass0 (pa_cons (pv 3) (pa_cons pe_int (pa_cons (pe_op op_sub (pv 2) pe_int) pa_nil)))))) (pss_one (ps_ret pe_bl)) pss_nil)))
  (pss_one (ps_ret pe_bl)))), ?_⟩
    refine ⟨_, rfl, _, rfl, a, _, rfl, hS.len, _, rfl, a, _, rfl, hS.len, v, t, _, _, rfl, hd, fun H1 s1 => ⟨_, rfl, ?_⟩⟩
    cases e : seqB t ((ss.map nI).length : Int) ((ss.map nI).length : Int) with
    | false =>
      have e2 : fillB ss t = false := by
        cases z : fillB ss t with
        | false => rfl
        | true =>
          obtain ⟨z1, z2⟩ := Bool.and_eq_true_iff.mp (show (isQ t && (decide (lenT t = ss.length) && allW ss (itemsT t))) = true from z)
          obtain ⟨z3, z4⟩ := Bool.and_eq_true_iff.mp z2
          have z3 := of_decide_eq_true z3
          unfold seqB at e
          rw [z1, z3, List.length_map, decide_eq_true (Int.le_refl _)] at e
          cases e
      rw [e2] at k
      exact iteT (k _ s1)
    | true =>
      obtain ⟨e1, e2⟩ := Bool.and_eq_true_iff.mp (show (isQ t && _) = true from e)
      obtain ⟨e3, e4⟩ := Bool.and_eq_true_iff.mp e2
      have e3 := of_decide_eq_true e3
      have e4 := of_decide_eq_true e4
      rw [List.length_map] at e3 e4
      have el : lenT t = ss.length := by omega
      obtain ⟨c, p, xs, ds, rfl, hX, ha, et⟩ := q_of (hd.same s1) e1
      have ei : itemsT t = ds := by rw [et]; cases c <;> rfl
      have dl : ds.length = ss.length := by rw [← el, et]; cases c <;> rfl
      have xl : (ss.map nI).length = xs.length := by rw [List.length_map, dpall_len ha, dl]
      have ef : fillB ss t = allW ss ds := by
        unfold fillB
        rw [e1, ei, el, decide_eq_true rfl]
        rfl
      rw [ef] at k
      refine iteF ?_
      refine ⟨_, rfl, _, rfl, a, p, ss.map nI, xs, b, c, rfl, hS.same s1, hX, for_zipM xl (fun i σ H2 => Same H1 H2 ∧ (∃ v2 v3, σ = [some (.ref a), some (.ref p), v2, v3]) ∧ ∀ (j s : Nat) (d : PyData), j < i → ss[j]? = some s → ds[j]? = some d → isW d (some 0) (some ((s : Int) - 1)) = true)
        ⟨fun _ _ e => e, ⟨none, none, rfl⟩, fun j s d h => absurd h (Nat.not_lt_zero _)⟩ (fun i σ H2 q => ⟨(hS.same s1).same q.1, hX.same q.1⟩) ?_ ?_⟩
      · rintro i x y T2 σ H2 hx hy ⟨s2, ⟨v2, v3, rfl⟩, ok⟩ hT
        rw [List.getElem?_map] at hx
        obtain ⟨s, hs, rfl⟩ := Option.map_eq_some_iff.mp hx
        have il : i < ds.length := by rw [dl]; exact (List.getElem?_eq_some_iff.mp hs).1
        have hdi : ds[i]? = some ds[i] := List.getElem?_eq_getElem il
        have s3 : Same H1 (upd H2 T2 (.tup [nI s, y])) := s2.trans (same_new hT)
        refine ⟨T2, [nI s, y], rfl, SqT.of upd_same, rfl, ?_⟩
        refine ⟨_, _, rfl, _, _, rfl, rfl, ?_⟩
        refine ⟨_, rfl, _, rfl, _, _, rfl, rfl, y, ds[i], some 0, some ((s : Int) - 1), rfl, Dp.same s3 (dpall_get ha hy hdi), _, rfl, ?_⟩
        cases e5 : isW ds[i] (some 0) (some ((s : Int) - 1)) with
        | false =>
          have e6 : allW ss ds = false := by
            cases z : allW ss ds with
            | false => rfl
            | true => rw [allW_iff.mp z i s ds[i] hs hdi] at e5; cases e5
          rw [e6] at k
          exact iteT (k _ (s1.trans s3))
        | true =>
          refine iteF ?_
          refine ⟨s3, ⟨_, _, rfl⟩, fun j s' d' hj h1 h2 => ?_⟩
          rcases Nat.lt_or_ge j i with l | g
          · exact ok j s' d' l h1 h2
          · obtain rfl : j = i := by omega
            rw [hs] at h1
            rw [hdi] at h2
            cases h1
            cases h2
            exact e5
      · rintro σ H2 ⟨s2, ⟨v2, v3, rfl⟩, ok⟩
        have e6 : allW ss ds = true := allW_iff.mpr fun j s d h1 h2 => ok j s d (by rw [List.length_map]; exact (List.getElem?_eq_some_iff.mp h1).1) h1 h2
        rw [e6] at k
        exact k _ (s1.trans s2)
end
end K02
set_option Elab.async false
set_option linter.all false
set_option maxRecDepth 100000
set_option maxHeartbeats 4000000
namespace K02
open PySem L2 Y00 K02M
def spCount (K : PySem.W.Frag) : Sp := fun vs H Q _ => ∃ (a : Addr) (b : Bool) (ss : List Nat), vs = [.ref a] ∧ SqM K b H a (ss.map nI) ∧ (∀ s ∈ ss, 0 < s) ∧ prod ss < 1000000 ∧ Q (.int ((prod ss : Nat) : Int)) H
theorem get_nI {ss : List Nat} {i : Nat} {x : V} (h : (ss.map nI)[i]? = some x) : ∃ s, ss[i]? = some s ∧ x = nI s := by
  rw [List.getElem?_map] at h
  obtain ⟨s, hs, rfl⟩ := Option.map_eq_some_iff.mp h
  exact ⟨s, hs, rfl⟩
theorem mul_sm {a b : Nat} (ha : a < 1000000) (hb : b < 1000000) : CMulW (a : Int) (b : Int) := wide_mul (a := 32) (b := 32) (by omega) (by omega) (by decide) (by decide) (by decide)
section
variable {P : Program} {w : World} {K : PySem.W.Frag} {mg : Str → Option Value} {base : Heap}
theorem ok_count_fillings (T : Tx K mg) : FnOk P w K mg base CX0 1 T.count_fillings.f T.count_fillings.fd ["sizes"] (spCount K) := by
  refine T.count_fillings.F.ok sccount_fillings (fun vs H Q E h => ?_) (fun cdv A outer s H vs Q E hr h => ?_)
  · obtain ⟨_, _, _, rfl, _⟩ := h
    rfl
  · obtain ⟨a, b, ss, rfl, hS, hp, hb, k⟩ := h
    refine ⟨_, (pss_cons (ps_set (i := 1) sccount_fillings.nd rfl (Or.inl rfl) pe_int)
  (pss_cons (ps_for PassesOwn.never rfl (pi_seqT b (pv 0)) (pg_name (i := 2) sccount_fillings.nd rfl (Or.inl rfl))
  (pss_one (ps_set (i := 1) sccount_fillings.nd rfl (Or.inl rfl) (pe_op op_mulW (pv 1) (pv 2)))))
  (pss_one (ps_ret (pv 1))))), ?_⟩
    refine ⟨_, rfl, a, rfl, ⟨_, hS⟩, for_seqT (K := K) (a := a) (t := b) (xs := ss.map nI) (fun i σ H2 => H2 = H ∧ ∃ v, σ = [some (.ref a), some (.int ((prod (ss.take i) : Nat) : Int)), v]) ⟨rfl, none, rfl⟩ (fun i σ H2 _ p => by rw [p.1]; exact hS) ?_ ?_⟩
    · rintro i x σ H2 hx ⟨rfl, v, rfl⟩
      obtain ⟨s, hs, rfl⟩ := get_nI hx
      have p1 := take_le ss i hp
      have p2 := mem_le hp (List.mem_of_getElem? hs)
      refine ⟨_, rfl, _, rfl, _, _, rfl, rfl, mul_sm (by omega) (by omega), rfl, some (nI s), ?_⟩
      rw [take_succ hs, prod_snoc]
      rfl
    · rintro σ H2 ⟨rfl, v, rfl⟩
      rw [List.length_map, List.take_length]
      exact ⟨_, rfl, k⟩
theorem ok_law_many (T : Tx K mg) : FnOk P w K mg base CX0 1 T.law_many.f T.law_many.fd ["_law_sizes"] (spCount K) := by
  refine T.law_many.F.ok sc_law_many (fun vs H Q E h => ?_) (fun cdv A outer s H vs Q E hr h => ?_)
  · obtain ⟨_, _, _, rfl, _⟩ := h
    rfl
  · obtain ⟨a, b, ss, rfl, hS, hp, hb, k⟩ := h
    refine ⟨_, (pss_cons (ps_set (i := 1) sc_law_many.nd rfl (Or.inl rfl) pe_int)
  (pss_cons (ps_for PassesOwn.never rfl (pi_seqT b (pv 0)) (pg_name (i := 2) sc_law_many.nd rfl (Or.inl rfl))
  (pss_one (ps_set (i := 1) sc_law_many.nd rfl (Or.inl rfl) (pe_op op_mulW (pv 1) (pv 2)))))
  (pss_one (ps_ret (pv 1))))), ?_⟩
    refine ⟨_, rfl, a, rfl, ⟨_, hS⟩, for_seqT (K := K) (a := a) (t := b) (xs := ss.map nI) (fun i σ H2 => H2 = H ∧ ∃ v, σ = [some (.ref a), some (.int ((prod (ss.take i) : Nat) : Int)), v]) ⟨rfl, none, rfl⟩ (fun i σ H2 _ p => by rw [p.1]; exact hS) ?_ ?_⟩
    · rintro i x σ H2 hx ⟨rfl, v, rfl⟩
      obtain ⟨s, hs, rfl⟩ := get_nI hx
      have p1 := take_le ss i hp
      have p2 := mem_le hp (List.mem_of_getElem? hs)
      refine ⟨_, rfl, _, rfl, _, _, rfl, rfl, mul_sm (by omega) (by omega), rfl, some (nI s), ?_⟩
      rw [take_succ hs, prod_snoc]
      rfl
    · rintro σ H2 ⟨rfl, v, rfl⟩
      rw [List.length_map, List.take_length]
      exact ⟨_, rfl, k⟩
def spNumber (K : PySem.W.Frag) (C : Addr) : Sp := fun vs H Q E => ∃ (a : Addr) (b : Bool) (ss : List Nat) (v : V) (t : Td), vs = [.ref a, v] ∧ SqM K b H a (ss.map nI) ∧ (∀ s ∈ ss, 0 < s) ∧ prod ss < 1000000 ∧ DpX K H v t ∧
  (fillB ss t = false → ∀ H' d, Same H H' → H' d = none → E (.ref C) (some d) (upd H' d (.xd [("thing", v)]))) ∧
  (fillB ss t = true → ∀ ws H', Fit ss ws → itemsT t = ws.map (fun n : Nat => PyData.int (n : Int)) → Same H H' → Q (.int ((num ss ws : Nat) : Int)) H')
theorem ok_filling_number (T : Tx K mg) : FnOk P w K mg base (L2.CX P w) 3 T.filling_number.f T.filling_number.fd ["sizes", "filling"] (spNumber K T.C) := by
  have Gis_filling : FnOk P w K mg base CX0 2 T.is_filling.f T.is_filling.fd ["sizes", "thing"] (spFilling K) := ok_is_filling T
  refine T.filling_number.F.okX scfilling_number (fun vs H Q E h => ?_) (fun cdv A outer s H vs Q E hr h => ?_)
  · obtain ⟨_, _, _, _, _, rfl, _⟩ := h
    rfl
  · obtain ⟨a, b, ss, v, t, rfl, hS, hp, hb, hd, kE, kQ⟩ := h
    refine ⟨_, (pss_cons (ps_if (pt_not (pt_val (pe_call Gis_filling (hr.mono (by decide)) rfl T.is_filling.g T.is_filling.F.kp T.is_filling.b .nil pass0 (pa_cons (pv 0) (pa_cons (pv 1) pa_nil))))) (pss_one (ps_raiseLow rfl T.low hr (takes_of rfl rfl rfl rfl) (by exact (pa_cons (pv 1) pa_nil)))) pss_nil)
  (pss_cons (ps_set (i := 2) scfilling_number.nd rfl (Or.inl rfl) pe_int)
  (pss_cons (ps_for (passes_of rfl) rfl (pi_zipM (by rfl) T.zip (pa_cons (pv 0) (pa_cons (pv 1) pa_nil))) (pg_tup (by rfl) (pgs_cons (pg_name (i := 3) scfilling_number.nd rfl (Or.inl rfl)) (pgs_cons (pg_name (i := 4) scfilling_number.nd rfl (Or.inl rfl)) pgs_nil)))
  (pss_one (ps_set (i := 2) scfilling_number.nd rfl (Or.inl rfl) (pe_op op_add (pe_op op_mulW (pv 2) (pv 3)) (pv 4)))))
  (pss_one (ps_ret (pv 2)))))), ?_⟩
    refine ⟨_, rfl, _, rfl, a, b, ss, v, t, rfl, hS, hd, fun H1 s1 => ⟨_, rfl, ?_⟩⟩
    cases e : fillB ss t with
    | false =>
      refine iteT ?_
      exact ⟨_, rfl, _, rfl, fun d hd => kE e H1 d s1 hd⟩
    | true =>
      refine iteF ?_
      obtain ⟨e1, e2⟩ := Bool.and_eq_true_iff.mp (show (isQ t && (decide (lenT t = ss.length) && allW ss (itemsT t))) = true from e)
      obtain ⟨e3, e4⟩ := Bool.and_eq_true_iff.mp e2
      have e3 := of_decide_eq_true e3
      obtain ⟨c, p, xs, ds, rfl, hX, ha, et⟩ := q_of (hd.same s1) e1
      have ei : itemsT t = ds := by rw [et]; cases c <;> rfl
      have dl : ds.length = ss.length := by rw [← e3, et]; cases c <;> rfl
      rw [ei] at e4
      obtain ⟨ws, hf, rfl⟩ := allW_fit dl e4
      have kQ := fun H' s => kQ e ws H' hf ei s
      have xl : (ss.map nI).length = xs.length := by rw [List.length_map, dpall_len ha, dl]
      refine ⟨_, rfl, _, rfl, a, p, ss.map nI, xs, b, c, rfl, hS.same s1, hX, for_zipM xl (fun i σ H2 => Same H1 H2 ∧ ∃ v2 v3, σ = [some (.ref a), some (.ref p), some (.int ((num (ss.take i) (ws.take i) : Nat) : Int)), v2, v3])
        ⟨fun _ _ e => e, none, none, rfl⟩ (fun i σ H2 q => ⟨(hS.same s1).same q.1, hX.same q.1⟩) ?_ ?_⟩
      · rintro i x y T2 σ H2 hx hy ⟨s2, v2, v3, rfl⟩ hT
        obtain ⟨s, hs, rfl⟩ := get_nI hx
        obtain ⟨w, hw, wl⟩ := fit_at hf hs
        have hyd : Dp K H1 y (.int (w : Int)) := dpall_get ha hy (by rw [List.getElem?_map, hw]; rfl)
        obtain rfl : y = .int (w : Int) := by cases hyd; rfl
        have s3 : Same H1 (upd H2 T2 (.tup [nI s, .int (w : Int)])) := s2.trans (same_new hT)
        have p1 := take_le ss i hp
        have p2 := mem_le hp (List.mem_of_getElem? hs)
        have p3 := num_take_lt i hf
        refine ⟨T2, [nI s, .int (w : Int)], rfl, SqT.of upd_same, rfl, ?_⟩
        refine ⟨_, _, rfl, _, _, rfl, rfl, ?_⟩
        refine ⟨_, rfl, _, rfl, _, _, rfl, rfl, mul_sm (by omega) (by omega), _, rfl, _, _, rfl, rfl, ?_⟩
        refine ⟨s3, some (nI s), some (.int (w : Int)), ?_⟩
        rw [num_take hs hw]
        rfl
      · rintro σ H2 ⟨s2, v2, v3, rfl⟩
        have wl : ss.length = ws.length := hf.len.symm
        rw [List.length_map, List.take_length, wl, List.take_length]
        exact ⟨_, rfl, kQ _ (s1.trans s2)⟩
def spByNumber (K : PySem.W.Frag) (C : Addr) : Sp := fun vs H Q E => ∃ (a : Addr) (b : Bool) (ss : List Nat) (v : V) (t : PyData), vs = [.ref a, v] ∧ SqM K b H a (ss.map nI) ∧ (∀ s ∈ ss, 0 < s) ∧ prod ss < 1000000 ∧ ss.length ≤ 1000 ∧ Dp K H v t ∧
  (isW t (some 0) (some ((prod ss : Int) - 1)) = false → ∀ H' d, Same H H' → H' d = none → E (.ref C) (some d) (upd H' d (.xd [("thing", v)]))) ∧
  (∀ n : Nat, t = .int (n : Int) → n < prod ss → ∀ p H', Same H H' → H' p = some (.tup ((fill ss n).map nI)) → Q (.ref p) H')
theorem ok_filling_by_number (T : Tx K mg) : FnOk P w K mg base (L2.CX P w) 3 T.filling_by_number.f T.filling_by_number.fd ["sizes", "number"] (spByNumber K T.C) := by
  have Gis_whole : FnOk P w K mg base CX0 1 T.is_whole.f T.is_whole.fd ["thing", "low", "high"] (spWhole K) := ok_is_whole T
  have Gcount_fillings : FnOk P w K mg base CX0 1 T.count_fillings.f T.count_fillings.fd ["sizes"] (spCount K) := ok_count_fillings T
  obtain ⟨ds2, hv2, hbW⟩ := T.is_whole.b 2 (by decide)
  cases hv2
  refine T.filling_by_number.F.okX scfilling_by_number (fun vs H Q E h => ?_) (fun cdv A outer s H vs Q E hr h => ?_)
  · obtain ⟨_, _, _, _, _, rfl, _⟩ := h
    rfl
  · obtain ⟨a, b, ss, v, t, rfl, hS, hp, hb, hl, hd, kE, kQ⟩ := h
    refine ⟨_, (pss_cons (ps_if (pt_not (pt_val (pe_call Gis_whole (hr.mono (by decide)) rfl T.is_whole.g T.is_whole.F.kp hbW .nil pass0 (pa_cons (pv 1) (pa_cons pe_int (pa_cons (pe_op op_sub (pe_call Gcount_fillings (hr.mono (by decide)) rfl T.count_fillings.g T.count_fillings.F.kp T.count_fillings.b .nil pass0 (pa_cons (pv 0) pa_nil)) pe_int) pa_nil)))))) (pss_one (ps_raiseLow rfl T.low hr (takes_of rfl rfl rfl rfl) (by exact (pa_cons (pv 1) pa_nil)))) pss_nil)
  (pss_cons (ps_set (i := 2) scfilling_by_number.nd rfl (Or.inl rfl) (pe_lst pa_nil))
  (pss_cons (ps_set (i := 3) scfilling_by_number.nd rfl (Or.inl rfl) (pv 1))
  (pss_cons (ps_for (passes_of rfl) rfl (RT.pi_revA (by rfl) T.reversed (pv 0)) (pg_name (i := 4) scfilling_by_number.nd rfl (Or.inl rfl))
  (pss_cons (ps_asg (pe_callB call_divmod (by rfl) T.divmod (by decide +kernel) (pa_cons (pv 3) (pa_cons (pv 4) pa_nil))) (pg_tup (by rfl) (pgs_cons (pg_name (i := 3) scfilling_by_number.nd rfl (Or.inl rfl)) (pgs_cons (pg_name (i := 5) scfilling_by_number.nd rfl (Or.inl rfl)) pgs_nil))))
  (pss_one (ps_expr (pe_bm PySem.F.plainAttrs_list PySem.F.slot_list_append PySem.F.type_list_append mt_append (pv 2) (pa_cons (pv 5) pa_nil))))))
  (pss_one (ps_ret (RT.pe_tupRev rfl (by rfl) T.tuple (by rfl) T.reversed (pv 2)))))))), ?_⟩
    refine ⟨_, rfl, _, rfl, a, b, ss, rfl, hS, hp, hb, _, _, rfl, rfl, v, t, some 0, some ((prod ss : Int) - 1), rfl, hd, _, rfl, ?_⟩
    cases e : isW t (some 0) (some ((prod ss : Int) - 1)) with
    | false =>
      refine iteT ?_
      exact ⟨_, rfl, _, rfl, fun d hd => kE e H d (fun _ _ e => e) hd⟩
    | true =>
      refine iteF ?_
      obtain ⟨n, rfl⟩ : ∃ n : Nat, t = .int (n : Int) := by
        cases t with
        | int i =>
          obtain ⟨l, u⟩ := Bool.and_eq_true_iff.mp (show (decide (0 ≤ i) && decide (i ≤ (prod ss : Int) - 1)) = true from e)
          have l := of_decide_eq_true l
          exact ⟨i.toNat, by rw [Int.toNat_of_nonneg l]⟩
        | _ => cases e
      have nl : n < prod ss := by
        obtain ⟨l, u⟩ := Bool.and_eq_true_iff.mp (show (decide (0 ≤ (n : Int)) && decide ((n : Int) ≤ (prod ss : Int) - 1)) = true from e)
        have u := of_decide_eq_true u
        omega
      have kQ := kQ n rfl nl
      cases hd
      refine ⟨(by show 0 ≤ sizeLine; decide), fun D nD => ?_⟩
      have s1 : Same H (upd H D (.lst [])) := same_new nD
      refine ⟨_, rfl, ?_⟩
      show tFor (RT.iRevA K (tVar 0)) _ _ _ _ _
      show RT.iRevA K (tVar 0) _ _ _
      refine rev_var (t := b) (n := 0) ⟨_, by exact rfl, rfl, rfl⟩ (hS.same s1) ?_
      refine for_revT (K := K) (t := b) (a := a) (xs := ss.map nI) (fun i σ H2 => Same H H2 ∧ H2 D = some (.lst ((digs (ss.reverse.take i) n).map nI)) ∧ ∃ v4 v5, σ = [some (.ref a), some (.int (n : Int)), some (.ref D), some (.int ((n / prod (ss.reverse.take i) : Nat) : Int)), v4, v5])
        ⟨s1, upd_same, none, none, ?_⟩ (fun i σ H2 q => hS.same q.1) ?_ ?_
      · show _ = [_, _, _, some (V.int ((n / 1 : Nat) : Int)), _, _]
        rw [Nat.div_one]
        rfl
      · rintro i x σ H2 il hx ⟨s2, e2, v4, v5, rfl⟩
        rw [← rev_at il, ← List.map_reverse] at hx
        obtain ⟨s, hs, rfl⟩ := get_nI hx
        have sp : 0 < s := hp s (List.mem_reverse.mp (List.mem_of_getElem? hs))
        have p2 := mem_le hp (List.mem_reverse.mp (List.mem_of_getElem? hs))
        rw [List.length_map] at il
        refine ⟨_, rfl, _, rfl, _, _, rfl, ⟨by omega, by omega⟩, fun p hp => ?_⟩
        have pD : p ≠ D := fun z => by rw [z, e2] at hp; cases hp
        refine ⟨p, _, rfl, SqT.of upd_same, rfl, ?_⟩
        refine ⟨_, _, rfl, _, _, rfl, rfl, ?_⟩
        have e3 : (upd H2 p (.tup [.int (((n / prod (ss.reverse.take i) : Nat) : Int) / (s : Int)), .int (((n / prod (ss.reverse.take i) : Nat) : Int) % (s : Int))])) D = some (.lst ((digs (ss.reverse.take i) n).map nI)) := by
          rw [upd_ne (Ne.symm pD)]; exact e2
        refine ⟨_, rfl, .inl ⟨rfl, _, SqL.of e3⟩, _, rfl, D, _, _, rfl, rfl, e3, small1000 (by rw [List.length_map, digs_len, List.length_take, List.length_reverse]; omega), ?_⟩
        refine ⟨fun b o z => ?_, ?_, some (nI s), some (.int (((n / prod (ss.reverse.take i) : Nat) : Int) % (s : Int))), ?_⟩
        · rw [upd_ne (ne_of_none z nD)]
          exact (s2.trans (same_new hp)) b o z
        · rw [upd_same, take_succ hs, digs_snoc, List.map_append]
          rfl
        · rw [take_succ hs, prod_snoc, ← Nat.div_div_eq_div_mul]
          rfl
      · rintro σ H2 ⟨s2, e2, v4, v5, rfl⟩
        refine ⟨_, rfl, D, _, rfl, SqL.of e2, fun q hq => ?_⟩
        refine kQ q _ (s2.trans (same_new hq)) ?_
        rw [upd_same, List.length_map, ← List.length_reverse, List.take_length, ← List.map_reverse]
        rfl
end
end K02
set_option Elab.async false
set_option linter.all false
set_option maxRecDepth 100000
set_option maxHeartbeats 4000000
namespace K02
open PySem L2 Y00 K02M
def spLWhole (K : PySem.W.Frag) : Sp := fun vs H Q _ => ∃ (v : V) (d : PyData) (l h : Int), vs = [v, .int l, .int h] ∧ Dp K H v d ∧ Q (.bl (isW d (some l) (some h))) H
def isI : PyData → Bool | .int _ => true | _ => false
def spInt (K : PySem.W.Frag) : Sp := fun vs H Q _ => ∃ (v : V) (d : PyData), vs = [v] ∧ Dp K H v d ∧ Q (.bl (isI d)) H
def spTruth : Sp := fun vs H Q _ => ∃ b c : Bool, vs = [.bl b, .bl c] ∧ Q (.bl (decide (b = c))) H
theorem notI_of (d : PyData) : isI d = (isIB (.d d) && !isB (.d d)) := by cases d <;> rfl
section
variable {P : Program} {w : World} {K : PySem.W.Frag} {mg : Str → Option Value} {base : Heap}
theorem ok_law_int (T : Tx K mg) : FnOk P w K mg base CX0 1 T.law_int.f T.law_int.fd ["_law_thing"] (spInt K) := by
  refine T.law_int.F.ok sc_law_int (fun vs H Q E h => ?_) (fun cdv A outer s H vs Q E hr h => ?_)
  · obtain ⟨_, _, rfl, _⟩ := h
    rfl
  · obtain ⟨v, d, rfl, hd, k⟩ := h
    obtain ⟨t, ty, k1, k2, _⟩ := ty_of (show DpX K H v (.d d) from hd)
    refine ⟨_, (pss_one (ps_ret (pe_and (pe_callB call_isi (by rfl) T.isinstance (by decide +kernel) (pa_cons (pv 0) (pa_cons (pe_bltn (v := .ty "int") (by rfl) T.int (by decide +kernel) rfl) pa_nil))) (pe_one (pe_not (pe_callB call_isi (by rfl) T.isinstance (by decide +kernel) (pa_cons (pv 0) (pa_cons (pe_bltn (v := .ty "bool") (by rfl) T.bool (by decide +kernel) rfl) pa_nil)))))))), ?_⟩
    rw [notI_of] at k
    refine ⟨_, rfl, _, _, _, _, _, rfl, .ty _, ty, kit_ty k1, _, rfl, ?_⟩
    cases e1 : isIB (.d d) with
    | false =>
      rw [e1] at k
      exact iteF k
    | true =>
      rw [e1] at k
      exact iteT ⟨_, rfl, _, _, _, _, _, rfl, .ty _, ty, kit_ty k2, _, rfl, k⟩
theorem ok_law_whole (T : Tx K mg) : FnOk P w K mg base CX0 1 T.law_whole.f T.law_whole.fd ["_law_thing", "_law_low", "_law_high"] (spLWhole K) := by
  refine T.law_whole.F.ok sc_law_whole (fun vs H Q E h => ?_) (fun cdv A outer s H vs Q E hr h => ?_)
  · obtain ⟨_, _, _, _, rfl, _⟩ := h
    rfl
  · obtain ⟨v, d, l, hi, rfl, hd, k⟩ := h
    obtain ⟨t, ty, k1, k2, _⟩ := ty_of (show DpX K H v (.d d) from hd)
    refine ⟨_, (pss_one (ps_ret (pe_and (pe_callB call_isi (by rfl) T.isinstance (by decide +kernel) (pa_cons (pv 0) (pa_cons (pe_bltn (v := .ty "int") (by rfl) T.int (by decide +kernel) rfl) pa_nil))) (pe_and (pe_not (pe_callB call_isi (by rfl) T.isinstance (by decide +kernel) (pa_cons (pv 0) (pa_cons (pe_bltn (v := .ty "bool") (by rfl) T.bool (by decide +kernel) rfl) pa_nil)))) (pe_one (pe_chain op_le op_le (pv 1) (pv 0) (pv 2))))))), ?_⟩
    refine ⟨_, rfl, _, _, _, _, _, rfl, .ty _, ty, kit_ty k1, _, rfl, ?_⟩
    cases e1 : isIB (.d d) with
    | false =>
      have e2 : isW d (some l) (some hi) = false := by
        cases d <;> first | rfl | exact Bool.noConfusion (show true = false from e1)
      rw [e2] at k
      exact iteF k
    | true =>
      refine iteT ⟨_, rfl, _, _, _, _, _, rfl, .ty _, ty, kit_ty k2, _, rfl, _, rfl, ?_⟩
      cases e2 : isB (.d d) with
      | true =>
        have e2 : isW d (some l) (some hi) = false := by
          cases d <;> first | rfl | exact Bool.noConfusion (show false = true from e2)
        rw [e2] at k
        exact iteF k
      | false =>
        obtain ⟨i, rfl⟩ : ∃ i, d = .int i := by
          cases d <;> first | exact ⟨_, rfl⟩ | exact Bool.noConfusion (show false = true from e1) | exact Bool.noConfusion (show true = false from e2)
        cases hd
        have k' : Q (.bl (decide (l ≤ i) && decide (i ≤ hi))) H := k
        refine iteT ⟨_, rfl, _, rfl, _, _, rfl, rfl, _, rfl, ?_⟩
        refine ite2 (fun e => ?_) (fun e => ?_)
        · rw [e] at k'
          exact ⟨_, rfl, _, _, rfl, rfl, k'⟩
        · have e' : decide (l ≤ i) = false := by
            cases h : decide (l ≤ i) with
            | false => rfl
            | true => exact absurd h e
          rw [e'] at k'
          exact k'
theorem ok_law_truth (T : Tx K mg) : FnOk P w K mg base CX0 1 T.law_truth.f T.law_truth.fd ["_law_told", "_law_due"] spTruth := by
  refine T.law_truth.F.ok sc_law_truth (fun vs H Q E h => ?_) (fun cdv A outer s H vs Q E hr h => ?_)
  · obtain ⟨_, _, rfl, _⟩ := h
    rfl
  · obtain ⟨b, c, rfl, k⟩ := h
    refine ⟨_, (pss_one (ps_ret (pe_and (pe_callB call_isi (by rfl) T.isinstance (by decide +kernel) (pa_cons (pv 0) (pa_cons (pe_bltn (v := .ty "bool") (by rfl) T.bool (by decide +kernel) rfl) pa_nil))) (pe_one (pe_cmpR op_eq (pv 0) (pv 1) (nomark _)))))), ?_⟩
    refine ⟨_, rfl, _, _, _, _, true, rfl, .ty _, .base (.bl b), kit_ty (show kitB "bool" "bool" = some true by decide +kernel), _, rfl, ?_⟩
    refine iteT ⟨_, rfl, _, rfl, rfl, ?_⟩
    show Q (.bl (decide (V.bl b = V.bl c))) H
    have e : decide (V.bl b = V.bl c) = decide (b = c) := by
      cases b <;> cases c <;> decide
    rw [e]
    exact k
theorem ok_law_is_name (T : Tx K mg) : FnOk P w K mg base CX0 1 T.law_is_name.f T.law_is_name.fd ["_law_thing"] (spNameS K) := by
  refine T.law_is_name.F.ok sc_law_is_name (fun vs H Q E h => ?_) (fun cdv A outer s H vs Q E hr h => ?_)
  · obtain ⟨_, _, rfl, _⟩ := h
    rfl
  · obtain ⟨v, d, rfl, hd, sm, k⟩ := h
    obtain ⟨n, ty, _, _, _, _, k5⟩ := ty_of (show DpX K H v (.d d) from hd)
    refine ⟨_, (pss_cons (ps_if (PW.pt (pw_or (pt_not (pt_val (pe_callB call_isi (by rfl) T.isinstance (by decide +kernel) (pa_cons (pv 0) (pa_cons (pe_bltn (v := .ty "str") (by rfl) T.str (by decide +kernel) rfl) pa_nil))))) (pw_or1 (pt_not (pt_chain op_le op_le pe_int (pe_callB call_len_str (by rfl) T.len PySem.boot_len (pa_cons (pv 0) pa_nil)) pe_int))))) (pss_one (ps_ret pe_bl)) pss_nil)
  (pss_one (ps_ret (pe_notT (pe_lc (own := [("_law_sign", 1)]) (g := gName 1) rfl sc_law_is_name.nd (pi_str (pv 0)) (blkOk_by (N := ["_law_thing", "_law_sign"]) (sc := defScope s_law_is_name) (by decide +kernel)) (fun _ _ _ _ _ => pg_name (i := 1) sc_law_is_name.nd rfl (Or.inl rfl)) (fun _ _ _ _ _ => pts_one (pt_cmpR op_notIn_str (pv 1) pe_str rfl)) (fun _ _ _ _ _ => (pv 1))))))), ?_⟩
    refine ⟨_, rfl, _, _, _, _, _, rfl, .ty _, ty, kit_ty k5, _, rfl, ?_⟩
    cases e1 : isS (.d d) with
    | false =>
      have e2 : nameB d = false := by
        cases d <;> first | rfl | (cases e1)
      rw [e2] at k
      refine iteT (iteT ?_)
      exact k _ fun _ _ e => e
    | true =>
      obtain ⟨s, rfl⟩ : ∃ s, d = .str s := by
        cases d <;> first | exact ⟨_, rfl⟩ | exact Bool.noConfusion (show false = true from e1)
      cases hd
      have k : ∀ H', Same H H' → Q (.bl (nameS s)) H' := k
      have sm : s.length ≤ 1000 := sm
      have sl : s.length ≤ sizeLine := Nat.le_of_lt (small1000 sm)
      unfold nameS at k
      refine iteF ?_
      refine ⟨_, rfl, s, rfl, sl, _, _, rfl, rfl, _, rfl, ?_⟩
      refine ite2 (fun e => ?_) (fun e => ?_)
      · rw [show decide (1 ≤ (s.length : Int)) = true from e, Bool.true_and] at k
        refine ⟨_, _, rfl, rfl, _, rfl, ?_⟩
        cases e2 : decide ((s.length : Int) ≤ 8) with
        | false =>
          rw [e2] at k
          exact iteT (k _ fun _ _ e => e)
        | true =>
          rw [e2, Bool.true_and] at k
          refine iteF ?_
          refine ⟨_, rfl, s, rfl, fun D nD => ?_⟩
          refine lc_strS (x := s) (vs := [1]) (fun i H2 => ∃ acc, Same H H2 ∧ H2 D = some (.lst acc) ∧ acc.length ≤ i ∧ acc.isEmpty = (s.cps.toList.take i).all inL) ⟨[], same_new nD, upd_same, Nat.le_refl _, rfl⟩ ?_ ?_
          · rintro i c H2 hc ⟨acc, s2, e3, al, ae⟩
            have ts : s.cps.toList.take (i + 1) = s.cps.toList.take i ++ [c] := take_succ (cps_get hc)
            have il : i < s.length := (Array.getElem?_eq_some_iff.mp hc).1
            refine ⟨rfl, ⟨_, rfl, _, _, rfl, rfl, _, rfl, ?_⟩⟩
            refine ite2 (fun e4 => ?_) (fun e4 => ?_)
            · have e5 : inL c = false := by
                have e4 : (!inL c) = true := e4
                cases z : inL c with
                | false => rfl
                | true => rw [z] at e4; cases e4
              refine ⟨_, rfl, acc, e3, small1000 (by omega), acc ++ [_], fun b u z => by rw [upd_ne (ne_of_none z nD)]; exact s2 b u z, upd_same, by rw [List.length_append]; exact Nat.succ_le_succ al, ?_⟩
              rw [ts, List.all_append]
              show _ = (_ && (inL c && true))
              rw [e5]
              cases acc <;> simp
            · have e5 : inL c = true := by
                cases z : inL c with
                | true => rfl
                | false => exact absurd (show (!inL c) = true by rw [z]; rfl) e4
              refine ⟨acc, s2, e3, by omega, ?_⟩
              rw [ts, List.all_append, ae]
              show _ = (_ && (inL c && true))
              rw [e5]
              simp
          · rintro H2 ⟨acc, s2, e3, al, ae⟩
            rw [show s.cps.size = s.cps.toList.length from rfl, List.take_length] at ae
            refine ⟨_, .inl ⟨acc, SqL.of e3, rfl⟩, ?_⟩
            rw [Bool.not_not, ae]
            exact k _ s2
      · rw [decide_eq_false (fun z => e (decide_eq_true z))] at k
        exact ⟨_, rfl, iteT (k _ fun _ _ e => e)⟩
theorem ok_law_is_wire (T : Tx K mg) : FnOk P w K mg base CX0 2 T.law_is_wire.f T.law_is_wire.fd ["_law_thing"] (spWire K) := by
  have Glaw_is_name : FnOk P w K mg base CX0 1 T.law_is_name.f T.law_is_name.fd ["_law_thing"] (spNameS K) := ok_law_is_name T
  have Glaw_whole : FnOk P w K mg base CX0 1 T.law_whole.f T.law_whole.fd ["_law_thing", "_law_low", "_law_high"] (spLWhole K) := ok_law_whole T
  refine T.law_is_wire.F.ok sc_law_is_wire (fun vs H Q E h => ?_) (fun cdv A outer s H vs Q E hr h => ?_)
  · obtain ⟨_, _, rfl, _⟩ := h
    rfl
  · obtain ⟨v, d, rfl, hd, sm, k⟩ := h
    refine ⟨_, (pss_cons (ps_if (PW.pt (pw_or (pt_not (pt_val (pe_callB call_isiT (by rfl) T.isinstance (by decide +kernel) (pa_cons (pv 0) (pa_cons (pe_tup (pa_cons (pe_bltn (v := .ty "list") (by rfl) T.list (by decide +kernel) rfl) (pa_cons (pe_bltn (v := .ty "tuple") (by rfl) T.tuple (by decide +kernel) rfl) pa_nil))) pa_nil))))) (pw_or1 (pt_cmpR op_ne (pe_callB call_len_seq (by rfl) T.len PySem.boot_len (pa_cons (pv 0) pa_nil)) pe_int (nomark _))))) (pss_one (ps_ret pe_bl)) pss_nil)
  (pss_one (ps_ret (pe_and (pe_call Glaw_is_name (hr.mono (by decide)) rfl T.law_is_name.g T.law_is_name.F.kp T.law_is_name.b .nil pass0 (pa_cons (pe_ix ix_seq (pv 0) pe_int (fun _ _ => rfl)) pa_nil)) (pe_one (pe_call Glaw_whole (hr.mono (by decide)) rfl T.law_whole.g T.law_whole.F.kp T.law_whole.b .nil pass0 (pa_cons (pe_ix ix_seq (pv 0) pe_int (fun _ _ => rfl)) (pa_cons pe_int (pa_cons pe_int pa_nil))))))))), ?_⟩
    refine ⟨_, rfl, z2, fun p fp => ?_⟩
    have s1 : Same H (upd H p (.tup [.ty "list", .ty "tuple"])) := same_new fp
    obtain ⟨n, ty, kk⟩ := any_lt (DpX.same s1 (show DpX K H v (.d d) from hd))
    refine ⟨_, p, _, _, _, _, rfl, upd_same, .cons (.ty _) (.cons (.ty _) .nil), ty, kk, _, rfl, ?_⟩
    cases e : isQ (.d d) with
    | false =>
      have e2 : wireB d = false := by
        cases z : wireB d with
        | false => rfl
        | true =>
          unfold wireB at z
          split at z
          · cases e
          · cases e
          · cases z
      rw [e2] at k
      exact iteT (iteT (k _ s1))
    | true =>
      obtain ⟨b, a, xs, ds, rfl, hS, ha, et⟩ := q_of (DpX.same s1 (show DpX K H v (.d d) from hd)) e
      refine iteF ?_
      refine ⟨_, rfl, a, _, rfl, hS.len, rfl, _, rfl, ?_⟩
      have el : xs.length = ds.length := dpall_len ha
      refine ite2 (fun e3 => ?_) (fun e3 => ?_)
      · have e2 : wireB d = false := by
          cases z : wireB d with
          | false => rfl
          | true =>
            exfalso
            have dl : ds.length = 2 := by
              injection et with et
              subst et
              cases b
              · unfold wireB at z
                split at z
                · rename_i q; injection q with q; subst q; rfl
                · rename_i q; cases q
                · cases z
              · unfold wireB at z
                split at z
                · rename_i q; cases q
                · rename_i q; injection q with q; subst q; rfl
                · cases z
            rw [el, dl] at e3
            cases e3
        rw [e2] at k
        exact k _ s1
      · have dl : ds.length = 2 := by
          have e4 : decide (V.int (xs.length : Int) = V.int 2) = true := by
            cases z : decide (V.int (xs.length : Int) = V.int 2) with
            | true => rfl
            | false => exact absurd (show (!decide (V.int (xs.length : Int) = V.int 2)) = true by rw [z]; rfl) e3
          have e4 := of_decide_eq_true e4
          injection e4 with e4
          omega
        obtain ⟨d0, d1, rfl⟩ := two_of dl
        obtain ⟨x0, x1, rfl⟩ := two_of ((dpall_len ha).trans dl)
        have p0 := dpall_get (i := 0) (x := x0) (d := d0) ha rfl rfl
        have p1 := dpall_get (i := 1) (x := x1) (d := d1) ha rfl rfl
        have sm0 : smN d0 := by
          injection et with et
          subst et
          cases b
          · exact sm d0 (by simp)
          · exact sm d0 (by simp)
        have ew : wireB d = (nameB d0 && isW d1 (some 2) (some 4)) := by
          injection et with et
          subst et
          cases b <;> rfl
        rw [ew] at k
        refine ⟨_, rfl, hS.ix (atI_nat rfl) ?_⟩
        refine ⟨x0, d0, rfl, p0, sm0, fun H2 s2 => ⟨_, rfl, ?_⟩⟩
        cases e5 : nameB d0 with
        | false =>
          rw [e5] at k
          exact iteF (k _ (s1.trans s2))
        | true =>
          rw [e5, Bool.true_and] at k
          refine iteT ⟨_, rfl, (hS.same s2).ix (atI_nat rfl) ?_⟩
          exact ⟨x1, d1, 2, 4, rfl, Dp.same s2 p1, k _ (s1.trans s2)⟩
end
end K02
set_option Elab.async false
set_option linter.all false
set_option maxRecDepth 100000
set_option maxHeartbeats 4000000
namespace K02
open PySem L2 Y00 K02M
theorem ix_seqK {X : Cx} {K : PySem.W.Frag} (hK : X.K = K) : IxR X (rIx K) := by subst hK; exact ix_seq
theorem op_modN {X : Cx} : OpR X (binaryOp .Mod) (fun x y H Q => ∃ n m : Nat, x = .int (n : Int) ∧ y = .int (m : Int) ∧ 0 < m ∧ m < 1000000 ∧ Q (.int ((n % m : Nat) : Int)) H) := by
  intro pins s σ H x y v u Q I rx ry h
  obtain ⟨n, m, rfl, rfl, m0, m1, q⟩ := h
  exact op_mod pins s σ H _ _ v u Q I rx ry ⟨_, _, rfl, rfl, by omega, q⟩
def spLFilling (K : PySem.W.Frag) : Sp := fun vs H Q _ => ∃ (a : Addr) (ss : List Nat) (n : Nat), vs = [.ref a, .int (n : Int)] ∧ SqL K H a (ss.map nI) ∧ (∀ s ∈ ss, 0 < s ∧ s < 1000000) ∧ ss.length ≤ 1000 ∧ ∀ p H', Same H H' → H p = none → H' p = some (.tup ((fill ss n).map nI)) → Q (.ref p) H'
/-- all fillings in a list -/
def Fills (ss : List Nat) (H : Hp) (D : Addr) : Prop := ∃ out : List V, H D = some (.lst out) ∧ out.length = prod ss ∧ ∀ i v, out[i]? = some v → ∃ p, v = .ref p ∧ H p = some (.tup ((fill ss i).map nI))
def spLFillings (K : PySem.W.Frag) : Sp := fun vs H Q _ => ∃ (a : Addr) (ss : List Nat), vs = [.ref a] ∧ SqL K H a (ss.map nI) ∧ (∀ s ∈ ss, 0 < s) ∧ prod ss < 1000000 ∧ ss.length ≤ 1000 ∧ ∀ D H', Same H H' → H D = none → Fills ss H' D → Q (.ref D) H'
def spLNumber (K : PySem.W.Frag) : Sp := fun vs H Q _ => ∃ (a p : Addr) (c : Bool) (ss ws : List Nat), vs = [.ref a, .ref p] ∧ SqL K H a (ss.map nI) ∧ SqM K c H p (ws.map nI) ∧ Fit ss ws ∧ (∀ s ∈ ss, 0 < s) ∧ prod ss < 1000000 ∧ ss.length ≤ 1000 ∧ Q (.int ((num ss ws : Nat) : Int)) H
def spLIsFill (K : PySem.W.Frag) : Sp := fun vs H Q _ => ∃ (a : Addr) (b : Bool) (ss : List Nat) (v : V) (t : Td), vs = [.ref a, v] ∧ SqM K b H a (ss.map nI) ∧ ss.length ≤ 1000 ∧ DpX K H v t ∧ ∀ H', Same H H' → Q (.bl (fillB ss t)) H'
section
variable {P : Program} {w : World} {K : PySem.W.Frag} {mg : Str → Option Value} {base : Heap}
theorem ok_law_filling (T : Tx K mg) : FnOk P w K mg base CX0 1 T.law_filling.f T.law_filling.fd ["_law_sizes", "_law_number_here"] (spLFilling K) := by
  refine T.law_filling.F.ok sc_law_filling (fun vs H Q E h => ?_) (fun cdv A outer s H vs Q E hr h => ?_)
  · obtain ⟨_, _, _, rfl, _⟩ := h
    rfl
  · obtain ⟨a, ss, n, rfl, hS, hp, hl, k⟩ := h
    refine ⟨_, (pss_cons (ps_set (i := 2) sc_law_filling.nd rfl (Or.inl rfl) (pe_lst pa_nil))
  (pss_cons (ps_for PassesOwn.never rfl (pi_range1 rfl T.range (pa_cons (pe_callB call_len_seq (by rfl) T.len PySem.boot_len (pa_cons (pv 0) pa_nil)) pa_nil)) (pg_name (i := 3) sc_law_filling.nd rfl (Or.inl rfl))
  (pss_cons (ps_set (i := 4) sc_law_filling.nd rfl (Or.inl rfl) (pe_ix ix_list (pv 0) (pe_op op_sub (pe_op op_sub (pe_callB call_len_seq (by rfl) T.len PySem.boot_len (pa_cons (pv 0) pa_nil)) pe_int) (pv 3)) (fun _ _ => rfl)))
  (pss_cons (ps_set (i := 2) sc_law_filling.nd rfl (Or.inl rfl) (pe_op op_cat (pe_lst (pa_cons (pe_op op_modN (pe_callTy call_int1 (by rfl) T.int (by decide +kernel) (pa_cons (pv 1) pa_nil)) (pv 4)) pa_nil)) (pv 2)))
  (pss_one (ps_set (i := 1) sc_law_filling.nd rfl (Or.inl rfl) (pe_op op_fdivW (pv 1) (pv 4)))))))
  (pss_one (ps_ret (pe_callTy call_tuple_of (by rfl) T.tuple (by decide +kernel) (pa_cons (pv 2) pa_nil)))))), ?_⟩
    refine ⟨(by show 0 ≤ sizeLine; decide), fun D nD => ?_⟩
    have s1 : Same H (upd H D (.lst [])) := same_new nD
    refine ⟨_, rfl, a, _, rfl, .inl (s1.seq hS), ((ss.map nI).length : Int), rfl, by rw [List.length_map]; omega, by rw [List.length_map]; omega, ?_⟩
    refine for_range (n := (ss.map nI).length) (fun i σ H2 => Same H H2 ∧ ∃ (q : Addr) (v3 v4 : Option V), σ = [some (.ref a), some (.int ((n / prod (ss.reverse.take i) : Nat) : Int)), some (.ref q), v3, v4] ∧ H q = none ∧ H2 q = some (.lst (((digs (ss.reverse.take i) n).reverse).map nI)))
      ⟨s1, D, none, none, ?_, nD, upd_same⟩ ?_ ?_
    · show _ = [_, some (V.int ((n / 1 : Nat) : Int)), _, _, _]
      rw [Nat.div_one]
      rfl
    · rintro i σ H2 hi ⟨s2, q, v3, v4, rfl, nq, e2⟩
      rw [List.length_map] at hi
      have hj : ss.length - 1 - i < ss.length := by omega
      have hs : ss[ss.length - 1 - i]? = some ss[ss.length - 1 - i] := List.getElem?_eq_getElem hj
      have hr : ss.reverse[i]? = some ss[ss.length - 1 - i] := by rw [rev_at hi]; exact hs
      obtain ⟨s0, s9⟩ := hp _ (List.mem_of_getElem? hs)
      generalize ss[ss.length - 1 - i] = s at hs hr s0 s9
      refine ⟨_, rfl, _, rfl, a, _, rfl, .inl (s2.seq hS), _, _, rfl, rfl, _, rfl, _, _, rfl, rfl, a, _, _, nI s, rfl, rfl, s2.seq hS, at_of (j := ss.length - 1 - i) (by rw [List.length_map]; omega) (by rw [List.getElem?_map, hs]; rfl), ?_⟩
      refine ⟨_, rfl, .inl ⟨_, rfl, _, rfl, _, _, rfl, rfl, s0, s9, (by show 1 ≤ sizeLine; decide), fun p np => ?_⟩⟩
      have pq : p ≠ q := fun z => by rw [z, e2] at np; cases np
      have dl : (digs (ss.reverse.take i) n).length ≤ 1000 := by rw [digs_len, List.length_take, List.length_reverse]; omega
      refine ⟨_, rfl, p, q, _, _, rfl, rfl, upd_same, by rw [upd_ne (Ne.symm pq)]; exact e2, (by show 1 + _ ≤ sizeLine; rw [List.length_map, List.length_reverse, sizeLine_eq]; omega), fun r nr => ?_⟩
      refine ⟨_, rfl, _, rfl, _, _, rfl, rfl, wide_div (b := 32) (by omega) (by omega) (by decide) (by decide), ?_⟩
      have s3 := (s2.trans (same_new (o := .lst [.int ((n / prod (ss.reverse.take i) % s : Nat) : Int)]) np)).trans (same_new (o := .lst ([.int ((n / prod (ss.reverse.take i) % s : Nat) : Int)] ++ ((digs (ss.reverse.take i) n).reverse).map nI)) nr)
      refine ⟨s3, r, some (.int (0 + (i : Int))), some (nI s), ?_, ?_, ?_⟩
      · rw [take_succ hr, prod_snoc, ← Nat.div_div_eq_div_mul]
        rfl
      · have n1 := (s2.trans (same_new (o := .lst [.int ((n / prod (ss.reverse.take i) % s : Nat) : Int)]) np))
        cases z : H r with
        | none => rfl
        | some o => rw [n1 _ _ z] at nr; cases nr
      · rw [upd_same, take_succ hr, digs_snoc, List.reverse_append]
        rfl
    · rintro σ H2 ⟨s2, q, v3, v4, rfl, nq, e2⟩
      rw [List.length_map, ← List.length_reverse, List.take_length] at e2
      refine ⟨_, rfl, q, _, rfl, .inl ⟨SqL.of e2, fun l nl => ?_⟩⟩
      refine k l _ (s2.trans (same_new nl)) ?_ upd_same
      cases z : H l with
      | none => rfl
      | some o => rw [s2 _ _ z] at nl; cases nl
theorem ok_law_fillings (T : Tx K mg) : FnOk P w K mg base CX0 2 T.law_fillings.f T.law_fillings.fd ["_law_sizes"] (spLFillings K) := by
  have Glaw_many : FnOk P w K mg base CX0 1 T.law_many.f T.law_many.fd ["_law_sizes"] (spCount K) := ok_law_many T
  have Glaw_filling : FnOk P w K mg base CX0 1 T.law_filling.f T.law_filling.fd ["_law_sizes", "_law_number_here"] (spLFilling K) := ok_law_filling T
  refine T.law_fillings.F.ok sc_law_fillings (fun vs H Q E h => ?_) (fun cdv A outer s H vs Q E hr h => ?_)
  · obtain ⟨_, _, rfl, _⟩ := h
    rfl
  · obtain ⟨a, ss, rfl, hS, hp, hb, hl, k⟩ := h
    refine ⟨_, (pss_one (ps_ret (pe_lc (own := [("_law_number_here", 1)]) (g := gName 1) (tt := tYes) rfl sc_law_fillings.nd (pi_range1 rfl T.range (pa_cons (pe_call Glaw_many (hr.mono (by decide)) rfl T.law_many.g T.law_many.F.kp T.law_many.b .nil pass0 (pa_cons (pv 0) pa_nil)) pa_nil)) (blkOk_by (N := ["_law_sizes", "_law_number_here"]) (sc := defScope s_law_fillings) (by decide +kernel)) (fun _ _ _ _ _ => pg_name (i := 1) sc_law_fillings.nd rfl (Or.inl rfl)) (fun _ _ _ _ _ => pts_nil) (fun _ _ _ _ _ => (pe_call Glaw_filling (hr.mono (by decide)) rfl T.law_filling.g T.law_filling.F.kp T.law_filling.b .nil pass0 (pa_cons (pv 0) (pa_cons (pv 1) pa_nil))))))), ?_⟩
    refine ⟨_, rfl, a, false, ss, rfl, SqM.ofL hS, hp, hb, ((prod ss : Nat) : Int), rfl, by omega, by omega, fun D nD => ?_⟩
    refine lc_range (lo := 0) (n := prod ss) (vs := [1]) (fun i H2 => ∃ out : List V, Same H H2 ∧ H2 D = some (.lst out) ∧ out.length = i ∧ ∀ j v, out[j]? = some v → ∃ p, v = .ref p ∧ H2 p = some (.tup ((fill ss j).map nI))) ⟨[], same_new nD, upd_same, rfl, fun j v e => by simp at e⟩ ?_ ?_
    · rintro i H2 hi ⟨out, s2, e2, ol, ok⟩
      refine ⟨rfl, ⟨_, rfl, _, rfl, a, ss, i, (by show [V.ref a, V.int (0 + (i : Int))] = _; rw [Int.zero_add]), s2.seq hS, fun s hs => ⟨hp s hs, by have := mem_le hp hs; omega⟩, hl, fun p H3 s3 np e3 => ?_⟩⟩
      have pD : p ≠ D := fun z => by rw [z, e2] at np; cases np
      refine ⟨out, s3 _ _ e2, by rw [ol]; exact Nat.lt_of_lt_of_le (show i < 16777216 by omega) (by rw [sizeLine_eq]; decide), out ++ [.ref p], fun b o z => ?_, upd_same, by rw [List.length_append, ol]; rfl, fun j v hv => ?_⟩
      · rw [upd_ne (ne_of_none z nD)]
        exact s3 _ _ (s2 _ _ z)
      · rcases Nat.lt_or_ge j out.length with lt | ge
        · rw [List.getElem?_append_left lt] at hv
          obtain ⟨q, rfl, eq⟩ := ok j v hv
          exact ⟨q, rfl, by rw [upd_ne (fun z => by rw [z, e2] at eq; cases eq)]; exact s3 _ _ eq⟩
        · rw [List.getElem?_append_right ge] at hv
          have : j = out.length := by
            rcases Nat.lt_or_ge (j - out.length) 1 with l | g
            · omega
            · rw [List.getElem?_eq_none (by simpa using g)] at hv; cases hv
          subst this
          rw [Nat.sub_self] at hv
          cases hv
          exact ⟨p, rfl, by rw [upd_ne pD, ol]; exact e3⟩
    · rintro H2 ⟨out, s2, e2, ol, ok⟩
      exact k D H2 s2 nD ⟨out, e2, ol, ok⟩
theorem ok_law_number (T : Tx K mg) : FnOk P w K mg base CX0 1 T.law_number.f T.law_number.fd ["_law_sizes", "_law_filling_here"] (spLNumber K) := by
  refine T.law_number.F.ok sc_law_number (fun vs H Q E h => ?_) (fun cdv A outer s H vs Q E hr h => ?_)
  · obtain ⟨_, _, _, _, _, rfl, _⟩ := h
    rfl
  · obtain ⟨a, p, c, ss, ws, rfl, hS, hW, hf, hp, hb, hl, k⟩ := h
    refine ⟨_, (pss_cons (ps_set (i := 2) sc_law_number.nd rfl (Or.inl rfl) pe_int)
  (pss_cons (ps_for PassesOwn.never rfl (pi_range1 rfl T.range (pa_cons (pe_callB call_len_seq (by rfl) T.len PySem.boot_len (pa_cons (pv 0) pa_nil)) pa_nil)) (pg_name (i := 3) sc_law_number.nd rfl (Or.inl rfl))
  (pss_one (ps_set (i := 2) sc_law_number.nd rfl (Or.inl rfl) (pe_op op_add (pe_op op_mulW (pv 2) (pe_ix ix_seq (pv 0) (pv 3) (fun _ _ => rfl))) (pe_ix ix_seq (pv 1) (pv 3) (fun _ _ => rfl))))))
  (pss_one (ps_ret (pv 2))))), ?_⟩
    refine ⟨_, rfl, a, _, rfl, .inl hS, ((ss.map nI).length : Int), rfl, by rw [List.length_map]; omega, by rw [List.length_map]; omega, ?_⟩
    refine for_range (n := (ss.map nI).length) (fun i σ H2 => H2 = H ∧ ∃ v, σ = [some (.ref a), some (.ref p), some (.int ((num (ss.take i) (ws.take i) : Nat) : Int)), v]) ⟨rfl, none, rfl⟩ ?_ ?_
    · rintro i σ H2 hi ⟨rfl, v, rfl⟩
      rw [List.length_map] at hi
      have hs : ss[i]? = some ss[i] := List.getElem?_eq_getElem hi
      obtain ⟨w, hw, wl⟩ := fit_at hf hs
      have p1 := take_le ss i hp
      have p2 := mem_le hp (List.mem_of_getElem? hs)
      have p3 := num_take_lt i hf
      have g1 : (ss.map nI)[i]? = some (nI ss[i]) := by rw [List.getElem?_map, hs]; rfl
      have g2 : (ws.map nI)[i]? = some (nI w) := by rw [List.getElem?_map, hw]; rfl
      refine ⟨_, rfl, _, rfl, _, rfl, (SqM.ofL hS).ix (at_of (by omega) g1) ⟨_, _, rfl, rfl, mul_sm (by omega) (by omega), ?_⟩⟩
      refine ⟨_, rfl, _, rfl, hW.ix (at_of (by omega) g2) ⟨_, _, rfl, rfl, rfl, some (.int (0 + (i : Int))), ?_⟩⟩
      rw [num_take hs hw]
      rfl
    · rintro σ H2 ⟨rfl, v, rfl⟩
      have wl : ss.length = ws.length := hf.len.symm
      rw [List.length_map, List.take_length, wl, List.take_length]
      exact ⟨_, rfl, k⟩
theorem ok_law_is_filling (T : Tx K mg) : FnOk P w K mg base CX0 2 T.law_is_filling.f T.law_is_filling.fd ["_law_sizes", "_law_thing"] (spLIsFill K) := by
  have Glaw_whole : FnOk P w K mg base CX0 1 T.law_whole.f T.law_whole.fd ["_law_thing", "_law_low", "_law_high"] (spLWhole K) := ok_law_whole T
  refine T.law_is_filling.F.ok sc_law_is_filling (fun vs H Q E h => ?_) (fun cdv A outer s H vs Q E hr h => ?_)
  · obtain ⟨_, _, _, _, _, rfl, _⟩ := h
    rfl
  · obtain ⟨a, b, ss, v, t, rfl, hS, hl, hd, k⟩ := h
    refine ⟨_, (pss_cons (ps_if (PW.pt (pw_or (pt_not (pt_val (pe_callB call_isiT (by rfl) T.isinstance (by decide +kernel) (pa_cons (pv 1) (pa_cons (pe_tup (pa_cons (pe_bltn (v := .ty "list") (by rfl) T.list (by decide +kernel) rfl) (pa_cons (pe_bltn (v := .ty "tuple") (by rfl) T.tuple (by decide +kernel) rfl) pa_nil))) pa_nil))))) (pw_or1 (pt_cmpR op_ne (pe_callB call_len_seq (by rfl) T.len PySem.boot_len (pa_cons (pv 1) pa_nil)) (pe_callB call_len_seq (by rfl) T.len PySem.boot_len (pa_cons (pv 0) pa_nil)) (nomark _))))) (pss_one (ps_ret pe_bl)) pss_nil)
  (pss_one (ps_ret (pe_notT (pe_lc (own := [("_law_at", 2)]) (g := gName 2) rfl sc_law_is_filling.nd (pi_range1 rfl T.range (pa_cons (pe_callB call_len_seq (by rfl) T.len PySem.boot_len (pa_cons (pv 0) pa_nil)) pa_nil)) (blkOk_by (N := ["_law_sizes", "_law_thing", "_law_at"]) (sc := defScope s_law_is_filling) (by decide +kernel)) (fun _ _ _ _ _ => pg_name (i := 2) sc_law_is_filling.nd rfl (Or.inl rfl)) (fun _ _ _ _ _ => pts_one (pt_not (pt_val (pe_call Glaw_whole (hr.mono (by decide)) rfl T.law_whole.g T.law_whole.F.kp T.law_whole.b .nil pass0 (pa_cons (pe_ix (ix_seqK (K := K) rfl) (pv 1) (pv 2) (fun _ _ => rfl)) (pa_cons pe_int (pa_cons (pe_op op_sub (pe_ix (ix_seqK (K := K) rfl) (pv 0) (pv 2) (fun _ _ => rfl)) pe_int) pa_nil))))))) (fun _ _ _ _ _ => (pv 2))))))), ?_⟩
    refine ⟨_, rfl, z2, fun p fp => ?_⟩
    have s1 : Same H (upd H p (.tup [.ty "list", .ty "tuple"])) := same_new fp
    obtain ⟨n, ty, kk⟩ := any_lt (hd.same s1)
    refine ⟨_, p, _, _, _, _, rfl, upd_same, .cons (.ty _) (.cons (.ty _) .nil), ty, kk, _, rfl, ?_⟩
    cases e : isQ t with
    | false =>
      have e2 : fillB ss t = false := by unfold fillB; rw [e]; rfl
      rw [e2] at k
      exact iteT (iteT (k _ s1))
    | true =>
      obtain ⟨c, q, xs, ds, rfl, hX, ha, et⟩ := q_of (hd.same s1) e
      have ei : itemsT t = ds := by rw [et]; cases c <;> rfl
      have el : lenT t = ds.length := by rw [et]; cases c <;> rfl
      have ef : fillB ss t = (decide (ds.length = ss.length) && allW ss ds) := by
        unfold fillB
        rw [e, ei, el]
        rfl
      have xl := dpall_len ha
      rw [ef] at k
      refine iteF ?_
      refine ⟨_, rfl, q, _, rfl, hX.len, _, rfl, a, _, rfl, (hS.same s1).len, rfl, _, rfl, ?_⟩
      have ed : decide (V.int (xs.length : Int) = V.int ((ss.map nI).length : Int)) = decide (ds.length = ss.length) := by
        rw [Bool.eq_iff_iff, decide_eq_true_iff, decide_eq_true_iff, List.length_map, xl]
        constructor
        · intro z
          injection z with z
          omega
        · intro z
          rw [z]
      rw [ed]
      cases e3 : decide (ds.length = ss.length) with
      | false =>
        rw [e3] at k
        exact iteT (k _ s1)
      | true =>
        rw [e3, Bool.true_and] at k
        have dl : ds.length = ss.length := of_decide_eq_true e3
        refine iteF ?_
        refine ⟨_, rfl, a, _, rfl, (hS.same s1).len, ((ss.map nI).length : Int), rfl, ?_, ?_, fun D nD => ?_⟩
        · omega
        · rw [List.length_map]
          omega
        generalize upd H p (.tup [.ty "list", .ty "tuple"]) = H1 at *
        refine lc_range (lo := 0) (n := (ss.map nI).length) (vs := [2]) (fun i H2 => ∃ acc : List V, Same H1 H2 ∧ H2 D = some (.lst acc) ∧ acc.length ≤ i ∧ (acc.isEmpty = true ↔ ∀ (j s : Nat) (d : PyData), j < i → ss[j]? = some s → ds[j]? = some d → isW d (some 0) (some ((s : Int) - 1)) = true)) ⟨[], same_new nD, upd_same, Nat.le_refl _, fun _ j s d h => absurd h (Nat.not_lt_zero _), fun _ => rfl⟩ ?_ ?_
        · rintro i H2 hi ⟨acc, s2, e2, al, ae⟩
          rw [List.length_map] at hi
          have hs : ss[i]? = some ss[i] := List.getElem?_eq_getElem hi
          have hdi : ds[i]? = some (ds[i]'(by omega)) := List.getElem?_eq_getElem _
          have hx : xs[i]? = some (xs[i]'(by omega)) := List.getElem?_eq_getElem _
          have hdd := dpall_get ha hx hdi
          generalize ss[i] = s at *
          generalize (ds[i]'(by omega)) = d at *
          generalize (xs[i]'(by omega)) = x at *
          have g1 : (ss.map nI)[i]? = some (nI s) := by rw [List.getElem?_map, hs]; rfl
          refine ⟨rfl, ⟨_, rfl, _, rfl, (hX.same s2).ix (at_of (by omega) hx) ⟨_, rfl, _, rfl, ((hS.same s1).same s2).ix (at_of (by omega) g1) ⟨_, _, rfl, rfl, x, d, 0, (s : Int) - 1, rfl, Dp.same s2 hdd, _, rfl, ?_⟩⟩⟩⟩
          cases e5 : isW d (some 0) (some ((s : Int) - 1)) with
          | false =>
            refine iteT ⟨_, rfl, acc, e2, ?_, acc ++ [_], fun b u z => by rw [upd_ne (ne_of_none z nD)]; exact s2 b u z, upd_same, by rw [List.length_append]; exact Nat.succ_le_succ al, ?_⟩
            · exact small1000 (by omega)
            constructor
            · intro z
              cases acc <;> cases z
            · intro z
              rw [z i s d (Nat.lt_succ_self i) hs hdi] at e5
              cases e5
          | true =>
            refine iteF ⟨acc, s2, e2, by omega, ?_⟩
            rw [ae]
            constructor
            · intro z j s' d' hj h1 h2
              rcases Nat.lt_or_ge j i with l | g
              · exact z j s' d' l h1 h2
              · obtain rfl : j = i := by omega
                rw [hs] at h1
                rw [hdi] at h2
                cases h1
                cases h2
                exact e5
            · intro z j s' d' hj h1 h2
              exact z j s' d' (by omega) h1 h2
        · rintro H2 ⟨acc, s2, e2, al, ae⟩
          refine ⟨_, .inl ⟨acc, SqL.of e2, rfl⟩, ?_⟩
          have ew : acc.isEmpty = allW ss ds := by
            rw [Bool.eq_iff_iff, ae, allW_iff]
            constructor
            · intro z i s d h1 h2
              exact z i s d (by rw [List.length_map]; exact (List.getElem?_eq_some_iff.mp h1).1) h1 h2
            · intro z j s d _ h1 h2
              exact z j s d h1 h2
          rw [Bool.not_not, ew]
          exact k _ (s1.trans s2)
end
end K02
set_option Elab.async false
set_option linter.all false
set_option maxRecDepth 100000
set_option maxHeartbeats 4000000
set_option exponentiation.threshold 20000
namespace K02
open PySem L2 Y00 K02M
/-- all but h -/
def hid (h : Addr) (H : Hp) : Hp := fun a => if a = h then none else H a
theorem hid_ne {h a : Addr} {H : Hp} (n : a ≠ h) : hid h H a = H a := if_neg n
theorem hid_sub {h : Addr} {H : Hp} : Same (hid h H) H := fun b o e => by
  unfold hid at e
  split at e
  · cases e
  · exact e
theorem kept_hid {h : Addr} {H H' : Hp} (k : Kept h H H') : Same (hid h H) (hid h H') := fun b o e => by
  unfold hid at e
  split at e
  · cases e
  · rename_i n
    rw [hid_ne n]
    exact k b o n e
theorem kept_hid2 {h D : Addr} {H H' : Hp} (k : Kept h H H') (n : H D = none) : Same (hid h H) (hid D (hid h H')) := fun b o e => by
  have e2 := kept_hid k b o e
  rw [hid_ne fun z => ?_]
  · exact e2
  · rw [z] at e
    have := hid_sub _ _ e
    rw [n] at this
    cases this
theorem hid_at {h a : Addr} {H : Hp} {o : HO} (e : H a = some o) (n : a ≠ h) : hid h H a = some o := by rw [hid_ne n]; exact e
theorem hid_mono {h : Addr} {H H' : Hp} (s : Same H H') : Same (hid h H) (hid h H') := kept_hid fun b o _ e => s b o e
theorem hid_upd {h D : Addr} {H : Hp} {o : HO} : Same (hid D (hid h H)) (hid D (hid h (upd H D o))) := fun b u e => by
  have nD : b ≠ D := fun z => by rw [z] at e; unfold hid at e; rw [if_pos rfl] at e; cases e
  rw [hid_ne nD] at e ⊢
  unfold hid at e ⊢
  split at e
  · cases e
  · rename_i n
    rw [if_neg n, upd_ne nD]
    exact e
theorem dpall_init {K : PySem.W.Frag} {H : Hp} : ∀ {xs : List V} {ds : List PyData}, DpAll K H xs ds → DpAll K H xs.dropLast ds.dropLast
  | _, _, .nil => .nil
  | _, _, .cons a .nil => .nil
  | _, _, .cons a (.cons b t) => .cons a (dpall_init (.cons b t))
theorem dpall_set {K : PySem.W.Frag} {H : Hp} {v : V} {d : PyData} (hv : Dp K H v d) : ∀ {xs : List V} {ds : List PyData} (i : Nat), DpAll K H xs ds → DpAll K H (xs.set i v) (ds.set i d)
  | _, _, _, .nil => .nil
  | _, _, 0, .cons _ t => .cons hv t
  | _, _, i + 1, .cons a t => .cons a (dpall_set hv i t)
/-- a hand is no new thing -/
theorem Hand.ne {H : Hp} {h c p : Addr} (A : Hand H h c) (n : H p = none) : p ≠ h := fun z => by
  obtain ⟨_, _, _, _, A⟩ := A
  rw [z, A.oh] at n
  cases n
theorem Hand.cne {H : Hp} {h c p : Addr} (A : Hand H h c) (n : H p = none) : p ≠ c := fun z => by
  obtain ⟨_, _, _, _, A⟩ := A
  rw [z, A.oc] at n
  cases n
/-- another list changed: the hand stands -/
theorem Hand.put {H : Hp} {h c D : Addr} {o : HO} (A : Hand H h c) (n : D ≠ h) (m : D ≠ c) : Hand (upd H D o) h c := by
  obtain ⟨cells, i, rest, total, A⟩ := A
  exact ⟨cells, i, rest, total, { A with oh := by rw [upd_ne (Ne.symm n)]; exact A.oh, oc := by rw [upd_ne (Ne.symm m)]; exact A.oc }⟩
theorem small9000 {m : Nat} (h : m < 2 ^ 64) : m < 2 ^ 9000 := Nat.lt_of_lt_of_le h (Nat.pow_le_pow_right (by decide) (by decide))
theorem tk9 {m : Int} (h0 : 0 < m) (h1 : m ≤ 1000000000000) : m.natAbs < 2 ^ 9000 := small9000 (by
  have e : (2 : Nat) ^ 64 = 18446744073709551616 := by decide
  rw [e]
  omega)
/-- data that == takes -/
def okE (d : PyData) : Prop := d.canLay0 = true ∧ d.depth ≤ 5
def okT : Td → Prop
  | .d (.list ds) => ∀ d ∈ ds, okE d
  | .d (.tuple ds) => ∀ d ∈ ds, okE d
  | .d x => okE x
  | .dic => True
theorem okE_all : ∀ {ds : List PyData}, (∀ d ∈ ds, okE d) → PyData.canLayAll0 ds = true ∧ PyData.depthAll ds ≤ 5
  | [], _ => ⟨rfl, by decide⟩
  | d :: r, h => by
    obtain ⟨a, b⟩ := okE_all fun x hx => h x (List.mem_cons_of_mem _ hx)
    obtain ⟨c, e⟩ := h d List.mem_cons_self
    refine ⟨?_, ?_⟩
    · show (d.canLay0 && PyData.canLayAll0 r) = true
      rw [a, c]
      rfl
    · show max d.depth (PyData.depthAll r) ≤ 5
      exact Nat.max_le.mpr ⟨e, b⟩
theorem sh_okE {d : PyData} (h : okE d) : SeqAt.shaped d = true := by
  unfold SeqAt.shaped
  have := h.2
  rw [h.1, decide_eq_true (by omega)]
  rfl
theorem sh_list {ds : List PyData} (h : ∀ d ∈ ds, okE d) : SeqAt.shaped (.list ds) = true := by
  obtain ⟨a, b⟩ := okE_all h
  unfold SeqAt.shaped
  show (PyData.canLayAll0 ds && decide (PyData.depthAll ds + 1 ≤ 64)) = true
  rw [a, decide_eq_true (by omega)]
  rfl
theorem sh_tuple {ds : List PyData} (h : ∀ d ∈ ds, okE d) : SeqAt.shaped (.tuple ds) = true := by
  obtain ⟨a, b⟩ := okE_all h
  unfold SeqAt.shaped
  show (PyData.canLayAll0 ds && decide (PyData.depthAll ds + 1 ≤ 64)) = true
  rw [a, decide_eq_true (by omega)]
  rfl
theorem ev_self {d : PyData} (h : SeqAt.shaped d = true) : PyData.eqv d d = true := SeqAt.eqv_refl_plain d (PyData.plain_of_canLay0 d (SeqAt.canLay_of_shaped h))
theorem okE_int (i : Int) : okE (.int i) := ⟨rfl, by show 0 ≤ 5; decide⟩
theorem okE_ints : ∀ ws : List Nat, ∀ d ∈ ws.map (fun n : Nat => PyData.int (n : Int)), okE d := fun ws d hd => by
  obtain ⟨n, _, rfl⟩ := List.mem_map.mp hd
  exact okE_int _
theorem okE_mk {d : PyData} (a : d.canLay0 = true) (b : d.depth ≤ 5) : okE d := ⟨a, b⟩
end K02
set_option Elab.async false
set_option linter.all false
set_option maxRecDepth 100000
set_option maxHeartbeats 4000000
set_option exponentiation.threshold 20000
namespace K02
open PySem L2 Y00 K02M
def spLists (K : PySem.W.Frag) : Sp := fun vs H Q _ => ∃ (h c a : Addr) (b : Bool) (xs : List V), vs = [.ref h, .ref a] ∧ Hand H h c ∧ SqM K b (hid h H) a xs ∧ ∀ (p : Addr) (t : Bool) (H' : Hp), Kept h H H' → Hand H' h c → SqM K t (hid h H') p xs → Q (.ref p) H'
def spNm : Sp := fun vs H Q _ => ∃ (h c : Addr) (f : Int), vs = [.ref h, .int f] ∧ 0 ≤ f ∧ f < 26 ∧ Hand H h c ∧ ∀ (s : Str) (H' : Hp), Kept h H H' → Hand H' h c → nameS s = true → Q (.str s) H'
def spOdd (K : PySem.W.Frag) : Sp := fun vs H Q _ => ∃ (h c : Addr) (f : Int), vs = [.ref h, .int f] ∧ Hand H h c ∧ ∀ (v : V) (d : PyData) (H' : Hp), Kept h H H' → Hand H' h c → (∀ D, H D ≠ none → Dp K (hid D (hid h H')) v d) → okE d → Q v H'
def spRid (K : PySem.W.Frag) : Sp := fun vs H Q _ => ∃ (h c : Addr), vs = [.ref h] ∧ Hand H h c ∧ ∀ (v : V) (t : Td) (H' : Hp), Kept h H H' → Hand H' h c → DpX K (hid h H') v t → okT t → Q v H'
def spNoW (K : PySem.W.Frag) : Sp := fun vs H Q _ => ∃ (h c : Addr), vs = [.ref h] ∧ Hand H h c ∧ ∀ (v : V) (d : PyData) (H' : Hp), Kept h H H' → Hand H' h c → Dp K (hid h H') v d → smW d → smN d → Q v H'
theorem inL_at : ∀ i : Nat, i < 26 → ∃ c, lets.cps.toList[i]? = some c ∧ inL c = true := by
  have h : ∀ i : Fin 26, (match lets.cps.toList[i.val]? with | some c => inL c | none => false) = true := by decide +kernel
  intro i hi
  have := h ⟨i, hi⟩
  revert this
  show (match lets.cps.toList[i]? with | some c => inL c | none => false) = true → _
  cases lets.cps.toList[i]? with
  | none => intro z; cases z
  | some c => intro z; exact ⟨c, rfl, z⟩
theorem lets_len : lets.length ≤ sizeLine := by decide +kernel
theorem atI_of {α : Type} {l : List α} {i : Int} {x : α} (h : 0 ≤ i) (e : l[i.toNat]? = some x) : atI l i = some x := by
  have := atI_nat e
  rwa [Int.toNat_of_nonneg h] at this
section
variable {P : Program} {w : World} {K : PySem.W.Frag} {mg : Str → Option Value} {base : Heap}
theorem ok_law_lists (T : Tx K mg) : FnOk P w K mg base CX0 3 T.law_lists.f T.law_lists.fd ["_law_hand_here", "_law_thing"] (spLists K) := by
  have Glaw_take : FnOk P w K mg base CX0 2 T.law_take.f T.law_take.fd ["_law_hand_here", "_law_many_here"] spTake := ok_take T.toTxA
  refine T.law_lists.F.ok sc_law_lists (fun vs H Q E h => ?_) (fun cdv A outer s H vs Q E hr h => ?_)
  · obtain ⟨_, _, _, _, _, rfl, _⟩ := h
    rfl
  · obtain ⟨h, c, a, b, xs, rfl, hh, hS, k⟩ := h
    refine ⟨_, (pss_one (ps_ret (pe_ifExp (pt_truth (pe_call Glaw_take (hr.mono (by decide)) rfl T.law_take.g T.law_take.F.kp T.law_take.b .nil pass0 (pa_cons (pv 0) (pa_cons pe_int pa_nil))) (by intro _; rfl)) (pe_callTy call_list_of (by rfl) T.list (by decide +kernel) (pa_cons (pv 1) pa_nil)) (pe_callTy call_tuple_of (by rfl) T.tuple (by decide +kernel) (pa_cons (pv 1) pa_nil))))), ?_⟩
    refine ⟨_, rfl, h, c, 2, rfl, by decide, tk9 (by decide) (by decide), hh, fun r H1 r0 r1 kp hh1 => ⟨_, rfl, ?_⟩⟩
    have hS1 := (hS.same (kept_hid kp))
    have hS2 := hS1.same hid_sub
    refine ite2 (fun e => ?_) (fun e => ?_)
    · refine ⟨_, rfl, a, xs, rfl, hS2.len, fun l nl => ?_⟩
      have ne := hh1.ne nl
      exact k l false _ (kp.trans (kept_new nl)) (hh1.same (same_new nl)) (SqM.ofL (SqL.of (hid_at upd_same ne)))
    · cases b with
      | false =>
        refine ⟨_, rfl, a, xs, rfl, .inl ⟨hS2, fun l nl => ?_⟩⟩
        have ne := hh1.ne nl
        exact k l true _ (kp.trans (kept_new nl)) (hh1.same (same_new nl)) (SqM.ofT (SqT.of (hid_at upd_same ne)))
      | true => exact ⟨_, rfl, a, xs, rfl, .inr ⟨hS2, k a true _ kp hh1 hS1⟩⟩
theorem ok_law_name (T : Tx K mg) : FnOk P w K mg base CX0 3 T.law_name.f T.law_name.fd ["_law_hand_here", "_law_first"] spNm := by
  have Glaw_take : FnOk P w K mg base CX0 2 T.law_take.f T.law_take.fd ["_law_hand_here", "_law_many_here"] spTake := ok_take T.toTxA
  refine T.law_name.F.ok sc_law_name (fun vs H Q E h => ?_) (fun cdv A outer s H vs Q E hr h => ?_)
  · obtain ⟨_, _, _, rfl, _⟩ := h
    rfl
  · obtain ⟨h, c, f, rfl, f0, f1, hh, k⟩ := h
    refine ⟨_, (pss_cons (ps_set (i := 2) sc_law_name.nd rfl (Or.inl rfl) (pe_ix ix_str (pe_str (x := lets)) (pv 1) (fun _ _ => rfl)))
  (pss_cons (ps_for PassesOwn.never rfl (pi_range1 rfl T.range (pa_cons (pe_ix ix_seq (pe_tup (pa_cons pe_int (pa_cons pe_int (pa_cons pe_int (pa_cons pe_int (pa_cons pe_int pa_nil)))))) (pe_call Glaw_take (hr.mono (by decide)) rfl T.law_take.g T.law_take.F.kp T.law_take.b .nil pass0 (pa_cons (pv 0) (pa_cons pe_int pa_nil))) (fun _ _ => rfl)) pa_nil)) (pg_name (i := 3) sc_law_name.nd rfl (Or.inl rfl))
  (pss_one (ps_set (i := 2) sc_law_name.nd rfl (Or.inl rfl) (pe_op op_add_str (pv 2) (pe_ix ix_str (pe_str (x := lets)) (pe_call Glaw_take (hr.mono (by decide)) rfl T.law_take.g T.law_take.F.kp T.law_take.b .nil pass0 (pa_cons (pv 0) (pa_cons pe_int pa_nil))) (fun _ _ => rfl))))))
  (pss_one (ps_ret (pv 2))))), ?_⟩
    obtain ⟨ch, hc, il⟩ := inL_at f.toNat (by omega)
    refine ⟨_, rfl, lets, f, ch, rfl, rfl, lets_len, atI_of f0 hc, ?_⟩
    refine ⟨(by show 5 ≤ sizeLine; decide), fun p np => ?_⟩
    refine ⟨_, rfl, h, c, 5, rfl, by decide, tk9 (by decide) (by decide), hh.same (same_new np), fun r H1 r0 r1 kp hh1 => ?_⟩
    have ne := hh.ne np
    have e1 : H1 p = some (.tup [.int 0, .int 0, .int 1, .int 3, .int 7]) := kp _ _ ne upd_same
    obtain ⟨m, ml, hm⟩ : ∃ m : Nat, m ≤ 7 ∧ atI [V.int 0, .int 0, .int 1, .int 3, .int 7] r = some (.int (m : Int)) := by
      have : r = 0 ∨ r = 1 ∨ r = 2 ∨ r = 3 ∨ r = 4 := by omega
      rcases this with rfl | rfl | rfl | rfl | rfl
      · exact ⟨0, by decide, rfl⟩
      · exact ⟨0, by decide, rfl⟩
      · exact ⟨1, by decide, rfl⟩
      · exact ⟨3, by decide, rfl⟩
      · exact ⟨7, by decide, rfl⟩
    refine (SqM.ofT (SqT.of e1)).ix hm ⟨(m : Int), rfl, by omega, by omega, ?_⟩
    refine for_range (n := m) (fun i σ H2 => Kept h H H2 ∧ Hand H2 h c ∧ ∃ (s : Str) (v3 : Option V), σ = [some (.ref h), some (.int f), some (.str s), v3] ∧ s.cps.size = i + 1 ∧ s.cps.toList.all inL = true)
      ⟨(kept_new np).trans kp, hh1, _, none, rfl, rfl, ?_⟩ ?_ ?_
    · show (inL ch && true) = true
      rw [il]
      rfl
    · rintro i σ H2 hi ⟨k2, hh2, s, v3, rfl, sz, al⟩
      refine ⟨_, rfl, _, rfl, h, c, 26, rfl, by decide, tk9 (by decide) (by decide), hh2, fun r3 H3 q0 q1 kp3 hh3 => ?_⟩
      obtain ⟨ch2, hc2, il2⟩ := inL_at r3.toNat (by omega)
      refine ⟨lets, r3, ch2, rfl, rfl, lets_len, atI_of q0 hc2, s, _, rfl, rfl, ?_, k2.trans kp3, hh3, _, some (.int (0 + (i : Int))), rfl, ?_, ?_⟩
      · show s.cps.size + 1 ≤ sizeLine
        rw [sz, sizeLine_eq]
        omega
      · show (s.cps ++ #[ch2]).size = _
        rw [Array.size_append, sz]
        rfl
      · show (s.cps ++ #[ch2]).toList.all inL = true
        rw [Array.toList_append, List.all_append, al]
        show (true && (inL ch2 && true)) = true
        rw [il2]
        rfl
    · rintro σ H2 ⟨k2, hh2, s, v3, rfl, sz, al⟩
      refine ⟨_, rfl, k s H2 k2 hh2 ?_⟩
      have sz : s.length = m + 1 := sz
      unfold nameS
      rw [al, sz, decide_eq_true (by omega), decide_eq_true (by omega)]
      rfl
theorem ok_law_odd (T : Tx K mg) : FnOk P w K mg base CX0 3 T.law_odd.f T.law_odd.fd ["_law_hand_here", "_law_bound"] (spOdd K) := by
  have Glaw_take : FnOk P w K mg base CX0 2 T.law_take.f T.law_take.fd ["_law_hand_here", "_law_many_here"] spTake := ok_take T.toTxA
  refine T.law_odd.F.ok sc_law_odd (fun vs H Q E h => ?_) (fun cdv A outer s H vs Q E hr h => ?_)
  · obtain ⟨_, _, _, rfl, _⟩ := h
    rfl
  · obtain ⟨h, c, f, rfl, hh, k⟩ := h
    refine ⟨_, (pss_cons (ps_set (i := 2) sc_law_odd.nd rfl (Or.inl rfl) (pe_call Glaw_take (hr.mono (by decide)) rfl T.law_take.g T.law_take.F.kp T.law_take.b .nil pass0 (pa_cons (pv 0) (pa_cons pe_int pa_nil))))
  (pss_cons (ps_if (pt_cmpR op_eq (pv 2) pe_int (nomark _)) (pss_one (ps_ret (pe_op op_add (pv 1) (pe_call Glaw_take (hr.mono (by decide)) rfl T.law_take.g T.law_take.F.kp T.law_take.b .nil pass0 (pa_cons (pv 0) (pa_cons (pe_op op_pow pe_int pe_int) pa_nil)))))) pss_nil)
  (pss_cons (ps_if (pt_cmpR op_eq (pv 2) pe_int (nomark _)) (pss_one (ps_ret (pe_op op_sub (pe_un un_neg pe_int) (pe_call Glaw_take (hr.mono (by decide)) rfl T.law_take.g T.law_take.F.kp T.law_take.b .nil pass0 (pa_cons (pv 0) (pa_cons (pe_op op_pow pe_int pe_int) pa_nil)))))) pss_nil)
  (pss_one (ps_ret (pe_ix ix_seq (pe_tup (pa_cons pe_bl (pa_cons pe_bl (pa_cons pe_non (pa_cons pe_str (pa_cons (pe_tup (pa_cons pe_int pa_nil)) (pa_cons pe_str (pa_cons (pv 1) pa_nil)))))))) (pe_op op_sub (pv 2) pe_int) (fun _ _ => rfl))))))), ?_⟩
    refine ⟨_, rfl, h, c, 9, rfl, by decide, tk9 (by decide) (by decide), hh, fun r H1 r0 r1 kp hh1 => ?_⟩
    refine ⟨_, rfl, rfl, _, rfl, ?_⟩
    refine ite2 (fun e => ?_) (fun e => ?_)
    · refine ⟨_, rfl, _, rfl, _, _, rfl, rfl, (by show CPow 10 12; unfold CPow; decide), h, c, _, rfl, (by decide), tk9 (by decide) (by decide), hh1, fun r3 H3 q0 q1 kp3 hh3 => ?_⟩
      exact ⟨_, _, rfl, rfl, k _ _ H3 (kp.trans kp3) hh3 (fun _ _ => .int _) (okE_int _)⟩
    refine ⟨_, rfl, rfl, _, rfl, ?_⟩
    refine ite2 (fun e2 => ?_) (fun e2 => ?_)
    · refine ⟨_, rfl, _, rfl, _, _, rfl, rfl, (by show CPow 10 12; unfold CPow; decide), h, c, _, rfl, (by decide), tk9 (by decide) (by decide), hh1, fun r3 H3 q0 q1 kp3 hh3 => ?_⟩
      exact ⟨_, _, rfl, rfl, k _ _ H3 (kp.trans kp3) hh3 (fun _ _ => .int _) (okE_int _)⟩
    have n0 : r ≠ 0 := fun z => e (by rw [z]; exact decide_eq_true rfl)
    have n1 : r ≠ 1 := fun z => e2 (by rw [z]; exact decide_eq_true rfl)
    refine ⟨(by show 1 ≤ sizeLine; decide), fun p1 np1 => ?_⟩
    refine ⟨_, rfl, (by show 7 ≤ sizeLine; decide), fun p2 np2 => ?_⟩
    have h1 := hh1.ne np1
    have hh2 := hh1.same (same_new (o := .tup [.int 0]) np1)
    have h2 := hh2.ne np2
    have e1 : ∀ D, H D ≠ none → Dp K (hid D (hid h (upd (upd H1 p1 (.tup [.int 0])) p2 (.tup [.bl true, .bl false, .non, .str "1", .ref p1, .str "00", .int f])))) (.ref p1) (.tuple [.int 0]) := fun D nD =>
      .tup (SqT.of (hid_at (hid_at (same_new np2 _ _ upd_same) h1) fun z => by
        by_cases zh : D = h
        · exact h1 (z.trans zh)
        · cases q : H D with
          | none => exact nD q
          | some o => rw [z, kp _ _ zh q] at np1; cases np1)) (.cons (.int _) .nil)
    have kk := fun v d a b => k v d (upd (upd H1 p1 (.tup [.int 0])) p2 (.tup [.bl true, .bl false, .non, .str "1", .ref p1, .str "00", .int f])) (kp.trans ((kept_new np1).trans (kept_new np2))) (hh2.same (same_new np2)) a b
    refine ⟨_, rfl, _, _, rfl, rfl, ?_⟩
    have hq : SqM K true (upd (upd H1 p1 (.tup [.int 0])) p2 (.tup [.bl true, .bl false, .non, .str "1", .ref p1, .str "00", .int f])) p2 [.bl true, .bl false, .non, .str "1", .ref p1, .str "00", .int f] := SqM.ofT (SqT.of upd_same)
    have : r = 2 ∨ r = 3 ∨ r = 4 ∨ r = 5 ∨ r = 6 ∨ r = 7 ∨ r = 8 := by omega
    rcases this with rfl | rfl | rfl | rfl | rfl | rfl | rfl
    · exact hq.ix (i := 2 - 2) rfl (kk _ _ (fun _ _ => .bl _) (okE_mk rfl (by decide)))
    · exact hq.ix (i := 3 - 2) rfl (kk _ _ (fun _ _ => .bl _) (okE_mk rfl (by decide)))
    · exact hq.ix (i := 4 - 2) rfl (kk _ _ (fun _ _ => .non) (okE_mk rfl (by decide)))
    · exact hq.ix (i := 5 - 2) rfl (kk _ _ (fun _ _ => .str _) (okE_mk (by decide +kernel) (by decide)))
    · exact hq.ix (i := 6 - 2) rfl (kk _ _ e1 (okE_mk (by decide +kernel) (by decide)))
    · exact hq.ix (i := 7 - 2) rfl (kk _ _ (fun _ _ => .str _) (okE_mk (by decide +kernel) (by decide)))
    · exact hq.ix (i := 8 - 2) rfl (kk _ _ (fun _ _ => .int _) (okE_int _))
end
end K02
set_option Elab.async false
set_option linter.all false
set_option maxRecDepth 100000
set_option maxHeartbeats 4000000
set_option exponentiation.threshold 20000
namespace K02
open PySem L2 Y00 K02M
section
variable {P : Program} {w : World} {K : PySem.W.Frag} {mg : Str → Option Value} {base : Heap}
theorem ok_law_no_wire (T : Tx K mg) : FnOk P w K mg base CX0 3 T.law_no_wire.f T.law_no_wire.fd ["_law_hand_here"] (spNoW K) := by
  have Glaw_take : FnOk P w K mg base CX0 2 T.law_take.f T.law_take.fd ["_law_hand_here", "_law_many_here"] spTake := ok_take T.toTxA
  refine T.law_no_wire.F.ok sc_law_no_wire (fun vs H Q E h => ?_) (fun cdv A outer s H vs Q E hr h => ?_)
  · obtain ⟨_, _, rfl, _⟩ := h
    rfl
  · obtain ⟨h, c, rfl, hh, k⟩ := h
    refine ⟨_, (pss_one (ps_ret (pe_ix ix_seq (pe_tup (pa_cons (pe_tup (pa_cons pe_str (pa_cons pe_int pa_nil))) (pa_cons (pe_tup (pa_cons pe_str (pa_cons pe_int pa_nil))) (pa_cons (pe_tup (pa_cons pe_str (pa_cons pe_int pa_nil))) (pa_cons (pe_tup (pa_cons pe_str (pa_cons pe_int pa_nil))) (pa_cons (pe_tup (pa_cons pe_str (pa_cons pe_int pa_nil))) (pa_cons (pe_tup (pa_cons pe_str (pa_cons pe_bl pa_nil))) (pa_cons (pe_tup (pa_cons pe_str pa_nil)) (pa_cons (pe_tup (pa_cons pe_str (pa_cons pe_int (pa_cons pe_int pa_nil)))) (pa_cons pe_str (pa_cons (pe_lst (pa_cons pe_str (pa_cons pe_str pa_nil))) (pa_cons pe_non (pa_cons pe_int (pa_cons (pe_tup (pa_cons pe_int (pa_cons pe_int pa_nil))) pa_nil)))))))))))))) (pe_call Glaw_take (hr.mono (by decide)) rfl T.law_take.g T.law_take.F.kp T.law_take.b .nil pass0 (pa_cons (pv 0) (pa_cons pe_int pa_nil))) (fun _ _ => rfl)))), ?_⟩
    refine ⟨(by show 2 ≤ sizeLine; decide), fun p0 fp0 => ?_⟩
    refine ⟨(by show 2 ≤ sizeLine; decide), fun p1 fp1 => ?_⟩
    refine ⟨(by show 2 ≤ sizeLine; decide), fun p2 fp2 => ?_⟩
    refine ⟨(by show 2 ≤ sizeLine; decide), fun p3 fp3 => ?_⟩
    refine ⟨(by show 2 ≤ sizeLine; decide), fun p4 fp4 => ?_⟩
    refine ⟨(by show 2 ≤ sizeLine; decide), fun p5 fp5 => ?_⟩
    refine ⟨(by show 1 ≤ sizeLine; decide), fun p6 fp6 => ?_⟩
    refine ⟨(by show 3 ≤ sizeLine; decide), fun p7 fp7 => ?_⟩
    refine ⟨(by show 2 ≤ sizeLine; decide), fun p9 fp9 => ?_⟩
    refine ⟨(by show 2 ≤ sizeLine; decide), fun p12 fp12 => ?_⟩
    refine ⟨(by show 13 ≤ sizeLine; decide), fun q fq => ?_⟩
    have s10 : Same _ _ := same_new (o := .tup [.ref p0, .ref p1, .ref p2, .ref p3, .ref p4, .ref p5, .ref p6, .ref p7, .str "ab", .ref p9, .non, .int 5, .ref p12]) fq
    have s9 := (same_new (o := .tup [.int 1, .int 2]) fp12).trans s10
    have s8 := (same_new (o := .lst [.str "a", .str "2"]) fp9).trans s9
    have s7 := (same_new (o := .tup [.str "a", .int 2, .int 3]) fp7).trans s8
    have s6 := (same_new (o := .tup [.str "a"]) fp6).trans s7
    have s5 := (same_new (o := .tup [.str "a", .bl true]) fp5).trans s6
    have s4 := (same_new (o := .tup [.str "a", .int 5]) fp4).trans s5
    have s3 := (same_new (o := .tup [.str "a", .int 1]) fp3).trans s4
    have s2 := (same_new (o := .tup [.str "A", .int 2]) fp2).trans s3
    have s1 := (same_new (o := .tup [.str "abcdefghi", .int 2]) fp1).trans s2
    have s0 := (same_new (o := .tup [.str "", .int 2]) fp0).trans s1
    refine ⟨_, rfl, h, c, 13, rfl, by decide, tk9 (by decide) (by decide), hh.same s0, fun r H1 r0 r1 kp hh1 => ?_⟩
    have hq := hh.same s0
    have a0 := hh
    have n0 := a0.ne fp0
    have a1 := a0.same (same_new (o := .tup [.str "", .int 2]) fp0)
    have n1 := a1.ne fp1
    have a2 := a1.same (same_new (o := .tup [.str "abcdefghi", .int 2]) fp1)
    have n2 := a2.ne fp2
    have a3 := a2.same (same_new (o := .tup [.str "A", .int 2]) fp2)
    have n3 := a3.ne fp3
    have a4 := a3.same (same_new (o := .tup [.str "a", .int 1]) fp3)
    have n4 := a4.ne fp4
    have a5 := a4.same (same_new (o := .tup [.str "a", .int 5]) fp4)
    have n5 := a5.ne fp5
    have a6 := a5.same (same_new (o := .tup [.str "a", .bl true]) fp5)
    have n6 := a6.ne fp6
    have a7 := a6.same (same_new (o := .tup [.str "a"]) fp6)
    have n7 := a7.ne fp7
    have a8 := a7.same (same_new (o := .tup [.str "a", .int 2, .int 3]) fp7)
    have n8 := a8.ne fp9
    have a9 := a8.same (same_new (o := .lst [.str "a", .str "2"]) fp9)
    have n9 := a9.ne fp12
    have a10 := a9.same (same_new (o := .tup [.int 1, .int 2]) fp12)
    have nq := a10.ne fq
    have kk := fun v d a b e => k v d H1 ((Same.kept s0).trans kp) hh1 a b e
    have hx : SqM K true H1 q [.ref p0, .ref p1, .ref p2, .ref p3, .ref p4, .ref p5, .ref p6, .ref p7, .str "ab", .ref p9, .non, .int 5, .ref p12] := SqM.ofT (SqT.of (kp _ _ nq upd_same))
    have d0 : Dp K (hid h H1) (.ref p0) (.tuple [.str "", .int 2]) := .tup (SqT.of (hid_at (kp _ _ n0 (s1 _ _ upd_same)) n0)) (.cons (.str _) (.cons (.int _) .nil))
    have d1 : Dp K (hid h H1) (.ref p1) (.tuple [.str "abcdefghi", .int 2]) := .tup (SqT.of (hid_at (kp _ _ n1 (s2 _ _ upd_same)) n1)) (.cons (.str _) (.cons (.int _) .nil))
    have d2 : Dp K (hid h H1) (.ref p2) (.tuple [.str "A", .int 2]) := .tup (SqT.of (hid_at (kp _ _ n2 (s3 _ _ upd_same)) n2)) (.cons (.str _) (.cons (.int _) .nil))
    have d3 : Dp K (hid h H1) (.ref p3) (.tuple [.str "a", .int 1]) := .tup (SqT.of (hid_at (kp _ _ n3 (s4 _ _ upd_same)) n3)) (.cons (.str _) (.cons (.int _) .nil))
    have d4 : Dp K (hid h H1) (.ref p4) (.tuple [.str "a", .int 5]) := .tup (SqT.of (hid_at (kp _ _ n4 (s5 _ _ upd_same)) n4)) (.cons (.str _) (.cons (.int _) .nil))
    have d5 : Dp K (hid h H1) (.ref p5) (.tuple [.str "a", .bool true]) := .tup (SqT.of (hid_at (kp _ _ n5 (s6 _ _ upd_same)) n5)) (.cons (.str _) (.cons (.bl _) .nil))
    have d6 : Dp K (hid h H1) (.ref p6) (.tuple [.str "a"]) := .tup (SqT.of (hid_at (kp _ _ n6 (s7 _ _ upd_same)) n6)) (.cons (.str _) .nil)
    have d7 : Dp K (hid h H1) (.ref p7) (.tuple [.str "a", .int 2, .int 3]) := .tup (SqT.of (hid_at (kp _ _ n7 (s8 _ _ upd_same)) n7)) (.cons (.str _) (.cons (.int _) (.cons (.int _) .nil)))
    have d9 : Dp K (hid h H1) (.ref p9) (.list [.str "a", .str "2"]) := .lst (SqL.of (hid_at (kp _ _ n8 (s9 _ _ upd_same)) n8)) (.cons (.str _) (.cons (.str _) .nil))
    have d12 : Dp K (hid h H1) (.ref p12) (.tuple [.int 1, .int 2]) := .tup (SqT.of (hid_at (kp _ _ n9 (s10 _ _ upd_same)) n9)) (.cons (.int _) (.cons (.int _) .nil))
    have : r = 0 ∨ r = 1 ∨ r = 2 ∨ r = 3 ∨ r = 4 ∨ r = 5 ∨ r = 6 ∨ r = 7 ∨ r = 8 ∨ r = 9 ∨ r = 10 ∨ r = 11 ∨ r = 12 := by omega
    rcases this with rfl | rfl | rfl | rfl | rfl | rfl | rfl | rfl | rfl | rfl | rfl | rfl | rfl
    · refine hx.ix (i := 0) rfl (kk _ _ d0 ?_ trivial)
      intro d hd
      simp only [List.mem_cons, List.not_mem_nil, or_false] at hd
      rcases hd with rfl | rfl
      all_goals first | exact trivial | (show _ ≤ 1000; decide +kernel)
    · refine hx.ix (i := 1) rfl (kk _ _ d1 ?_ trivial)
      intro d hd
      simp only [List.mem_cons, List.not_mem_nil, or_false] at hd
      rcases hd with rfl | rfl
      all_goals first | exact trivial | (show _ ≤ 1000; decide +kernel)
    · refine hx.ix (i := 2) rfl (kk _ _ d2 ?_ trivial)
      intro d hd
      simp only [List.mem_cons, List.not_mem_nil, or_false] at hd
      rcases hd with rfl | rfl
      all_goals first | exact trivial | (show _ ≤ 1000; decide +kernel)
    · refine hx.ix (i := 3) rfl (kk _ _ d3 ?_ trivial)
      intro d hd
      simp only [List.mem_cons, List.not_mem_nil, or_false] at hd
      rcases hd with rfl | rfl
      all_goals first | exact trivial | (show _ ≤ 1000; decide +kernel)
    · refine hx.ix (i := 4) rfl (kk _ _ d4 ?_ trivial)
      intro d hd
      simp only [List.mem_cons, List.not_mem_nil, or_false] at hd
      rcases hd with rfl | rfl
      all_goals first | exact trivial | (show _ ≤ 1000; decide +kernel)
    · refine hx.ix (i := 5) rfl (kk _ _ d5 ?_ trivial)
      intro d hd
      simp only [List.mem_cons, List.not_mem_nil, or_false] at hd
      rcases hd with rfl | rfl
      all_goals first | exact trivial | (show _ ≤ 1000; decide +kernel)
    · refine hx.ix (i := 6) rfl (kk _ _ d6 ?_ trivial)
      intro d hd
      simp only [List.mem_cons, List.not_mem_nil, or_false] at hd
      rcases hd with rfl
      all_goals first | exact trivial | (show _ ≤ 1000; decide +kernel)
    · refine hx.ix (i := 7) rfl (kk _ _ d7 ?_ trivial)
      intro d hd
      simp only [List.mem_cons, List.not_mem_nil, or_false] at hd
      rcases hd with rfl | rfl | rfl
      all_goals first | exact trivial | (show _ ≤ 1000; decide +kernel)
    · exact hx.ix (i := 8) rfl (kk _ _ (.str _) trivial (by show _ ≤ 1000; decide +kernel))
    · refine hx.ix (i := 9) rfl (kk _ _ d9 ?_ trivial)
      intro d hd
      simp only [List.mem_cons, List.not_mem_nil, or_false] at hd
      rcases hd with rfl | rfl
      all_goals first | exact trivial | (show _ ≤ 1000; decide +kernel)
    · exact hx.ix (i := 10) rfl (kk _ _ .non trivial trivial)
    · exact hx.ix (i := 11) rfl (kk _ _ (.int _) trivial trivial)
    · refine hx.ix (i := 12) rfl (kk _ _ d12 ?_ trivial)
      intro d hd
      simp only [List.mem_cons, List.not_mem_nil, or_false] at hd
      rcases hd with rfl | rfl
      all_goals first | exact trivial | (show _ ≤ 1000; decide +kernel)
theorem ok_law_no_name (T : Tx K mg) : FnOk P w K mg base CX0 3 T.law_no_name.f T.law_no_name.fd ["_law_hand_here"] (spNoW K) := by
  have Glaw_take : FnOk P w K mg base CX0 2 T.law_take.f T.law_take.fd ["_law_hand_here", "_law_many_here"] spTake := ok_take T.toTxA
  refine T.law_no_name.F.ok sc_law_no_name (fun vs H Q E h => ?_) (fun cdv A outer s H vs Q E hr h => ?_)
  · obtain ⟨_, _, rfl, _⟩ := h
    rfl
  · obtain ⟨h, c, rfl, hh, k⟩ := h
    refine ⟨_, (pss_one (ps_ret (pe_ix ix_seq (pe_tup (pa_cons pe_str (pa_cons pe_str (pa_cons pe_str (pa_cons pe_non (pa_cons pe_int (pa_cons pe_bl (pa_cons (pe_tup (pa_cons pe_str pa_nil)) (pa_cons pe_str pa_nil))))))))) (pe_call Glaw_take (hr.mono (by decide)) rfl T.law_take.g T.law_take.F.kp T.law_take.b .nil pass0 (pa_cons (pv 0) (pa_cons pe_int pa_nil))) (fun _ _ => rfl)))), ?_⟩
    refine ⟨(by show 1 ≤ sizeLine; decide), fun p6 fp6 => ?_⟩
    refine ⟨(by show 8 ≤ sizeLine; decide), fun q fq => ?_⟩
    have s1 : Same _ _ := same_new (o := .tup [.str "", .str "A", .str "abcdefghi", .non, .int 5, .bl true, .ref p6, .str "a1"]) fq
    have s0 := (same_new (o := .tup [.str "a"]) fp6).trans s1
    refine ⟨_, rfl, h, c, 8, rfl, by decide, tk9 (by decide) (by decide), hh.same s0, fun r H1 r0 r1 kp hh1 => ?_⟩
    have hq := hh.same s0
    have a0 := hh
    have n0 := a0.ne fp6
    have a1 := a0.same (same_new (o := .tup [.str "a"]) fp6)
    have nq := a1.ne fq
    have kk := fun v d a b e => k v d H1 ((Same.kept s0).trans kp) hh1 a b e
    have hx : SqM K true H1 q [.str "", .str "A", .str "abcdefghi", .non, .int 5, .bl true, .ref p6, .str "a1"] := SqM.ofT (SqT.of (kp _ _ nq upd_same))
    have d6 : Dp K (hid h H1) (.ref p6) (.tuple [.str "a"]) := .tup (SqT.of (hid_at (kp _ _ n0 (s1 _ _ upd_same)) n0)) (.cons (.str _) .nil)
    have : r = 0 ∨ r = 1 ∨ r = 2 ∨ r = 3 ∨ r = 4 ∨ r = 5 ∨ r = 6 ∨ r = 7 := by omega
    rcases this with rfl | rfl | rfl | rfl | rfl | rfl | rfl | rfl
    · exact hx.ix (i := 0) rfl (kk _ _ (.str _) trivial (by show _ ≤ 1000; decide +kernel))
    · exact hx.ix (i := 1) rfl (kk _ _ (.str _) trivial (by show _ ≤ 1000; decide +kernel))
    · exact hx.ix (i := 2) rfl (kk _ _ (.str _) trivial (by show _ ≤ 1000; decide +kernel))
    · exact hx.ix (i := 3) rfl (kk _ _ .non trivial trivial)
    · exact hx.ix (i := 4) rfl (kk _ _ (.int _) trivial trivial)
    · exact hx.ix (i := 5) rfl (kk _ _ (.bl _) trivial trivial)
    · refine hx.ix (i := 6) rfl (kk _ _ d6 ?_ trivial)
      intro d hd
      simp only [List.mem_cons, List.not_mem_nil, or_false] at hd
      rcases hd with rfl
      all_goals first | exact trivial | (show _ ≤ 1000; decide +kernel)
    · exact hx.ix (i := 7) rfl (kk _ _ (.str _) trivial (by show _ ≤ 1000; decide +kernel))
end
end K02
set_option Elab.async false
set_option linter.all false
set_option maxRecDepth 100000
set_option maxHeartbeats 4000000
set_option exponentiation.threshold 20000
namespace K02
open PySem L2 Y00 K02M
def spDrawn : Sp := fun vs H Q _ => ∃ (h c : Addr), vs = [.ref h] ∧ Hand H h c ∧ ∀ (D : Addr) (ss : List Nat) (H' : Hp), Kept h H H' → Hand H' h c → D ≠ h → H' D = some (.lst (ss.map nI)) → (∀ s ∈ ss, 0 < s) → prod ss ≤ 500 → ss.length ≤ 6 → Q (.ref D) H'
def spSpoilt (K : PySem.W.Frag) : Sp := fun vs H Q _ => ∃ (h c a p : Addr) (ss ws : List Nat), vs = [.ref h, .ref a, .ref p] ∧ Hand H h c ∧ SqM K false (hid h H) a (ss.map nI) ∧ SqM K true (hid h H) p (ws.map nI) ∧ ws.length = ss.length ∧ ss.length ≤ 6 ∧
  ∀ (v : V) (t : Td) (H' : Hp), Kept h H H' → Hand H' h c → DpX K (hid h H') v t → okT t → Q v H'
def SpMid (K : PySem.W.Frag) (h c a p D : Addr) (r : Int) (n : Nat) (H : Hp) : L2.St → Hp → Prop := fun σ H2 => ∃ (xs : List V) (ds : List PyData) (v5 : Option V), σ = [some (.ref h), some (.ref a), some (.ref p), some (.ref D), some (.int r), v5] ∧ Kept h H H2 ∧ Hand H2 h c ∧ H2 D = some (.lst xs) ∧ DpAll K (hid D (hid h H2)) xs ds ∧ (∀ d ∈ ds, okE d) ∧ xs.length ≤ n
section
variable {P : Program} {w : World} {K : PySem.W.Frag} {mg : Str → Option Value} {base : Heap}
theorem ok_law_rid (T : Tx K mg) : FnOk P w K mg base CX0 3 T.law_rid.f T.law_rid.fd ["_law_hand_here"] (spRid K) := by
  have Glaw_take : FnOk P w K mg base CX0 2 T.law_take.f T.law_take.fd ["_law_hand_here", "_law_many_here"] spTake := ok_take T.toTxA
  refine T.law_rid.F.ok sc_law_rid (fun vs H Q E h => ?_) (fun cdv A outer s H vs Q E hr h => ?_)
  · obtain ⟨_, _, rfl, _⟩ := h
    rfl
  · obtain ⟨h, c, rfl, hh, k⟩ := h
    refine ⟨_, (pss_one (ps_ret (pe_ix ix_seq (pe_tup (pa_cons pe_non (pa_cons pe_int (pa_cons pe_str (pa_cons pe_bl (pa_cons (pe_disp (pps_cons pe_int pe_int pps_nil) rfl rfl (by simp) (by decide)) (pa_cons (pe_un un_neg pe_int) pa_nil))))))) (pe_call Glaw_take (hr.mono (by decide)) rfl T.law_take.g T.law_take.F.kp T.law_take.b .nil pass0 (pa_cons (pv 0) (pa_cons pe_int pa_nil))) (fun _ _ => rfl)))), ?_⟩
    refine fun p1 np1 => ⟨upd_same, [(.inl 0, .int 1)], rfl, by decide, ?_⟩
    refine ⟨_, rfl, (by show 6 ≤ sizeLine; decide), fun q nq => ?_⟩
    have n1 := hh.ne np1
    have s1 : Same H (upd (upd H p1 (.dK [])) p1 (.dK (mergeK [] [(.inl 0, .int 1)]))) := fun b o e => by
      rw [upd_ne (ne_of_none e np1), upd_ne (ne_of_none e np1)]
      exact e
    have e1 : (upd (upd H p1 (.dK [])) p1 (.dK (mergeK [] [(.inl 0, .int 1)]))) p1 = some (.dK [(.inl 0, .int 1)]) := upd_same
    generalize upd (upd H p1 (.dK [])) p1 (.dK (mergeK [] [(.inl 0, .int 1)])) = H1 at *
    have hh1 := hh.same s1
    have n2 := hh1.ne nq
    refine ⟨_, rfl, h, c, 6, rfl, by decide, tk9 (by decide) (by decide), hh1.same (same_new nq), fun r H2 r0 r1 kp hh2 => ?_⟩
    have hx : SqM K true H2 q [.non, .int 3, .str "ab", .bl true, .ref p1, .int (-1)] := SqM.ofT (SqT.of (kp _ _ n2 upd_same))
    have ed : hid h H2 p1 = some (.dK [(.inl 0, .int 1)]) := hid_at (kp _ _ n1 (same_new nq _ _ e1)) n1
    have kk := fun v t a b => k v t H2 ((Same.kept (s1.trans (same_new nq))).trans kp) hh2 a b
    have : r = 0 ∨ r = 1 ∨ r = 2 ∨ r = 3 ∨ r = 4 ∨ r = 5 := by omega
    rcases this with rfl | rfl | rfl | rfl | rfl | rfl
    · exact hx.ix (i := 0) rfl (kk _ (.d .none) .non (okE_mk rfl (by decide)))
    · exact hx.ix (i := 1) rfl (kk _ (.d (.int 3)) (.int _) (okE_int _))
    · exact hx.ix (i := 2) rfl (kk _ (.d (.str "ab")) (.str _) (okE_mk (by decide +kernel) (by decide)))
    · exact hx.ix (i := 3) rfl (kk _ (.d (.bool true)) (.bl _) (okE_mk rfl (by decide)))
    · refine hx.ix (i := 4) rfl (kk _ .dic ⟨p1, _, rfl, ed, by simp, fun x hx => ?_⟩ trivial)
      rw [List.mem_singleton.mp hx]
      rfl
    · exact hx.ix (i := 5) rfl (kk _ (.d (.int (-1))) (.int _) (okE_int _))
theorem ok_law_drawn (T : Tx K mg) : FnOk P w K mg base CX0 3 T.law_drawn_sizes.f T.law_drawn_sizes.fd ["_law_hand_here"] spDrawn := by
  have Glaw_take : FnOk P w K mg base CX0 2 T.law_take.f T.law_take.fd ["_law_hand_here", "_law_many_here"] spTake := ok_take T.toTxA
  have Glaw_many : FnOk P w K mg base CX0 1 T.law_many.f T.law_many.fd ["_law_sizes"] (spCount K) := ok_law_many T
  refine T.law_drawn_sizes.F.ok sc_law_drawn_sizes (fun vs H Q E h => ?_) (fun cdv A outer s H vs Q E hr h => ?_)
  · obtain ⟨_, _, rfl, _⟩ := h
    rfl
  · obtain ⟨h, c, rfl, hh, k⟩ := h
    refine ⟨_, (pss_cons (ps_set (i := 1) sc_law_drawn_sizes.nd rfl (Or.inl rfl) (pe_lst pa_nil))
  (pss_cons (ps_for PassesOwn.never rfl (pi_range1 rfl T.range (pa_cons (pe_call Glaw_take (hr.mono (by decide)) rfl T.law_take.g T.law_take.F.kp T.law_take.b .nil pass0 (pa_cons (pv 0) (pa_cons pe_int pa_nil))) pa_nil)) (pg_name (i := 2) sc_law_drawn_sizes.nd rfl (Or.inl rfl))
  (pss_cons (ps_set (i := 3) sc_law_drawn_sizes.nd rfl (Or.inl rfl) (pe_op op_add pe_int (pe_call Glaw_take (hr.mono (by decide)) rfl T.law_take.g T.law_take.F.kp T.law_take.b .nil pass0 (pa_cons (pv 0) (pa_cons (pe_ifExp (pt_cmpR op_eq (pe_call Glaw_take (hr.mono (by decide)) rfl T.law_take.g T.law_take.F.kp T.law_take.b .nil pass0 (pa_cons (pv 0) (pa_cons pe_int pa_nil))) pe_int (nomark _)) pe_int pe_int) pa_nil)))))
  (pss_one (ps_if (pt_cmpR op_le (pe_op op_mulW (pe_call Glaw_many (hr.mono (by decide)) rfl T.law_many.g T.law_many.F.kp T.law_many.b .nil pass0 (pa_cons (pv 1) pa_nil)) (pv 3)) pe_int (nomark _)) (pss_one (ps_expr (pe_bm PySem.F.plainAttrs_list PySem.F.slot_list_append PySem.F.type_list_append mt_append (pv 1) (pa_cons (pv 3) pa_nil)))) pss_nil))))
  (pss_one (ps_ret (pv 1))))), ?_⟩
    refine ⟨(by show 0 ≤ sizeLine; decide), fun D nD => ?_⟩
    have n1 := hh.ne nD
    have n2 := hh.cne nD
    refine ⟨_, rfl, h, c, 7, rfl, by decide, tk9 (by decide) (by decide), hh.same (same_new nD), fun m H1 m0 m1 kp hh1 => ⟨m, rfl, by omega, by omega, ?_⟩⟩
    refine for_range (n := m.toNat) (fun i σ H2 => Kept h H H2 ∧ Hand H2 h c ∧ ∃ (ss : List Nat) (v2 v3 : Option V), σ = [some (.ref h), some (.ref D), v2, v3] ∧ H2 D = some (.lst (ss.map nI)) ∧ (∀ s ∈ ss, 0 < s) ∧ prod ss ≤ 500 ∧ ss.length ≤ i)
      ⟨(kept_new nD).trans kp, hh1, [], none, none, rfl, kp _ _ n1 upd_same, by simp, by decide, Nat.le_refl _⟩ ?_ ?_
    · rintro i σ H2 hi ⟨k2, hh2, ss, v2, v3, rfl, e2, hp, hb, hl⟩
      refine ⟨_, rfl, ?_⟩
      refine ⟨_, rfl, h, c, 4, rfl, by decide, tk9 (by decide) (by decide), hh2, fun x H3 x0 x1 k3 hh3 => ⟨rfl, _, rfl, ?_⟩⟩
      refine ite2 (fun _ => ⟨h, c, 40, rfl, by decide, tk9 (by decide) (by decide), hh3, fun y H4 y0 y1 k4 hh4 => ?_⟩) (fun _ => ⟨h, c, 4, rfl, by decide, tk9 (by decide) (by decide), hh3, fun y H4 y0 y1 k4 hh4 => ?_⟩)
      all_goals
        have y9 : y < 40 := by omega
        clear y1
        obtain ⟨z, rfl⟩ : ∃ z : Nat, y = (z : Int) := ⟨y.toNat, (Int.toNat_of_nonneg y0).symm⟩
        have e4 : H4 D = some (.lst (ss.map nI)) := k4 _ _ n1 (k3 _ _ n1 e2)
        have k5 : Kept h H H4 := (k2.trans k3).trans k4
        have ez : (1 : Int) + (z : Int) = ((z + 1 : Nat) : Int) := by omega
        refine ⟨_, _, rfl, rfl, ?_⟩
        refine ⟨_, rfl, D, false, ss, rfl, SqM.ofL (SqL.of e4), hp, by omega, _, rfl, _, _, rfl, rfl, by rw [ez]; exact mul_sm (by omega) (by omega), _, _, rfl, rfl, _, rfl, ?_⟩
        refine ite2 (fun e => ?_) (fun e => ?_)
        · have e := of_decide_eq_true e
          rw [ez, ← Int.natCast_mul] at e
          have e5 : prod (ss ++ [z + 1]) ≤ 500 := by rw [prod_snoc]; omega
          refine ⟨_, rfl, .inl ⟨rfl, _, SqL.of e4⟩, _, rfl, D, _, _, rfl, rfl, e4, small1000 (by rw [List.length_map]; omega), ?_⟩
          refine ⟨fun b o q r => ?_, hh4.put n1 n2, ss ++ [z + 1], _, some (.int (1 + (z : Int))), rfl, ?_, ?_, e5, by rw [List.length_append]; exact Nat.succ_le_succ hl⟩
          · rw [upd_ne (ne_of_none r nD)]
            exact k5 b o q r
          · rw [upd_same]
            show some (HO.lst (ss.map nI ++ [V.int (1 + (z : Int))])) = _
            rw [ez, List.map_append]
            rfl
          · intro s hs
            rcases List.mem_append.mp hs with a | a
            · exact hp s a
            · rw [List.mem_singleton.mp a]
              omega
        · exact ⟨k5, hh4, ss, _, some (.int (1 + (z : Int))), rfl, e4, hp, hb, by omega⟩
    · rintro σ H2 ⟨k2, hh2, ss, v2, v3, rfl, e2, hp, hb, hl⟩
      exact ⟨_, rfl, k D ss H2 k2 hh2 n1 e2 hp hb (by omega)⟩
theorem ok_law_spoilt (T : Tx K mg) : FnOk P w K mg base CX0 4 T.law_spoilt_row.f T.law_spoilt_row.fd ["_law_hand_here", "_law_sizes", "_law_row"] (spSpoilt K) := by
  have Glaw_take : FnOk P w K mg base CX0 2 T.law_take.f T.law_take.fd ["_law_hand_here", "_law_many_here"] spTake := ok_take T.toTxA
  have Glaw_rid : FnOk P w K mg base CX0 3 T.law_rid.f T.law_rid.fd ["_law_hand_here"] (spRid K) := ok_law_rid T
  have Glaw_odd : FnOk P w K mg base CX0 3 T.law_odd.f T.law_odd.fd ["_law_hand_here", "_law_bound"] (spOdd K) := ok_law_odd T
  have Glaw_lists : FnOk P w K mg base CX0 3 T.law_lists.f T.law_lists.fd ["_law_hand_here", "_law_thing"] (spLists K) := ok_law_lists T
  refine T.law_spoilt_row.F.ok sc_law_spoilt_row (fun vs H Q E h => ?_) (fun cdv A outer s H vs Q E hr h => ?_)
  · obtain ⟨_, _, _, _, _, _, rfl, _⟩ := h
    rfl
  · obtain ⟨h, c, a, p, ss, ws, rfl, hh, hS, hW, wl, sl, k⟩ := h
    refine ⟨_, (pss_cons (ps_set (i := 3) sc_law_spoilt_row.nd rfl (Or.inl rfl) (pe_callTy call_list_of (by rfl) T.list (by decide +kernel) (pa_cons (pv 2) pa_nil)))
  (pss_cons (ps_set (i := 4) sc_law_spoilt_row.nd rfl (Or.inl rfl) (pe_call Glaw_take (hr.mono (by decide)) rfl T.law_take.g T.law_take.F.kp T.law_take.b .nil pass0 (pa_cons (pv 0) (pa_cons pe_int pa_nil))))
  (pss_cons (ps_if (pt_cmpR op_eq (pv 4) pe_int (nomark _)) (pss_one (ps_ret (pe_call Glaw_rid (hr.mono (by decide)) rfl T.law_rid.g T.law_rid.F.kp T.law_rid.b .nil pass0 (pa_cons (pv 0) pa_nil)))) pss_nil)
  (cut (ps_if (PW.pt (pw_and (pt_cmpR op_eq (pv 4) pe_int (nomark _)) (pw_and1 (pt_truth (pv 3) (by intro _; rfl))))) (pss_cons (ps_set (i := 5) sc_law_spoilt_row.nd rfl (Or.inl rfl) (pe_call Glaw_take (hr.mono (by decide)) rfl T.law_take.g T.law_take.F.kp T.law_take.b .nil pass0 (pa_cons (pv 0) (pa_cons (pe_callB call_len_seq (by rfl) T.len PySem.boot_len (pa_cons (pv 3) pa_nil)) pa_nil))))
  (pss_one (ps_asg (pe_call Glaw_odd (hr.mono (by decide)) rfl T.law_odd.g T.law_odd.F.kp T.law_odd.b .nil pass0 (pa_cons (pv 0) (pa_cons (pe_ix ix_list (pv 1) (pv 5) (fun _ _ => rfl)) pa_nil))) (pg_sub (pv 3) (pv 5) set_list)))) pss_nil)
  (cut (ps_if (PW.pt (pw_and (pt_cmpR op_eq (pv 4) pe_int (nomark _)) (pw_and1 (pt_truth (pv 3) (by intro _; rfl))))) (pss_one (ps_expr (pe_bm0 PySem.F.plainAttrs_list PySem.F.slot_list_pop PySem.F.type_list_pop mt_pop (pv 3)))) pss_nil)
  (cut (ps_if (pt_cmpR op_eq (pv 4) pe_int (nomark _)) (pss_one (ps_expr (pe_bm PySem.F.plainAttrs_list PySem.F.slot_list_append PySem.F.type_list_append mt_append (pv 3) (pa_cons pe_int pa_nil)))) pss_nil)
  (pss_one (ps_ret (pe_call Glaw_lists (hr.mono (by decide)) rfl T.law_lists.g T.law_lists.F.kp T.law_lists.b .nil pass0 (pa_cons (pv 0) (pa_cons (pv 3) pa_nil))))))))))), ?_⟩
    refine ⟨_, rfl, p, _, rfl, (hW.same hid_sub).len, fun D nD => ?_⟩
    have n1 := hh.ne nD
    have n2 := hh.cne nD
    refine ⟨_, rfl, h, c, 5, rfl, by decide, tk9 (by decide) (by decide), hh.same (same_new nD), fun r H1 r0 r1 kp hh1 => ?_⟩
    have k1 : Kept h H H1 := (kept_new nD).trans kp
    have e1 : H1 D = some (.lst (ws.map nI)) := kp _ _ n1 upd_same
    refine ⟨_, rfl, rfl, _, rfl, ?_⟩
    refine ite2 (fun e => ?_) (fun e => ?_)
    · exact ⟨_, rfl, h, c, rfl, hh1, fun v t H2 k2 hh2 hd ht => k v t H2 (k1.trans k2) hh2 hd ht⟩
    -- what stands behind each deed
    have m0 : ∀ v5, SpMid K h c a p D r 6 H [some (.ref h), some (.ref a), some (.ref p), some (.ref D), some (.int r), v5] H1 := fun v5 =>
      ⟨_, _, v5, rfl, k1, hh1, e1, dpall_ints ws, okE_ints ws, by rw [List.length_map]; omega⟩
    refine ⟨SpMid K h c a p D r 6 H, ?_, ?_⟩
    · refine ⟨_, rfl, rfl, _, rfl, ?_⟩
      refine ite2 (fun _ => ?_) (fun _ => m0 _)
      refine ⟨_, rfl, _, .inl ⟨_, SqL.of e1, rfl⟩, ?_⟩
      refine ite2 (fun e => ?_) (fun _ => m0 _)
      have wp : 0 < ws.length := by
        cases ws with
        | nil => cases e
        | cons _ _ => exact Nat.succ_pos _
      refine ⟨_, rfl, _, rfl, D, _, rfl, .inl (SqL.of e1), h, c, _, rfl, by rw [List.length_map]; omega, tk9 (by rw [List.length_map]; omega) (by rw [List.length_map]; omega), hh1, fun x H2 x0 x1 k2 hh2 => ?_⟩
      rw [List.length_map] at x1
      have xl : x.toNat < ss.length := by omega
      have hs : ss[x.toNat]? = some ss[x.toNat] := List.getElem?_eq_getElem xl
      have hS2 : SqL K H2 a (ss.map nI) := (hS.same (kept_hid (k1.trans k2))).same hid_sub
      refine ⟨_, rfl, _, rfl, _, rfl, a, _, x, nI ss[x.toNat], rfl, rfl, hS2, atI_of x0 (by rw [List.getElem?_map, hs]; rfl), h, c, _, rfl, hh2, fun v d H3 k3 hh3 hd okd => ?_⟩
      have e2 : H2 D = some (.lst (ws.map nI)) := k2 _ _ n1 e1
      have e3 : H3 D = some (.lst (ws.map nI)) := k3 _ _ n1 e2
      refine ⟨_, rfl, _, rfl, D, _, x, x.toNat, rfl, rfl, e3, ?_, ?_⟩
      · have : x = ((x.toNat : Nat) : Int) := (Int.toNat_of_nonneg x0).symm
        rw [this]
        exact ixn (by rw [List.length_map]; omega)
      refine ⟨(ws.map nI).set x.toNat v, (ws.map fun n : Nat => PyData.int (n : Int)).set x.toNat d, _, rfl, ?_, hh3.put n1 n2, upd_same, DpAll.same hid_upd (dpall_set (hd D (by rw [e2]; simp)) _ (dpall_ints ws)), ?_, by rw [List.length_set, List.length_map]; omega⟩
      · intro b o q z
        rw [upd_ne (ne_of_none z nD)]
        exact k3 b o q (k2 b o q (k1 b o q z))
      · intro y hy
        rcases List.mem_or_eq_of_mem_set hy with q | q
        · exact okE_ints ws y q
        · rw [q]; exact okd
    rintro σ H2 ⟨xs, ds, v5, rfl, k2, hh2, e2, hd, ok, xl⟩
    have m1 : SpMid K h c a p D r 6 H [some (.ref h), some (.ref a), some (.ref p), some (.ref D), some (.int r), v5] H2 := ⟨xs, ds, v5, rfl, k2, hh2, e2, hd, ok, xl⟩
    refine ⟨SpMid K h c a p D r 6 H, ?_, ?_⟩
    · refine ⟨_, rfl, rfl, _, rfl, ?_⟩
      refine ite2 (fun _ => ?_) (fun _ => m1)
      refine ⟨_, rfl, _, .inl ⟨_, SqL.of e2, rfl⟩, ?_⟩
      refine ite2 (fun e => ?_) (fun _ => m1)
      have wp : xs.length - 1 < xs.length := by
        cases xs with
        | nil => cases e
        | cons _ _ => exact Nat.lt_succ_self _
      refine ⟨_, rfl, .inl ⟨rfl, _, SqL.of e2⟩, D, xs, _, rfl, rfl, e2, List.getElem?_eq_getElem wp, ?_⟩
      refine ⟨xs.dropLast, ds.dropLast, v5, rfl, ?_, hh2.put n1 n2, upd_same, DpAll.same hid_upd (dpall_init hd), fun d q => ok d (List.dropLast_subset _ q), by rw [List.length_dropLast]; omega⟩
      intro b o q z
      rw [upd_ne (ne_of_none z nD)]
      exact k2 b o q z
    clear m1 e2 hd ok xl hh2 k2
    rintro σ H2 ⟨xs, ds, v5, rfl, k2, hh2, e2, hd, ok, xl⟩
    refine ⟨SpMid K h c a p D r 7 H, ?_, ?_⟩
    · refine ⟨_, rfl, rfl, _, rfl, ?_⟩
      refine ite2 (fun _ => ?_) (fun _ => ⟨xs, ds, v5, rfl, k2, hh2, e2, hd, ok, by omega⟩)
      refine ⟨_, rfl, .inl ⟨rfl, _, SqL.of e2⟩, D, _, _, rfl, rfl, e2, small1000 (by omega), ?_⟩
      refine ⟨xs ++ [.int 0], ds ++ [.int 0], v5, rfl, ?_, hh2.put n1 n2, upd_same, DpAll.same hid_upd (dpall_app hd (.cons (.int _) .nil)), fun d q => ?_, by rw [List.length_append]; exact Nat.succ_le_succ xl⟩
      · intro b o q z
        rw [upd_ne (ne_of_none z nD)]
        exact k2 b o q z
      · rcases List.mem_append.mp q with q | q
        · exact ok d q
        · rw [List.mem_singleton.mp q]; exact okE_int _
    rintro σ H3 ⟨xs, ds, v5, rfl, k3, hh3, e3, hd, ok, xl⟩
    refine ⟨_, rfl, _, rfl, h, c, D, false, xs, rfl, hh3, SqM.ofL (SqL.of (hid_at e3 n1)), fun q t H4 k4 hh4 hq => ?_⟩
    have ha : DpAll K (hid h H4) xs ds := DpAll.same (kept_hid k4) (DpAll.same hid_sub hd)
    cases t with
    | true => exact k (.ref q) (.d (.tuple ds)) H4 (k3.trans k4) hh4 (.tup hq ha) ok
    | false => exact k (.ref q) (.d (.list ds)) H4 (k3.trans k4) hh4 (.lst hq ha) ok
end
end K02
set_option Elab.async false
set_option linter.all false
set_option maxRecDepth 100000
set_option maxHeartbeats 4000000
set_option exponentiation.threshold 20000
namespace K02
open PySem L2 Y00 K02M
/-- one thing at two places -/
def rEqL (K : PySem.W.Frag) : R2 := fun x y H Q => ∃ t, x = y ∧ DpX K H x t ∧ okT t ∧ isQ t = false ∧ Q (.bl true) H
theorem op_eqL {X : Cx} (hu : X.A.units + 64 < cLine) : OpR X (compareOp .Eq) (rEqL X.K) := by
  intro pins s σ H x y v u Q I rx ry h
  obtain ⟨t, rfl, hd, ok, nq, q⟩ := h
  cases t with
  | dic =>
    obtain ⟨a, kvs, rfl, e, nd, fl⟩ := hd
    exact op_eq_dict (by omega) pins s σ H _ _ v u Q I rx ry ⟨a, a, kvs, rfl, rfl, e, e, nd, fl, q⟩
  | d d =>
    have sh : SeqAt.shaped d = true := by
      cases d with
      | list ds => cases nq
      | tuple ds => cases nq
      | _ => exact sh_okE ok
    exact op_eqD hu pins s σ H _ _ v u Q I rx ry ⟨d, d, hd, hd, sh, sh, by rw [ev_self sh]; exact q⟩
def spLike (K : PySem.W.Frag) : Sp := fun vs H Q _ => ∃ (v : V) (t : Td), vs = [v, v] ∧ DpX K H v t ∧ okT t ∧ ∀ H', Same H H' → Q (.bl true) H'
def spItem (R : V → Hp → Prop) : Sp := fun vs H Q _ => ∃ v, vs = [v] ∧ R v H ∧ ∀ H', Same H H' → Q (.bl true) H'
def TupR (R : V → Hp → Prop) : V → Hp → Prop := fun v H => ∃ (p : Addr) (xs : List V), v = .ref p ∧ H p = some (.tup xs) ∧ ∀ x ∈ xs, R x H
section
variable {P : Program} {w : World} {K : PySem.W.Frag} {mg : Str → Option Value} {base : Heap}
theorem tup_none (T : Tx K mg) : FnOk P w K mg base CX0 0 T.law_tuples.f T.law_tuples.fd ["_law_thing"] (fun _ _ _ _ => False) := ⟨fun _ _ _ _ h => h.elim, fun _ _ _ _ _ _ _ _ _ _ _ _ _ h => h.elim⟩
theorem tup_int (T : Tx K mg) : FnOk P w K mg base CX0 1 T.law_tuples.f T.law_tuples.fd ["_law_thing"] (spItem fun v _ => ∃ i, v = .int i) := by
  have Glaw_tuples : FnOk P w K mg base CX0 0 T.law_tuples.f T.law_tuples.fd ["_law_thing"] (fun _ _ _ _ => False) := tup_none T
  refine T.law_tuples.F.ok sc_law_tuples (fun vs H Q E h => ?_) (fun cdv A outer s H vs Q E hr h => ?_)
  · obtain ⟨_, rfl, _⟩ := h
    rfl
  · obtain ⟨v, rfl, ⟨i, rfl⟩, k⟩ := h
    refine ⟨_, (pss_cons (ps_if (pt_val (pe_callB call_isi (by rfl) T.isinstance (by decide +kernel) (pa_cons (pv 0) (pa_cons (pe_bltn (v := .ty "tuple") (by rfl) T.tuple (by decide +kernel) rfl) pa_nil)))) (pss_one (ps_ret (pe_notT (pe_lc (own := [("_law_item", 1)]) (g := gName 1) rfl sc_law_tuples.nd (pi_tup (pv 0)) (blkOk_by (N := ["_law_thing", "_law_item"]) (sc := defScope s_law_tuples) (by decide +kernel)) (fun _ _ _ _ _ => pg_name (i := 1) sc_law_tuples.nd rfl (Or.inl rfl)) (fun _ _ _ _ _ => pts_one (pt_not (pt_val (pe_call Glaw_tuples (hr.mono (by decide)) rfl T.law_tuples.g T.law_tuples.F.kp T.law_tuples.b .nil pass0 (pa_cons (pv 1) pa_nil))))) (fun _ _ _ _ _ => pe_int))))) pss_nil)
  (pss_one (ps_ret (pe_or (pe_cmp (pc_isN (pv 0)) rfl) (pe_or (pe_callB call_isi (by rfl) T.isinstance (by decide +kernel) (pa_cons (pv 0) (pa_cons (pe_bltn (v := .ty "str") (by rfl) T.str (by decide +kernel) rfl) pa_nil))) (pe_one (pe_and (pe_callB call_isi (by rfl) T.isinstance (by decide +kernel) (pa_cons (pv 0) (pa_cons (pe_bltn (v := .ty "int") (by rfl) T.int (by decide +kernel) rfl) pa_nil))) (pe_one (pe_not (pe_callB call_isi (by rfl) T.isinstance (by decide +kernel) (pa_cons (pv 0) (pa_cons (pe_bltn (v := .ty "bool") (by rfl) T.bool (by decide +kernel) rfl) pa_nil)))))))))))), ?_⟩
    have ty : TyX K H (.int i) (.type "int") := .base (.int i)
    refine ⟨_, rfl, _, _, _, _, false, rfl, .ty _, ty, kit_ty (show kitB "int" "tuple" = some false by decide +kernel), _, rfl, ?_⟩
    refine iteF ?_
    refine ⟨_, rfl, _, rfl, iteF ?_⟩
    refine ⟨_, rfl, _, _, _, _, false, rfl, .ty _, ty, kit_ty (show kitB "int" "str" = some false by decide +kernel), _, rfl, iteF ?_⟩
    refine ⟨_, rfl, _, _, _, _, true, rfl, .ty _, ty, kit_ty (show kitB "int" "int" = some true by decide +kernel), _, rfl, iteT ?_⟩
    exact ⟨_, rfl, _, _, _, _, false, rfl, .ty _, ty, kit_ty (show kitB "int" "bool" = some false by decide +kernel), _, rfl, k _ fun _ _ e => e⟩
theorem tup_step (T : Tx K mg) {n : Nat} {R : V → Hp → Prop} (hR : ∀ v H H', Same H H' → R v H → R v H') (Glaw_tuples : FnOk P w K mg base CX0 n T.law_tuples.f T.law_tuples.fd ["_law_thing"] (spItem R)) :
    FnOk P w K mg base CX0 (n + 1) T.law_tuples.f T.law_tuples.fd ["_law_thing"] (spItem (TupR R)) := by
  refine T.law_tuples.F.ok sc_law_tuples (fun vs H Q E h => ?_) (fun cdv A outer s H vs Q E hr h => ?_)
  · obtain ⟨_, rfl, _⟩ := h
    rfl
  · obtain ⟨v, rfl, ⟨p, xs, rfl, hT, hx⟩, k⟩ := h
    have ty : TyX K H (.ref p) (.type "tuple") := .base (.tup hT)
    have kt : kitB "tuple" "tuple" = some true := by decide +kernel
    have hT : SqT K H p xs := SqT.of hT
    refine ⟨_, (pss_cons (ps_if (pt_val (pe_callB call_isi (by rfl) T.isinstance (by decide +kernel) (pa_cons (pv 0) (pa_cons (pe_bltn (v := .ty "tuple") (by rfl) T.tuple (by decide +kernel) rfl) pa_nil)))) (pss_one (ps_ret (pe_notT (pe_lc (own := [("_law_item", 1)]) (g := gName 1) rfl sc_law_tuples.nd (pi_tup (pv 0)) (blkOk_by (N := ["_law_thing", "_law_item"]) (sc := defScope s_law_tuples) (by decide +kernel)) (fun _ _ _ _ _ => pg_name (i := 1) sc_law_tuples.nd rfl (Or.inl rfl)) (fun _ _ _ _ _ => pts_one (pt_not (pt_val (pe_call Glaw_tuples hr rfl T.law_tuples.g T.law_tuples.F.kp T.law_tuples.b .nil pass0 (pa_cons (pv 1) pa_nil))))) (fun _ _ _ _ _ => pe_int))))) pss_nil)
  (pss_one (ps_ret (pe_or (pe_cmp (pc_isN (pv 0)) rfl) (pe_or (pe_callB call_isi (by rfl) T.isinstance (by decide +kernel) (pa_cons (pv 0) (pa_cons (pe_bltn (v := .ty "str") (by rfl) T.str (by decide +kernel) rfl) pa_nil))) (pe_one (pe_and (pe_callB call_isi (by rfl) T.isinstance (by decide +kernel) (pa_cons (pv 0) (pa_cons (pe_bltn (v := .ty "int") (by rfl) T.int (by decide +kernel) rfl) pa_nil))) (pe_one (pe_not (pe_callB call_isi (by rfl) T.isinstance (by decide +kernel) (pa_cons (pv 0) (pa_cons (pe_bltn (v := .ty "bool") (by rfl) T.bool (by decide +kernel) rfl) pa_nil)))))))))))), ?_⟩
    refine ⟨_, rfl, _, _, _, _, true, rfl, .ty _, ty, kit_ty kt, _, rfl, ?_⟩
    refine iteT ?_
    refine ⟨_, rfl, p, rfl, ⟨_, hT⟩, fun D nD => ?_⟩
    refine lc_tup (K := K) (a := p) (xs := xs) (vs := [1]) (fun i H2 => Same H H2 ∧ H2 D = some (.lst [])) ⟨same_new nD, upd_same⟩ (fun i H2 _ q => seqT_same q.1 hT) ?_ ?_
    · rintro i x H2 hi ⟨s2, e2⟩
      refine ⟨rfl, ⟨_, rfl, x, rfl, hR x H H2 s2 (hx x (List.mem_of_getElem? hi)), fun H3 s3 => ⟨_, rfl, iteF ⟨s2.trans s3, s3 _ _ e2⟩⟩⟩⟩
    · rintro H2 ⟨s2, e2⟩
      exact ⟨_, .inl ⟨[], SqL.of e2, rfl⟩, k _ s2⟩
theorem TupR.same {R : V → Hp → Prop} (hR : ∀ v H H', Same H H' → R v H → R v H') : ∀ v H H', Same H H' → TupR R v H → TupR R v H' := fun v H H' s ⟨p, xs, e, h, r⟩ => ⟨p, xs, e, s _ _ h, fun x hx => hR x H H' s (r x hx)⟩
theorem ok_law_like (T : Tx K mg) : FnOk P w K mg base CX0 1 T.law_like.f T.law_like.fd ["_law_told", "_law_thing"] (spLike K) := by
  refine T.law_like.F.ok sc_law_like (fun vs H Q E h => ?_) (fun cdv A outer s H vs Q E hr h => ?_)
  · obtain ⟨_, _, rfl, _⟩ := h
    rfl
  · obtain ⟨v, t, rfl, hd, ok, k⟩ := h
    refine ⟨_, (pss_cons (ps_if (pt_val (pe_callB call_isiT (by rfl) T.isinstance (by decide +kernel) (pa_cons (pv 1) (pa_cons (pe_tup (pa_cons (pe_bltn (v := .ty "list") (by rfl) T.list (by decide +kernel) rfl) (pa_cons (pe_bltn (v := .ty "tuple") (by rfl) T.tuple (by decide +kernel) rfl) pa_nil))) pa_nil)))) (pss_one (ps_ret (pe_and (pe_callB call_isiT (by rfl) T.isinstance (by decide +kernel) (pa_cons (pv 0) (pa_cons (pe_tup (pa_cons (pe_bltn (v := .ty "list") (by rfl) T.list (by decide +kernel) rfl) (pa_cons (pe_bltn (v := .ty "tuple") (by rfl) T.tuple (by decide +kernel) rfl) pa_nil))) pa_nil))) (pe_one (pe_cmpR (op_eqD hr.units) (pe_callTy call_list_of (by rfl) T.list (by decide +kernel) (pa_cons (pv 0) pa_nil)) (pe_callTy call_list_of (by rfl) T.list (by decide +kernel) (pa_cons (pv 1) pa_nil)) (nomark _)))))) pss_nil)
  (pss_one (ps_ret (pe_and (pe_cmpR (op_eqL hr.units) (pv 0) (pv 1) (nomark _)) (pe_one (pe_cmpR op_eq (pe_callB call_isi (by rfl) T.isinstance (by decide +kernel) (pa_cons (pv 0) (pa_cons (pe_bltn (v := .ty "bool") (by rfl) T.bool (by decide +kernel) rfl) pa_nil))) (pe_callB call_isi (by rfl) T.isinstance (by decide +kernel) (pa_cons (pv 1) (pa_cons (pe_bltn (v := .ty "bool") (by rfl) T.bool (by decide +kernel) rfl) pa_nil))) (nomark _))))))), ?_⟩
    refine ⟨_, rfl, z2, fun p fp => ?_⟩
    have s1 : Same H (upd H p (.tup [.ty "list", .ty "tuple"])) := same_new fp
    obtain ⟨n, ty, kk⟩ := any_lt (hd.same s1)
    refine ⟨_, p, _, _, _, _, rfl, upd_same, .cons (.ty _) (.cons (.ty _) .nil), ty, kk, _, rfl, ?_⟩
    have hd1 := hd.same s1
    generalize upd H p (.tup [.ty "list", .ty "tuple"]) = H1 at *
    cases e : isQ t with
    | true =>
      obtain ⟨b, a, xs, ds, rfl, hS, ha, et⟩ := q_of hd1 e
      have okd : ∀ d ∈ ds, okE d := by
        rw [et] at ok
        cases b <;> exact ok
      refine iteT ?_
      refine ⟨_, rfl, z2, fun p2 fp2 => ?_⟩
      have s2 : Same H1 (upd H1 p2 (.tup [.ty "list", .ty "tuple"])) := same_new fp2
      obtain ⟨n2, ty2, kk2⟩ := any_lt (hd1.same s2)
      refine ⟨_, p2, _, _, _, _, rfl, upd_same, .cons (.ty _) (.cons (.ty _) .nil), ty2, kk2, _, rfl, ?_⟩
      rw [e]
      refine iteT ?_
      generalize upd H1 p2 (.tup [.ty "list", .ty "tuple"]) = H2 at *
      refine ⟨_, rfl, a, xs, rfl, (hS.same s2).len, fun l1 n1 => ?_⟩
      refine ⟨_, rfl, a, xs, rfl, ((hS.same s2).same (same_new n1)).len, fun l2 n2 => ?_⟩
      have s3 : Same H2 (upd (upd H2 l1 (.lst xs)) l2 (.lst xs)) := (same_new n1).trans (same_new n2)
      have d1 : Dp K (upd (upd H2 l1 (.lst xs)) l2 (.lst xs)) (.ref l1) (.list ds) := .lst (SqL.of (same_new n2 _ _ upd_same)) (DpAll.same (s2.trans s3) ha)
      have d2 : Dp K (upd (upd H2 l1 (.lst xs)) l2 (.lst xs)) (.ref l2) (.list ds) := .lst (SqL.of upd_same) (DpAll.same (s2.trans s3) ha)
      refine ⟨_, _, d1, d2, sh_list okd, sh_list okd, ?_⟩
      rw [ev_self (sh_list okd)]
      exact k _ (s1.trans (s2.trans s3))
    | false =>
      refine iteF ?_
      obtain ⟨n2, ty2, k1, k2, _⟩ := ty_of hd1
      refine ⟨_, rfl, _, rfl, t, rfl, hd1, ok, e, _, rfl, iteT ?_⟩
      refine ⟨_, rfl, _, _, _, _, _, rfl, .ty _, ty2, kit_ty k2, _, rfl, _, _, _, _, _, rfl, .ty _, ty2, kit_ty k2, rfl, ?_⟩
      show Q (.bl (decide (V.bl (isB t) = V.bl (isB t)))) _
      rw [decide_eq_true rfl]
      exact k _ s1
def spLBy (K : PySem.W.Frag) : Sp := fun vs H Q _ => ∃ (a : Addr) (b : Bool) (ss : List Nat) (v : V) (t : PyData), vs = [.ref a, v] ∧ SqM K b H a (ss.map nI) ∧ (∀ s ∈ ss, 0 < s) ∧ prod ss < 1000000 ∧ ss.length ≤ 1000 ∧ Dp K H v t ∧
  (isW t (some 0) (some ((prod ss : Int) - 1)) = false → ∀ p H', Same H H' → H' p = some (.lst [v]) → Q (.ref p) H') ∧
  (∀ n : Nat, t = .int (n : Int) → n < prod ss → ∀ p H', Same H H' → H' p = some (.tup ((fill ss n).map nI)) → Q (.ref p) H')
def spLIts (K : PySem.W.Frag) : Sp := fun vs H Q _ => ∃ (a : Addr) (b : Bool) (ss : List Nat) (v : V) (t : Td), vs = [.ref a, v] ∧ SqM K b H a (ss.map nI) ∧ (∀ s ∈ ss, 0 < s) ∧ prod ss < 1000000 ∧ DpX K H v t ∧
  (fillB ss t = false → ∀ p H', Same H H' → H' p = some (.lst [v]) → Q (.ref p) H') ∧
  (fillB ss t = true → ∀ ws H', Fit ss ws → itemsT t = ws.map (fun n : Nat => PyData.int (n : Int)) → Same H H' → Q (.int ((num ss ws : Nat) : Int)) H')
theorem ok_law_by_number (T : Tx K mg) : FnOk P w K mg base CX0 4 T.law_by_number.f T.law_by_number.fd ["_law_sizes", "_law_number_here"] (spLBy K) := by
  have Gby : FnOk P w K mg base (L2.CX P w) 3 T.filling_by_number.f T.filling_by_number.fd ["sizes", "number"] (spByNumber K T.C) := ok_filling_by_number T
  refine T.law_by_number.F.ok sc_law_by_number (fun vs H Q E h => ?_) (fun cdv A outer s H vs Q E hr h => ?_)
  · obtain ⟨_, _, _, _, _, rfl, _⟩ := h
    rfl
  · obtain ⟨a, b, ss, v, t, rfl, hS, hp, hb, hl, hd, kE, kQ⟩ := h
    refine ⟨_, (cut (ps_try_as (i := 3) (tb := fun W => tAsg (tCallS (spByNumber K T.C) (WE W) (tCons (tVar 0) (tCons (tVar 1) tNil))) (gName 2)) (ts := fun a cls d => tAsg (tLst (tCons (tByLow T.C a cls d (tVar 3)) tNil)) (gName 2)) (Wout := fun _ _ _ _ => False) rfl rfl sc_law_by_number.nd rfl rfl ⟨rfl, by decide, Or.inl T.low.gC⟩ takes0
          (fun W pn xe tk _ => pss_one (ps_set (i := 2) sc_law_by_number.nd rfl (Or.inl rfl) (by exact (pe_callS Gby (hr.mono (by decide)) rfl T.filling_by_number.g T.filling_by_number.F.kp T.filling_by_number.b (fun σ => passAt tk σ) (by exact (pa_cons (pv 0) (pa_cons (pv 1) pa_nil)))))))
          (fun a oe cls d pn hz hf => pss_one (ps_set (i := 2) sc_law_by_number.nd rfl (Or.inl rfl) (by exact (pe_lst (pa_cons (pe_byLow T.low hz hf (pv 3)) pa_nil))))))
      (pss_one (ps_ret (pv 2)))), ?_⟩
    refine ⟨fun σ' H' => ∃ (u : V) (x : Option V), σ' = [some (.ref a), some v, some u, x] ∧ Q u H', ?_, ?_⟩
    · refine ⟨_, rfl, _, rfl, a, b, ss, v, t, rfl, hS, hp, hb, hl, hd, fun e H1 d s1 hd1 => ?_, fun n e hn p H1 s1 e1 => ?_⟩
      · refine ⟨true, T.low.te, fun _ q hq => ?_, fun q => Bool.noConfusion q⟩
        refine ⟨_, rfl, rfl, rfl, d, _, rfl, upd_same, (by show 1 ≤ sizeLine; decide), fun l nl => ⟨_, _, rfl, ?_⟩⟩
        exact kE e l _ ((s1.trans (same_new hd1)).trans (same_new nl)) upd_same
      · exact ⟨_, _, rfl, kQ n e hn p H1 s1 e1⟩
    rintro σ' H' ⟨u, x, rfl, q⟩
    exact ⟨_, rfl, q⟩
theorem ok_law_its_number (T : Tx K mg) : FnOk P w K mg base CX0 4 T.law_its_number.f T.law_its_number.fd ["_law_sizes", "_law_filling_here"] (spLIts K) := by
  have Gits : FnOk P w K mg base (L2.CX P w) 3 T.filling_number.f T.filling_number.fd ["sizes", "filling"] (spNumber K T.C) := ok_filling_number T
  refine T.law_its_number.F.ok sc_law_its_number (fun vs H Q E h => ?_) (fun cdv A outer s H vs Q E hr h => ?_)
  · obtain ⟨_, _, _, _, _, rfl, _⟩ := h
    rfl
  · obtain ⟨a, b, ss, v, t, rfl, hS, hp, hb, hd, kE, kQ⟩ := h
    refine ⟨_, (cut (ps_try_as (i := 3) (tb := fun W => tAsg (tCallS (spNumber K T.C) (WE W) (tCons (tVar 0) (tCons (tVar 1) tNil))) (gName 2)) (ts := fun a cls d => tAsg (tLst (tCons (tByLow T.C a cls d (tVar 3)) tNil)) (gName 2)) (Wout := fun _ _ _ _ => False) rfl rfl sc_law_its_number.nd rfl rfl ⟨rfl, by decide, Or.inl T.low.gC⟩ takes0
          (fun W pn xe tk _ => pss_one (ps_set (i := 2) sc_law_its_number.nd rfl (Or.inl rfl) (by exact (pe_callS Gits (hr.mono (by decide)) rfl T.filling_number.g T.filling_number.F.kp T.filling_number.b (fun σ => passAt tk σ) (by exact (pa_cons (pv 0) (pa_cons (pv 1) pa_nil)))))))
          (fun a oe cls d pn hz hf => pss_one (ps_set (i := 2) sc_law_its_number.nd rfl (Or.inl rfl) (by exact (pe_lst (pa_cons (pe_byLow T.low hz hf (pv 3)) pa_nil))))))
      (pss_one (ps_ret (pv 2)))), ?_⟩
    refine ⟨fun σ' H' => ∃ (u : V) (x : Option V), σ' = [some (.ref a), some v, some u, x] ∧ Q u H', ?_, ?_⟩
    · refine ⟨_, rfl, _, rfl, a, b, ss, v, t, rfl, hS, hp, hb, hd, fun e H1 d s1 hd1 => ?_, fun e ws H1 hf ei s1 => ?_⟩
      · refine ⟨true, T.low.te, fun _ q hq => ?_, fun q => Bool.noConfusion q⟩
        refine ⟨_, rfl, rfl, rfl, d, _, rfl, upd_same, (by show 1 ≤ sizeLine; decide), fun l nl => ⟨_, _, rfl, ?_⟩⟩
        exact kE e l _ ((s1.trans (same_new hd1)).trans (same_new nl)) upd_same
      · exact ⟨_, _, rfl, kQ e ws H1 hf ei s1⟩
    rintro σ' H' ⟨u, x, rfl, q⟩
    exact ⟨_, rfl, q⟩
end
end K02
set_option Elab.async false
set_option linter.all false
set_option maxRecDepth 100000
set_option maxHeartbeats 16000000
set_option exponentiation.threshold 20000
namespace K02
open PySem L2 Y00 K02M
theorem passF {X : Cx} : Passes (L2.CX X.prog X.w) X fun _ _ _ => False := fun _ _ _ _ _ _ _ h => by
  obtain ⟨_, _, _, _, _, _, _, _, _, _, _, _, z⟩ := h
  exact z.elim
theorem noF {K : PySem.W.Frag} : NoStop K fun _ _ _ => False := fun _ _ _ h => h.elim
theorem z_len : ∀ k : Fin 9, ((List.replicate k.val ("z" : Str).cps).foldl (· ++ ·) #[]).size ≤ 8 := by decide +kernel
theorem op_mulZ {X : Cx} : OpR X (binaryOp .Mult) (fun x y H Q => ∃ n : Int, x = .str "z" ∧ y = .int n ∧ 0 ≤ n ∧ n ≤ 8 ∧ ∀ r : Str, r.length ≤ 8 → Q (.str r) H) := by
  intro pins s σ H x y v u Q I rx ry h
  obtain ⟨n, rfl, rfl, n0, n8, q⟩ := h
  obtain ⟨t, rfl⟩ := rx
  obtain ⟨t', rfl⟩ := ry
  have zl : (("z" : Str).length) = 1 := by decide +kernel
  have bd : n.toNat ≤ 8 := by omega
  have fl := z_len ⟨n.toNat, by omega⟩
  have this : n = 0 ∨ n = 1 ∨ n = 2 ∨ n = 3 ∨ n = 4 ∨ n = 5 ∨ n = 6 ∨ n = 7 ∨ n = 8 := by omega
  refine PySem.P.mul_str ?_ ?_ ?_ ?_
  · rw [decide_eq_false (by omega), decide_eq_false (by omega)]; rfl
  · rcases this with rfl | rfl | rfl | rfl | rfl | rfl | rfl | rfl | rfl <;> rw [zl] <;> decide
  · intro _ _
    rw [zl]
    rcases this with rfl | rfl | rfl | rfl | rfl | rfl | rfl | rfl | rfl <;> decide +kernel
  · split
    · exact ⟨by decide, ⟨.str Str.empty, H, I.tok _, ⟨_, rfl⟩, q _ (by decide)⟩⟩
    · split
      · exact ⟨.str "z", H, I, ⟨_, rfl⟩, q _ (by decide +kernel)⟩
      · exact ⟨Nat.le_trans fl (by rw [sizeLine_eq]; decide), ⟨.str _, H, I.tok _, ⟨_, rfl⟩, q _ fl⟩⟩
theorem dpall_of {K : PySem.W.Frag} {H : Hp} : ∀ {xs : List V} {ds : List PyData}, xs.length = ds.length → (∀ (i : Nat) (x : V) (d : PyData), xs[i]? = some x → ds[i]? = some d → Dp K H x d) → DpAll K H xs ds
  | [], [], _, _ => .nil
  | x :: xs, d :: ds, e, h => .cons (h 0 x d rfl rfl) (dpall_of (by simpa using e) fun i x d a b => h (i + 1) x d a b)
  | [], _ :: _, e, _ => by simp at e
  | _ :: _, [], e, _ => by simp at e
/-- all fillings as data -/
def fillD (ss : List Nat) : List PyData := (List.range (prod ss)).map fun i => PyData.tuple ((fill ss i).map fun n : Nat => PyData.int (n : Int))
theorem okE_fill (ss : List Nat) : ∀ d ∈ fillD ss, okE d := fun d hd => by
  obtain ⟨i, _, rfl⟩ := List.mem_map.mp hd
  obtain ⟨a, b⟩ := okE_all (okE_ints (fill ss i))
  have c : ∀ l : List Nat, PyData.depthAll (l.map fun n : Nat => PyData.int (n : Int)) = 0 := fun l => by
    induction l with
    | nil => rfl
    | cons x r ih => show max 0 (PyData.depthAll _) = 0; rw [ih]; rfl
  refine ⟨a, ?_⟩
  show PyData.depthAll _ + 1 ≤ 5
  rw [c]
  decide
theorem dp_fills {K : PySem.W.Frag} {H : Hp} {ss : List Nat} {out : List V} (l : out.length = prod ss) (h : ∀ (i : Nat) (v : V), out[i]? = some v → ∃ p, v = .ref p ∧ H p = some (.tup ((fill ss i).map nI))) : DpAll K H out (fillD ss) := by
  refine dpall_of (by unfold fillD; rw [List.length_map, List.length_range, l]) fun i x d e1 e2 => ?_
  obtain ⟨p, rfl, hp⟩ := h i x e1
  unfold fillD at e2
  rw [List.getElem?_map] at e2
  obtain ⟨j, hj, rfl⟩ := Option.map_eq_some_iff.mp e2
  have il : i < prod ss := by
    rcases Nat.lt_or_ge i (prod ss) with z | z
    · exact z
    · rw [List.getElem?_eq_none (by rw [List.length_range]; exact z)] at hj; cases hj
  rw [List.getElem?_range il] at hj
  cases hj
  exact .tup (SqT.of hp) (dpall_ints _)
structure Lw (H : Hp) (h c D F : Addr) (ss : List Nat) : Prop where
  hh : Hand H h c
  dn : hid h H D = some (.lst (ss.map nI))
  fl : Fills ss (hid h H) F
  hp : ∀ s ∈ ss, 0 < s
  hb : prod ss ≤ 500
  hl : ss.length ≤ 6
theorem Lw.kept {H H' : Hp} {h c D F : Addr} {ss : List Nat} (L : Lw H h c D F ss) (k : Kept h H H') (hh : Hand H' h c) : Lw H' h c D F ss := by
  obtain ⟨_, dn, ⟨out, e, l, f⟩, hp, hb, hl⟩ := L
  exact ⟨hh, kept_hid k _ _ dn, ⟨out, kept_hid k _ _ e, l, fun i v hv => by
    obtain ⟨p, q, z⟩ := f i v hv
    exact ⟨p, q, kept_hid k _ _ z⟩⟩, hp, hb, hl⟩
theorem Lw.same {H H' : Hp} {h c D F : Addr} {ss : List Nat} (L : Lw H h c D F ss) (s : Same H H') : Lw H' h c D F ss := L.kept (Same.kept s) (L.hh.same s)
theorem Lw.D {K : PySem.W.Frag} {H : Hp} {h c D F : Addr} {ss : List Nat} (L : Lw H h c D F ss) : SqL K H D (ss.map nI) := SqL.of (hid_sub _ _ L.dn)
/-- the filling at a place -/
theorem Lw.at {H : Hp} {h c D F : Addr} {ss : List Nat} (L : Lw H h c D F ss) {i : Nat} (hi : i < prod ss) : ∃ out p, hid h H F = some (.lst out) ∧ out[i]? = some (.ref p) ∧ hid h H p = some (.tup ((fill ss i).map nI)) := by
  obtain ⟨out, e, l, f⟩ := L.fl
  have hv : out[i]? = some (out[i]'(by omega)) := List.getElem?_eq_getElem _
  obtain ⟨p, q, z⟩ := f i _ hv
  exact ⟨out, p, e, by rw [hv, q], z⟩
theorem Hand.tne {H : Hp} {h c p : Addr} {xs : List V} (A : Hand H h c) (e : H p = some (.tup xs)) : p ≠ h := fun z => by
  obtain ⟨_, _, _, _, A⟩ := A
  rw [z, A.oh] at e
  cases e
abbrev iDs (ws : List Nat) : List PyData := ws.map fun n : Nat => PyData.int (n : Int)
def seqD (t : Bool) (ds : List PyData) : Td := .d (bif t then .tuple ds else .list ds)
theorem dpx_of {K : PySem.W.Frag} {H : Hp} {t : Bool} {q : Addr} {xs : List V} {ds : List PyData} (h : SqM K t H q xs) (a : DpAll K H xs ds) : DpX K H (.ref q) (seqD t ds) := by
  cases t
  · exact .lst h a
  · exact .tup h a
theorem fill_true {ss ws : List Nat} (t : Bool) (f : Fit ss ws) : fillB ss (seqD t (iDs ws)) = true := by
  have e1 : isQ (seqD t (iDs ws)) = true := by cases t <;> rfl
  have e2 : lenT (seqD t (iDs ws)) = ss.length := by
    rw [← f.len]
    cases t <;> exact List.length_map _
  have e3 : itemsT (seqD t (iDs ws)) = iDs ws := by cases t <;> rfl
  unfold fillB
  rw [e1, e2, e3, fit_allW f, decide_eq_true rfl]
  rfl
theorem ints_inj : ∀ {a b : List Nat}, iDs a = iDs b → a = b
  | [], [], _ => rfl
  | x :: a, y :: b, h => by
    have h : PyData.int (x : Int) :: iDs a = PyData.int (y : Int) :: iDs b := h
    injection h with h1 h2
    injection h1 with h1
    rw [ints_inj h2, Int.ofNat.inj h1]
  | [], _ :: _, h => by cases h
  | _ :: _, [], h => by cases h
theorem items_seq (t : Bool) (ds : List PyData) : itemsT (seqD t ds) = ds := by cases t <;> rfl
theorem dpall_ints_inv {K : PySem.W.Frag} {H : Hp} : ∀ {xs : List V} {ws : List Nat}, DpAll K H xs (iDs ws) → xs = ws.map nI
  | [], [], _ => rfl
  | x :: xs, w :: ws, h => by
    cases (show DpAll K H (x :: xs) (PyData.int (w : Int) :: iDs ws) from h) with
    | cons a t =>
      cases a
      rw [dpall_ints_inv t]
      rfl
  | [], _ :: _, h => by cases h
  | _ :: _, [], h => by cases h
theorem fill_isQ {ss : List Nat} {t : Td} (h : fillB ss t = true) : isQ t = true := (Bool.and_eq_true_iff.mp (show (isQ t && (decide (lenT t = ss.length) && allW ss (itemsT t))) = true from h)).1
theorem cut_len (z : Str) (lo hi : Option Int) : (cutS z lo hi).length ≤ z.length := by
  unfold cutS
  show (List.toArray _).size ≤ z.cps.size
  rw [List.size_toArray, List.length_take, List.length_drop]
  have : z.cps.toList.length = z.cps.size := rfl
  omega
abbrev LS := L2.St
def MidL (a h c D F : Addr) (ss : List Nat) : L2.St → Hp → Prop := fun σ H => Lw H h c D F ss ∧ ∃ v5 v6 v7 v8 v9 v10 v11 v12 v13 v14, σ = [some (.ref a), some (.ref h), some (.ref D), some (.int ((prod ss : Nat) : Int)), some (.ref F), v5, v6, v7, v8, v9, v10, v11, v12, v13, v14]
def Mid5 (a : Addr) : L2.St → Hp → Prop := fun σ H => ∃ h c D F ss, Lw H h c D F ss ∧ σ = [some (.ref a), some (.ref h), some (.ref D), some (.int ((prod ss : Nat) : Int)), some (.ref F), some (.int ((prod ss : Nat) : Int)), none, none, none, none, none, none, none, none, none]
def MidN (a h c D F : Addr) (ss : List Nat) (nm : Str) : L2.St → Hp → Prop := fun σ H => Lw H h c D F ss ∧ nameS nm = true ∧ ∃ v5 v6 v7 v8 v9 v10 v12 v13 v14, σ = [some (.ref a), some (.ref h), some (.ref D), some (.int ((prod ss : Nat) : Int)), some (.ref F), v5, v6, v7, v8, v9, v10, some (.str nm), v12, v13, v14]
def spLaw (K : PySem.W.Frag) : Sp := fun vs H Q _ => ∃ (a : Addr) (ns : List Int), vs = [.ref a] ∧ SqL K H a (ns.map V.int) ∧ ns.length ≤ 63 ∧ ∀ H', Q (.bl true) H'
section
variable {P : Program} {w : World} {K : PySem.W.Frag} {mg : Str → Option Value} {base : Heap}
theorem ok_law {f : Addr} {fd : FuncData} (T : Tx K mg) (F : Fun K "law" "law" slaw f fd) : FnOk P w K mg base CX0 5 f fd ["_law_script"] (spLaw K) := by
  have Glaw_hand := ok_hand (P := P) (w := w) (base := base) T.toTxA
  have Glaw_take := ok_take (P := P) (w := w) (base := base) T.toTxA
  have Glaw_drawn_sizes := ok_law_drawn (P := P) (w := w) (base := base) T
  have Glaw_many := ok_law_many (P := P) (w := w) (base := base) T
  have Glaw_fillings := ok_law_fillings (P := P) (w := w) (base := base) T
  have Gcount_fillings := ok_count_fillings (P := P) (w := w) (base := base) T
  have Glaw_int := ok_law_int (P := P) (w := w) (base := base) T
  have Gfillings_of := ok_fillings_of (P := P) (w := w) (base := base) T.toTxG
  have hR0 : ∀ (v : V) (H H' : Hp), Same H H' → (∃ i, v = .int i) → ∃ i, v = .int i := fun _ _ _ _ z => z
  have Glaw_tuples := tup_step (P := P) (w := w) (base := base) T (TupR.same (R := fun v _ => ∃ i, v = .int i) hR0) (tup_step T (R := fun v _ => ∃ i, v = .int i) hR0 (tup_int T))
  have Glaw_by_number := ok_law_by_number (P := P) (w := w) (base := base) T
  have Glaw_its_number := ok_law_its_number (P := P) (w := w) (base := base) T
  have Glaw_lists := ok_law_lists (P := P) (w := w) (base := base) T
  have Gis_filling := ok_is_filling (P := P) (w := w) (base := base) T
  have Glaw_like := ok_law_like (P := P) (w := w) (base := base) T
  have Glaw_spoilt_row := ok_law_spoilt (P := P) (w := w) (base := base) T
  have Glaw_is_filling := ok_law_is_filling (P := P) (w := w) (base := base) T
  have Glaw_truth := ok_law_truth (P := P) (w := w) (base := base) T
  have Glaw_number := ok_law_number (P := P) (w := w) (base := base) T
  have Glaw_name := ok_law_name (P := P) (w := w) (base := base) T
  have Glaw_no_name := ok_law_no_name (P := P) (w := w) (base := base) T
  have Glaw_no_wire := ok_law_no_wire (P := P) (w := w) (base := base) T
  have Gis_name := ok_is_name (P := P) (w := w) (base := base) T
  have Glaw_is_name := ok_law_is_name (P := P) (w := w) (base := base) T
  have Gis_wire := ok_is_wire (P := P) (w := w) (base := base) T
  have Glaw_is_wire := ok_law_is_wire (P := P) (w := w) (base := base) T
  refine F.ok sclaw (fun vs H Q E h => ?_) (fun cdv A outer s H vs Q E hr h => ?_)
  · obtain ⟨_, _, rfl, _⟩ := h
    rfl
  · obtain ⟨a, ns, rfl, hS, hl, k⟩ := h
    refine ⟨_, (pss_cons (ps_set (i := 1) sclaw.nd rfl (Or.inl rfl) (pe_call Glaw_hand (hr.mono (by decide)) rfl T.law_hand.g T.law_hand.F.kp T.law_hand.b .nil pass0 (pa_cons (pv 0) pa_nil)))
  (pss_cons (ps_set (i := 2) sclaw.nd rfl (Or.inl rfl) (pe_call Glaw_drawn_sizes (hr.mono (by decide)) rfl T.law_drawn_sizes.g T.law_drawn_sizes.F.kp T.law_drawn_sizes.b .nil pass0 (pa_cons (pv 1) pa_nil)))
  (pss_cons (ps_set (i := 3) sclaw.nd rfl (Or.inl rfl) (pe_call Glaw_many (hr.mono (by decide)) rfl T.law_many.g T.law_many.F.kp T.law_many.b .nil pass0 (pa_cons (pv 2) pa_nil)))
  (pss_cons (ps_set (i := 4) sclaw.nd rfl (Or.inl rfl) (pe_call Glaw_fillings (hr.mono (by decide)) rfl T.law_fillings.g T.law_fillings.F.kp T.law_fillings.b .nil pass0 (pa_cons (pv 2) pa_nil)))
  (cut (ps_set (i := 5) sclaw.nd rfl (Or.inl rfl) (pe_call Gcount_fillings (hr.mono (by decide)) rfl T.count_fillings.g T.count_fillings.F.kp T.count_fillings.b .nil pass0 (pa_cons (pe_callTy call_tuple_of (by rfl) T.tuple (by decide +kernel) (pa_cons (pv 2) pa_nil)) pa_nil)))
  (cut (ps_if (PW.pt (pw_or (pt_not (pt_val (pe_call Glaw_int (hr.mono (by decide)) rfl T.law_int.g T.law_int.F.kp T.law_int.b .nil pass0 (pa_cons (pv 5) pa_nil)))) (pw_or (pt_cmpR op_ne (pv 5) (pv 3) (nomark _)) (pw_or (pt_cmpR (op_neD hr.units) (pe_listG (E := fun _ _ _ => False) (pgen_call (dvs := []) Gfillings_of (hr.mono (by decide)) rfl T.fillings_of.g T.fillings_of.F.kp T.fillings_of.b .nil (pa_cons (pe_callTy call_list_of (by rfl) T.list (by decide +kernel) (pa_cons (pv 2) pa_nil)) pa_nil)) passF noF (hr.mono (by decide)) (by rfl) T.list (by decide +kernel)) (pv 4) (nomark _)) (pw_or1 (pt_not (pt_val (pe_call Glaw_tuples (hr.mono (by decide)) rfl T.law_tuples.g T.law_tuples.F.kp T.law_tuples.b .nil pass0 (pa_cons (pe_callTy call_tuple_of (by rfl) T.tuple (by decide +kernel) (pa_cons (pe_listG (E := fun _ _ _ => False) (pgen_call (dvs := []) Gfillings_of (hr.mono (by decide)) rfl T.fillings_of.g T.fillings_of.F.kp T.fillings_of.b .nil (pa_cons (pe_callTy call_tuple_of (by rfl) T.tuple (by decide +kernel) (pa_cons (pv 2) pa_nil)) pa_nil)) passF noF (hr.mono (by decide)) (by rfl) T.list (by decide +kernel)) pa_nil)) pa_nil))))))))) (pss_one (ps_ret pe_bl)) pss_nil)
  (cut (ps_for PassesOwn.never rfl (pi_range1 rfl T.range (pa_cons pe_int pa_nil)) (pg_name (i := 6) sclaw.nd rfl (Or.inl rfl))
  (pss_cons (ps_set (i := 7) sclaw.nd rfl (Or.inl rfl) (pe_call Glaw_take (hr.mono (by decide)) rfl T.law_take.g T.law_take.F.kp T.law_take.b .nil pass0 (pa_cons (pv 1) (pa_cons (pv 3) pa_nil))))
  (pss_cons (ps_set (i := 8) sclaw.nd rfl (Or.inl rfl) (pe_call Glaw_by_number (hr.mono (by decide)) rfl T.law_by_number.g T.law_by_number.F.kp T.law_by_number.b .nil pass0 (pa_cons (pe_call Glaw_lists (hr.mono (by decide)) rfl T.law_lists.g T.law_lists.F.kp T.law_lists.b .nil pass0 (pa_cons (pv 1) (pa_cons (pv 2) pa_nil))) (pa_cons (pv 7) pa_nil))))
  (pss_cons (ps_if (PW.pt (pw_or (pt_not (pt_val (pe_callB call_isi (by rfl) T.isinstance (by decide +kernel) (pa_cons (pv 8) (pa_cons (pe_bltn (v := .ty "tuple") (by rfl) T.tuple (by decide +kernel) rfl) pa_nil))))) (pw_or (pt_cmpR (op_neD hr.units) (pv 8) (pe_ix ix_list (pv 4) (pv 7) (fun _ _ => rfl)) (nomark _)) (pw_or1 (pt_cmpR op_ne (pe_call Glaw_its_number (hr.mono (by decide)) rfl T.law_its_number.g T.law_its_number.F.kp T.law_its_number.b .nil pass0 (pa_cons (pv 2) (pa_cons (pe_call Glaw_lists (hr.mono (by decide)) rfl T.law_lists.g T.law_lists.F.kp T.law_lists.b .nil pass0 (pa_cons (pv 1) (pa_cons (pv 8) pa_nil))) pa_nil))) (pv 7) (nomark _)))))) (pss_one (ps_ret pe_bl)) pss_nil)
  (pss_one (ps_if (pt_cmpR op_notBl (pe_call Gis_filling (hr.mono (by decide)) rfl T.is_filling.g T.is_filling.F.kp T.is_filling.b .nil pass0 (pa_cons (pv 2) (pa_cons (pe_call Glaw_lists (hr.mono (by decide)) rfl T.law_lists.g T.law_lists.F.kp T.law_lists.b .nil pass0 (pa_cons (pv 1) (pa_cons (pe_ix ix_list (pv 4) (pv 7) (fun _ _ => rfl)) pa_nil))) pa_nil))) pe_bl (nomark _)) (pss_one (ps_ret pe_bl)) pss_nil))))))
  (cut (ps_for PassesOwn.never rfl (pi_list (pe_lst (pa_cons (pe_un un_neg pe_int) (pa_cons (pv 3) (pa_cons (pe_op op_add (pv 3) (pe_call Glaw_take (hr.mono (by decide)) rfl T.law_take.g T.law_take.F.kp T.law_take.b .nil pass0 (pa_cons (pv 1) (pa_cons (pe_op op_pow pe_int pe_int) pa_nil)))) (pa_cons pe_bl (pa_cons pe_bl (pa_cons pe_non (pa_cons pe_str (pa_cons (pe_tup (pa_cons pe_int pa_nil)) pa_nil)))))))))) (pg_name (i := 7) sclaw.nd rfl (Or.inl rfl))
  (pss_cons (ps_set (i := 5) sclaw.nd rfl (Or.inl rfl) (pe_call Glaw_by_number (hr.mono (by decide)) rfl T.law_by_number.g T.law_by_number.F.kp T.law_by_number.b .nil pass0 (pa_cons (pv 2) (pa_cons (pv 7) pa_nil))))
  (pss_one (ps_if (PW.pt (pw_or (pt_not (pt_val (pe_callB call_isi (by rfl) T.isinstance (by decide +kernel) (pa_cons (pv 5) (pa_cons (pe_bltn (v := .ty "list") (by rfl) T.list (by decide +kernel) rfl) pa_nil))))) (pw_or1 (pt_not (pt_val (pe_call Glaw_like (hr.mono (by decide)) rfl T.law_like.g T.law_like.F.kp T.law_like.b .nil pass0 (pa_cons (pe_ix ix_list (pv 5) pe_int (fun _ _ => rfl)) (pa_cons (pv 7) pa_nil)))))))) (pss_one (ps_ret pe_bl)) pss_nil))))
  (cut (ps_for PassesOwn.never rfl (pi_range1 rfl T.range (pa_cons pe_int pa_nil)) (pg_name (i := 6) sclaw.nd rfl (Or.inl rfl))
  (pss_cons (ps_set (i := 9) sclaw.nd rfl (Or.inl rfl) (pe_call Glaw_spoilt_row (hr.mono (by decide)) rfl T.law_spoilt_row.g T.law_spoilt_row.F.kp T.law_spoilt_row.b .nil pass0 (pa_cons (pv 1) (pa_cons (pv 2) (pa_cons (pe_ix ix_list (pv 4) (pe_call Glaw_take (hr.mono (by decide)) rfl T.law_take.g T.law_take.F.kp T.law_take.b .nil pass0 (pa_cons (pv 1) (pa_cons (pv 3) pa_nil))) (fun _ _ => rfl)) pa_nil)))))
  (pss_cons (ps_set (i := 10) sclaw.nd rfl (Or.inl rfl) (pe_call Glaw_is_filling (hr.mono (by decide)) rfl T.law_is_filling.g T.law_is_filling.F.kp T.law_is_filling.b .nil pass0 (pa_cons (pv 2) (pa_cons (pv 9) pa_nil))))
  (pss_cons (ps_set (i := 5) sclaw.nd rfl (Or.inl rfl) (pe_call Glaw_its_number (hr.mono (by decide)) rfl T.law_its_number.g T.law_its_number.F.kp T.law_its_number.b .nil pass0 (pa_cons (pv 2) (pa_cons (pv 9) pa_nil))))
  (pss_cons (ps_if (PW.pt (pw_or (pt_not (pt_val (pe_call Glaw_truth (hr.mono (by decide)) rfl T.law_truth.g T.law_truth.F.kp T.law_truth.b .nil pass0 (pa_cons (pe_call Gis_filling (hr.mono (by decide)) rfl T.is_filling.g T.is_filling.F.kp T.is_filling.b .nil pass0 (pa_cons (pv 2) (pa_cons (pv 9) pa_nil))) (pa_cons (pv 10) pa_nil))))) (pw_or1 (pt_cmpR op_eq (pe_callB call_isi (by rfl) T.isinstance (by decide +kernel) (pa_cons (pv 5) (pa_cons (pe_bltn (v := .ty "list") (by rfl) T.list (by decide +kernel) rfl) pa_nil))) (pv 10) (nomark _))))) (pss_one (ps_ret pe_bl)) pss_nil)
  (pss_one (ps_if (PW.pt (pw_or (PW.pt (pw_and (pt_truth (pv 10) (by intro _; rfl)) (pw_and1 (pt_cmpR op_ne (pv 5) (pe_call Glaw_number (hr.mono (by decide)) rfl T.law_number.g T.law_number.F.kp T.law_number.b .nil pass0 (pa_cons (pv 2) (pa_cons (pv 9) pa_nil))) (nomark _))))) (pw_or1 (PW.pt (pw_and (pt_not (pt_truth (pv 10) (by intro _; rfl))) (pw_and1 (pt_not (pt_val (pe_call Glaw_like (hr.mono (by decide)) rfl T.law_like.g T.law_like.F.kp T.law_like.b .nil pass0 (pa_cons (pe_ix ix_list (pv 5) pe_int (fun _ _ => rfl)) (pa_cons (pv 9) pa_nil))))))))))) (pss_one (ps_ret pe_bl)) pss_nil)))))))
  (cut (ps_set (i := 11) sclaw.nd rfl (Or.inl rfl) (pe_call Glaw_name (hr.mono (by decide)) rfl T.law_name.g T.law_name.F.kp T.law_name.b .nil pass0 (pa_cons (pv 1) (pa_cons (pe_call Glaw_take (hr.mono (by decide)) rfl T.law_take.g T.law_take.F.kp T.law_take.b .nil pass0 (pa_cons (pv 1) (pa_cons pe_int pa_nil))) pa_nil))))
  (cut (ps_for PassesOwn.never rfl (pi_list (pe_lst (pa_cons (pv 11) (pa_cons (pe_op op_add_str (pv 11) pe_str) (pa_cons (pe_op op_add_str (pv 11) (pe_op op_mulZ pe_str (pe_op op_sub pe_int (pe_callB call_len_str (by rfl) T.len PySem.boot_len (pa_cons (pv 11) pa_nil))))) (pa_cons (pe_op op_add_str (pv 11) (pe_op op_mulZ pe_str (pe_op op_sub pe_int (pe_callB call_len_str (by rfl) T.len PySem.boot_len (pa_cons (pv 11) pa_nil))))) (pa_cons (pe_op op_add_str (pv 11) pe_str) (pa_cons (pe_op op_add_str (pe_slice sl_str (pv 11) po_none (po_some (pe_un un_neg pe_int))) pe_str) (pa_cons (pe_call Glaw_no_name (hr.mono (by decide)) rfl T.law_no_name.g T.law_no_name.F.kp T.law_no_name.b .nil pass0 (pa_cons (pv 1) pa_nil)) (pa_cons (pe_lst (pa_cons (pv 11) pa_nil)) pa_nil)))))))))) (pg_name (i := 12) sclaw.nd rfl (Or.inl rfl))
  (pss_cons (ps_if (pt_not (pt_val (pe_call Glaw_truth (hr.mono (by decide)) rfl T.law_truth.g T.law_truth.F.kp T.law_truth.b .nil pass0 (pa_cons (pe_call Gis_name (hr.mono (by decide)) rfl T.is_name.g T.is_name.F.kp T.is_name.b .nil pass0 (pa_cons (pv 12) pa_nil)) (pa_cons (pe_call Glaw_is_name (hr.mono (by decide)) rfl T.law_is_name.g T.law_is_name.F.kp T.law_is_name.b .nil pass0 (pa_cons (pv 12) pa_nil)) pa_nil))))) (pss_one (ps_ret pe_bl)) pss_nil)
  (pss_cons (ps_set (i := 13) sclaw.nd rfl (Or.inl rfl) (pe_call Glaw_take (hr.mono (by decide)) rfl T.law_take.g T.law_take.F.kp T.law_take.b .nil pass0 (pa_cons (pv 1) (pa_cons pe_int pa_nil))))
  (pss_one (ps_for PassesOwn.never rfl (pi_list (pe_lst (pa_cons (pe_tup (pa_cons (pv 12) (pa_cons (pv 13) pa_nil))) (pa_cons (pe_lst (pa_cons (pv 12) (pa_cons (pv 13) pa_nil))) (pa_cons (pe_tup (pa_cons (pv 12) (pa_cons pe_bl pa_nil))) (pa_cons (pe_tup (pa_cons (pv 12) (pa_cons (pv 13) (pa_cons (pv 13) pa_nil)))) (pa_cons (pe_tup (pa_cons (pv 13) (pa_cons (pv 12) pa_nil))) (pa_cons (pe_tup (pa_cons (pv 12) pa_nil)) (pa_cons (pe_call Glaw_no_wire (hr.mono (by decide)) rfl T.law_no_wire.g T.law_no_wire.F.kp T.law_no_wire.b .nil pass0 (pa_cons (pv 1) pa_nil)) pa_nil))))))))) (pg_name (i := 14) sclaw.nd rfl (Or.inl rfl))
  (pss_one (ps_if (pt_not (pt_val (pe_call Glaw_truth (hr.mono (by decide)) rfl T.law_truth.g T.law_truth.F.kp T.law_truth.b .nil pass0 (pa_cons (pe_call Gis_wire (hr.mono (by decide)) rfl T.is_wire.g T.is_wire.F.kp T.is_wire.b .nil pass0 (pa_cons (pv 14) pa_nil)) (pa_cons (pe_call Glaw_is_wire (hr.mono (by decide)) rfl T.law_is_wire.g T.law_is_wire.F.kp T.law_is_wire.b .nil pass0 (pa_cons (pv 14) pa_nil)) pa_nil))))) (pss_one (ps_ret pe_bl)) pss_nil)))))))
  (pss_one (ps_ret (pe_and (pe_cmpR op_isBl (pe_call Gis_wire (hr.mono (by decide)) rfl T.is_wire.g T.is_wire.F.kp T.is_wire.b .nil pass0 (pa_cons (pe_tup (pa_cons (pv 11) (pa_cons pe_int pa_nil))) pa_nil)) pe_bl (nomark _)) (pe_and (pe_cmpR op_isBl (pe_call Gis_wire (hr.mono (by decide)) rfl T.is_wire.g T.is_wire.F.kp T.is_wire.b .nil pass0 (pa_cons (pe_lst (pa_cons (pv 11) (pa_cons pe_int pa_nil))) pa_nil)) pe_bl (nomark _)) (pe_one (pe_cmpR op_isBl (pe_call Gis_wire (hr.mono (by decide)) rfl T.is_wire.g T.is_wire.F.kp T.is_wire.b .nil pass0 (pa_cons (pe_tup (pa_cons (pv 11) (pa_cons pe_int pa_nil))) pa_nil)) pe_bl (nomark _)))))))))))))))))), ?_⟩
    have b500 : ∀ {n : Nat}, n ≤ 500 → n < 1000000 := fun h => by omega
    refine ⟨_, rfl, a, ns, rfl, hS, hl, fun h c H1 nh s1 hh1 => ?_⟩
    refine ⟨_, rfl, h, c, rfl, hh1, fun D ss H2 k2 hh2 dh e2 hp hb hl => ?_⟩
    refine ⟨_, rfl, D, false, ss, rfl, SqM.ofL (SqL.of e2), hp, b500 hb, ?_⟩
    refine ⟨_, rfl, D, ss, rfl, SqL.of e2, hp, b500 hb, by omega, fun F H3 s3 nF fl => ?_⟩
    have L3 : Lw H3 h c D F ss := by
      have hh3 := hh2.same s3
      refine ⟨hh3, hid_at (s3 _ _ e2) dh, ?_, hp, hb, hl⟩
      obtain ⟨out, e, l, f⟩ := fl
      refine ⟨out, hid_at e (hh2.ne nF), l, fun i v hv => ?_⟩
      obtain ⟨p, q, z⟩ := f i v hv
      refine ⟨p, q, hid_at z fun y => ?_⟩
      obtain ⟨_, _, _, _, A⟩ := hh3
      rw [y, A.oh] at z
      cases z
    refine ⟨Mid5 a, ?_, ?_⟩
    · refine ⟨_, rfl, D, _, rfl, .inl ⟨L3.D, fun p np => ?_⟩⟩
      refine ⟨p, true, ss, rfl, SqM.ofT (SqT.of upd_same), hp, b500 hb, ?_⟩
      exact ⟨h, c, D, F, ss, L3.same (same_new np), rfl⟩
    rintro σ H4 ⟨h, c, D, F, ss, L, rfl⟩
    clear L3 fl nF s3 hl hb hp e2 dh hh2 k2 hh1 s1 nh hS
    refine ⟨MidL a h c D F ss, ?_, ?_⟩
    · have pl : prod ss < sizeLine := Nat.lt_of_le_of_lt L.hb (by rw [sizeLine_eq]; decide)
      have l6 : ss.length ≤ 1000 := Nat.le_trans L.hl (by decide)
      refine ⟨_, rfl, _, .int ((prod ss : Nat) : Int), rfl, .int _, _, rfl, iteF ?_⟩
      refine ⟨_, rfl, _, rfl, rfl, _, rfl, ?_⟩
      refine ite2 (fun e => absurd e (by simp)) (fun _ => ?_)
      refine ⟨_, rfl, D, _, rfl, .inl L.D, fun l nl => ?_⟩
      have L1 := L.same (same_new (o := .lst (ss.map nI)) nl)
      refine ⟨l, false, ss, rfl, SqM.ofL (SqL.of upd_same), L.hp, pl, l6, fun out H6 s6 ol ok => fun q nq => ?_⟩
      have L2 := (L1.same s6).same (same_new (o := .lst out) nq)
      obtain ⟨out2, f1, f2, f3⟩ := id L2.fl
      refine ⟨_, rfl, .list (fillD ss), .list (fillD ss), .lst (SqL.of upd_same) (DpAll.same (same_new nq) (dp_fills ol ok)), .lst (SqL.of (hid_sub _ _ f1)) (DpAll.same hid_sub (dp_fills f2 f3)), sh_list (okE_fill ss), sh_list (okE_fill ss), _, rfl, ?_⟩
      rw [ev_self (sh_list (okE_fill ss))]
      refine iteF ?_
      generalize upd H6 q (.lst out) = H7 at *
      refine ⟨_, rfl, D, _, rfl, .inl ⟨L2.D, fun l2 nl2 => ?_⟩⟩
      have L3 := L2.same (same_new (o := .tup (ss.map nI)) nl2)
      refine ⟨l2, true, ss, rfl, SqM.ofT (SqT.of upd_same), L.hp, pl, l6, fun out3 H8 s8 ol3 ok3 => fun q2 nq2 => ?_⟩
      have s9 := same_new (o := .lst out3) nq2
      refine ⟨q2, out3, rfl, .inl ⟨SqL.of upd_same, fun q3 nq3 => ?_⟩⟩
      have s10 := s9.trans (same_new (o := .tup out3) nq3)
      refine ⟨.ref q3, rfl, ⟨q3, out3, rfl, upd_same, fun x hx => ?_⟩, fun H9 s11 => ⟨_, rfl, iteF ?_⟩⟩
      · obtain ⟨i, hi⟩ := List.getElem?_of_mem hx
        obtain ⟨p, rfl, hp⟩ := ok3 i x hi
        refine ⟨p, _, rfl, s10 _ _ hp, fun y hy => ?_⟩
        obtain ⟨n, _, rfl⟩ := List.mem_map.mp hy
        exact ⟨_, rfl⟩
      · exact ⟨((L3.same s8).same s10).same s11, _, _, _, _, _, _, _, _, _, _, rfl⟩
    rintro σ H5 ⟨L, v5, v6, v7, v8, v9, v10, v11, v12, v13, v14, rfl⟩
    have pp : 0 < prod ss := prod_pos L.hp
    have p5 := L.hb
    have l6 : ss.length ≤ 1000 := Nat.le_trans L.hl (by decide)
    have hp := L.hp
    refine ⟨MidL a h c D F ss, ?_, ?_⟩
    · refine ⟨6, rfl, by decide, by decide, for_range (n := 6) (fun _ => MidL a h c D F ss) ⟨L, v5, v6, v7, v8, v9, v10, v11, v12, v13, v14, rfl⟩ ?_ fun σ H q => q⟩
      clear L
      rintro i σ H6 hi ⟨L, v5, v6, v7, v8, v9, v10, v11, v12, v13, v14, rfl⟩
      refine ⟨_, rfl, _, rfl, h, c, _, rfl, by omega, tk9 (by omega) (by omega), L.hh, fun x H7 x0 x1 k7 hh7 => ?_⟩
      obtain ⟨n, rfl⟩ : ∃ n : Nat, x = (n : Int) := ⟨x.toNat, (Int.toNat_of_nonneg x0).symm⟩
      have nl : n < prod ss := by omega
      have L7 := L.kept k7 hh7
      have ww : isW (.int (n : Int)) (some 0) (some ((prod ss : Int) - 1)) = true := by
        show (decide (0 ≤ (n : Int)) && decide ((n : Int) ≤ (prod ss : Int) - 1)) = true
        rw [decide_eq_true (by omega), decide_eq_true (by omega)]
        rfl
      have ff := fill_fit (ss := ss) n hp
      refine ⟨_, rfl, _, rfl, h, c, D, false, _, rfl, hh7, SqM.ofL (SqL.of L7.dn), fun q tq H8 k8 hh8 hq => ?_⟩
      refine ⟨_, rfl, q, tq, ss, .int (n : Int), .int (n : Int), rfl, hq.same hid_sub, hp, b500 p5, l6, .int _, fun e => ?_, fun m em hm p H9 s9 e9 => ?_⟩
      · rw [ww] at e; cases e
      obtain rfl : n = m := by injection em with em; exact Int.ofNat.inj em
      have L9 := (L7.kept k8 hh8).same s9
      have pne := L9.hh.tne e9
      refine ⟨_, rfl, _, _, _, _, true, rfl, .ty _, .base (.tup e9), kit_ty (show kitB "tuple" "tuple" = some true by decide +kernel), _, rfl, iteF ?_⟩
      obtain ⟨out, pf, g1, g2, g3⟩ := L9.at nl
      refine ⟨_, rfl, _, rfl, _, rfl, F, out, n, .ref pf, rfl, rfl, SqL.of (hid_sub _ _ g1), atI_nat g2, .tuple (iDs (fill ss n)), .tuple (iDs (fill ss n)), .tup (SqT.of e9) (dpall_ints _), .tup (SqT.of (hid_sub _ _ g3)) (dpall_ints _), sh_tuple (okE_ints _), sh_tuple (okE_ints _), _, rfl, ?_⟩
      rw [ev_self (sh_tuple (okE_ints _))]
      refine iteF ?_
      refine ⟨_, rfl, _, rfl, _, rfl, h, c, p, true, _, rfl, L9.hh, SqM.ofT (SqT.of (hid_at e9 pne)), fun q2 t2 H10 k10 hh10 hq2 => ?_⟩
      have L10 := L9.kept k10 hh10
      refine ⟨D, false, ss, .ref q2, seqD t2 (iDs (fill ss n)), rfl, SqM.ofL L10.D, hp, b500 p5, dpx_of (hq2.same hid_sub) (dpall_ints _), fun e => ?_, fun _ ws H11 hf ei s11 => ?_⟩
      · rw [fill_true t2 ff] at e; cases e
      rw [items_seq] at ei
      rw [← ints_inj ei, num_fill nl]
      refine ⟨_, rfl, rfl, _, rfl, ?_⟩
      refine ite2 (fun e => absurd e (by simp)) (fun _ => ?_)
      have L11 := L10.same s11
      obtain ⟨out2, pf2, g4, g5, g6⟩ := L11.at nl
      refine ⟨_, rfl, _, rfl, _, rfl, _, rfl, F, out2, n, .ref pf2, rfl, rfl, SqL.of (hid_sub _ _ g4), atI_nat g5, h, c, pf2, true, _, rfl, L11.hh, SqM.ofT (SqT.of g6), fun q3 t3 H12 k12 hh12 hq3 => ?_⟩
      have L12 := L11.kept k12 hh12
      refine ⟨D, false, ss, .ref q3, seqD t3 (iDs (fill ss n)), rfl, SqM.ofL L12.D, dpx_of (hq3.same hid_sub) (dpall_ints _), fun H13 s13 => ?_⟩
      rw [fill_true t3 ff]
      refine ⟨_, _, rfl, rfl, _, rfl, ?_⟩
      refine ite2 (fun e => absurd e (by simp)) (fun _ => ?_)
      exact ⟨L12.same s13, _, _, _, _, _, _, _, _, _, _, rfl⟩
    clear L
    rintro σ H6 ⟨L, v5, v6, v7, v8, v9, v10, v11, v12, v13, v14, rfl⟩
    refine ⟨MidL a h c D F ss, ?_, ?_⟩
    · refine ⟨_, rfl, _, rfl, _, rfl, _, rfl, _, _, rfl, rfl, (by show CPow 10 12; unfold CPow; decide), h, c, _, rfl, (by decide), tk9 (by decide) (by decide), L.hh, fun r H7 r0 r1 k7 hh7 => ?_⟩
      have L7 := L.kept k7 hh7
      refine ⟨_, _, rfl, rfl, (by show 1 ≤ sizeLine; decide), fun p np => ⟨(by show 8 ≤ sizeLine; decide), fun Z nZ => ?_⟩⟩
      have L8 := (L7.same (same_new (o := .tup [.int 0]) np)).same (same_new (o := .lst [.int (-1), .int ((prod ss : Nat) : Int), .int (((prod ss : Nat) : Int) + r), .bl true, .bl false, .non, .str "0", .ref p]) nZ)
      have eZ : SqL K _ Z _ := SqL.of (upd_same (a := Z) (H := upd H7 p (.tup [.int 0])) (o := .lst [.int (-1), .int ((prod ss : Nat) : Int), .int (((prod ss : Nat) : Int) + r), .bl true, .bl false, .non, .str "0", .ref p]))
      have facts : ∀ x ∈ [V.int (-1), .int ((prod ss : Nat) : Int), .int (((prod ss : Nat) : Int) + r), .bl true, .bl false, .non, .str "0", .ref p], ∃ d, Dp K (upd (upd H7 p (.tup [.int 0])) Z (.lst [.int (-1), .int ((prod ss : Nat) : Int), .int (((prod ss : Nat) : Int) + r), .bl true, .bl false, .non, .str "0", .ref p])) x d ∧ okT (.d d) ∧ isW d (some 0) (some ((prod ss : Int) - 1)) = false := by
        have nw : ∀ i : Int, i < 0 ∨ (prod ss : Int) ≤ i → isW (.int i) (some 0) (some ((prod ss : Int) - 1)) = false := fun i hi => by
          show (decide (0 ≤ i) && decide (i ≤ (prod ss : Int) - 1)) = false
          rcases hi with q | q
          · rw [decide_eq_false (by omega)]; rfl
          · rw [decide_eq_false (p := i ≤ (prod ss : Int) - 1) (by omega), Bool.and_false]
        intro x hx
        simp only [List.mem_cons, List.not_mem_nil, or_false] at hx
        rcases hx with rfl | rfl | rfl | rfl | rfl | rfl | rfl | rfl
        · exact ⟨_, .int _, okE_int _, nw _ (by omega)⟩
        · exact ⟨_, .int _, okE_int _, nw _ (by omega)⟩
        · exact ⟨_, .int _, okE_int _, nw _ (by omega)⟩
        · exact ⟨_, .bl _, okE_mk rfl (by decide), rfl⟩
        · exact ⟨_, .bl _, okE_mk rfl (by decide), rfl⟩
        · exact ⟨_, .non, okE_mk rfl (by decide), rfl⟩
        · exact ⟨_, .str _, okE_mk (by decide +kernel) (by decide), rfl⟩
        · exact ⟨_, .tup (SqT.of (same_new nZ _ _ upd_same)) (.cons (.int 0) .nil), fun d hd => by rw [List.mem_singleton.mp hd]; exact okE_int _, rfl⟩
      generalize upd (upd H7 p (.tup [.int 0])) Z (.lst [.int (-1), .int ((prod ss : Nat) : Int), .int (((prod ss : Nat) : Int) + r), .bl true, .bl false, .non, .str "0", .ref p]) = H8 at *
      refine ⟨Z, rfl, ⟨_, eZ⟩, for_list (K := K) (a := Z) (xs := [.int (-1), .int ((prod ss : Nat) : Int), .int (((prod ss : Nat) : Int) + r), .bl true, .bl false, .non, .str "0", .ref p]) (fun _ σ H => Same H8 H ∧ MidL a h c D F ss σ H)
        ⟨fun _ _ e => e, L8, v5, v6, v7, v8, v9, v10, v11, v12, v13, v14, rfl⟩ (fun _ _ _ _ q => q.1.seq eZ) ?_ fun σ H q => q.2⟩
      clear L L7 L8
      rintro i x σ H9 hx ⟨s9, L, v5, v6, v7, v8, v9, v10, v11, v12, v13, v14, rfl⟩
      obtain ⟨d, hd, ok, nw⟩ := facts x (List.mem_of_getElem? hx)
      have hd9 := Dp.same s9 hd
      refine ⟨_, rfl, _, rfl, D, false, ss, x, d, rfl, SqM.ofL L.D, hp, b500 p5, l6, hd9, fun _ q H10 s10 e10 => ?_, fun n e hn => ?_⟩
      · refine ⟨_, rfl, _, _, _, _, true, rfl, .ty _, .base (.lst e10), kit_ty (show kitB "list" "list" = some true by decide +kernel), _, rfl, iteF ?_⟩
        refine ⟨_, rfl, q, _, 0, x, rfl, rfl, SqL.of e10, rfl, _, rfl, x, .d d, rfl, Dp.same s10 hd9, ok, fun H11 s11 => ⟨_, rfl, iteF ?_⟩⟩
        exact ⟨(s9.trans s10).trans s11, (L.same s10).same s11, _, _, _, _, _, _, _, _, _, _, rfl⟩
      · exfalso
        rw [e] at nw
        have : (decide (0 ≤ (n : Int)) && decide ((n : Int) ≤ (prod ss : Int) - 1)) = false := nw
        rw [decide_eq_true (by omega), decide_eq_true (by omega)] at this
        cases this
    clear L
    rintro σ H6 ⟨L, v5, v6, v7, v8, v9, v10, v11, v12, v13, v14, rfl⟩
    refine ⟨MidL a h c D F ss, ?_, ?_⟩
    · refine ⟨4, rfl, by decide, by decide, for_range (n := 4) (fun _ => MidL a h c D F ss) ⟨L, v5, v6, v7, v8, v9, v10, v11, v12, v13, v14, rfl⟩ ?_ fun σ H q => q⟩
      clear L
      rintro i σ H6 hi ⟨L, v5, v6, v7, v8, v9, v10, v11, v12, v13, v14, rfl⟩
      refine ⟨_, rfl, _, rfl, _, rfl, _, rfl, _, rfl, h, c, _, rfl, by omega, tk9 (by omega) (by omega), L.hh, fun x H7 x0 x1 k7 hh7 => ?_⟩
      obtain ⟨n, rfl⟩ : ∃ n : Nat, x = (n : Int) := ⟨x.toNat, (Int.toNat_of_nonneg x0).symm⟩
      have nl : n < prod ss := by omega
      have L7 := L.kept k7 hh7
      obtain ⟨out, pf, g1, g2, g3⟩ := L7.at nl
      refine ⟨F, out, n, .ref pf, rfl, rfl, SqL.of (hid_sub _ _ g1), atI_nat g2, h, c, D, pf, ss, fill ss n, rfl, hh7, SqM.ofL (SqL.of L7.dn), SqM.ofT (SqT.of g3), fill_len ss n, L7.hl, fun v t H8 k8 hh8 hd ok => ?_⟩
      have L8 := L7.kept k8 hh8
      have hd8 : DpX K H8 v t := hd.same hid_sub
      refine ⟨_, rfl, _, rfl, D, false, ss, v, t, rfl, SqM.ofL L8.D, l6, hd8, fun H9 s9 => ?_⟩
      have L9 := L8.same s9
      have hd9 := hd8.same s9
      cases e : fillB ss t with
      | false =>
        refine ⟨_, rfl, _, rfl, D, false, ss, v, t, rfl, SqM.ofL L9.D, hp, b500 p5, hd9, fun _ q H10 s10 e10 => ?_, fun z => by rw [e] at z; cases z⟩
        have L10 := L9.same s10
        have hd10 := hd9.same s10
        refine ⟨_, rfl, _, rfl, D, false, ss, v, t, rfl, SqM.ofL L10.D, hd10, fun H11 s11 => ?_⟩
        rw [e]
        refine ⟨_, rfl, _, _, rfl, _, rfl, iteF ?_⟩
        refine ⟨_, rfl, _, _, _, _, true, rfl, .ty _, .base (.lst (s11 _ _ e10)), kit_ty (show kitB "list" "list" = some true by decide +kernel), _, rfl, rfl, _, rfl, ?_⟩
        refine ite2 (fun z => absurd z (by simp)) (fun _ => ?_)
        refine ⟨_, rfl, false, rfl, iteF (iteF ?_)⟩
        refine ⟨_, rfl, false, rfl, iteT ?_⟩
        refine ⟨_, rfl, q, _, 0, v, rfl, rfl, SqL.of (s11 _ _ e10), rfl, _, rfl, v, t, rfl, hd10.same s11, ok, fun H12 s12 => ⟨_, rfl, iteF ?_⟩⟩
        exact ⟨(L10.same s11).same s12, _, _, _, _, _, _, _, _, _, _, rfl⟩
      | true =>
        refine ⟨_, rfl, _, rfl, D, false, ss, v, t, rfl, SqM.ofL L9.D, hp, b500 p5, hd9, (fun z => by rw [e] at z; cases z), fun _ ws H10 hf ei s10 => ?_⟩
        have L10 := L9.same s10
        have hd10 := hd9.same s10
        refine ⟨_, rfl, _, rfl, D, false, ss, v, t, rfl, SqM.ofL L10.D, hd10, fun H11 s11 => ?_⟩
        rw [e]
        refine ⟨_, rfl, _, _, rfl, _, rfl, iteF ?_⟩
        refine ⟨_, rfl, _, _, _, _, false, rfl, .ty _, .base (.int _), kit_ty (show kitB "int" "list" = some false by decide +kernel), _, rfl, rfl, _, rfl, ?_⟩
        refine ite2 (fun z => absurd z (by simp)) (fun _ => ?_)
        have L11 := L10.same s11
        obtain ⟨b, p, xs, ds, rfl, hX, ha, et⟩ := q_of (hd10.same s11) (fill_isQ e)
        have ed : ds = iDs ws := by
          rw [et] at ei
          cases b <;> exact ei
        rw [ed] at ha
        obtain rfl := dpall_ints_inv ha
        refine ⟨_, rfl, true, rfl, iteT ?_⟩
        refine ⟨_, rfl, _, rfl, _, rfl, D, p, b, ss, ws, rfl, L11.D, hX, hf, hp, b500 p5, l6, rfl, _, rfl, ?_⟩
        refine ite2 (fun z => absurd z (by simp)) (fun _ => ?_)
        refine ⟨_, rfl, true, rfl, iteF (iteF ?_)⟩
        exact ⟨L11, _, _, _, _, _, _, _, _, _, _, rfl⟩
    clear L
    rintro σ H6 ⟨L, v5, v6, v7, v8, v9, v10, v11, v12, v13, v14, rfl⟩
    refine ⟨fun σ H => ∃ nm, MidN a h c D F ss nm σ H, ?_, ?_⟩
    · refine ⟨_, rfl, _, rfl, h, c, 26, rfl, by decide, tk9 (by decide) (by decide), L.hh, fun x H7 x0 x1 k7 hh7 => ?_⟩
      refine ⟨h, c, x, rfl, x0, x1, hh7, fun nm H8 k8 hh8 ok => ?_⟩
      exact ⟨nm, (L.kept k7 hh7).kept k8 hh8, ok, _, _, _, _, _, _, _, _, _, rfl⟩
    clear L
    rintro σ H6 ⟨nm, L, ok, v5, v6, v7', v8, v9, v10, v12, v13, v14, rfl⟩
    have nl : 1 ≤ nm.length ∧ nm.length ≤ 8 := by
      obtain ⟨a1, a2⟩ := Bool.and_eq_true_iff.mp (show (decide (1 ≤ (nm.length : Int)) && (decide ((nm.length : Int) ≤ 8) && nm.cps.toList.all inL)) = true from ok)
      obtain ⟨a3, _⟩ := Bool.and_eq_true_iff.mp a2
      have a1 := of_decide_eq_true a1
      have a3 := of_decide_eq_true a3
      omega
    have nz : nm.length ≤ sizeLine := Nat.le_of_lt (small1000 (by omega))
    refine ⟨MidN a h c D F ss nm, ?_, ?_⟩
    · have sz1 : nm.length ≤ 1000 := by omega
      have two : ∀ {x y : Str}, x.length ≤ 8 → y.length ≤ 8 → (x ++ y).length ≤ 1000 := fun {x y} e1 e2 => by
        show (x.cps ++ y.cps).size ≤ 1000
        rw [Array.size_append]
        have e1 : x.cps.size ≤ 8 := e1
        have e2 : y.cps.size ≤ 8 := e2
        omega
      have twoL : ∀ {x y : Str}, x.length ≤ 8 → y.length ≤ 8 → x.length + y.length ≤ sizeLine := fun {x y} e1 e2 => Nat.le_of_lt (small1000 (by omega))
      have one : ("a" : Str).length ≤ 8 ∧ ("1" : Str).length ≤ 8 ∧ ("A" : Str).length ≤ 8 := by decide +kernel
      have cl : ∀ lo hi, (cutS nm lo hi).length ≤ 8 := fun lo hi => by
        refine Nat.le_trans (cut_len nm lo hi) nl.2
      refine ⟨_, rfl, _, rfl, nm, "a", rfl, rfl, twoL nl.2 one.1, ?_⟩
      refine ⟨_, rfl, _, rfl, nm, rfl, nz, _, _, rfl, rfl, _, rfl, rfl, by omega, by omega, fun r3 l3 => ⟨nm, r3, rfl, rfl, twoL nl.2 l3, ?_⟩⟩
      refine ⟨_, rfl, _, rfl, nm, rfl, nz, _, _, rfl, rfl, _, rfl, rfl, by omega, by omega, fun r4 l4 => ⟨nm, r4, rfl, rfl, twoL nl.2 l4, ?_⟩⟩
      refine ⟨_, rfl, nm, "1", rfl, rfl, twoL nl.2 one.2.1, ?_⟩
      refine ⟨_, rfl, _, rfl, _, rfl, nm, rfl, nz, _, "A", rfl, rfl, twoL (cl _ _) one.2.2, ?_⟩
      refine ⟨_, rfl, h, c, rfl, L.hh, fun v7 d7 H7 k7 hh7 hd7 _ sm7 => ?_⟩
      have L7 := L.kept k7 hh7
      refine ⟨_, rfl, (by show 1 ≤ sizeLine; decide), fun p8 np8 => ⟨(by show 8 ≤ sizeLine; decide), fun Z nZ => ?_⟩⟩
      have n8 := hh7.ne np8
      have nZh := (hh7.same (same_new (o := .lst [.str nm]) np8)).ne nZ
      have s8 := (same_new (o := .lst [.str nm]) np8).trans (same_new (o := .lst [.str nm, .str (nm ++ "a"), .str (nm ++ r3), .str (nm ++ r4), .str (nm ++ "1"), .str (cutS nm none (some (-1)) ++ "A"), v7, .ref p8]) nZ)
      have eZ : hid h (upd (upd H7 p8 (.lst [.str nm])) Z (.lst [.str nm, .str (nm ++ "a"), .str (nm ++ r3), .str (nm ++ r4), .str (nm ++ "1"), .str (cutS nm none (some (-1)) ++ "A"), v7, .ref p8])) Z = some (.lst [.str nm, .str (nm ++ "a"), .str (nm ++ r3), .str (nm ++ r4), .str (nm ++ "1"), .str (cutS nm none (some (-1)) ++ "A"), v7, .ref p8]) := hid_at upd_same nZh
      have L8 := L7.same s8
      have facts : ∀ x ∈ [.str nm, .str (nm ++ "a"), .str (nm ++ r3), .str (nm ++ r4), .str (nm ++ "1"), .str (cutS nm none (some (-1)) ++ "A"), v7, .ref p8], ∃ d, Dp K (hid h (upd (upd H7 p8 (.lst [.str nm])) Z (.lst [.str nm, .str (nm ++ "a"), .str (nm ++ r3), .str (nm ++ r4), .str (nm ++ "1"), .str (cutS nm none (some (-1)) ++ "A"), v7, .ref p8]))) x d ∧ smN d := by
        intro x hx
        simp only [List.mem_cons, List.not_mem_nil, or_false] at hx
        rcases hx with rfl | rfl | rfl | rfl | rfl | rfl | rfl | rfl
        · exact ⟨_, .str _, sz1⟩
        · exact ⟨_, .str _, two nl.2 one.1⟩
        · exact ⟨_, .str _, two nl.2 l3⟩
        · exact ⟨_, .str _, two nl.2 l4⟩
        · exact ⟨_, .str _, two nl.2 one.2.1⟩
        · exact ⟨_, .str _, two (cl _ _) one.2.2⟩
        · exact ⟨_, Dp.same (hid_mono s8) hd7, sm7⟩
        · exact ⟨_, .lst (SqL.of (hid_at (same_new nZ _ _ upd_same) n8)) (.cons (.str nm) .nil), trivial⟩
      generalize upd (upd H7 p8 (.lst [.str nm])) Z (.lst [.str nm, .str (nm ++ "a"), .str (nm ++ r3), .str (nm ++ r4), .str (nm ++ "1"), .str (cutS nm none (some (-1)) ++ "A"), v7, .ref p8]) = H8 at *
      refine ⟨Z, rfl, ⟨_, SqL.of (hid_sub _ _ eZ)⟩, for_list (K := K) (a := Z) (xs := [.str nm, .str (nm ++ "a"), .str (nm ++ r3), .str (nm ++ r4), .str (nm ++ "1"), .str (cutS nm none (some (-1)) ++ "A"), v7, .ref p8]) (fun _ σ H => Kept h H8 H ∧ MidN a h c D F ss nm σ H)
        ⟨Kept.refl, L8, ok, v5, v6, v7', v8, v9, v10, v12, v13, v14, rfl⟩ (fun _ _ _ _ q => SqL.of (hid_sub _ _ (kept_hid q.1 _ _ eZ))) ?_ fun σ H q => q.2⟩
      rintro i x σ H9 hx ⟨k9, L9, _, u5, u6, u7, u8, u9, u10, u12, u13, u14, rfl⟩
      obtain ⟨d, hd, sm⟩ := facts x (List.mem_of_getElem? hx)
      have hd9 := Dp.same (kept_hid k9) hd
      refine ⟨_, rfl, x, d, rfl, Dp.same hid_sub hd9, sm, ?_⟩
      refine ⟨_, rfl, x, d, rfl, Dp.same hid_sub hd9, sm, fun H10 s10 => ?_⟩
      refine ⟨_, _, rfl, _, rfl, ?_⟩
      rw [decide_eq_true rfl]
      refine iteF ?_
      have L10 := L9.same s10
      refine ⟨_, rfl, h, c, 7, rfl, by decide, tk9 (by decide) (by decide), L10.hh, fun y H11 y0 y1 k11 hh11 => ?_⟩
      have L11 := L10.kept k11 hh11
      have hd11 := Dp.same (kept_hid k11) (Dp.same (hid_mono s10) hd9)
      have k9' : Kept h H8 H11 := (k9.trans (Same.kept s10)).trans k11
      refine ⟨_, rfl, _, rfl, (by show 2 ≤ sizeLine; decide), fun p1 m1 => ?_⟩
      refine ⟨_, rfl, _, rfl, (by show 2 ≤ sizeLine; decide), fun p2 m2 => ?_⟩
      refine ⟨_, rfl, (by show 2 ≤ sizeLine; decide), fun p3 m3 => ?_⟩
      refine ⟨_, rfl, _, rfl, _, rfl, (by show 3 ≤ sizeLine; decide), fun p4 m4 => ?_⟩
      refine ⟨_, rfl, _, rfl, (by show 2 ≤ sizeLine; decide), fun p5 m5 => ?_⟩
      refine ⟨_, rfl, (by show 1 ≤ sizeLine; decide), fun p6 m6 => ?_⟩
      have t1 := same_new (o := .tup [x, .int y]) m1
      have t2 := same_new (o := .lst [x, .int y]) m2
      have t3 := same_new (o := .tup [x, .bl true]) m3
      have t4 := same_new (o := .tup [x, .int y, .int y]) m4
      have t5 := same_new (o := .tup [.int y, x]) m5
      have t6 := same_new (o := .tup [x]) m6
      have a1 := hh11.same t1
      have a2 := a1.same t2
      have a3 := a2.same t3
      have a4 := a3.same t4
      have a5 := a4.same t5
      have a6 := a5.same t6
      have q1 := hh11.ne m1
      have q2 := a1.ne m2
      have q3 := a2.ne m3
      have q4 := a3.ne m4
      have q5 := a4.ne m5
      have q6 := a5.ne m6
      have e1 := ((((t2.trans t3).trans t4).trans t5).trans t6) _ _ upd_same
      have e2 := (((t3.trans t4).trans t5).trans t6) _ _ upd_same
      have e3 := ((t4.trans t5).trans t6) _ _ upd_same
      have e4 := (t5.trans t6) _ _ upd_same
      have e5 := t6 _ _ upd_same
      have e6 : (upd (upd (upd (upd (upd (upd H11 p1 (.tup [x, .int y])) p2 (.lst [x, .int y])) p3 (.tup [x, .bl true])) p4 (.tup [x, .int y, .int y])) p5 (.tup [.int y, x])) p6 (.tup [x])) p6 = some (.tup [x]) := upd_same
      have tt := ((((t1.trans t2).trans t3).trans t4).trans t5).trans t6
      refine ⟨_, rfl, h, c, rfl, a6, fun w7 d7 H12 k12 hh12 hdw smw _ => ⟨(by show 7 ≤ sizeLine; decide), fun Z2 nZ2 => ?_⟩⟩
      have sZ := same_new (o := .lst [.ref p1, .ref p2, .ref p3, .ref p4, .ref p5, .ref p6, w7]) nZ2
      have z2h := hh12.ne nZ2
      have eZ2 : hid h (upd H12 Z2 (.lst [.ref p1, .ref p2, .ref p3, .ref p4, .ref p5, .ref p6, w7])) Z2 = some (.lst [.ref p1, .ref p2, .ref p3, .ref p4, .ref p5, .ref p6, w7]) := hid_at upd_same z2h
      have kk12 : Kept h H11 H12 := (Same.kept tt).trans k12
      have L13 := (L11.kept kk12 hh12).same sZ
      have hdx := Dp.same (hid_mono sZ) (Dp.same (kept_hid kk12) hd11)
      have k9'' : Kept h H8 (upd H12 Z2 (.lst [.ref p1, .ref p2, .ref p3, .ref p4, .ref p5, .ref p6, w7])) := (k9'.trans kk12).trans (Same.kept sZ)
      have wfacts : ∀ v ∈ ([.ref p1, .ref p2, .ref p3, .ref p4, .ref p5, .ref p6, w7] : List V), ∃ dd, Dp K (hid h (upd H12 Z2 (.lst [.ref p1, .ref p2, .ref p3, .ref p4, .ref p5, .ref p6, w7]))) v dd ∧ smW dd := by
        intro v hv
        simp only [List.mem_cons, List.not_mem_nil, or_false] at hv
        rcases hv with rfl | rfl | rfl | rfl | rfl | rfl | rfl
        · refine ⟨_, .tup (SqT.of (hid_mono sZ _ _ (hid_at (k12 _ _ q1 e1) q1))) (.cons hdx (.cons (.int y) .nil)), fun z hz => ?_⟩
          simp only [List.mem_cons, List.not_mem_nil, or_false] at hz
          rcases hz with rfl | rfl
          · exact sm
          · exact trivial
        · refine ⟨_, .lst (SqL.of (hid_mono sZ _ _ (hid_at (k12 _ _ q2 e2) q2))) (.cons hdx (.cons (.int y) .nil)), fun z hz => ?_⟩
          simp only [List.mem_cons, List.not_mem_nil, or_false] at hz
          rcases hz with rfl | rfl
          · exact sm
          · exact trivial
        · refine ⟨_, .tup (SqT.of (hid_mono sZ _ _ (hid_at (k12 _ _ q3 e3) q3))) (.cons hdx (.cons (.bl true) .nil)), fun z hz => ?_⟩
          simp only [List.mem_cons, List.not_mem_nil, or_false] at hz
          rcases hz with rfl | rfl
          · exact sm
          · exact trivial
        · refine ⟨_, .tup (SqT.of (hid_mono sZ _ _ (hid_at (k12 _ _ q4 e4) q4))) (.cons hdx (.cons (.int y) (.cons (.int y) .nil))), fun z hz => ?_⟩
          simp only [List.mem_cons, List.not_mem_nil, or_false] at hz
          rcases hz with rfl | rfl | rfl
          · exact sm
          · exact trivial
          · exact trivial
        · refine ⟨_, .tup (SqT.of (hid_mono sZ _ _ (hid_at (k12 _ _ q5 e5) q5))) (.cons (.int y) (.cons hdx .nil)), fun z hz => ?_⟩
          simp only [List.mem_cons, List.not_mem_nil, or_false] at hz
          rcases hz with rfl | rfl
          · exact trivial
          · exact sm
        · refine ⟨_, .tup (SqT.of (hid_mono sZ _ _ (hid_at (k12 _ _ q6 e6) q6))) (.cons hdx .nil), fun z hz => ?_⟩
          rw [List.mem_singleton.mp hz]
          exact sm
        · exact ⟨_, Dp.same (hid_mono sZ) hdw, smw⟩
      generalize upd H12 Z2 (.lst [.ref p1, .ref p2, .ref p3, .ref p4, .ref p5, .ref p6, w7]) = H13 at *
      refine ⟨Z2, rfl, ⟨_, SqL.of (hid_sub _ _ eZ2)⟩, for_list (K := K) (a := Z2) (xs := [.ref p1, .ref p2, .ref p3, .ref p4, .ref p5, .ref p6, w7]) (fun _ σ H => Kept h H13 H ∧ MidN a h c D F ss nm σ H)
        ⟨Kept.refl, L13, ok, _, _, _, _, _, _, _, _, _, rfl⟩ (fun _ _ _ _ q => SqL.of (hid_sub _ _ (kept_hid q.1 _ _ eZ2))) ?_ fun σ H q => ⟨k9''.trans q.1, q.2⟩⟩
      rintro j v σ H14 hv ⟨k14, L14, _, u5, u6, u7, u8, u9, u10, u12, u13, u14, rfl⟩
      obtain ⟨dd, hdd, smd⟩ := wfacts v (List.mem_of_getElem? hv)
      have hd14 := Dp.same hid_sub (Dp.same (kept_hid k14) hdd)
      refine ⟨_, rfl, v, dd, rfl, hd14, smd, fun H15 s15 => ?_⟩
      refine ⟨_, rfl, v, dd, rfl, Dp.same s15 hd14, smd, fun H16 s16 => ?_⟩
      refine ⟨_, _, rfl, _, rfl, ?_⟩
      rw [decide_eq_true rfl]
      refine iteF ?_
      exact ⟨(k14.trans (Same.kept s15)).trans (Same.kept s16), (L14.same s15).same s16, ok, _, _, _, _, _, _, _, _, _, rfl⟩
    clear L
    rintro σ H6 ⟨L, _, v5, v6, v7', v8, v9, v10, v12, v13, v14, rfl⟩
    have sz1 : nm.length ≤ 1000 := by omega
    have smA : ∀ (i : Int) (z : PyData), z ∈ [PyData.str nm, .int i] → smN z := fun i z hz => by
      simp only [List.mem_cons, List.not_mem_nil, or_false] at hz
      rcases hz with rfl | rfl
      · exact sz1
      · exact trivial
    have w2 : wireB (.tuple [.str nm, .int 2]) = true := by
      show (nameS nm && isW (.int 2) (some 2) (some 4)) = true
      rw [ok]
      rfl
    have w4 : wireB (.list [.str nm, .int 4]) = true := by
      show (nameS nm && isW (.int 4) (some 2) (some 4)) = true
      rw [ok]
      rfl
    have w5 : wireB (.tuple [.str nm, .int 5]) = false := by
      show (nameS nm && isW (.int 5) (some 2) (some 4)) = false
      rw [ok]
      rfl
    refine ⟨_, rfl, z2, fun p1 n1 => ⟨.ref p1, .tuple [.str nm, .int 2], rfl, .tup (SqT.of upd_same) (.cons (.str nm) (.cons (.int 2) .nil)), smA 2, fun H7 s7 => ?_⟩⟩
    rw [w2]
    refine ⟨_, _, rfl, rfl, _, rfl, ?_⟩
    rw [decide_eq_true rfl]
    refine iteT ?_
    refine ⟨_, rfl, z2, fun p2 n2 => ⟨.ref p2, .list [.str nm, .int 4], rfl, .lst (SqL.of upd_same) (.cons (.str nm) (.cons (.int 4) .nil)), smA 4, fun H8 s8 => ?_⟩⟩
    rw [w4]
    refine ⟨_, _, rfl, rfl, _, rfl, ?_⟩
    rw [decide_eq_true rfl]
    refine iteT ?_
    refine ⟨_, rfl, z2, fun p3 n3 => ⟨.ref p3, .tuple [.str nm, .int 5], rfl, .tup (SqT.of upd_same) (.cons (.str nm) (.cons (.int 5) .nil)), smA 5, fun H9 s9 => ?_⟩⟩
    rw [w5]
    refine ⟨_, _, rfl, rfl, ?_⟩
    rw [decide_eq_true rfl]
    exact k _
end
end K02
set_option Elab.async false
set_option linter.all false
set_option maxRecDepth 100000
set_option maxHeartbeats 16000000
set_option exponentiation.threshold 20000
namespace K02
open PySem L2 Y00 K02M
/-- a def as k_is finds it -/
structure At (K : PySem.W.Frag) (x : Str) (st : Stmt) (f : Addr) (fd : FuncData) : Prop where
  a : PySem.W.nsIn K mainGlobals x = some (some (.ref f))
  F : Fun K x x st f fd
theorem at_mk {K : PySem.W.Frag} {x : Str} {st : Stmt} {f : Addr} {oc : Value} {od an : Option Addr} {osl : Array (Option Value)} {kV doc pm cdv ct : Value}
    (a : PySem.W.nsIn K mainGlobals x = some (some (.ref f))) (l : K.lookup f = some ⟨oc, od, .func (PySem.W.fnOf x x (defArgs st) (defBody st) (defScope st) .none kV doc pm an cdv ct), osl⟩)
    (c : PySem.W.codeIn K cdv x = true) (k : PySem.W.keepIn K (.ref f) = true) : At K x st f (PySem.W.fnOf x x (defArgs st) (defBody st) (defScope st) .none kV doc pm an cdv ct) := ⟨a, fun_mk l c k⟩
structure AtD (K : PySem.W.Frag) (x : Str) (st : Stmt) (dvs : List V) (f : Addr) (fd : FuncData) : Prop where
  a : PySem.W.nsIn K mainGlobals x = some (some (.ref f))
  F : FunD K x x (defArgs st) (defBody st) (defScope st) dvs [] f fd
theorem exm_self {K : PySem.W.Frag} {S : Addr} (h1 : PySem.W.subIn K (.ref S) (.type "BaseException") = some true) (h2 : PySem.W.isClsIn K S = true) (h3 : PySem.W.typeIn K (.ref S) = some (.type "type")) (h4 : PySem.W.subIn K (.ref S) (.ref S) = some true) :
    PySem.W.exmOne K (.ref S) (.ref S) = some true := by
  have e1 : (PySem.W.subIn K (.ref S) (.type "BaseException") == some true) = true := by rw [h1] <;> rfl
  have e2 : ((PySem.W.clsIn K S).isSome && PySem.W.typeIn K (.ref S) == some (.type "type")) = true := by
    have h2' : (PySem.W.clsIn K S).isSome = true := h2
    rw [h2', h3] <;> rfl
  show (if (PySem.W.subIn K (.ref S) (.type "BaseException") == some true) = true then (if ((PySem.W.clsIn K S).isSome && PySem.W.typeIn K (.ref S) == some (.type "type")) = true then PySem.W.subIn K (.ref S) (.ref S) else none) else none) = some true
  rw [if_pos e1, if_pos e2]
  exact h4
/-- what the top has left, all facts together -/
structure All (K : PySem.W.Frag) : Type where

  f_law_hand : Addr
  d_law_hand : FuncData
  h_law_hand : At K "_law_hand" s_law_hand f_law_hand d_law_hand
  f_law_mixed : Addr
  d_law_mixed : FuncData
  h_law_mixed : At K "_law_mixed" s_law_mixed f_law_mixed d_law_mixed
  f_law_take : Addr
  d_law_take : FuncData
  h_law_take : At K "_law_take" s_law_take f_law_take d_law_take
  f_fillings_of : Addr
  d_fillings_of : FuncData
  h_fillings_of : At K "fillings_of" sfillings_of f_fillings_of d_fillings_of
  f_is_name : Addr
  d_is_name : FuncData
  h_is_name : At K "is_name" sis_name f_is_name d_is_name
  f_is_wire : Addr
  d_is_wire : FuncData
  h_is_wire : At K "is_wire" sis_wire f_is_wire d_is_wire
  f_is_filling : Addr
  d_is_filling : FuncData
  h_is_filling : At K "is_filling" sis_filling f_is_filling d_is_filling
  f_count_fillings : Addr
  d_count_fillings : FuncData
  h_count_fillings : At K "count_fillings" scount_fillings f_count_fillings d_count_fillings
  f_filling_number : Addr
  d_filling_number : FuncData
  h_filling_number : At K "filling_number" sfilling_number f_filling_number d_filling_number
  f_filling_by_number : Addr
  d_filling_by_number : FuncData
  h_filling_by_number : At K "filling_by_number" sfilling_by_number f_filling_by_number d_filling_by_number
  f_law_many : Addr
  d_law_many : FuncData
  h_law_many : At K "_law_many" s_law_many f_law_many d_law_many
  f_law_filling : Addr
  d_law_filling : FuncData
  h_law_filling : At K "_law_filling" s_law_filling f_law_filling d_law_filling
  f_law_fillings : Addr
  d_law_fillings : FuncData
  h_law_fillings : At K "_law_fillings" s_law_fillings f_law_fillings d_law_fillings
  f_law_number : Addr
  d_law_number : FuncData
  h_law_number : At K "_law_number" s_law_number f_law_number d_law_number
  f_law_name : Addr
  d_law_name : FuncData
  h_law_name : At K "_law_name" s_law_name f_law_name d_law_name
  f_law_tuples : Addr
  d_law_tuples : FuncData
  h_law_tuples : At K "_law_tuples" s_law_tuples f_law_tuples d_law_tuples
  f_law_odd : Addr
  d_law_odd : FuncData
  h_law_odd : At K "_law_odd" s_law_odd f_law_odd d_law_odd
  f_law_rid : Addr
  d_law_rid : FuncData
  h_law_rid : At K "_law_rid" s_law_rid f_law_rid d_law_rid
  f_law_lists : Addr
  d_law_lists : FuncData
  h_law_lists : At K "_law_lists" s_law_lists f_law_lists d_law_lists
  f_law_whole : Addr
  d_law_whole : FuncData
  h_law_whole : At K "_law_whole" s_law_whole f_law_whole d_law_whole
  f_law_like : Addr
  d_law_like : FuncData
  h_law_like : At K "_law_like" s_law_like f_law_like d_law_like
  f_law_truth : Addr
  d_law_truth : FuncData
  h_law_truth : At K "_law_truth" s_law_truth f_law_truth d_law_truth
  f_law_int : Addr
  d_law_int : FuncData
  h_law_int : At K "_law_int" s_law_int f_law_int d_law_int
  f_law_is_name : Addr
  d_law_is_name : FuncData
  h_law_is_name : At K "_law_is_name" s_law_is_name f_law_is_name d_law_is_name
  f_law_is_wire : Addr
  d_law_is_wire : FuncData
  h_law_is_wire : At K "_law_is_wire" s_law_is_wire f_law_is_wire d_law_is_wire
  f_law_is_filling : Addr
  d_law_is_filling : FuncData
  h_law_is_filling : At K "_law_is_filling" s_law_is_filling f_law_is_filling d_law_is_filling
  f_law_no_wire : Addr
  d_law_no_wire : FuncData
  h_law_no_wire : At K "_law_no_wire" s_law_no_wire f_law_no_wire d_law_no_wire
  f_law_no_name : Addr
  d_law_no_name : FuncData
  h_law_no_name : At K "_law_no_name" s_law_no_name f_law_no_name d_law_no_name
  f_law_spoilt_row : Addr
  d_law_spoilt_row : FuncData
  h_law_spoilt_row : At K "_law_spoilt_row" s_law_spoilt_row f_law_spoilt_row d_law_spoilt_row
  f_law_by_number : Addr
  d_law_by_number : FuncData
  h_law_by_number : At K "_law_by_number" s_law_by_number f_law_by_number d_law_by_number
  f_law_its_number : Addr
  d_law_its_number : FuncData
  h_law_its_number : At K "_law_its_number" s_law_its_number f_law_its_number d_law_its_number
  f_law_drawn_sizes : Addr
  d_law_drawn_sizes : FuncData
  h_law_drawn_sizes : At K "_law_drawn_sizes" s_law_drawn_sizes f_law_drawn_sizes d_law_drawn_sizes
  f_law : Addr
  d_law : FuncData
  h_law : At K "law" slaw f_law d_law
  f_is_whole : Addr
  d_is_whole : FuncData
  h_is_whole : AtD K "is_whole" sis_whole [.non, .non] f_is_whole d_is_whole
  f_is_sequence : Addr
  d_is_sequence : FuncData
  h_is_sequence : AtD K "is_sequence" sis_sequence [.non] f_is_sequence d_is_sequence
  n_len : PySem.W.nsIn K mainGlobals "len" = some none
  n_abs : PySem.W.nsIn K mainGlobals "abs" = some none
  n_int : PySem.W.nsIn K mainGlobals "int" = some none
  n_range : PySem.W.nsIn K mainGlobals "range" = some none
  n_bool : PySem.W.nsIn K mainGlobals "bool" = some none
  n_tuple : PySem.W.nsIn K mainGlobals "tuple" = some none
  n_list : PySem.W.nsIn K mainGlobals "list" = some none
  n_str : PySem.W.nsIn K mainGlobals "str" = some none
  n_isinstance : PySem.W.nsIn K mainGlobals "isinstance" = some none
  n_zip : PySem.W.nsIn K mainGlobals "zip" = some none
  n_reversed : PySem.W.nsIn K mainGlobals "reversed" = some none
  n_divmod : PySem.W.nsIn K mainGlobals "divmod" = some none
  lT : Tok
  gL : PySem.W.nsIn K mainGlobals "LETTERS" = some (some (.str lets lT))
  nT : Tok
  gN : PySem.W.nsIn K mainGlobals "LONGEST_NAME" = some (some (.int 8 nT))
  C : Addr
  fI : Addr
  low : ∀ mg, mg "NoFilling" = some (.ref C) → PySem.LowX.LowTxt K mg C fI
  aC : PySem.W.nsIn K mainGlobals "NoFilling" = some (some (.ref C))

theorem binds_of {K : PySem.W.Frag} {x : Str} {st : Stmt} {f : Addr} {fd : FuncData} {ps : List Str} (h : At K x st f fd)
    (e : ∀ (kV doc pm : Value) (an : Option Addr) (cdv ct : Value) (us : List Value), us.length = ps.length → bindArgs (PySem.W.fnOf x x (defArgs st) (defBody st) (defScope st) .none kV doc pm an cdv ct) ⟨us, []⟩ = pure (ps.zip us)) : Binds K fd ps [] := h.F.binds e
def All.tx {K : PySem.W.Frag} (A : All K) {h : Heap} {mg : Str → Option Value} (X : K.In h) (G : h.Ns mainGlobals mg) : Tx K mg where
  law_hand := ⟨A.f_law_hand, A.d_law_hand, A.h_law_hand.F, PySem.W.mg_of X G A.h_law_hand.a, binds_of A.h_law_hand fun _ _ _ _ _ _ us hl => match us, hl with | [_], _ => rfl⟩
  law_mixed := ⟨A.f_law_mixed, A.d_law_mixed, A.h_law_mixed.F, PySem.W.mg_of X G A.h_law_mixed.a, binds_of A.h_law_mixed fun _ _ _ _ _ _ us hl => match us, hl with | [_, _], _ => rfl⟩
  law_take := ⟨A.f_law_take, A.d_law_take, A.h_law_take.F, PySem.W.mg_of X G A.h_law_take.a, binds_of A.h_law_take fun _ _ _ _ _ _ us hl => match us, hl with | [_, _], _ => rfl⟩
  fillings_of := ⟨A.f_fillings_of, A.d_fillings_of, A.h_fillings_of.F, PySem.W.mg_of X G A.h_fillings_of.a, binds_of A.h_fillings_of fun _ _ _ _ _ _ us hl => match us, hl with | [_], _ => rfl⟩
  is_name := ⟨A.f_is_name, A.d_is_name, A.h_is_name.F, PySem.W.mg_of X G A.h_is_name.a, binds_of A.h_is_name fun _ _ _ _ _ _ us hl => match us, hl with | [_], _ => rfl⟩
  is_wire := ⟨A.f_is_wire, A.d_is_wire, A.h_is_wire.F, PySem.W.mg_of X G A.h_is_wire.a, binds_of A.h_is_wire fun _ _ _ _ _ _ us hl => match us, hl with | [_], _ => rfl⟩
  is_filling := ⟨A.f_is_filling, A.d_is_filling, A.h_is_filling.F, PySem.W.mg_of X G A.h_is_filling.a, binds_of A.h_is_filling fun _ _ _ _ _ _ us hl => match us, hl with | [_, _], _ => rfl⟩
  count_fillings := ⟨A.f_count_fillings, A.d_count_fillings, A.h_count_fillings.F, PySem.W.mg_of X G A.h_count_fillings.a, binds_of A.h_count_fillings fun _ _ _ _ _ _ us hl => match us, hl with | [_], _ => rfl⟩
  filling_number := ⟨A.f_filling_number, A.d_filling_number, A.h_filling_number.F, PySem.W.mg_of X G A.h_filling_number.a, binds_of A.h_filling_number fun _ _ _ _ _ _ us hl => match us, hl with | [_, _], _ => rfl⟩
  filling_by_number := ⟨A.f_filling_by_number, A.d_filling_by_number, A.h_filling_by_number.F, PySem.W.mg_of X G A.h_filling_by_number.a, binds_of A.h_filling_by_number fun _ _ _ _ _ _ us hl => match us, hl with | [_, _], _ => rfl⟩
  law_many := ⟨A.f_law_many, A.d_law_many, A.h_law_many.F, PySem.W.mg_of X G A.h_law_many.a, binds_of A.h_law_many fun _ _ _ _ _ _ us hl => match us, hl with | [_], _ => rfl⟩
  law_filling := ⟨A.f_law_filling, A.d_law_filling, A.h_law_filling.F, PySem.W.mg_of X G A.h_law_filling.a, binds_of A.h_law_filling fun _ _ _ _ _ _ us hl => match us, hl with | [_, _], _ => rfl⟩
  law_fillings := ⟨A.f_law_fillings, A.d_law_fillings, A.h_law_fillings.F, PySem.W.mg_of X G A.h_law_fillings.a, binds_of A.h_law_fillings fun _ _ _ _ _ _ us hl => match us, hl with | [_], _ => rfl⟩
  law_number := ⟨A.f_law_number, A.d_law_number, A.h_law_number.F, PySem.W.mg_of X G A.h_law_number.a, binds_of A.h_law_number fun _ _ _ _ _ _ us hl => match us, hl with | [_, _], _ => rfl⟩
  law_name := ⟨A.f_law_name, A.d_law_name, A.h_law_name.F, PySem.W.mg_of X G A.h_law_name.a, binds_of A.h_law_name fun _ _ _ _ _ _ us hl => match us, hl with | [_, _], _ => rfl⟩
  law_tuples := ⟨A.f_law_tuples, A.d_law_tuples, A.h_law_tuples.F, PySem.W.mg_of X G A.h_law_tuples.a, binds_of A.h_law_tuples fun _ _ _ _ _ _ us hl => match us, hl with | [_], _ => rfl⟩
  law_odd := ⟨A.f_law_odd, A.d_law_odd, A.h_law_odd.F, PySem.W.mg_of X G A.h_law_odd.a, binds_of A.h_law_odd fun _ _ _ _ _ _ us hl => match us, hl with | [_, _], _ => rfl⟩
  law_rid := ⟨A.f_law_rid, A.d_law_rid, A.h_law_rid.F, PySem.W.mg_of X G A.h_law_rid.a, binds_of A.h_law_rid fun _ _ _ _ _ _ us hl => match us, hl with | [_], _ => rfl⟩
  law_lists := ⟨A.f_law_lists, A.d_law_lists, A.h_law_lists.F, PySem.W.mg_of X G A.h_law_lists.a, binds_of A.h_law_lists fun _ _ _ _ _ _ us hl => match us, hl with | [_, _], _ => rfl⟩
  law_whole := ⟨A.f_law_whole, A.d_law_whole, A.h_law_whole.F, PySem.W.mg_of X G A.h_law_whole.a, binds_of A.h_law_whole fun _ _ _ _ _ _ us hl => match us, hl with | [_, _, _], _ => rfl⟩
  law_like := ⟨A.f_law_like, A.d_law_like, A.h_law_like.F, PySem.W.mg_of X G A.h_law_like.a, binds_of A.h_law_like fun _ _ _ _ _ _ us hl => match us, hl with | [_, _], _ => rfl⟩
  law_truth := ⟨A.f_law_truth, A.d_law_truth, A.h_law_truth.F, PySem.W.mg_of X G A.h_law_truth.a, binds_of A.h_law_truth fun _ _ _ _ _ _ us hl => match us, hl with | [_, _], _ => rfl⟩
  law_int := ⟨A.f_law_int, A.d_law_int, A.h_law_int.F, PySem.W.mg_of X G A.h_law_int.a, binds_of A.h_law_int fun _ _ _ _ _ _ us hl => match us, hl with | [_], _ => rfl⟩
  law_is_name := ⟨A.f_law_is_name, A.d_law_is_name, A.h_law_is_name.F, PySem.W.mg_of X G A.h_law_is_name.a, binds_of A.h_law_is_name fun _ _ _ _ _ _ us hl => match us, hl with | [_], _ => rfl⟩
  law_is_wire := ⟨A.f_law_is_wire, A.d_law_is_wire, A.h_law_is_wire.F, PySem.W.mg_of X G A.h_law_is_wire.a, binds_of A.h_law_is_wire fun _ _ _ _ _ _ us hl => match us, hl with | [_], _ => rfl⟩
  law_is_filling := ⟨A.f_law_is_filling, A.d_law_is_filling, A.h_law_is_filling.F, PySem.W.mg_of X G A.h_law_is_filling.a, binds_of A.h_law_is_filling fun _ _ _ _ _ _ us hl => match us, hl with | [_, _], _ => rfl⟩
  law_no_wire := ⟨A.f_law_no_wire, A.d_law_no_wire, A.h_law_no_wire.F, PySem.W.mg_of X G A.h_law_no_wire.a, binds_of A.h_law_no_wire fun _ _ _ _ _ _ us hl => match us, hl with | [_], _ => rfl⟩
  law_no_name := ⟨A.f_law_no_name, A.d_law_no_name, A.h_law_no_name.F, PySem.W.mg_of X G A.h_law_no_name.a, binds_of A.h_law_no_name fun _ _ _ _ _ _ us hl => match us, hl with | [_], _ => rfl⟩
  law_spoilt_row := ⟨A.f_law_spoilt_row, A.d_law_spoilt_row, A.h_law_spoilt_row.F, PySem.W.mg_of X G A.h_law_spoilt_row.a, binds_of A.h_law_spoilt_row fun _ _ _ _ _ _ us hl => match us, hl with | [_, _, _], _ => rfl⟩
  law_by_number := ⟨A.f_law_by_number, A.d_law_by_number, A.h_law_by_number.F, PySem.W.mg_of X G A.h_law_by_number.a, binds_of A.h_law_by_number fun _ _ _ _ _ _ us hl => match us, hl with | [_, _], _ => rfl⟩
  law_its_number := ⟨A.f_law_its_number, A.d_law_its_number, A.h_law_its_number.F, PySem.W.mg_of X G A.h_law_its_number.a, binds_of A.h_law_its_number fun _ _ _ _ _ _ us hl => match us, hl with | [_, _], _ => rfl⟩
  law_drawn_sizes := ⟨A.f_law_drawn_sizes, A.d_law_drawn_sizes, A.h_law_drawn_sizes.F, PySem.W.mg_of X G A.h_law_drawn_sizes.a, binds_of A.h_law_drawn_sizes fun _ _ _ _ _ _ us hl => match us, hl with | [_], _ => rfl⟩
  is_whole := ⟨A.f_is_whole, A.d_is_whole, A.h_is_whole.F, PySem.W.mg_of X G A.h_is_whole.a, fun j hj => match j, hj with
    | 0, _ => A.h_is_whole.F.binds1 1 0 (by simp) rfl fun T kV doc pm an cdv ct us its h1 h2 => match us, its, h1, h2 with | [_], [_, _], _, _ => ⟨_, rfl, rfl⟩
    | 1, _ => A.h_is_whole.F.binds1 2 1 (by simp) rfl fun T kV doc pm an cdv ct us its h1 h2 => match us, its, h1, h2 with | [_, _], [_, _], _, _ => ⟨_, rfl, rfl⟩
    | 2, _ => A.h_is_whole.F.binds1 3 2 (by simp) rfl fun T kV doc pm an cdv ct us its h1 h2 => match us, its, h1, h2 with | [_, _, _], [_, _], _, _ => ⟨_, rfl, rfl⟩
    | j + 3, hj => absurd hj (by simp)⟩
  is_sequence := ⟨A.f_is_sequence, A.d_is_sequence, A.h_is_sequence.F, PySem.W.mg_of X G A.h_is_sequence.a, fun j hj => match j, hj with
    | 0, _ => A.h_is_sequence.F.binds1 2 0 (by simp) rfl fun T kV doc pm an cdv ct us its h1 h2 => match us, its, h1, h2 with | [_, _], [_], _, _ => ⟨_, rfl, rfl⟩
    | 1, _ => A.h_is_sequence.F.binds1 3 1 (by simp) rfl fun T kV doc pm an cdv ct us its h1 h2 => match us, its, h1, h2 with | [_, _, _], [_], _, _ => ⟨_, rfl, rfl⟩
    | j + 2, hj => absurd hj (by simp)⟩
  C := A.C
  fI := A.fI
  low := A.low mg (PySem.W.mg_of X G A.aC)
  lT := A.lT
  gLETTERS := PySem.W.mg_of X G A.gL
  nT := A.nT
  gLONGEST_NAME := PySem.W.mg_of X G A.gN
  len := PySem.W.mg_none_of X G A.n_len
  abs := PySem.W.mg_none_of X G A.n_abs
  int := PySem.W.mg_none_of X G A.n_int
  range := PySem.W.mg_none_of X G A.n_range
  bool := PySem.W.mg_none_of X G A.n_bool
  tuple := PySem.W.mg_none_of X G A.n_tuple
  list := PySem.W.mg_none_of X G A.n_list
  str := PySem.W.mg_none_of X G A.n_str
  isinstance := PySem.W.mg_none_of X G A.n_isinstance
  zip := PySem.W.mg_none_of X G A.n_zip
  reversed := PySem.W.mg_none_of X G A.n_reversed
  divmod := PySem.W.mg_none_of X G A.n_divmod

theorem all_mk {l : PySem.W.OpenLaw} {w : World} {K : PySem.W.Frag} {h : Heap} {mg : Str → Option Value} {fa : Addr} (X : K.In h) (G : h.Ns mainGlobals mg) (hfa : mg "law" = some (.ref fa)) (A : All K) :
    ∃ fd : FuncData, (∀ (s : Shared) (v : Value), BindsTo s fd ⟨[v], []⟩ [("_law_script", v)]) ∧ ∀ base : Heap, K.In base → base.Ns mainGlobals mg → FnOk l.prog w K mg base CX0 5 fa fd ["_law_script"] (spLaw K) := by
  have e := hfa.symm.trans (PySem.W.mg_of X G A.h_law.a)
  cases e
  obtain ⟨oc, od, kV, doc, pm, an, cdv, ct, osl, e, lk, hcd⟩ := id A.h_law.F.ex
  refine ⟨A.d_law, fun s v => ?_, fun base _ _ => ok_law (A.tx X G) A.h_law.F⟩
  rw [e]
  exact .of_eq rfl
theorem walk {l : PySem.W.OpenLaw} {q : Program} {loose : List Str} {XP : (Str → Option Value) → Heap → Prop} {YP : World → Heap → Prop} {d : DefRec} {K : Params → PySem.W.Frag} (hn : l.most = some 63) (hdf : d.params.defaults = [])
    (hY : ∀ (w : World) (h : Heap), YP w h → (K w.params).In h)
    (F : ∀ (w : World) (mg : Str → Option Value) (fa : Addr) (h : Heap), (K w.params).In h → h.Ns mainGlobals mg → mg d.name = some (.ref fa) →
      ∃ fd : FuncData, (∀ (s : Shared) (u : Value), BindsTo s fd ⟨[u], []⟩ [("_law_script", u)]) ∧ ∀ base : Heap, (K w.params).In base → base.Ns mainGlobals mg → FnOk l.prog w (K w.params) mg base CX0 5 fa fd ["_law_script"] (spLaw (K w.params))) :
    PySem.W.WalkO q loose XP YP l.row.toRowW d [] (fun f vs => PySem.call f vs) :=
  L2.walk_of (n := 63) (k := 5) (x := "_law_script") (CX := fun _ => CX0) (sp := fun w => spLaw (K w.params)) hn (by decide) hdf ⟨rfl, by decide, by decide⟩ hY F (fun _ _ a ns hl _ hS => ⟨a, ns, rfl, hS, hl, fun _ => rfl⟩) fun _ _ _ _ _ z => z

theorem fin {l : PySem.W.OpenLaw} {w : World} {K : PySem.W.Frag} {h : Heap} {mg : Str → Option Value} {fa : Addr} (X : K.In h) (G : h.Ns mainGlobals mg) (hfa : mg "law" = some (.ref fa))
    {f0 f1 f2 f3 f4 f5 f6 f7 f8 f9 f10 f11 f12 f13 f14 f15 f16 f17 f18 f19 f20 f21 f22 f23 f24 f25 f26 f27 f28 f29 f30 f31 f32 f33 f34 : Addr} {oc0 oc1 oc2 oc3 oc4 oc5 oc6 oc7 oc8 oc9 oc10 oc11 oc12 oc13 oc14 oc15 oc16 oc17 oc18 oc19 oc20 oc21 oc22 oc23 oc24 oc25 oc26 oc27 oc28 oc29 oc30 oc31 oc32 oc33 oc34 : Value} {od0 od1 od2 od3 od4 od5 od6 od7 od8 od9 od10 od11 od12 od13 od14 od15 od16 od17 od18 od19 od20 od21 od22 od23 od24 od25 od26 od27 od28 od29 od30 od31 od32 od33 od34 an0 an1 an2 an3 an4 an5 an6 an7 an8 an9 an10 an11 an12 an13 an14 an15 an16 an17 an18 an19 an20 an21 an22 an23 an24 an25 an26 an27 an28 an29 an30 an31 an32 an33 an34 : Option Addr} {sl0 sl1 sl2 sl3 sl4 sl5 sl6 sl7 sl8 sl9 sl10 sl11 sl12 sl13 sl14 sl15 sl16 sl17 sl18 sl19 sl20 sl21 sl22 sl23 sl24 sl25 sl26 sl27 sl28 sl29 sl30 sl31 sl32 sl33 sl34 : Array (Option Value)} {kV0 kV1 kV2 kV3 kV4 kV5 kV6 kV7 kV8 kV9 kV10 kV11 kV12 kV13 kV14 kV15 kV16 kV17 kV18 kV19 kV20 kV21 kV22 kV23 kV24 kV25 kV26 kV27 kV28 kV29 kV30 kV31 kV32 kV33 kV34 dc0 dc1 dc2 dc3 dc4 dc5 dc6 dc7 dc8 dc9 dc10 dc11 dc12 dc13 dc14 dc15 dc16 dc17 dc18 dc19 dc20 dc21 dc22 dc23 dc24 dc25 dc26 dc27 dc28 dc29 dc30 dc31 dc32 dc33 dc34 pm0 pm1 pm2 pm3 pm4 pm5 pm6 pm7 pm8 pm9 pm10 pm11 pm12 pm13 pm14 pm15 pm16 pm17 pm18 pm19 pm20 pm21 pm22 pm23 pm24 pm25 pm26 pm27 pm28 pm29 pm30 pm31 pm32 pm33 pm34 cd0 cd1 cd2 cd3 cd4 cd5 cd6 cd7 cd8 cd9 cd10 cd11 cd12 cd13 cd14 cd15 cd16 cd17 cd18 cd19 cd20 cd21 cd22 cd23 cd24 cd25 cd26 cd27 cd28 cd29 cd30 cd31 cd32 cd33 cd34 ct0 ct1 ct2 ct3 ct4 ct5 ct6 ct7 ct8 ct9 ct10 ct11 ct12 ct13 ct14 ct15 ct16 ct17 ct18 ct19 ct20 ct21 ct22 ct23 ct24 ct25 ct26 ct27 ct28 ct29 ct30 ct31 ct32 ct33 ct34 : Value} {T33 T34 : Addr} {dT0 dT1 : Option Addr} {cT0 cT1 : Value} {nT0 nT1 : Nat} {sT0 sT1 : Array (Option Value)}
    (a0 : PySem.W.nsIn K mainGlobals "_law_hand" = some (some (.ref f0))) (l0 : K.lookup f0 = some ⟨oc0, od0, .func (PySem.W.fnOf "_law_hand" "_law_hand" (defArgs s_law_hand) (defBody s_law_hand) (defScope s_law_hand) .none kV0 dc0 pm0 an0 cd0 ct0), sl0⟩) (c0 : PySem.W.codeIn K cd0 "_law_hand" = true) (k0 : PySem.W.keepIn K (.ref f0) = true)
    (a1 : PySem.W.nsIn K mainGlobals "_law_mixed" = some (some (.ref f1))) (l1 : K.lookup f1 = some ⟨oc1, od1, .func (PySem.W.fnOf "_law_mixed" "_law_mixed" (defArgs s_law_mixed) (defBody s_law_mixed) (defScope s_law_mixed) .none kV1 dc1 pm1 an1 cd1 ct1), sl1⟩) (c1 : PySem.W.codeIn K cd1 "_law_mixed" = true) (k1 : PySem.W.keepIn K (.ref f1) = true)
    (a2 : PySem.W.nsIn K mainGlobals "_law_take" = some (some (.ref f2))) (l2 : K.lookup f2 = some ⟨oc2, od2, .func (PySem.W.fnOf "_law_take" "_law_take" (defArgs s_law_take) (defBody s_law_take) (defScope s_law_take) .none kV2 dc2 pm2 an2 cd2 ct2), sl2⟩) (c2 : PySem.W.codeIn K cd2 "_law_take" = true) (k2 : PySem.W.keepIn K (.ref f2) = true)
    (a3 : PySem.W.nsIn K mainGlobals "fillings_of" = some (some (.ref f3))) (l3 : K.lookup f3 = some ⟨oc3, od3, .func (PySem.W.fnOf "fillings_of" "fillings_of" (defArgs sfillings_of) (defBody sfillings_of) (defScope sfillings_of) .none kV3 dc3 pm3 an3 cd3 ct3), sl3⟩) (c3 : PySem.W.codeIn K cd3 "fillings_of" = true) (k3 : PySem.W.keepIn K (.ref f3) = true)
    (a4 : PySem.W.nsIn K mainGlobals "is_name" = some (some (.ref f4))) (l4 : K.lookup f4 = some ⟨oc4, od4, .func (PySem.W.fnOf "is_name" "is_name" (defArgs sis_name) (defBody sis_name) (defScope sis_name) .none kV4 dc4 pm4 an4 cd4 ct4), sl4⟩) (c4 : PySem.W.codeIn K cd4 "is_name" = true) (k4 : PySem.W.keepIn K (.ref f4) = true)
    (a5 : PySem.W.nsIn K mainGlobals "is_wire" = some (some (.ref f5))) (l5 : K.lookup f5 = some ⟨oc5, od5, .func (PySem.W.fnOf "is_wire" "is_wire" (defArgs sis_wire) (defBody sis_wire) (defScope sis_wire) .none kV5 dc5 pm5 an5 cd5 ct5), sl5⟩) (c5 : PySem.W.codeIn K cd5 "is_wire" = true) (k5 : PySem.W.keepIn K (.ref f5) = true)
    (a6 : PySem.W.nsIn K mainGlobals "is_filling" = some (some (.ref f6))) (l6 : K.lookup f6 = some ⟨oc6, od6, .func (PySem.W.fnOf "is_filling" "is_filling" (defArgs sis_filling) (defBody sis_filling) (defScope sis_filling) .none kV6 dc6 pm6 an6 cd6 ct6), sl6⟩) (c6 : PySem.W.codeIn K cd6 "is_filling" = true) (k6 : PySem.W.keepIn K (.ref f6) = true)
    (a7 : PySem.W.nsIn K mainGlobals "count_fillings" = some (some (.ref f7))) (l7 : K.lookup f7 = some ⟨oc7, od7, .func (PySem.W.fnOf "count_fillings" "count_fillings" (defArgs scount_fillings) (defBody scount_fillings) (defScope scount_fillings) .none kV7 dc7 pm7 an7 cd7 ct7), sl7⟩) (c7 : PySem.W.codeIn K cd7 "count_fillings" = true) (k7 : PySem.W.keepIn K (.ref f7) = true)
    (a8 : PySem.W.nsIn K mainGlobals "filling_number" = some (some (.ref f8))) (l8 : K.lookup f8 = some ⟨oc8, od8, .func (PySem.W.fnOf "filling_number" "filling_number" (defArgs sfilling_number) (defBody sfilling_number) (defScope sfilling_number) .none kV8 dc8 pm8 an8 cd8 ct8), sl8⟩) (c8 : PySem.W.codeIn K cd8 "filling_number" = true) (k8 : PySem.W.keepIn K (.ref f8) = true)
    (a9 : PySem.W.nsIn K mainGlobals "filling_by_number" = some (some (.ref f9))) (l9 : K.lookup f9 = some ⟨oc9, od9, .func (PySem.W.fnOf "filling_by_number" "filling_by_number" (defArgs sfilling_by_number) (defBody sfilling_by_number) (defScope sfilling_by_number) .none kV9 dc9 pm9 an9 cd9 ct9), sl9⟩) (c9 : PySem.W.codeIn K cd9 "filling_by_number" = true) (k9 : PySem.W.keepIn K (.ref f9) = true)
    (a10 : PySem.W.nsIn K mainGlobals "_law_many" = some (some (.ref f10))) (l10 : K.lookup f10 = some ⟨oc10, od10, .func (PySem.W.fnOf "_law_many" "_law_many" (defArgs s_law_many) (defBody s_law_many) (defScope s_law_many) .none kV10 dc10 pm10 an10 cd10 ct10), sl10⟩) (c10 : PySem.W.codeIn K cd10 "_law_many" = true) (k10 : PySem.W.keepIn K (.ref f10) = true)
    (a11 : PySem.W.nsIn K mainGlobals "_law_filling" = some (some (.ref f11))) (l11 : K.lookup f11 = some ⟨oc11, od11, .func (PySem.W.fnOf "_law_filling" "_law_filling" (defArgs s_law_filling) (defBody s_law_filling) (defScope s_law_filling) .none kV11 dc11 pm11 an11 cd11 ct11), sl11⟩) (c11 : PySem.W.codeIn K cd11 "_law_filling" = true) (k11 : PySem.W.keepIn K (.ref f11) = true)
    (a12 : PySem.W.nsIn K mainGlobals "_law_fillings" = some (some (.ref f12))) (l12 : K.lookup f12 = some ⟨oc12, od12, .func (PySem.W.fnOf "_law_fillings" "_law_fillings" (defArgs s_law_fillings) (defBody s_law_fillings) (defScope s_law_fillings) .none kV12 dc12 pm12 an12 cd12 ct12), sl12⟩) (c12 : PySem.W.codeIn K cd12 "_law_fillings" = true) (k12 : PySem.W.keepIn K (.ref f12) = true)
    (a13 : PySem.W.nsIn K mainGlobals "_law_number" = some (some (.ref f13))) (l13 : K.lookup f13 = some ⟨oc13, od13, .func (PySem.W.fnOf "_law_number" "_law_number" (defArgs s_law_number) (defBody s_law_number) (defScope s_law_number) .none kV13 dc13 pm13 an13 cd13 ct13), sl13⟩) (c13 : PySem.W.codeIn K cd13 "_law_number" = true) (k13 : PySem.W.keepIn K (.ref f13) = true)
    (a14 : PySem.W.nsIn K mainGlobals "_law_name" = some (some (.ref f14))) (l14 : K.lookup f14 = some ⟨oc14, od14, .func (PySem.W.fnOf "_law_name" "_law_name" (defArgs s_law_name) (defBody s_law_name) (defScope s_law_name) .none kV14 dc14 pm14 an14 cd14 ct14), sl14⟩) (c14 : PySem.W.codeIn K cd14 "_law_name" = true) (k14 : PySem.W.keepIn K (.ref f14) = true)
    (a15 : PySem.W.nsIn K mainGlobals "_law_tuples" = some (some (.ref f15))) (l15 : K.lookup f15 = some ⟨oc15, od15, .func (PySem.W.fnOf "_law_tuples" "_law_tuples" (defArgs s_law_tuples) (defBody s_law_tuples) (defScope s_law_tuples) .none kV15 dc15 pm15 an15 cd15 ct15), sl15⟩) (c15 : PySem.W.codeIn K cd15 "_law_tuples" = true) (k15 : PySem.W.keepIn K (.ref f15) = true)
    (a16 : PySem.W.nsIn K mainGlobals "_law_odd" = some (some (.ref f16))) (l16 : K.lookup f16 = some ⟨oc16, od16, .func (PySem.W.fnOf "_law_odd" "_law_odd" (defArgs s_law_odd) (defBody s_law_odd) (defScope s_law_odd) .none kV16 dc16 pm16 an16 cd16 ct16), sl16⟩) (c16 : PySem.W.codeIn K cd16 "_law_odd" = true) (k16 : PySem.W.keepIn K (.ref f16) = true)
    (a17 : PySem.W.nsIn K mainGlobals "_law_rid" = some (some (.ref f17))) (l17 : K.lookup f17 = some ⟨oc17, od17, .func (PySem.W.fnOf "_law_rid" "_law_rid" (defArgs s_law_rid) (defBody s_law_rid) (defScope s_law_rid) .none kV17 dc17 pm17 an17 cd17 ct17), sl17⟩) (c17 : PySem.W.codeIn K cd17 "_law_rid" = true) (k17 : PySem.W.keepIn K (.ref f17) = true)
    (a18 : PySem.W.nsIn K mainGlobals "_law_lists" = some (some (.ref f18))) (l18 : K.lookup f18 = some ⟨oc18, od18, .func (PySem.W.fnOf "_law_lists" "_law_lists" (defArgs s_law_lists) (defBody s_law_lists) (defScope s_law_lists) .none kV18 dc18 pm18 an18 cd18 ct18), sl18⟩) (c18 : PySem.W.codeIn K cd18 "_law_lists" = true) (k18 : PySem.W.keepIn K (.ref f18) = true)
    (a19 : PySem.W.nsIn K mainGlobals "_law_whole" = some (some (.ref f19))) (l19 : K.lookup f19 = some ⟨oc19, od19, .func (PySem.W.fnOf "_law_whole" "_law_whole" (defArgs s_law_whole) (defBody s_law_whole) (defScope s_law_whole) .none kV19 dc19 pm19 an19 cd19 ct19), sl19⟩) (c19 : PySem.W.codeIn K cd19 "_law_whole" = true) (k19 : PySem.W.keepIn K (.ref f19) = true)
    (a20 : PySem.W.nsIn K mainGlobals "_law_like" = some (some (.ref f20))) (l20 : K.lookup f20 = some ⟨oc20, od20, .func (PySem.W.fnOf "_law_like" "_law_like" (defArgs s_law_like) (defBody s_law_like) (defScope s_law_like) .none kV20 dc20 pm20 an20 cd20 ct20), sl20⟩) (c20 : PySem.W.codeIn K cd20 "_law_like" = true) (k20 : PySem.W.keepIn K (.ref f20) = true)
    (a21 : PySem.W.nsIn K mainGlobals "_law_truth" = some (some (.ref f21))) (l21 : K.lookup f21 = some ⟨oc21, od21, .func (PySem.W.fnOf "_law_truth" "_law_truth" (defArgs s_law_truth) (defBody s_law_truth) (defScope s_law_truth) .none kV21 dc21 pm21 an21 cd21 ct21), sl21⟩) (c21 : PySem.W.codeIn K cd21 "_law_truth" = true) (k21 : PySem.W.keepIn K (.ref f21) = true)
    (a22 : PySem.W.nsIn K mainGlobals "_law_int" = some (some (.ref f22))) (l22 : K.lookup f22 = some ⟨oc22, od22, .func (PySem.W.fnOf "_law_int" "_law_int" (defArgs s_law_int) (defBody s_law_int) (defScope s_law_int) .none kV22 dc22 pm22 an22 cd22 ct22), sl22⟩) (c22 : PySem.W.codeIn K cd22 "_law_int" = true) (k22 : PySem.W.keepIn K (.ref f22) = true)
    (a23 : PySem.W.nsIn K mainGlobals "_law_is_name" = some (some (.ref f23))) (l23 : K.lookup f23 = some ⟨oc23, od23, .func (PySem.W.fnOf "_law_is_name" "_law_is_name" (defArgs s_law_is_name) (defBody s_law_is_name) (defScope s_law_is_name) .none kV23 dc23 pm23 an23 cd23 ct23), sl23⟩) (c23 : PySem.W.codeIn K cd23 "_law_is_name" = true) (k23 : PySem.W.keepIn K (.ref f23) = true)
    (a24 : PySem.W.nsIn K mainGlobals "_law_is_wire" = some (some (.ref f24))) (l24 : K.lookup f24 = some ⟨oc24, od24, .func (PySem.W.fnOf "_law_is_wire" "_law_is_wire" (defArgs s_law_is_wire) (defBody s_law_is_wire) (defScope s_law_is_wire) .none kV24 dc24 pm24 an24 cd24 ct24), sl24⟩) (c24 : PySem.W.codeIn K cd24 "_law_is_wire" = true) (k24 : PySem.W.keepIn K (.ref f24) = true)
    (a25 : PySem.W.nsIn K mainGlobals "_law_is_filling" = some (some (.ref f25))) (l25 : K.lookup f25 = some ⟨oc25, od25, .func (PySem.W.fnOf "_law_is_filling" "_law_is_filling" (defArgs s_law_is_filling) (defBody s_law_is_filling) (defScope s_law_is_filling) .none kV25 dc25 pm25 an25 cd25 ct25), sl25⟩) (c25 : PySem.W.codeIn K cd25 "_law_is_filling" = true) (k25 : PySem.W.keepIn K (.ref f25) = true)
    (a26 : PySem.W.nsIn K mainGlobals "_law_no_wire" = some (some (.ref f26))) (l26 : K.lookup f26 = some ⟨oc26, od26, .func (PySem.W.fnOf "_law_no_wire" "_law_no_wire" (defArgs s_law_no_wire) (defBody s_law_no_wire) (defScope s_law_no_wire) .none kV26 dc26 pm26 an26 cd26 ct26), sl26⟩) (c26 : PySem.W.codeIn K cd26 "_law_no_wire" = true) (k26 : PySem.W.keepIn K (.ref f26) = true)
    (a27 : PySem.W.nsIn K mainGlobals "_law_no_name" = some (some (.ref f27))) (l27 : K.lookup f27 = some ⟨oc27, od27, .func (PySem.W.fnOf "_law_no_name" "_law_no_name" (defArgs s_law_no_name) (defBody s_law_no_name) (defScope s_law_no_name) .none kV27 dc27 pm27 an27 cd27 ct27), sl27⟩) (c27 : PySem.W.codeIn K cd27 "_law_no_name" = true) (k27 : PySem.W.keepIn K (.ref f27) = true)
    (a28 : PySem.W.nsIn K mainGlobals "_law_spoilt_row" = some (some (.ref f28))) (l28 : K.lookup f28 = some ⟨oc28, od28, .func (PySem.W.fnOf "_law_spoilt_row" "_law_spoilt_row" (defArgs s_law_spoilt_row) (defBody s_law_spoilt_row) (defScope s_law_spoilt_row) .none kV28 dc28 pm28 an28 cd28 ct28), sl28⟩) (c28 : PySem.W.codeIn K cd28 "_law_spoilt_row" = true) (k28 : PySem.W.keepIn K (.ref f28) = true)
    (a29 : PySem.W.nsIn K mainGlobals "_law_by_number" = some (some (.ref f29))) (l29 : K.lookup f29 = some ⟨oc29, od29, .func (PySem.W.fnOf "_law_by_number" "_law_by_number" (defArgs s_law_by_number) (defBody s_law_by_number) (defScope s_law_by_number) .none kV29 dc29 pm29 an29 cd29 ct29), sl29⟩) (c29 : PySem.W.codeIn K cd29 "_law_by_number" = true) (k29 : PySem.W.keepIn K (.ref f29) = true)
    (a30 : PySem.W.nsIn K mainGlobals "_law_its_number" = some (some (.ref f30))) (l30 : K.lookup f30 = some ⟨oc30, od30, .func (PySem.W.fnOf "_law_its_number" "_law_its_number" (defArgs s_law_its_number) (defBody s_law_its_number) (defScope s_law_its_number) .none kV30 dc30 pm30 an30 cd30 ct30), sl30⟩) (c30 : PySem.W.codeIn K cd30 "_law_its_number" = true) (k30 : PySem.W.keepIn K (.ref f30) = true)
    (a31 : PySem.W.nsIn K mainGlobals "_law_drawn_sizes" = some (some (.ref f31))) (l31 : K.lookup f31 = some ⟨oc31, od31, .func (PySem.W.fnOf "_law_drawn_sizes" "_law_drawn_sizes" (defArgs s_law_drawn_sizes) (defBody s_law_drawn_sizes) (defScope s_law_drawn_sizes) .none kV31 dc31 pm31 an31 cd31 ct31), sl31⟩) (c31 : PySem.W.codeIn K cd31 "_law_drawn_sizes" = true) (k31 : PySem.W.keepIn K (.ref f31) = true)
    (a32 : PySem.W.nsIn K mainGlobals "law" = some (some (.ref f32))) (l32 : K.lookup f32 = some ⟨oc32, od32, .func (PySem.W.fnOf "law" "law" (defArgs slaw) (defBody slaw) (defScope slaw) .none kV32 dc32 pm32 an32 cd32 ct32), sl32⟩) (c32 : PySem.W.codeIn K cd32 "law" = true) (k32 : PySem.W.keepIn K (.ref f32) = true)
    (a33 : PySem.W.nsIn K mainGlobals "is_whole" = some (some (.ref f33))) (l33 : K.lookup f33 = some ⟨oc33, od33, .func (PySem.W.fnOf "is_whole" "is_whole" (defArgs sis_whole) (defBody sis_whole) (defScope sis_whole) (.ref T33) kV33 dc33 pm33 an33 cd33 ct33), sl33⟩) (c33 : PySem.W.codeIn K cd33 "is_whole" = true) (k33 : PySem.W.keepIn K (.ref f33) = true)
    (a34 : PySem.W.nsIn K mainGlobals "is_sequence" = some (some (.ref f34))) (l34 : K.lookup f34 = some ⟨oc34, od34, .func (PySem.W.fnOf "is_sequence" "is_sequence" (defArgs sis_sequence) (defBody sis_sequence) (defScope sis_sequence) (.ref T34) kV34 dc34 pm34 an34 cd34 ct34), sl34⟩) (c34 : PySem.W.codeIn K cd34 "is_sequence" = true) (k34 : PySem.W.keepIn K (.ref f34) = true)
    (lT0 : K.lookup T33 = some ⟨cT0, dT0, .seq #[.none, .none] nT0, sT0⟩) (lT1 : K.lookup T34 = some ⟨cT1, dT1, .seq #[.none] nT1, sT1⟩)
    (n_len : PySem.W.nsIn K mainGlobals "len" = some none)
    (n_abs : PySem.W.nsIn K mainGlobals "abs" = some none)
    (n_int : PySem.W.nsIn K mainGlobals "int" = some none)
    (n_range : PySem.W.nsIn K mainGlobals "range" = some none)
    (n_bool : PySem.W.nsIn K mainGlobals "bool" = some none)
    (n_tuple : PySem.W.nsIn K mainGlobals "tuple" = some none)
    (n_list : PySem.W.nsIn K mainGlobals "list" = some none)
    (n_str : PySem.W.nsIn K mainGlobals "str" = some none)
    (n_isinstance : PySem.W.nsIn K mainGlobals "isinstance" = some none)
    (n_zip : PySem.W.nsIn K mainGlobals "zip" = some none)
    (n_reversed : PySem.W.nsIn K mainGlobals "reversed" = some none)
    (n_divmod : PySem.W.nsIn K mainGlobals "divmod" = some none)
    {lT nT : Tok} (gL : PySem.W.nsIn K mainGlobals "LETTERS" = some (some (.str "abcdefghijklmnopqrstuvwxyz" lT))) (gN : PySem.W.nsIn K mainGlobals "LONGEST_NAME" = some (some (.int 8 nT)))
    {C LE fI N : Addr} {nm q : Str} {bs : List Value} {sn : List Str} {sub : List Value} {ab : Bool} {col : Option Bool} {dd : Option Addr} {m0 m1 m2 m3 m5 : Option Value} {oci : Value} {odi ani : Option Addr} {sli : Array (Option Value)} {dci pmi cdi cti : Value}
    (aC : PySem.W.nsIn K mainGlobals "NoFilling" = some (some (.ref C)))
    (xL : K.lookup C = some (PySem.excClassObj nm q C N bs [.ref LE, .type "ValueError", .type "Exception", .type "BaseException", .type "object"] true sn sub ab col dd m0 m1 m2 m3 m5 "ValueError.__new__"))
    (sa : PySem.W.findIn K (.ref C) "__setattr__" = some (some (.builtin "object.__setattr__"))) (ga : PySem.W.findIn K (.ref C) "__getattribute__" = some (some (.builtin "BaseException.__getattribute__"))) (gg : PySem.W.findIn K (.ref C) "__getattr__" = some none) (nb : PySem.W.findIn K (.ref C) "thing" = some none)
    (ai : PySem.W.findIn K (.ref C) "__init__" = some (some (.ref fI))) (ti : PySem.W.typeIn K (.ref fI) = some (.type "function"))
    (li : K.lookup fI = some ⟨oci, odi, .func (PySem.W.fnOf "__init__" "NoFilling.__init__" (PySem.LowX.iA ⟨6, 17, 6, 21⟩ ⟨6, 23, 6, 28⟩) (PySem.LowX.iB ⟨7, 8, 7, 12⟩ ⟨7, 8, 7, 18⟩ ⟨7, 21, 7, 26⟩ ⟨7, 8, 7, 26⟩) PySem.LowX.iS .none .none dci pmi ani cdi cti), sli⟩) (ci : PySem.W.codeIn K cdi "NoFilling.__init__" = true)
    (kC : PySem.W.keepIn K (.ref C) = true) (eC : PySem.W.subIn K (.ref C) (.type "BaseException") = some true) (tC : PySem.W.typeIn K (.ref C) = some (.type "type")) (hC : PySem.W.hasDictIn K C = true) (iC : PySem.W.isClsIn K C = true) (sC : PySem.W.subIn K (.ref C) (.ref C) = some true) :
    ∃ fd : FuncData, (∀ (s : Shared) (v : Value), BindsTo s fd ⟨[v], []⟩ [("_law_script", v)]) ∧ ∀ base : Heap, K.In base → base.Ns mainGlobals mg → FnOk l.prog w K mg base CX0 5 fa fd ["_law_script"] (spLaw K) := by
  refine all_mk X G hfa ?_
  exact {
    f_law_hand := f0, d_law_hand := _, h_law_hand := at_mk a0 l0 c0 k0,
    f_law_mixed := f1, d_law_mixed := _, h_law_mixed := at_mk a1 l1 c1 k1,
    f_law_take := f2, d_law_take := _, h_law_take := at_mk a2 l2 c2 k2,
    f_fillings_of := f3, d_fillings_of := _, h_fillings_of := at_mk a3 l3 c3 k3,
    f_is_name := f4, d_is_name := _, h_is_name := at_mk a4 l4 c4 k4,
    f_is_wire := f5, d_is_wire := _, h_is_wire := at_mk a5 l5 c5 k5,
    f_is_filling := f6, d_is_filling := _, h_is_filling := at_mk a6 l6 c6 k6,
    f_count_fillings := f7, d_count_fillings := _, h_count_fillings := at_mk a7 l7 c7 k7,
    f_filling_number := f8, d_filling_number := _, h_filling_number := at_mk a8 l8 c8 k8,
    f_filling_by_number := f9, d_filling_by_number := _, h_filling_by_number := at_mk a9 l9 c9 k9,
    f_law_many := f10, d_law_many := _, h_law_many := at_mk a10 l10 c10 k10,
    f_law_filling := f11, d_law_filling := _, h_law_filling := at_mk a11 l11 c11 k11,
    f_law_fillings := f12, d_law_fillings := _, h_law_fillings := at_mk a12 l12 c12 k12,
    f_law_number := f13, d_law_number := _, h_law_number := at_mk a13 l13 c13 k13,
    f_law_name := f14, d_law_name := _, h_law_name := at_mk a14 l14 c14 k14,
    f_law_tuples := f15, d_law_tuples := _, h_law_tuples := at_mk a15 l15 c15 k15,
    f_law_odd := f16, d_law_odd := _, h_law_odd := at_mk a16 l16 c16 k16,
    f_law_rid := f17, d_law_rid := _, h_law_rid := at_mk a17 l17 c17 k17,
    f_law_lists := f18, d_law_lists := _, h_law_lists := at_mk a18 l18 c18 k18,
    f_law_whole := f19, d_law_whole := _, h_law_whole := at_mk a19 l19 c19 k19,
    f_law_like := f20, d_law_like := _, h_law_like := at_mk a20 l20 c20 k20,
    f_law_truth := f21, d_law_truth := _, h_law_truth := at_mk a21 l21 c21 k21,
    f_law_int := f22, d_law_int := _, h_law_int := at_mk a22 l22 c22 k22,
    f_law_is_name := f23, d_law_is_name := _, h_law_is_name := at_mk a23 l23 c23 k23,
    f_law_is_wire := f24, d_law_is_wire := _, h_law_is_wire := at_mk a24 l24 c24 k24,
    f_law_is_filling := f25, d_law_is_filling := _, h_law_is_filling := at_mk a25 l25 c25 k25,
    f_law_no_wire := f26, d_law_no_wire := _, h_law_no_wire := at_mk a26 l26 c26 k26,
    f_law_no_name := f27, d_law_no_name := _, h_law_no_name := at_mk a27 l27 c27 k27,
    f_law_spoilt_row := f28, d_law_spoilt_row := _, h_law_spoilt_row := at_mk a28 l28 c28 k28,
    f_law_by_number := f29, d_law_by_number := _, h_law_by_number := at_mk a29 l29 c29 k29,
    f_law_its_number := f30, d_law_its_number := _, h_law_its_number := at_mk a30 l30 c30 k30,
    f_law_drawn_sizes := f31, d_law_drawn_sizes := _, h_law_drawn_sizes := at_mk a31 l31 c31 k31,
    f_law := f32, d_law := _, h_law := at_mk a32 l32 c32 k32,
    f_is_whole := f33, d_is_whole := _, h_is_whole := ⟨a33, ⟨⟨_, _, _, _, _, _, _, _, _, _, rfl, l33, c33, .inr ⟨by simp, T33, _, [.none, .none], _, rfl, lT0, rfl, .cons rfl (.cons rfl .nil)⟩, .inl rfl⟩, k33⟩⟩,
    f_is_sequence := f34, d_is_sequence := _, h_is_sequence := ⟨a34, ⟨⟨_, _, _, _, _, _, _, _, _, _, rfl, l34, c34, .inr ⟨by simp, T34, _, [.none], _, rfl, lT1, rfl, .cons rfl .nil⟩, .inl rfl⟩, k34⟩⟩,
    n_len := n_len,
    n_abs := n_abs,
    n_int := n_int,
    n_range := n_range,
    n_bool := n_bool,
    n_tuple := n_tuple,
    n_list := n_list,
    n_str := n_str,
    n_isinstance := n_isinstance,
    n_zip := n_zip,
    n_reversed := n_reversed,
    n_divmod := n_divmod,
    lT := lT, gL := gL, nT := nT, gN := gN,
    C := C, fI := fI, aC := aC,
    low := fun mg' e => ⟨e, ⟨nm, q, N, bs, _, sn, sub, ab, col, dd, m0, m1, m2, m3, m5, xL, rfl⟩, sa, ga, gg, nb, ai, ti, kC, eC, tC, hC, exm_self eC iC tC sC, ⟨_, _, _, _, _, _, _, _, _, _, _, _, _, _, li, ci⟩⟩ }
end K02
set_option Elab.async false
set_option linter.all false
set_option maxRecDepth 100000
open PySem PySem.W PyProof.Rows
set_option maxRecDepth 100000 in
set_option maxHeartbeats 0 in
theorem PySem.Challenge.cw_alreadytold_k02_whole_wires_and_fillings_holds : PySem.Challenge.rw_alreadytold_k02_whole_wires_and_fillings.Holds := by
  w_on; o_law; k_head; (case hw => w_witness2)
  k_fill
  refine K02.walk (l := PySem.Challenge.rw_alreadytold_k02_whole_wires_and_fillings) rfl rfl (fun w h Y => PySem.W.kIn_of Y) ?F
  case F =>
    intro w mg fa h KX G hmg
    refine' K02.fin KX G hmg ?a0 ?l0 ?c0 ?k0 ?a1 ?l1 ?c1 ?k1 ?a2 ?l2 ?c2 ?k2 ?a3 ?l3 ?c3 ?k3 ?a4 ?l4 ?c4 ?k4 ?a5 ?l5 ?c5 ?k5 ?a6 ?l6 ?c6 ?k6 ?a7 ?l7 ?c7 ?k7 ?a8 ?l8 ?c8 ?k8 ?a9 ?l9 ?c9 ?k9 ?a10 ?l10 ?c10 ?k10 ?a11 ?l11 ?c11 ?k11 ?a12 ?l12 ?c12 ?k12 ?a13 ?l13 ?c13 ?k13 ?a14 ?l14 ?c14 ?k14 ?a15 ?l15 ?c15 ?k15 ?a16 ?l16 ?c16 ?k16 ?a17 ?l17 ?c17 ?k17 ?a18 ?l18 ?c18 ?k18 ?a19 ?l19 ?c19 ?k19 ?a20 ?l20 ?c20 ?k20 ?a21 ?l21 ?c21 ?k21 ?a22 ?l22 ?c22 ?k22 ?a23 ?l23 ?c23 ?k23 ?a24 ?l24 ?c24 ?k24 ?a25 ?l25 ?c25 ?k25 ?a26 ?l26 ?c26 ?k26 ?a27 ?l27 ?c27 ?k27 ?a28 ?l28 ?c28 ?k28 ?a29 ?l29 ?c29 ?k29 ?a30 ?l30 ?c30 ?k30 ?a31 ?l31 ?c31 ?k31 ?a32 ?l32 ?c32 ?k32 ?a33 ?l33 ?c33 ?k33 ?a34 ?l34 ?c34 ?k34 ?lT0 ?lT1 ?n_len ?n_abs ?n_int ?n_range ?n_bool ?n_tuple ?n_list ?n_str ?n_isinstance ?n_zip ?n_reversed ?n_divmod ?gL ?gN ?aC ?xL ?sa ?ga ?gg ?nb ?ai ?ti ?li ?ci ?kC ?eC ?tC ?hC ?iC ?sC
    (case a0 => k_is)
    (case l0 => k_is)
    (case c0 => k_is)
    (case k0 => k_is)
    (case a1 => k_is)
    (case l1 => k_is)
    (case c1 => k_is)
    (case k1 => k_is)
    (case a2 => k_is)
    (case l2 => k_is)
    (case c2 => k_is)
    (case k2 => k_is)
    (case a3 => k_is)
    (case l3 => k_is)
    (case c3 => k_is)
    (case k3 => k_is)
    (case a4 => k_is)
    (case l4 => k_is)
    (case c4 => k_is)
    (case k4 => k_is)
    (case a5 => k_is)
    (case l5 => k_is)
    (case c5 => k_is)
    (case k5 => k_is)
    (case a6 => k_is)
    (case l6 => k_is)
    (case c6 => k_is)
    (case k6 => k_is)
    (case a7 => k_is)
    (case l7 => k_is)
    (case c7 => k_is)
    (case k7 => k_is)
    (case a8 => k_is)
    (case l8 => k_is)
    (case c8 => k_is)
    (case k8 => k_is)
    (case a9 => k_is)
    (case l9 => k_is)
    (case c9 => k_is)
    (case k9 => k_is)
    (case a10 => k_is)
    (case l10 => k_is)
    (case c10 => k_is)
    (case k10 => k_is)
    (case a11 => k_is)
    (case l11 => k_is)
    (case c11 => k_is)
    (case k11 => k_is)
    (case a12 => k_is)
    (case l12 => k_is)
    (case c12 => k_is)
    (case k12 => k_is)
    (case a13 => k_is)
    (case l13 => k_is)
    (case c13 => k_is)
    (case k13 => k_is)
    (case a14 => k_is)
    (case l14 => k_is)
    (case c14 => k_is)
    (case k14 => k_is)
    (case a15 => k_is)
    (case l15 => k_is)
    (case c15 => k_is)
    (case k15 => k_is)
    (case a16 => k_is)
    (case l16 => k_is)
    (case c16 => k_is)
    (case k16 => k_is)
    (case a17 => k_is)
    (case l17 => k_is)
    (case c17 => k_is)
    (case k17 => k_is)
    (case a18 => k_is)
    (case l18 => k_is)
    (case c18 => k_is)
    (case k18 => k_is)
    (case a19 => k_is)
    (case l19 => k_is)
    (case c19 => k_is)
    (case k19 => k_is)
    (case a20 => k_is)
    (case l20 => k_is)
    (case c20 => k_is)
    (case k20 => k_is)
    (case a21 => k_is)
    (case l21 => k_is)
    (case c21 => k_is)
    (case k21 => k_is)
    (case a22 => k_is)
    (case l22 => k_is)
    (case c22 => k_is)
    (case k22 => k_is)
    (case a23 => k_is)
    (case l23 => k_is)
    (case c23 => k_is)
    (case k23 => k_is)
    (case a24 => k_is)
    (case l24 => k_is)
    (case c24 => k_is)
    (case k24 => k_is)
    (case a25 => k_is)
    (case l25 => k_is)
    (case c25 => k_is)
    (case k25 => k_is)
    (case a26 => k_is)
    (case l26 => k_is)
    (case c26 => k_is)
    (case k26 => k_is)
    (case a27 => k_is)
    (case l27 => k_is)
    (case c27 => k_is)
    (case k27 => k_is)
    (case a28 => k_is)
    (case l28 => k_is)
    (case c28 => k_is)
    (case k28 => k_is)
    (case a29 => k_is)
    (case l29 => k_is)
    (case c29 => k_is)
    (case k29 => k_is)
    (case a30 => k_is)
    (case l30 => k_is)
    (case c30 => k_is)
    (case k30 => k_is)
    (case a31 => k_is)
    (case l31 => k_is)
    (case c31 => k_is)
    (case k31 => k_is)
    (case a32 => k_is)
    (case l32 => k_is)
    (case c32 => k_is)
    (case k32 => k_is)
    (case a33 => k_is)
    (case l33 => k_is)
    (case c33 => k_is)
    (case k33 => k_is)
    (case a34 => k_is)
    (case l34 => k_is)
    (case c34 => k_is)
    (case k34 => k_is)
    (case lT0 => k_is)
    (case lT1 => k_is)
    (case n_len => k_is)
    (case n_abs => k_is)
    (case n_int => k_is)
    (case n_range => k_is)
    (case n_bool => k_is)
    (case n_tuple => k_is)
    (case n_list => k_is)
    (case n_str => k_is)
    (case n_isinstance => k_is)
    (case n_zip => k_is)
    (case n_reversed => k_is)
    (case n_divmod => k_is)
    (case gL => k_is)
    (case gN => k_is)
    (case aC => k_is)
    (case xL => k_is)
    (case sa => k_is)
    (case ga => k_is)
    (case gg => k_is)
    (case nb => k_is)
    (case ai => k_is)
    (case ti => k_is)
    (case li => k_is)
    (case ci => k_is)
    (case kC => k_is)
    (case eC => k_is)
    (case tC => k_is)
    (case hC => k_is)
    (case iC => k_is)
    (case sC => first | rfl | k_is)
