import PyProof.Rows.All
import Wide.All
import OpenK.AllK
import Wide.FinOn
import HandS.ForMost
import HandS.More
import HandS.Flow
import HandS.Style
import HandS.TupAny
import HandS.TupMul
import HandS.Deep
import HandS.IsInst
import HandS.Strs
import HandS.Walk
import HandS.Exc
import HandS.ExcOwn
import HandS.TryOnly
import HandS.WordsExc
import HandS.ExcIs
import HandS.TryMany
import HandS.Ends
import KE.DataMinMax
import HandS.RaiseMore
import PySem.Challenge.RW_tautropes_k10_whole_powers_and_roots
set_option Elab.async false
set_option linter.all false
set_option maxRecDepth 100000
set_option maxHeartbeats 4000000
namespace TT
open PySem PySem.Spec PyProof.Rows L2
/-! own layer over HandS: what is known, steps, a def by its promise -/

/-! ### a def by its promise -/
def Df (P : Program) (w : World) (K : PySem.W.Frag) (mg : Str → Option Value) (base : Heap) (CX : CXT) (k : Nat) (x : Str) (ps : List Str) (sp : Sp) : Prop :=
  ∃ f fd, FnOk P w K mg base CX k f fd ps sp ∧ mg x = some (.ref f) ∧ PySem.W.keepIn K (.ref f) = true ∧ Binds K fd ps []
section
variable {X : Cx} {CX : CXT} {k k' : Nat} {ps : List Str} {sp : Sp} {E : XK} {x : Str} {p pos : Pos} {e : Expr} {es : List Expr} {t : TA}
theorem pe_df (F : Df X.prog X.w X.K X.mg X.base CX k x ps sp) (hr : Room k' X.A) (hg : Gl X x) (hx : Passes CX X E) (ha : PA X (e :: es) t) (hk : k ≤ k' := by decide)
    (hdb : (x == ("__debug__" : Str)) = false := by decide) (he : starEach (e :: es) X.env = (false, eval e X.env) :: starEach es X.env := by rfl) (hpl : (backTo pos (starEach es X.env)).any (·.1) = false := by rfl) :
    PE X (.Call (.Name x p) (e :: es) [] pos) (tCall sp [] E t) := by
  obtain ⟨f, fd, F, hm, hkp, hb⟩ := F
  exact pe_call F (hr.mono hk) hg hm hkp hb .nil hx ha hdb he hpl
end

/-! ### what is known -/
/-- M: what may be changed; G is known of H, G' of H' -/
structure Stp (M : Addr → Prop) (G H G' H' : Hp) : Prop where
  up : ∀ a o, ¬ M a → H a = some o → H' a = some o
  gg : Same G G'
  gh : Same G' H'
  fr : ∀ a o, H a = some o → G' a = G a
  th : ∀ a o, H a = some o → ∃ o', H' a = some o'
abbrev M0 : Addr → Prop := fun _ => False
abbrev M1 (p : Addr) : Addr → Prop := fun a => a = p
section
variable {M : Addr → Prop} {G H G' H' G1 H1 : Hp} {a p r o : Addr} {x u : HO}
theorem Stp.refl (h : Same G H) : Stp M G H G H := ⟨fun _ _ _ e => e, Same.refl G, h, fun _ _ _ => rfl, fun _ o e => ⟨o, e⟩⟩
theorem Stp.trans (s : Stp M G H G1 H1) (t : Stp M G1 H1 G' H') : Stp M G H G' H' :=
  ⟨fun a o n e => t.up a o n (s.up a o n e), s.gg.trans t.gg, t.gh, fun a o e => by
    obtain ⟨o', e'⟩ := s.th a o e
    exact (t.fr a o' e').trans (s.fr a o e), fun a o e => by
    obtain ⟨o', e'⟩ := s.th a o e
    exact t.th a o' e'⟩
theorem Stp.weak (s : Stp M0 G H G' H') : Stp M G H G' H' := ⟨fun a o _ e => s.up a o (fun z => z) e, s.gg, s.gh, s.fr, s.th⟩
/-- then a step that changes M1 alone, all of M1 being new since the first -/
theorem Stp.inner {M' : Addr → Prop} (s : Stp M G H G1 H1) (t : Stp M' G1 H1 G' H') (h : ∀ a, M' a → M a ∨ H a = none) : Stp M G H G' H' := by
  refine ⟨fun a o n e => ?_, s.gg.trans t.gg, t.gh, fun a o e => ?_, fun a o e => ?_⟩
  · refine t.up a o (fun z => ?_) (s.up a o n e)
    rcases h a z with q | q
    · exact n q
    · rw [e] at q
      cases q
  · obtain ⟨o', e'⟩ := s.th a o e
    exact (t.fr a o' e').trans (s.fr a o e)
  · obtain ⟨o', e'⟩ := s.th a o e
    exact t.th a o' e'
theorem none_of (h : Same G H) (e : H a = none) : G a = none := h.free e
theorem Stp.free (s : Stp M G H G' H') (e : H' a = none) : H a = none := by
  cases q : H a with
  | none => rfl
  | some o => obtain ⟨o', z⟩ := s.th a o q; rw [e] at z; cases z
theorem same_new {H : Hp} (h : H p = none) : Same H (upd H p x) := fun b o e => by
  rw [upd_ne (ne_of_none e h)]; exact e
/-- a new object, known -/
theorem Stp.new (h : Same G H) (n : H r = none) : Stp M G H (upd G r x) (upd H r x) :=
  ⟨fun a o _ e => same_new n a o e, same_new (none_of h n), fun a o e => by
    by_cases z : a = r
    · subst z; rw [upd_same] at e ⊢; exact e
    · rw [upd_ne z] at e ⊢; exact h a o e, fun a o e => by rw [upd_ne (ne_of_none e n)], fun a o e => ⟨o, same_new n a o e⟩⟩
/-- a new object that will change -/
theorem Stp.newM (h : Same G H) (n : H r = none) : Stp M G H G (upd H r x) :=
  ⟨fun a o _ e => same_new n a o e, Same.refl G, h.trans (same_new n), fun _ _ _ => rfl, fun a o e => ⟨o, same_new n a o e⟩⟩
/-- what is not known changes -/
theorem Stp.mut (h : Same G H) (e : H r = some u) (g : G r = none) (m : M r) : Stp M G H G (upd H r x) :=
  ⟨fun a o n z => by
    rw [upd_ne (fun q => n (by rw [q]; exact m))]; exact z, Same.refl G, fun a o z => by
    rw [upd_ne (ne_of_none z g)]; exact h a o z, fun _ _ _ => rfl, fun a o z => by
    by_cases q : a = r
    · subst q; exact ⟨x, upd_same⟩
    · exact ⟨o, by rw [upd_ne q]; exact z⟩⟩
/-- from now on it is known -/
theorem Stp.freeze (s : Stp M G H G' H') (e : H' r = some x) (n : H r = none) (g : G' r = none) : Stp M G H (upd G' r x) H' :=
  ⟨s.up, s.gg.trans (same_new g), fun a o z => by
    by_cases q : a = r
    · subst q; rw [upd_same] at z; rw [e]; exact z
    · rw [upd_ne q] at z; exact s.gh a o z, fun a o z => by rw [upd_ne (ne_of_none z n)]; exact s.fr a o z, s.th⟩
end
theorem Same.sqt {K : PySem.W.Frag} {H H' : Hp} {a : Addr} {xs : List V} (e : Same H H') (h : SqT K H a xs) : SqT K H' a xs := by
  rcases h with (h | ⟨o, h⟩) | h
  · exact .inl (.inl (e _ _ h))
  · exact .inl (.inr ⟨o, e _ _ h⟩)
  · exact .inr h
mutual
theorem Same.dp {K : PySem.W.Frag} {H H' : Hp} (e : Same H H') : ∀ {v : V} {d : PyData}, Dp K H v d → Dp K H' v d
  | _, _, .non => .non
  | _, _, .bl b => .bl b
  | _, _, .int i => .int i
  | _, _, .str x => .str x
  | _, _, .lst s a => .lst (e.seq s) (Same.dps e a)
  | _, _, .tup s a => .tup (Same.sqt e s) (Same.dps e a)
theorem Same.dps {K : PySem.W.Frag} {H H' : Hp} (e : Same H H') : ∀ {vs : List V} {ds : List PyData}, DpAll K H vs ds → DpAll K H' vs ds
  | _, _, .nil => .nil
  | _, _, .cons h t => .cons (Same.dp e h) (Same.dps e t)
end
theorem lof {K : PySem.W.Frag} {H : Hp} {a : Addr} {xs : List V} (h : H a = some (.lst xs)) : SqL K H a xs := .inl (.inl h)
theorem tof {K : PySem.W.Frag} {H : Hp} {a : Addr} {xs : List V} (h : H a = some (.tup xs)) : SqT K H a xs := .inl (.inl h)

/-! ### t[::-1] -/
theorem places_rev (n : Nat) : Builtin.Slice.slicePlaces ((n : Int) - 1) (-1) (-1) = n := by
  unfold Builtin.Slice.slicePlaces
  have h1 : ¬ ((-1 : Int) > 0) := by decide
  simp only [h1, if_false]
  split
  · rw [show (- -1 : Int) = 1 by decide, Int.ediv_one]; omega
  · omega
theorem fm_congr {α β : Type} {f g : α → Option β} : ∀ {l : List α}, (∀ x ∈ l, f x = g x) → l.filterMap f = l.filterMap g
  | [], _ => rfl
  | x :: l, h => by
    rw [List.filterMap_cons, List.filterMap_cons, h x List.mem_cons_self, fm_congr fun y hy => h y (List.mem_cons_of_mem _ hy)]
theorem pick_rev (xs : Array Value) : ((List.range xs.size).filterMap fun (k : Nat) => xs[(((xs.size : Int) - 1) + (k : Int) * (-1)).toNat]?).toArray = xs.toList.reverse.toArray := by
  have e : (fun (k : Nat) => xs[(((xs.size : Int) - 1) + (k : Int) * (-1)).toNat]?) = fun (k : Nat) => xs[(((xs.size : Int) - 1) - (k : Int)).toNat]? := by
    funext k
    rw [Int.mul_neg_one, ← Int.sub_eq_add_neg]
  have h := PySem.W.krv_pick xs
  unfold slicePick at h
  rw [PySem.W.krv_bounds] at h
  have h2 : ((sliceRange ((xs.size : Int) - 1) (-1) (-1)).filterMap (xs[·]?)).toArray = xs.toList.reverse.toArray := h
  rw [PySem.W.krv_sliceRange, List.filterMap_map] at h2
  rw [e, ← h2]
  congr 1
  refine fm_congr fun k hk => ?_
  have hk' := List.mem_range.mp hk
  show xs[(((xs.size : Int) - 1) - (k : Int)).toNat]? = xs[xs.size - 1 - k]?
  congr 1
  omega
theorem getItem_tuple_rev {prog : Program} {w : World} {A : Around} {E : Value → Shared → Prop} {s : Shared} {t sl : Addr} {items : Array Value} {vk : Value} {Q : Value → Shared → Prop} (ht : IsTup s.heap t items) (hs : s.heap.IsSliceOf sl .none .none vk) (pk : IsPart vk (some (-1)))
    (h : Q (.ref s.heap.objs.size) { s with heap := s.heap.push { cls := .type "tuple", data := .seq items.toList.reverse.toArray } }) (hsz : items.size ≤ sizeLine) : wpAny (model prog w) A (getItem (.ref t) (.ref sl)) Q E s := by
  have htake : sizeOk (.seq items.toList.reverse.toArray) := by
    show items.toList.reverse.toArray.size ≤ sizeLine
    rw [List.size_toArray, List.length_reverse, Array.length_toList]
    exact hsz
  obtain ⟨os, hos, hcs, hds⟩ := id hs
  have hTs : s.TypeIs (.ref sl) "slice" := ⟨os, hos, hcs⟩
  unfold getItem
  try with_reducible refine wpAny_holding ?_
  first | refine wpAny_bind (wpAny_pure ?_) | skip
  refine wpAny_bind (wpAny_sequenceKey ht.typeIs (by decide) ?_)
  refine wpAny_bind (wpAny_callSpecial?_slot (name := Str.ofString "__getitem__") ht.typeIs PyProof.Rows.slot_tuple_getitem
    (wpAny_call_entry PyProof.Rows.slot_tuple_getitem ht.typeIs entry_tuple_getitem ?_ (args_tuple_getitem _ _)))
  show wpAny _ _ (Builtin.Tuple.tupleItemsOf (.ref t) >>= _) _ _ s
  refine wpAny_bind (tupleItemsOf_ ht ?_)
  refine wpAny_bind (wpAny_typeOf hTs ?_)
  rw [if_pos (by decide)]
  have happ : ∀ {A' : Around} {E' : Value → Shared → Prop} {Q' : Int × Int × Nat → Shared → Prop}, Q' ((items.size : Int) - 1, -1, items.size) s → wpAny (model prog w) A' (Builtin.Slice.sliceApplied (.ref sl) (pure (items.size : Int))) Q' E' s := by
    intro A' E' Q' hq
    unfold Builtin.Slice.sliceApplied Builtin.Slice.sliceFields
    refine wpAny_bind (wpAny_bind (wpAny_field hos hds (x := .none) rfl (wpAny_bind (wpAny_field hos hds (x := .none) rfl (wpAny_bind (wpAny_field hos hds (x := vk) rfl (wpAny_pure ?_)))))))
    refine wpAny_bind (HT.slicePart_ pk ?_)
    show wpAny _ _ (if ((-1 : Int) == 0) = true then _ else _) _ _ s
    rw [if_neg (by decide)]
    refine wpAny_bind (HT.slicePart_ .none (wpAny_bind (HT.slicePart_ .none (wpAny_bind (wpAny_pure ?_)))))
    show wpAny _ _ (pure ((items.size : Int) - 1, (-1 : Int), Builtin.Slice.slicePlaces ((items.size : Int) - 1) (-1) (-1))) _ _ s
    rw [places_rev]
    exact wpAny_pure hq
  refine wpAny_bind (happ ?_)
  have hno : ¬ ((((items.size : Int) - 1) == 0 && (-1 : Int) == 1 && items.size == items.size) = true) := by
    intro q
    rw [Bool.and_eq_true, Bool.and_eq_true] at q
    have q1 := q.1.2
    revert q1
    decide
  show wpAny _ _ (if (((items.size : Int) - 1) == 0 && (-1 : Int) == 1 && items.size == items.size) = true then _ else _) _ _ s
  rw [if_neg hno, pick_rev]
  first
    | exact wpAny_bind (m := Builtin.Tuple.tupleExact _) (wpAny_newObj_type (wpAny_pure ⟨_, rfl, wpAny_pure h⟩) htake)
    | exact wpAny_bind (m := Builtin.Tuple.tupleExact _) (wpAny_newObj_type (wpAny_bind (wpAny_pure (wpAny_pure ⟨_, rfl, wpAny_pure h⟩))) htake)
    | exact wpAny_bind (wpAny_bind (m := Builtin.Tuple.tupleExact _) (wpAny_newObj_type (wpAny_pure (wpAny_pure ⟨_, rfl, wpAny_pure h⟩)) htake))
    | exact wpAny_bind (wpAny_bind (m := Builtin.Tuple.tupleExact _) (wpAny_newObj_type (wpAny_pure ⟨_, rfl, wpAny_pure h⟩) htake))
def tRevT (K : PySem.W.Frag) (te : TE) : TE := fun σ H Q => te σ H fun x H1 => ∃ a xs, x = .ref a ∧ SqT K H1 a xs ∧ ∀ p, H1 p = none → Q (.ref p) (upd H1 p (.tup xs.reverse))
theorem pe_revT {X : Cx} {e : Expr} {te : TE} {k : Nat} {p1 p2 p3 pos : Pos} (he : PE X e te) : PE X (.Subscript e (.Slice none none (some (.UnaryOp .USub (.Constant (.int 1) k p1) p2)) p3) pos) (tRevT X.K te) := by
  refine ⟨fun pins s σ H Q I h => ?_⟩
  refine Subscript_ (thn (he.run pins s σ H _ I h) fun v s1 ⟨x, H1, I1, r1, q1⟩ => ?_)
  obtain ⟨a, xs, ex, hx, q⟩ := q1
  subst ex
  cases r1
  have hst : PO X (some (.UnaryOp .USub (.Constant (.int 1) k p1) p2)) (tPart (tUn (rU fun i => .int (-i)) (tC (.int 1)))) := po_some (pe_un un_neg pe_int)
  refine wpAny_Slice (thn (po_none.run pins s1 σ H1 (fun o H2 => o = none ∧ H2 = H1) I1 ⟨rfl, rfl⟩) fun vl s2 ⟨l, H2, I2, pl, el, e2⟩ => ?_)
  subst el e2
  refine thn (po_none.run pins s2 σ H2 (fun o H3 => o = none ∧ H3 = H2) I2 ⟨rfl, rfl⟩) fun vu s3 ⟨u, H3, I3, pu, eu, e3⟩ => ?_
  subst eu e3
  refine thn (hst.run pins s3 σ H3 (fun o H4 => o = some (-1) ∧ H4 = H3) I3 ⟨1, rfl, -1, rfl, rfl, rfl⟩) fun vs s4 ⟨o, H4, I4, ps, eo, e4⟩ => ?_
  subst eo e4
  have I5 : Inv X pins σ H4 { s4 with heap := s4.heap.push { cls := .type "slice", data := .fields #[vl, vu, vs] } } := I4.kept (t' := s4.toks) fun b ob q => Heap.get?_push_of_some _ q
  obtain ⟨its, r, ht, hz⟩ := I5.tuple hx
  have hlen := r.length
  show wpAny (model X.prog X.w) X.A (subscriptTail e (.Slice none none (some (.UnaryOp .USub (.Constant (.int 1) k p1) p2)) p3) (.ref a) (.ref s4.heap.objs.size)) (EP X pins σ Q) X.xe { s4 with heap := s4.heap.push { cls := .type "slice", data := .fields #[vl, vu, vs] } }
  cases pl
  cases pu
  refine tail_any (ops := [.ref a, .ref s4.heap.objs.size]) ht.typeIs (PyProof.Rows.slot_tuple_getitem.lookup) ?_ (by with_unfolding_all rfl)
  refine getItem_tuple_rev ht (Heap.IsSliceOf.new _ .none .none vs) ps ?_ (by rw [List.size_toArray, ← hlen]; exact hz)
  refine ⟨.ref _, _, I5.laid (t' := s4.toks) (o := .tup xs.reverse) (fun b ob q => Heap.get?_push_of_some _ q) (Nat.le_refl _) ?_, rfl, q _ (I5.hok.fresh (Nat.le_refl _))⟩
  exact ⟨by rw [List.length_reverse]; exact hz, _, r.reverse, IsTup.new _ _⟩
/-! readings, one construct at a time: what has to be shown, the rest last -/
section
variable {K : PySem.W.Frag} {σ : L2.St} {H : Hp} {Q : VK} {D : Ends} {v x y z : V} {ta tb tc te td ty tv : TE} {t u : TS} {a b : TT} {tr : TA} {i j k : Int} {n m : Nat} {p q r l : Addr} {xs ys : List V} {R : Bool → Hp → Prop} {RA : List V → Hp → Prop}
/-! statements -/
theorem r_seq (h : t { D with nx := u D } σ H) : tSeq t u D σ H := h
theorem r_next (h : D.nx σ H) : tNext D σ H := h
theorem r_asg {g : TG} (h : te σ H fun x H1 => g x σ H1 D.nx) : tAsg te g D σ H := h
theorem r_gname {N : L2.St → Hp → Prop} (h : N (σ.set n (some v)) H) : gName n v σ H N := h
theorem r_ret (h : te σ H D.rt) : tRet te D σ H := h
theorem r_drop (h : te σ H fun _ H1 => D.nx σ H1) : tDrop te D σ H := h
theorem r_if (h : a σ H fun b H1 => if b = true then t D σ H1 else u D σ H1) : tIfS a t u D σ H := h
theorem r_par (h : tr σ H fun vs H1 => ∃ v w, vs = [v, w] ∧ D.nx ((σ.set n (some v)).set m (some w)) H1) : tPar n m tr D σ H := h
theorem r_par' {P : V → V → Prop} (h : P x y) : ∃ v w, [x, y] = [v, w] ∧ P v w := ⟨x, y, rfl, h⟩
theorem r_par3 {o : Nat} (h : tr σ H fun vs H1 => ∃ u v w, vs = [u, v, w] ∧ D.nx (((σ.set n (some u)).set m (some v)).set o (some w)) H1) : tPar3 n m o tr D σ H := h
theorem r_par3' {P : V → V → V → Prop} (h : P x y z) : ∃ u v w, [x, y, z] = [u, v, w] ∧ P u v w := ⟨x, y, z, rfl, h⟩
theorem r_dput (h : tv σ H fun v H1 => td σ H1 fun x H2 => ty σ H2 fun y H3 => ∃ a H4, x = .ref a ∧ DPut H3 a y v H4 ∧ D.nx σ H4) : sDPut td ty tv D σ H := h
/-! expressions -/
theorem r_var (h : σ[n]? = some (some v)) (q : Q v H) : tVar n σ H Q := ⟨v, h, q⟩
theorem r_c (q : Q v H) : tC v σ H Q := q
theorem r_op {r : R2} (h : ta σ H fun x H1 => tb σ H1 fun y H2 => r x y H2 Q) : tOp r ta tb σ H Q := h
theorem r_un {r : V → Hp → VK → Prop} (h : ta σ H fun x H1 => r x H1 Q) : tUn r ta σ H Q := h
theorem r_cb {r : List V → Hp → VK → Prop} (h : tr σ H fun vs H1 => r vs H1 Q) : tCB r tr σ H Q := h
theorem r_call {sp : Sp} {E : XK} {dvs : List V} (h : tr σ H fun vs H1 => sp (vs ++ dvs) H1 Q E) : tCall sp dvs E tr σ H Q := h
theorem r_cons (h : ta σ H fun x H1 => tr σ H1 fun xs H2 => RA (x :: xs) H2) : tCons ta tr σ H RA := h
theorem r_nil (h : RA [] H) : tNil σ H RA := h
theorem r_tup (h : tr σ H fun xs H1 => xs.length ≤ sizeLine ∧ ∀ p, H1 p = none → Q (.ref p) (upd H1 p (.tup xs))) : tTup tr σ H Q := h
theorem r_lst (h : tr σ H fun xs H1 => xs.length ≤ sizeLine ∧ ∀ p, H1 p = none → Q (.ref p) (upd H1 p (.lst xs))) : tLst tr σ H Q := h
theorem r_ifx (h : a σ H fun c H1 => if c = true then ta σ H1 Q else tb σ H1 Q) : tIf a ta tb σ H Q := h
theorem r_sl {r : V → Option Int → Option Int → Hp → VK → Prop} {tl th : TO} (h : te σ H fun x H1 => tl σ H1 fun l H2 => th σ H2 fun u H3 => r x l u H3 Q) : tSl r te tl th σ H Q := h
theorem r_nopart {RO : Option Int → Hp → Prop} (h : RO none H) : tNoPart σ H RO := h
theorem r_part {RO : Option Int → Hp → Prop} (h : te σ H fun x H1 => ∃ i, x = .int i ∧ RO (some i) H1) : tPart te σ H RO := h
theorem r_int {P : Int → Prop} (h : P i) : ∃ j, V.int i = .int j ∧ P j := ⟨i, rfl, h⟩
theorem r_bool {P : Bool → Prop} {c : Bool} (h : P c) : ∃ k, V.bl c = .bl k ∧ P k := ⟨c, rfl, h⟩
theorem r_test (h : te σ H fun x H' => ∃ k, x = .bl k ∧ R k H') : tTest te σ H R := h
theorem r_tb (h : te σ H fun x H' => ∃ k, x = .bl k ∧ R k H') : tB te σ H R := h
theorem r_and (h : a σ H fun c H1 => if c = true then b σ H1 R else R false H1) : tAnd a b σ H R := h
theorem r_or (h : a σ H fun c H1 => if c = true then R true H1 else b σ H1 R) : tOr a b σ H R := h
theorem r_not (h : a σ H fun c H1 => R (!c) H1) : tNot a σ H R := h
theorem r_andv (h : ta σ H fun x H1 => ∃ c, x = .bl c ∧ if c = true then tb σ H1 Q else Q (.bl false) H1) : tAndV ta tb σ H Q := h
theorem r_orv (h : ta σ H fun x H1 => ∃ c, x = .bl c ∧ if c = true then Q (.bl true) H1 else tb σ H1 Q) : tOrV ta tb σ H Q := h
theorem r_notv (h : ta σ H fun x H1 => ∃ c, x = .bl c ∧ Q (.bl (!c)) H1) : tNotV ta σ H Q := h
theorem r_yes (h : R true H) : tYes σ H R := h
theorem r_dget (h : td σ H fun x H1 => ty σ H1 fun y H2 => ∃ a v, x = .ref a ∧ DGet H2 a y (some v) ∧ Q v H2) : tDGet td ty σ H Q := h
theorem r_dget' {P : V → Prop} (h : DGet H p y (some v)) (q : P v) : ∃ a v, V.ref p = .ref a ∧ DGet H a y (some v) ∧ P v := ⟨p, v, rfl, h, q⟩
theorem r_bm0 {T : String} {r : V → List V → Hp → VK → Prop} (h : te σ H fun x H1 => tyV K T x H1 ∧ r x [] H1 Q) : tBM0 K T r te σ H Q := h
theorem r_bm {T : String} {r : V → List V → Hp → VK → Prop} (h : te σ H fun x H1 => tyV K T x H1 ∧ tr σ H1 fun xs H2 => r x xs H2 Q) : tBM K T r te tr σ H Q := h
theorem r_revT (h : te σ H fun x H1 => ∃ a xs, x = .ref a ∧ SqT K H1 a xs ∧ ∀ p, H1 p = none → Q (.ref p) (upd H1 p (.tup xs.reverse))) : tRevT K te σ H Q := h
theorem r_gtup {N : L2.St → Hp → Prop} {g : TGs} (h : SqT K H p xs) (hl : xs.length = n) (q : g xs σ H N) : gTup K n g (.ref p) σ H N := ⟨p, xs, rfl, h, hl, q⟩
theorem r_gcons {N : L2.St → Hp → Prop} {g : TG} {gs : TGs} (h : g x σ H fun σ' H' => gs xs σ' H' N) : gCons g gs (x :: xs) σ H N := ⟨x, xs, rfl, h⟩
theorem r_gnil {N : L2.St → Hp → Prop} (h : N σ H) : gNil [] σ H N := ⟨rfl, h⟩
/-! operators -/
theorem r_I {C : Int → Int → Prop} {g : Int → Int → V} (c : C i j) (q : Q (g i j) H) : rI C g (.int i) (.int j) H Q := ⟨i, j, rfl, rfl, c, q⟩
theorem r_I0 {g : Int → Int → V} (q : Q (g i j) H) : rI0 g (.int i) (.int j) H Q := ⟨i, j, rfl, rfl, q⟩
theorem r_U {g : Int → V} (q : Q (g i) H) : rU g (.int i) H Q := ⟨i, rfl, q⟩
theorem r_eq (c : scal x y = true) (q : Q (.bl (decide (x = y))) H) : rEq x y H Q := ⟨c, q⟩
theorem r_ne (c : scal x y = true) (q : Q (.bl (!decide (x = y))) H) : rNe x y H Q := ⟨c, q⟩
theorem r_ixL (h : SqL K H p xs) (c : atI xs i = some v) (q : Q v H) : rIxL K (.ref p) (.int i) H Q := ⟨p, xs, i, v, rfl, rfl, h, c, q⟩
theorem r_ixT (h : SqT K H p xs) (c : atI xs i = some v) (q : Q v H) : rIxT K (.ref p) (.int i) H Q := ⟨p, xs, i, v, rfl, rfl, h, c, q⟩
end
/-! loops and comprehensions by one invariant -/
/-- what a for asks, once its iterator stands -/
def LoopJ (g : TG) (tb : TS) (D : Ends) (σ : L2.St) (J : It) (H : Hp) : Prop :=
  ∃ W : Nat → Nat → L2.St → Hp → Prop, (∃ m, W 0 m σ H) ∧ ∀ i m σ H, W i m σ H →
    (J.stop i H ∧ D.nx σ H) ∨ (J.go i H ∧ ∃ N : L2.St → Hp → Prop, (∀ σ' H', N σ' H' → ∃ m', m' < m ∧ W (i + 1) m' σ' H') ∧ ∀ x H', J.yld i H x H' → g x σ H' fun σ2 H2 => tb { D with nx := N, ct := N, bk := D.nx } σ2 H2)
/-- what a comprehension asks, once its iterator stands -/
def LcJ (g : TG) (tt : TT) (te : TE) (vs : List Nat) (σ : L2.St) (Q : VK) (J : It) (H1 : Hp) : Prop :=
  ∀ D, H1 D = none → ∃ W : Nat → Nat → Hp → Prop, (∃ m, W 0 m (upd H1 D (.lst []))) ∧ ∀ i m H, W i m H →
    (J.stop i H ∧ Q (.ref D) H) ∨ (J.go i H ∧ ∃ Nx : Hp → Prop, (∀ H', Nx H' → ∃ m', m' < m ∧ W (i + 1) m' H') ∧ ∀ x H', J.yld i H x H' → g x (wipe σ vs) H' fun σ2 H2 => wipe σ2 vs = wipe σ vs ∧ tt σ2 H2 fun b H3 =>
      if b = true then te σ2 H3 fun y H4 => ∃ acc, H4 D = some (.lst acc) ∧ acc.length < sizeLine ∧ Nx (upd H4 D (.lst (acc ++ [y]))) else Nx H3)
section
variable {K : PySem.W.Frag} {σ : L2.St} {G H : Hp} {Q : VK} {D : Ends} {te tl : TE} {tb : TS} {g : TG} {tt : TT} {tr : TA} {p : Addr} {xs : List V} {vs : List Nat} {lo hi : Int} {n : Nat}
theorem r_forT (h : tl σ H fun x H1 => ∃ a, x = .ref a ∧ (∃ xs, SqT K H1 a xs) ∧ LoopJ g tb D σ (Itt K a) H1) : tFor (iTup K tl) g tb D σ H := h
theorem r_forL (h : tl σ H fun x H1 => ∃ a, x = .ref a ∧ (∃ xs, SqL K H1 a xs) ∧ LoopJ g tb D σ (Itl K a) H1) : tFor (iList K tl) g tb D σ H := h
theorem r_forR1 (h : tr σ H fun vs H1 => ∃ j : Int, vs = [.int j] ∧ -(2 ^ 62) ≤ j ∧ j < 2 ^ 62 ∧ LoopJ g tb D σ (Itr 0 j.toNat) H1) : tFor (iRng1 tr) g tb D σ H := h
theorem r_forR2 (h : tr σ H fun vs H1 => ∃ i j : Int, vs = [.int i, .int j] ∧ (-(2 ^ 62) ≤ i ∧ i < 2 ^ 62 ∧ -(2 ^ 62) ≤ j ∧ j < 2 ^ 62) ∧ LoopJ g tb D σ (Itr i (j - i).toNat) H1) : tFor (iRng2 tr) g tb D σ H := h
theorem r_lcT (h : tl σ H fun x H1 => ∃ a, x = .ref a ∧ (∃ xs, SqT K H1 a xs) ∧ LcJ g tt te vs σ Q (Itt K a) H1) : tLc (iTup K tl) g tt te vs σ H Q := h
theorem r_lcL (h : tl σ H fun x H1 => ∃ a, x = .ref a ∧ (∃ xs, SqL K H1 a xs) ∧ LcJ g tt te vs σ Q (Itl K a) H1) : tLc (iList K tl) g tt te vs σ H Q := h
theorem r_lcR1 (h : tr σ H fun ws H1 => ∃ j : Int, ws = [.int j] ∧ -(2 ^ 62) ≤ j ∧ j < 2 ^ 62 ∧ LcJ g tt te vs σ Q (Itr 0 j.toNat) H1) : tLc (iRng1 tr) g tt te vs σ H Q := h
theorem r_lcR2 (h : tr σ H fun ws H1 => ∃ i j : Int, ws = [.int i, .int j] ∧ (-(2 ^ 62) ≤ i ∧ i < 2 ^ 62 ∧ -(2 ^ 62) ≤ j ∧ j < 2 ^ 62) ∧ LcJ g tt te vs σ Q (Itr i (j - i).toNat) H1) : tLc (iRng2 tr) g tt te vs σ H Q := h

theorem loop_it {J : It} {Gd : Hp → Prop} {Y : Nat → Hp → V → Hp → Prop} (w : Walk J n Gd Y) (Pv : Nat → L2.St → Hp → Prop) (h0 : Pv 0 σ H) (hG : ∀ i σ H, i ≤ n → Pv i σ H → Gd H)
    (hs : ∀ i x σ H H', i < n → Pv i σ H → Y i H x H' → g x σ H' fun σ2 H2 => tb { D with nx := Pv (i + 1), ct := Pv (i + 1), bk := D.nx } σ2 H2) (hd : ∀ σ H, Pv n σ H → D.nx σ H) : LoopJ g tb D σ J H :=
  for_it w Pv h0 hG hs hd
/-- a for over a tuple (over a list that stands) -/
theorem loopT (hs : SqT K H p xs) (Pv : Nat → L2.St → Hp → Prop) (h0 : Pv 0 σ H) (hG : ∀ i σ H, i ≤ xs.length → Pv i σ H → SqT K H p xs)
    (hst : ∀ i x σ H, i < xs.length → xs[i]? = some x → Pv i σ H → g x σ H fun σ2 H2 => tb { D with nx := Pv (i + 1), ct := Pv (i + 1), bk := D.nx } σ2 H2) (hd : ∀ σ H, Pv xs.length σ H → D.nx σ H) :
    ∃ a, V.ref p = .ref a ∧ (∃ xs, SqT K H a xs) ∧ LoopJ g tb D σ (Itt K a) H :=
  ⟨p, rfl, ⟨xs, hs⟩, loop_it walk_tup Pv h0 hG (fun i x σ H H' hi hp hy => by obtain ⟨e, hx⟩ := hy; subst e; exact hst i x σ _ hi hx hp) hd⟩
theorem loopL (hs : SqL K H p xs) (Pv : Nat → L2.St → Hp → Prop) (h0 : Pv 0 σ H) (hG : ∀ i σ H, i ≤ xs.length → Pv i σ H → SqL K H p xs)
    (hst : ∀ i x σ H, i < xs.length → xs[i]? = some x → Pv i σ H → g x σ H fun σ2 H2 => tb { D with nx := Pv (i + 1), ct := Pv (i + 1), bk := D.nx } σ2 H2) (hd : ∀ σ H, Pv xs.length σ H → D.nx σ H) :
    ∃ a, V.ref p = .ref a ∧ (∃ xs, SqL K H a xs) ∧ LoopJ g tb D σ (Itl K a) H :=
  ⟨p, rfl, ⟨xs, hs⟩, loop_it walk_list Pv h0 hG (fun i x σ H H' hi hp hy => by obtain ⟨e, hx⟩ := hy; subst e; exact hst i x σ _ hi hx hp) hd⟩
theorem loopR1 {j : Int} {n : Nat} (e : j = (n : Int)) (hn : n < 2 ^ 62) (Pv : Nat → L2.St → Hp → Prop) (h0 : Pv 0 σ H)
    (hst : ∀ (i : Nat) σ H, i < n → Pv i σ H → g (.int (i : Int)) σ H fun σ2 H2 => tb { D with nx := Pv (i + 1), ct := Pv (i + 1), bk := D.nx } σ2 H2) (hd : ∀ σ H, Pv n σ H → D.nx σ H) :
    ∃ j' : Int, [V.int j] = [.int j'] ∧ -(2 ^ 62) ≤ j' ∧ j' < 2 ^ 62 ∧ LoopJ g tb D σ (Itr 0 j'.toNat) H := by
  subst e
  refine ⟨n, rfl, by omega, by omega, ?_⟩
  rw [Int.toNat_natCast]
  refine loop_it walk_range Pv h0 (fun _ _ _ _ _ => trivial) (fun i x σ H H' hi hp hy => ?_) hd
  obtain ⟨e, hx⟩ := hy
  subst e hx
  dsimp only
  rw [Int.zero_add]
  exact hst i σ _ hi hp
theorem loopR2 {lo hi : Int} {n : Nat} (e : (hi - lo).toNat = n) (hb : -(2 ^ 62) ≤ lo ∧ lo < 2 ^ 62 ∧ -(2 ^ 62) ≤ hi ∧ hi < 2 ^ 62) (Pv : Nat → L2.St → Hp → Prop) (h0 : Pv 0 σ H)
    (hst : ∀ (i : Nat) σ H, i < n → Pv i σ H → g (.int (lo + (i : Int))) σ H fun σ2 H2 => tb { D with nx := Pv (i + 1), ct := Pv (i + 1), bk := D.nx } σ2 H2) (hd : ∀ σ H, Pv n σ H → D.nx σ H) :
    ∃ i j : Int, [V.int lo, V.int hi] = [.int i, .int j] ∧ (-(2 ^ 62) ≤ i ∧ i < 2 ^ 62 ∧ -(2 ^ 62) ≤ j ∧ j < 2 ^ 62) ∧ LoopJ g tb D σ (Itr i (j - i).toNat) H := by
  subst e
  refine ⟨lo, hi, rfl, hb, ?_⟩
  refine loop_it walk_range Pv h0 (fun _ _ _ _ _ => trivial) (fun i x σ H H' hi hp hy => ?_) hd
  obtain ⟨e, hx⟩ := hy
  subst e hx
  exact hst i σ _ hi hp

/-- a comprehension: Pv of the turn, what is made so far, what is known, the heap; its own list at L is not known meanwhile -/
theorem lc_by {J : It} {M : Addr → Prop} {Gd : Hp → Prop} {Y : Nat → V → Prop} (w : Walk J n Gd (fun i H x H' => H' = H ∧ Y i x)) (hn : n < 2 ^ 20) (g0 : Same G H) (Pv : Nat → List V → Hp → Hp → Prop)
    (h0 : ∀ L, H L = none → Pv 0 [] G (upd H L (.lst []))) (hG : ∀ i acc G' H', i ≤ n → Stp M G H G' H' → Pv i acc G' H' → Gd H')
    (hs : ∀ L i x acc G' H' (Em : V → Hp → Prop) (Sk : Hp → Prop), i < n → H L = none → H' L = some (.lst acc) → G' L = none → acc.length ≤ i → Stp M G H G' H' → Pv i acc G' H' → Y i x →
      (∀ y G2 H2, Stp M G H G2 H2 → H2 L = some (.lst acc) → G2 L = none → Pv (i + 1) (acc ++ [y]) G2 (upd H2 L (.lst (acc ++ [y]))) → Em y H2) →
      (∀ G2 H2, Stp M G H G2 H2 → H2 L = some (.lst acc) → G2 L = none → Pv (i + 1) acc G2 H2 → Sk H2) →
      g x (wipe σ vs) H' fun σ2 H2 => wipe σ2 vs = wipe σ vs ∧ tt σ2 H2 fun b H3 => if b = true then te σ2 H3 Em else Sk H3)
    (hd : ∀ L acc G' H', H L = none → acc.length ≤ n → Stp M G H G' H' → H' L = some (.lst acc) → G' L = none → Pv n acc G' H' → Q (.ref L) H') : LcJ g tt te vs σ Q J H := by
  intro L hL
  have gL : G L = none := none_of g0 hL
  refine lc_it w (fun i H' => ∃ acc G', H' L = some (.lst acc) ∧ G' L = none ∧ acc.length ≤ i ∧ Stp M G H G' H' ∧ Pv i acc G' H') ?_ (fun i H' hi hP => ?_) (fun i x H' H'' hi hP hy => ?_) (fun H' hP => ?_)
  · exact ⟨[], G, upd_same, gL, Nat.zero_le _, Stp.newM g0 hL, h0 L hL⟩
  · obtain ⟨acc, G', _, _, _, st, pv⟩ := hP
    exact hG i acc G' H' hi st pv
  · obtain ⟨acc, G', e1, e2, e3, st, pv⟩ := hP
    obtain ⟨rfl, hy⟩ := hy
    refine hs L i x acc G' H'' _ _ hi hL e1 e2 e3 st pv hy (fun y G2 H2 st2 a1 a2 a3 => ?_) (fun G2 H2 st2 a1 a2 a3 => ?_)
    · refine ⟨acc, a1, Nat.lt_of_le_of_lt e3 (Nat.lt_trans hi (Nat.lt_of_lt_of_le hn (by decide))), _, G2, upd_same, a2, by rw [List.length_append]; simp; omega, ?_, a3⟩
      exact ⟨fun a o m z => by rw [upd_ne (ne_of_none z hL)]; exact st2.up a o m z, st2.gg, fun a o z => by rw [upd_ne (ne_of_none z a2)]; exact st2.gh a o z, st2.fr, fun a o z => by rw [upd_ne (ne_of_none z hL)]; exact st2.th a o z⟩
    · exact ⟨acc, G2, a1, a2, Nat.le_succ_of_le e3, st2, a3⟩
  · obtain ⟨acc, G', e1, e2, e3, st, pv⟩ := hP
    exact hd L acc G' H' hL e3 st e1 e2 pv
theorem lcL {M : Addr → Prop} (hs : SqL K G p xs) (hn : xs.length < 2 ^ 20) (g0 : Same G H) (Pv : Nat → List V → Hp → Hp → Prop)
    (h0 : ∀ L, H L = none → Pv 0 [] G (upd H L (.lst [])))
    (hst : ∀ L i x acc G' H' (Em : V → Hp → Prop) (Sk : Hp → Prop), i < xs.length → H L = none → H' L = some (.lst acc) → G' L = none → acc.length ≤ i → Stp M G H G' H' → Pv i acc G' H' → xs[i]? = some x →
      (∀ y G2 H2, Stp M G H G2 H2 → H2 L = some (.lst acc) → G2 L = none → Pv (i + 1) (acc ++ [y]) G2 (upd H2 L (.lst (acc ++ [y]))) → Em y H2) →
      (∀ G2 H2, Stp M G H G2 H2 → H2 L = some (.lst acc) → G2 L = none → Pv (i + 1) acc G2 H2 → Sk H2) →
      g x (wipe σ vs) H' fun σ2 H2 => wipe σ2 vs = wipe σ vs ∧ tt σ2 H2 fun b H3 => if b = true then te σ2 H3 Em else Sk H3)
    (hd : ∀ L acc G' H', H L = none → acc.length ≤ xs.length → Stp M G H G' H' → H' L = some (.lst acc) → G' L = none → Pv xs.length acc G' H' → Q (.ref L) H') :
    ∃ a, V.ref p = .ref a ∧ (∃ xs, SqL K H a xs) ∧ LcJ g tt te vs σ Q (Itl K a) H :=
  ⟨p, rfl, ⟨xs, g0.seq hs⟩, lc_by (M := M) walk_list hn g0 Pv h0 (fun i acc G' H' _ st _ => (st.gg.trans st.gh).seq hs) (fun L i x acc G' H' Em Sk => hst L i x acc G' H' Em Sk) hd⟩
theorem lcR1 {M : Addr → Prop} {j : Int} {n : Nat} (e : j = (n : Int)) (hn : n < 2 ^ 20) (g0 : Same G H) (Pv : Nat → List V → Hp → Hp → Prop)
    (h0 : ∀ L, H L = none → Pv 0 [] G (upd H L (.lst [])))
    (hst : ∀ L (i : Nat) acc G' H' (Em : V → Hp → Prop) (Sk : Hp → Prop), i < n → H L = none → H' L = some (.lst acc) → G' L = none → acc.length ≤ i → Stp M G H G' H' → Pv i acc G' H' →
      (∀ y G2 H2, Stp M G H G2 H2 → H2 L = some (.lst acc) → G2 L = none → Pv (i + 1) (acc ++ [y]) G2 (upd H2 L (.lst (acc ++ [y]))) → Em y H2) →
      (∀ G2 H2, Stp M G H G2 H2 → H2 L = some (.lst acc) → G2 L = none → Pv (i + 1) acc G2 H2 → Sk H2) →
      g (.int (i : Int)) (wipe σ vs) H' fun σ2 H2 => wipe σ2 vs = wipe σ vs ∧ tt σ2 H2 fun b H3 => if b = true then te σ2 H3 Em else Sk H3)
    (hd : ∀ L acc G' H', H L = none → acc.length ≤ n → Stp M G H G' H' → H' L = some (.lst acc) → G' L = none → Pv n acc G' H' → Q (.ref L) H') :
    ∃ j' : Int, [V.int j] = [.int j'] ∧ -(2 ^ 62) ≤ j' ∧ j' < 2 ^ 62 ∧ LcJ g tt te vs σ Q (Itr 0 j'.toNat) H := by
  subst e
  refine ⟨n, rfl, by omega, by omega, ?_⟩
  rw [Int.toNat_natCast]
  refine lc_by (M := M) (Y := fun i x => x = .int (0 + (i : Int))) walk_range hn g0 Pv h0 (fun _ _ _ _ _ _ _ => trivial) (fun L i x acc G' H' Em Sk h1 h2 h3 h4 h5 h6 h7 h8 h9 h10 => ?_) hd
  subst h8
  rw [Int.zero_add]
  exact hst L i acc G' H' Em Sk h1 h2 h3 h4 h5 h6 h7 h9 h10
theorem lcR2 {M : Addr → Prop} {lo hi : Int} {n : Nat} (e : (hi - lo).toNat = n) (hb : -(2 ^ 62) ≤ lo ∧ lo < 2 ^ 62 ∧ -(2 ^ 62) ≤ hi ∧ hi < 2 ^ 62) (hn : n < 2 ^ 20) (g0 : Same G H) (Pv : Nat → List V → Hp → Hp → Prop)
    (h0 : ∀ L, H L = none → Pv 0 [] G (upd H L (.lst [])))
    (hst : ∀ L (i : Nat) acc G' H' (Em : V → Hp → Prop) (Sk : Hp → Prop), i < n → H L = none → H' L = some (.lst acc) → G' L = none → acc.length ≤ i → Stp M G H G' H' → Pv i acc G' H' →
      (∀ y G2 H2, Stp M G H G2 H2 → H2 L = some (.lst acc) → G2 L = none → Pv (i + 1) (acc ++ [y]) G2 (upd H2 L (.lst (acc ++ [y]))) → Em y H2) →
      (∀ G2 H2, Stp M G H G2 H2 → H2 L = some (.lst acc) → G2 L = none → Pv (i + 1) acc G2 H2 → Sk H2) →
      g (.int (lo + (i : Int))) (wipe σ vs) H' fun σ2 H2 => wipe σ2 vs = wipe σ vs ∧ tt σ2 H2 fun b H3 => if b = true then te σ2 H3 Em else Sk H3)
    (hd : ∀ L acc G' H', H L = none → acc.length ≤ n → Stp M G H G' H' → H' L = some (.lst acc) → G' L = none → Pv n acc G' H' → Q (.ref L) H') :
    ∃ i j : Int, [V.int lo, V.int hi] = [.int i, .int j] ∧ (-(2 ^ 62) ≤ i ∧ i < 2 ^ 62 ∧ -(2 ^ 62) ≤ j ∧ j < 2 ^ 62) ∧ LcJ g tt te vs σ Q (Itr i (j - i).toNat) H := by
  subst e
  refine ⟨lo, hi, rfl, hb, ?_⟩
  refine lc_by (M := M) (Y := fun i x => x = .int (lo + (i : Int))) walk_range hn g0 Pv h0 (fun _ _ _ _ _ _ _ => trivial) (fun L i x acc G' H' Em Sk h1 h2 h3 h4 h5 h6 h7 h8 h9 h10 => ?_) hd
  subst h8
  exact hst L i acc G' H' Em Sk h1 h2 h3 h4 h5 h6 h7 h9 h10
end

/-! ### tuples whose object is known to bear no dict: their methods -/
def tTupF (t : TA) : TE := fun σ H Q => t σ H fun xs H1 => xs.length ≤ sizeLine ∧ ∀ p o, H1 p = none → o.dict = none → Q (.ref p) (upd H1 p (.frz o (.tup xs)))
def tyF (x : V) (H : Hp) : Prop := ∃ (p : Addr) (o : Obj) (xs : List V), x = .ref p ∧ H p = some (.frz o (.tup xs)) ∧ o.dict = none
def tBMF (r : V → List V → Hp → VK → Prop) (to : TE) (t : TA) : TE := fun σ H Q => to σ H fun x H1 => tyF x H1 ∧ t σ H1 fun xs H2 => r x xs H2 Q
section
variable {X : Cx} {es : List Expr} {t : TA} {pos : Pos}
theorem pe_tupF {x1} (h : PA X es t) : PE X (.Tuple es x1 pos) (tTupF t) := by
  refine ⟨fun pins s σ H Q I hq => ?_⟩
  refine wpAny_Tuple_spliced (thn (h.run pos pins s σ H _ I hq) fun us s1 ⟨xs, H1, I1, r, z, q⟩ => ⟨by rw [← r.length]; exact z, ?_⟩)
  have hf : H1 s1.heap.objs.size = none := I1.hok.fresh (Nat.le_refl _)
  refine ⟨.ref s1.heap.objs.size, upd H1 s1.heap.objs.size (.frz { cls := .type "tuple", data := .seq us.toArray } (.tup xs)), I1.laid (t' := s1.toks) (fun b u e => Heap.get?_push_of_some _ e) (Nat.le_refl _) ?_, rfl, q _ _ hf rfl⟩
  exact ⟨Heap.get?_push_size _ rfl, z, us, r, ⟨_, Heap.get?_push_size _ rfl, rfl, _, rfl⟩⟩
variable {o e : Expr} {to : TE} {name : Str} {apos cpos : Pos} {id : String} {r : V → List V → Hp → VK → Prop}
theorem pe_bmF (pa : PlainAttrs "tuple") (slot : Slot "tuple" name id) (hty : typeOf (.builtin id) = pure (.type "method_descriptor")) (hm : MtR X id r) (ho : PE X o to) (ha : PA X (e :: es) t)
    (hbase : attributeBase o name X.env (eval o X.env) = eval o X.env := by rfl)
    (hfew : ((backTo cpos (starEach (e :: es) X.env)).all (fun x => !x.1) && (backToKw cpos (keywordEach [] X.env)).all (fun x => x.1.isSome)
      && decide ((e :: es).length + ([] : List Keyword).length + (if ([] : List Keyword).isEmpty then 0 else 1) < 30)) = true := by rfl)
    (hline : (apos.endLine == cpos.line) = true := by rfl) (hs : starEach (e :: es) X.env = (false, eval e X.env) :: starEach es X.env := by rfl) (hplain : (backTo cpos (starEach es X.env)).any (·.1) = false := by rfl) :
    PE X (.Call (.Attribute o name apos) (e :: es) [] cpos) (tBMF r to t) := by
  refine ⟨fun pins s σ H Q I h => ?_⟩
  refine wpAny_Call_method_late hbase hfew hline rfl (thn (ho.run pins s σ H _ I h) fun v s1 ⟨x, H1, I1, r1, ty, q1⟩ => ?_)
  obtain ⟨p, ob, xs, rfl, hp, hd⟩ := ty
  cases r1
  obtain ⟨g1, g2⟩ := I1.hok p _ hp
  obtain ⟨_, its, _, o2, h1, h2, _⟩ := g2
  refine ⟨"tuple", id, pa, slot, hty, ⟨o2, h1, h2⟩, fun a ea => ?_, ?_⟩
  · cases ea
    exact ⟨ob, g1, hd⟩
  have hA := ha.run cpos pins s1 σ H1 _ I1 q1
  rw [hs] at hA ⊢
  refine Calls.callWith_builtin (by show (false || (backTo cpos (starEach es X.env)).any (·.1)) = false; rw [hplain] <;> rfl) (Calls.evalArgs_plain ?_)
  exact thn hA fun us s2 ⟨vs, H2, I2, r2, q2⟩ => hm pins s2 σ H2 (.ref p) vs _ us Q I2 rfl r2 q2
variable {σ : L2.St} {H : Hp} {Q : VK}
theorem r_tupF (h : t σ H fun xs H1 => xs.length ≤ sizeLine ∧ ∀ p o, H1 p = none → o.dict = none → Q (.ref p) (upd H1 p (.frz o (.tup xs)))) : tTupF t σ H Q := h
theorem r_bmF (h : to σ H fun x H1 => tyF x H1 ∧ t σ H1 fun xs H2 => r x xs H2 Q) : tBMF r to t σ H Q := h
end
/-! ### what is called, given to the reading -/
section
variable {X : Cx} {K : PySem.W.Frag} {H : Hp} {Q : VK} {p : Addr} {xs : List V} {x y : V} {i j : Int} {z : Str}
def kLen (K : PySem.W.Frag) : List V → Hp → VK → Prop := fun xs H Q => ∃ p ys, xs = [.ref p] ∧ (SqL K H p ys ∨ SqT K H p ys) ∧ Q (.int ys.length) H
theorem call_lenK : CallR X (.builtin "len") (kLen X.K) := call_len_seq
theorem c_len (h : SqL K H p xs ∨ SqT K H p xs) (q : Q (.int (xs.length : Int)) H) : kLen K [.ref p] H Q := ⟨p, xs, rfl, h, q⟩
def kLenS : List V → Hp → VK → Prop := fun xs H Q => ∃ z, xs = [.str z] ∧ z.length ≤ sizeLine ∧ Q (.int z.length) H
theorem call_lenS : CallR X (.builtin "len") kLenS := call_len_str
theorem c_lenS (h : z.length ≤ sizeLine) (q : Q (.int z.length) H) : kLenS [.str z] H Q := ⟨z, rfl, h, q⟩
def kList (K : PySem.W.Frag) : List V → Hp → VK → Prop := fun xs H Q => ∃ p ys, xs = [.ref p] ∧ (SqL K H p ys ∨ SqT K H p ys) ∧ ∀ l, H l = none → Q (.ref l) (upd H l (.lst ys))
theorem call_listK : CallR X (.type "list") (kList X.K) := call_list_of
theorem c_list (h : SqL K H p xs ∨ SqT K H p xs) (q : ∀ l, H l = none → Q (.ref l) (upd H l (.lst xs))) : kList K [.ref p] H Q := ⟨p, xs, rfl, h, q⟩
def kTuple (K : PySem.W.Frag) : List V → Hp → VK → Prop := fun xs H Q => ∃ p ys, xs = [.ref p] ∧ ((SqL K H p ys ∧ ∀ l, H l = none → Q (.ref l) (upd H l (.tup ys))) ∨ (SqT K H p ys ∧ Q (.ref p) H))
theorem call_tupleK : CallR X (.type "tuple") (kTuple X.K) := call_tuple_of
theorem c_tupleL (h : SqL K H p xs) (q : ∀ l, H l = none → Q (.ref l) (upd H l (.tup xs))) : kTuple K [.ref p] H Q := ⟨p, xs, rfl, .inl ⟨h, q⟩⟩
theorem c_tupleT (h : SqT K H p xs) (q : Q (.ref p) H) : kTuple K [.ref p] H Q := ⟨p, xs, rfl, .inr ⟨h, q⟩⟩
def kAbs : List V → Hp → VK → Prop := fun xs H Q => ∃ i, xs = [.int i] ∧ Q (.int (if i < 0 then -i else i)) H
theorem call_absK : CallR X (.builtin "abs") kAbs := call_abs
theorem c_abs (q : Q (.int (if i < 0 then -i else i)) H) : kAbs [.int i] H Q := ⟨i, rfl, q⟩
def kMax : List V → Hp → VK → Prop := fun xs H Q => ∃ i j, xs = [.int i, .int j] ∧ Q (.int (if j > i then j else i)) H
theorem call_maxK (hc : X.calm = true) : CallR X (.builtin "max") kMax := call_max2 hc
theorem c_max (q : Q (.int (if j > i then j else i)) H) : kMax [.int i, .int j] H Q := ⟨i, j, rfl, q⟩
def kMin : List V → Hp → VK → Prop := fun xs H Q => ∃ i j, xs = [.int i, .int j] ∧ Q (.int (if j < i then j else i)) H
theorem call_minK (hc : X.calm = true) : CallR X (.builtin "min") kMin := call_min2 hc
theorem c_min (q : Q (.int (if j < i then j else i)) H) : kMin [.int i, .int j] H Q := ⟨i, j, rfl, q⟩
def kInt : List V → Hp → VK → Prop := fun xs H Q => (∃ i, xs = [.int i] ∧ Q (.int i) H) ∨ ∃ k, xs = [.bl k] ∧ Q (.int (if k then 1 else 0)) H
theorem call_intK : CallR X (.type "int") kInt := call_int1
theorem c_intI (q : Q (.int i) H) : kInt [.int i] H Q := .inl ⟨i, rfl, q⟩
theorem c_intB {k : Bool} (q : Q (.int (if k then 1 else 0)) H) : kInt [.bl k] H Q := .inr ⟨k, rfl, q⟩
def kTupIndex (K : PySem.W.Frag) : V → List V → Hp → VK → Prop := fun x xs H Q => ∃ p, ∃ ys : List Str, ∃ z j, x = .ref p ∧ xs = [.str z] ∧ SqT K H p (ys.map V.str) ∧ ys[j]? = some z ∧ (∀ m, m < j → ys[m]? ≠ some z) ∧ Q (.int (j : Nat)) H
theorem mt_tupIndexK : MtR X "tuple.index" (kTupIndex X.K) := mt_tup_index
theorem c_methF {R : Prop} {o : Obj} (h : H p = some (.frz o (.tup xs))) (hd : o.dict = none) (q : R) : tyF (.ref p) H ∧ R := ⟨⟨p, o, _, rfl, h, hd⟩, q⟩
theorem c_tupIndex {ys : List Str} {j : Nat} {o : Obj} (h : H p = some (.frz o (.tup (ys.map V.str)))) (e : ys[j]? = some z) (n : ∀ m, m < j → ys[m]? ≠ some z) (q : Q (.int (j : Nat)) H) : kTupIndex K (.ref p) [.str z] H Q :=
  ⟨p, ys, z, j, rfl, rfl, .inl (.inr ⟨o, h⟩), e, n, q⟩
theorem c_meth {R : Prop} (h : H p = some (.lst xs)) (q : R) : tyV K "list" (.ref p) H ∧ R := ⟨.inl ⟨rfl, _, lof h⟩, q⟩
theorem c_append (h : H p = some (.lst xs)) (hl : xs.length < sizeLine) (q : Q .non (upd H p (.lst (xs ++ [y])))) : rAppend (.ref p) [y] H Q := ⟨p, xs, y, rfl, rfl, h, hl, q⟩
theorem c_pop (h : H p = some (.lst xs)) (e : xs[xs.length - 1]? = some y) (q : Q y (upd H p (.lst xs.dropLast))) : rPop (.ref p) [] H Q := ⟨p, xs, y, rfl, rfl, h, e, q⟩
end
theorem ifD {p A B : Prop} [Decidable p] (h1 : p → A) (h2 : ¬ p → B) : if decide p = true then A else B := by
  by_cases h : p
  · rw [decide_eq_true h]; exact h1 h
  · rw [decide_eq_false h]; exact h2 h
theorem ifND {p A B : Prop} [Decidable p] (h1 : ¬ p → A) (h2 : p → B) : if (!decide p) = true then A else B := by
  by_cases h : p
  · rw [decide_eq_true h]; exact h2 h
  · rw [decide_eq_false h]; exact h1 h
theorem map_get {α β : Type} {f : α → β} {l : List α} {i : Nat} {y : β} (h : (l.map f)[i]? = some y) : ∃ x, l[i]? = some x ∧ y = f x := by
  rw [List.getElem?_map] at h
  cases e : l[i]? with
  | none => rw [e] at h; cases h
  | some x => rw [e] at h; exact ⟨x, rfl, (Option.some.inj h).symm⟩
theorem take_succ_get {α : Type} {l : List α} {i : Nat} {x : α} (h : l[i]? = some x) : l.take (i + 1) = l.take i ++ [x] := by
  rw [List.take_add_one, h]; rfl
theorem at_last2 {α : Type} {xs : List α} {v : α} (h : xs.length > 1) (e : xs[xs.length - 2]? = some v) : atI xs (-2) = some v := by
  unfold atI ixN
  rw [if_neg (by omega), if_pos (by omega)]
  show xs[((xs.length : Int) + -2).toNat]? = some v
  rw [← e]
  congr 1
  omega
theorem small5 {n : Nat} (h : n ≤ 1000000) : n < sizeLine := Nat.lt_of_le_of_lt h (by decide)
/-! the pen that a law draws by: a dict of three -/
abbrev penO (c : Addr) (a : Nat) (l : Int) : HO := .dK [(.inr "cells", .ref c), (.inr "at", .int (a : Int)), (.inr "left", .int l)]
/-- the pen at p has drawn n times at most -/
def Pen (K : PySem.W.Frag) (G : Hp) (p : Addr) (n : Nat) (H : Hp) : Prop :=
  G p = none ∧ ∃ (c : Addr) (ns : List Int) (a : Nat) (l : Int), SqL K G c (ns.map V.int) ∧ ns.length ≤ 63 ∧ a ≤ n ∧ H p = some (penO c a l)
theorem kne {x y : Str} (h : x ≠ y) : ¬ (Sum.inr x : Key) = Sum.inr y := fun e => h (Sum.inr.inj e)
theorem vv0 {x : Str} {v : V} {r : List (Key × V)} : valV ((.inr x, v) :: r) (.inr x : Key) = some v := valV_pos rfl
theorem vv1 {x y : Str} {v : V} {r : List (Key × V)} (h : x ≠ y) : valV ((.inr x, v) :: r) (.inr y : Key) = valV r (.inr y) := valV_neg (kne h)
theorem dk {H : Hp} {a : Addr} {kvs : List (Key × V)} {x : Str} {v : V} (h : H a = some (.dK kvs)) (e : valV kvs (.inr x) = some v) : DGet H a (.str x) (some v) := by
  have q := DGet.k (k := .inr x) h
  rw [e] at q
  exact q
section
variable {K : PySem.W.Frag} {G G' H H' : Hp} {p o c : Addr} {n m a : Nat} {l i : Int} {M : Addr → Prop} {x : HO}
theorem pen_cells (h : H p = some (penO c a l)) : DGet H p (.str "cells") (some (.ref c)) := dk h vv0
theorem pen_at (h : H p = some (penO c a l)) : DGet H p (.str "at") (some (.int (a : Int))) := dk h ((vv1 (by decide +kernel)).trans vv0)
theorem pen_left (h : H p = some (penO c a l)) : DGet H p (.str "left") (some (.int l)) := dk h ((vv1 (by decide +kernel)).trans ((vv1 (by decide +kernel)).trans vv0))
theorem putK_here {x : Str} {v w : V} {r : List (Key × V)} (h : ∀ kv ∈ r, kv.1 ≠ (.inr x : Key)) : putK ((.inr x, v) :: r) (.inr x : Key) w = (.inr x, w) :: r := by
  unfold putK
  rw [if_pos (by simp), List.map_cons, if_pos rfl]
  congr 1
  induction r with
  | nil => rfl
  | cons kv r ih => rw [List.map_cons, if_neg (h kv List.mem_cons_self), ih fun z hz => h z (List.mem_cons_of_mem _ hz)]
theorem putK_next {x y : Str} {v w : V} {r : List (Key × V)} (h : x ≠ y) (e : (r.any fun kv => decide (kv.1 = (.inr y : Key))) = true) : putK ((.inr x, v) :: r) (.inr y : Key) w = (.inr x, v) :: putK r (.inr y) w := by
  unfold putK
  rw [if_pos (by rw [List.any_cons, e, Bool.or_true]), if_pos e, List.map_cons, if_neg (kne h)]
theorem dput {H : Hp} {a : Addr} {kvs kvs' : List (Key × V)} {x : Str} {v : V} (h : H a = some (.dK kvs)) (hl : kvs.length < sizeLine) (e : putK kvs (.inr x) v = kvs') : DPut H a (.str x) v (upd H a (.dK kvs')) := by
  have q := DPut.k (k := .inr x) (v := v) h hl
  rw [e] at q
  exact q
theorem pen_putAt (h : H p = some (penO c a l)) (m : Nat) : DPut H p (.str "at") (.int (m : Int)) (upd H p (penO c m l)) :=
  dput h (by show 3 < sizeLine; decide) (by
    rw [putK_next (by decide +kernel) (by simp), putK_here (fun kv hk => by
      rw [List.mem_singleton] at hk
      rw [hk]
      exact kne (by decide +kernel))])
theorem pen_putLeft (h : H p = some (penO c a l)) (m : Int) : DPut H p (.str "left") (.int m) (upd H p (penO c a m)) :=
  dput h (by show 3 < sizeLine; decide) (by
    rw [putK_next (by decide +kernel) (by simp), putK_next (by decide +kernel) (by simp), putK_here (fun kv hk => by cases hk)])
theorem Pen.is (h : Pen K G p n H) : ∃ c a l, H p = some (penO c a l) := by
  obtain ⟨_, c, _, a, l, _, _, _, h⟩ := h
  exact ⟨c, a, l, h⟩
theorem Pen.mono (h : Pen K G p n H) (e : n ≤ m) : Pen K G p m H := by
  obtain ⟨g, c, ns, a, l, h1, h2, h3, h4⟩ := h
  exact ⟨g, c, ns, a, l, h1, h2, Nat.le_trans h3 e, h4⟩
theorem Pen.stp (h : Pen K G p n H) (s : Stp M G H G' H') (hM : ¬ M p) : Pen K G' p n H' := by
  obtain ⟨g, c, ns, a, l, h1, h2, h3, h4⟩ := h
  exact ⟨(s.fr _ _ h4).trans g, c, ns, a, l, s.gg.seq h1, h2, h3, s.up _ _ hM h4⟩
theorem Pen.stp0 (h : Pen K G p n H) (s : Stp M0 G H G' H') : Pen K G' p n H' := h.stp s (fun z => z)
theorem Pen.ne (h : Pen K G p n H) (e : H o = some (.lst xs)) : o ≠ p := by
  obtain ⟨c, a, l, q⟩ := h.is
  exact ne_of e q (fun z => nomatch z)
theorem Pen.new (h : Pen K G p n H) (e : H o = none) : o ≠ p := by
  obtain ⟨c, a, l, q⟩ := h.is
  exact (ne_of_none q e).symm
theorem Pen.upd (h : Pen K G p n H) (e : o ≠ p) : Pen K G p n (L2.upd H o x) := by
  obtain ⟨g, c, ns, a, l, h1, h2, h3, h4⟩ := h
  exact ⟨g, c, ns, a, l, h1, h2, h3, by rw [upd_ne e.symm]; exact h4⟩
/-- known besides: something that stands, not the pen -/
theorem Pen.know (h : Pen K G p n H) (s : Same G G') (e : G' p = none) : Pen K G' p n H := by
  obtain ⟨g, c, ns, a, l, h1, h2, h3, h4⟩ := h
  exact ⟨e, c, ns, a, l, s.seq h1, h2, h3, h4⟩
theorem Stp.forget {G1 G1' : Hp} (s : Stp M G1 H G1' H') (g : Same G H) (hM : ∀ a, M a → G a = none) : Stp M G H G H' :=
  ⟨s.up, Same.refl G, fun a o e => s.up a o (fun m => by rw [hM a m] at e; cases e) (g a o e), fun _ _ _ => rfl, s.th⟩
theorem r_put {y v : V} {R : Hp → Prop} (h : DPut H p y v H') (q : R H') : ∃ a H4, V.ref p = .ref a ∧ DPut H a y v H4 ∧ R H4 := ⟨p, H', rfl, h, q⟩
theorem hu64_of {k : Nat} {A : Around} (hr : Room k A) : A.units + 64 < cLine := by have := hr.un; omega
theorem r_ixL' {K : PySem.W.Frag} {xs : List V} {v : V} {Q : VK} (h : SqL K H p xs) (e : i = (n : Int)) (c : xs[n]? = some v) (q : Q v H) : rIxL K (.ref p) (.int i) H Q := ⟨p, xs, i, v, rfl, rfl, h, at_of e c, q⟩
theorem r_ixT' {K : PySem.W.Frag} {xs : List V} {v : V} {Q : VK} (h : SqT K H p xs) (e : i = (n : Int)) (c : xs[n]? = some v) (q : Q v H) : rIxT K (.ref p) (.int i) H Q := ⟨p, xs, i, v, rfl, rfl, h, at_of e c, q⟩
theorem dp_ints {K : PySem.W.Frag} {H : Hp} : ∀ ns : List Int, DpAll K H (ns.map V.int) (ns.map PyData.int)
  | [] => .nil
  | n :: r => .cons (.int n) (dp_ints r)
theorem dp_strs {K : PySem.W.Frag} {H : Hp} : ∀ ns : List Str, DpAll K H (ns.map V.str) (ns.map PyData.str)
  | [] => .nil
  | n :: r => .cons (.str n) (dp_strs r)
theorem mod_nat {i : Int} {m : Nat} (h : 1 ≤ m) : ∃ d : Nat, i % (m : Int) = (d : Int) ∧ d < m := by
  have h1 := Int.emod_nonneg i (b := (m : Int)) (by omega)
  have h2 := Int.emod_lt_of_pos i (b := (m : Int)) (by omega)
  exact ⟨(i % (m : Int)).toNat, by omega, by omega⟩
end
theorem mod_q {i : Int} {m : Nat} {Q : V → Prop} (h : 1 ≤ m) (q : ∀ d : Nat, d < m → Q (.int (d : Int))) : Q (.int (i % (m : Int))) := by
  obtain ⟨d, e, hd⟩ := mod_nat (i := i) h
  rw [e]
  exact q d hd
/-! data: texts and whole numbers in a row -/
abbrev SOk (z : Str) : Prop := PyData.strOk z = true
theorem lay_strs : ∀ ns : List Str, (∀ z ∈ ns, SOk z) → PyData.canLayAll0 (ns.map PyData.str) = true
  | [], _ => rfl
  | z :: r, h => by
    have h1 := h z List.mem_cons_self
    have h2 := lay_strs r fun y hy => h y (List.mem_cons_of_mem _ hy)
    simp only [List.map_cons, PyData.canLayAll0, PyData.canLay0, h2, Bool.and_true]
    exact h1
theorem deep_strs : ∀ ns : List Str, PyData.depthAll (ns.map PyData.str) = 0
  | [] => rfl
  | _ :: r => by simp [PyData.depthAll, PyData.depth, deep_strs r]
theorem sh_list {ns : List Str} (h : ∀ z ∈ ns, SOk z) : SeqAt.shaped (.list (ns.map PyData.str)) = true := by
  simp [SeqAt.shaped, PyData.canLay0, PyData.depth, lay_strs ns h, deep_strs]
theorem sh_tup {ns : List Str} (h : ∀ z ∈ ns, SOk z) : SeqAt.shaped (.tuple (ns.map PyData.str)) = true := by
  simp [SeqAt.shaped, PyData.canLay0, PyData.depth, lay_strs ns h, deep_strs]
theorem sh_ints (ns : List Int) : SeqAt.shaped (.list (ns.map PyData.int)) = true := PySem.W.ke_shaped_ints ns
theorem eqv_strs : ∀ ns ms : List Str, PyData.eqvAll (ns.map PyData.str) (ms.map PyData.str) = decide (ns = ms)
  | [], [] => by simp [PyData.eqvAll]
  | [], _ :: _ => by simp [PyData.eqvAll]
  | _ :: _, [] => by simp [PyData.eqvAll]
  | a :: r, b :: t => by
    simp only [List.map_cons, PyData.eqvAll, PyData.eqv, eqv_strs r t]
    by_cases h : a = b <;> by_cases h' : r = t <;> simp [h, h']
theorem eqv_ints : ∀ ns ms : List Int, PyData.eqvAll (ns.map PyData.int) (ms.map PyData.int) = decide (ns = ms)
  | [], [] => by simp [PyData.eqvAll]
  | [], _ :: _ => by simp [PyData.eqvAll]
  | _ :: _, [] => by simp [PyData.eqvAll]
  | a :: r, b :: t => by
    simp only [List.map_cons, PyData.eqvAll, PyData.eqv, eqv_ints r t]
    by_cases h : a = b <;> by_cases h' : r = t <;> simp [h, h']
section
variable {K : PySem.W.Frag} {H : Hp} {Q : VK} {p q : Addr} {ns ms : List Str} {is js : List Int}
theorem r_eqTT (h : SqT K H p (ns.map V.str)) (h' : SqT K H q (ms.map V.str)) (a : ∀ z ∈ ns, SOk z) (b : ∀ z ∈ ms, SOk z) (k : Q (.bl (decide (ns = ms))) H) : rEqD K (.ref p) (.ref q) H Q :=
  ⟨_, _, .tup h (dp_strs _), .tup h' (dp_strs _), sh_tup a, sh_tup b, by rw [PyData.eqv, eqv_strs]; exact k⟩
theorem r_neTT (h : SqT K H p (ns.map V.str)) (h' : SqT K H q (ms.map V.str)) (a : ∀ z ∈ ns, SOk z) (b : ∀ z ∈ ms, SOk z) (k : Q (.bl (!decide (ns = ms))) H) : rNeD K (.ref p) (.ref q) H Q :=
  ⟨_, _, .tup h (dp_strs _), .tup h' (dp_strs _), sh_tup a, sh_tup b, by rw [PyData.eqv, eqv_strs]; exact k⟩
theorem r_eqLL (h : SqL K H p (ns.map V.str)) (h' : SqL K H q (ms.map V.str)) (a : ∀ z ∈ ns, SOk z) (b : ∀ z ∈ ms, SOk z) (k : Q (.bl (decide (ns = ms))) H) : rEqD K (.ref p) (.ref q) H Q :=
  ⟨_, _, .lst h (dp_strs _), .lst h' (dp_strs _), sh_list a, sh_list b, by rw [PyData.eqv, eqv_strs]; exact k⟩
theorem r_neLL (h : SqL K H p (ns.map V.str)) (h' : SqL K H q (ms.map V.str)) (a : ∀ z ∈ ns, SOk z) (b : ∀ z ∈ ms, SOk z) (k : Q (.bl (!decide (ns = ms))) H) : rNeD K (.ref p) (.ref q) H Q :=
  ⟨_, _, .lst h (dp_strs _), .lst h' (dp_strs _), sh_list a, sh_list b, by rw [PyData.eqv, eqv_strs]; exact k⟩
theorem r_eqII (h : SqL K H p (is.map V.int)) (h' : SqL K H q (js.map V.int)) (k : Q (.bl (decide (is = js))) H) : rEqD K (.ref p) (.ref q) H Q :=
  ⟨_, _, .lst h (dp_ints _), .lst h' (dp_ints _), sh_ints _, sh_ints _, by rw [PyData.eqv, eqv_ints]; exact k⟩
theorem r_neII (h : SqL K H p (is.map V.int)) (h' : SqL K H q (js.map V.int)) (k : Q (.bl (!decide (is = js))) H) : rNeD K (.ref p) (.ref q) H Q :=
  ⟨_, _, .lst h (dp_ints _), .lst h' (dp_ints _), sh_ints _, sh_ints _, by rw [PyData.eqv, eqv_ints]; exact k⟩
end
/-! texts; what a pen picks from -/
section
variable {X : Cx} {K : PySem.W.Frag} {H : Hp} {Q : VK} {p : Addr} {xs : List V} {x y v : V} {i j : Int} {z z' : Str} {to te : TE} {σ : L2.St} {c n : Nat}
def kLenQ (K : PySem.W.Frag) : List V → Hp → VK → Prop := fun xs H Q => ∃ x n, xs = [x] ∧ LenV K x H n ∧ Q (.int n) H
theorem call_lenQ : CallR X (.builtin "len") (kLenQ X.K) := call_len
theorem c_lenQ {n : Nat} (h : LenV K x H n) (q : Q (.int (n : Int)) H) : kLenQ K [x] H Q := ⟨x, n, rfl, h, q⟩
def kJoin (K : PySem.W.Frag) : V → List V → Hp → VK → Prop := fun x xs H Q => ∃ a p, ∃ ys : List Str, x = .str a ∧ xs = [.ref p] ∧ (SqL K H p (ys.map V.str) ∨ SqT K H p (ys.map V.str)) ∧
      (ys.map (·.length)).sum + ys.length * a.length ≤ 16777216 ∧ Q (.str (Txt.join a ys)) H
theorem pe_joinK {o e : Expr} {apos pos : Pos} (ho : PE X o to) (he : PE X e te) (hs : starEach [e] X.env = [(false, eval e X.env)] := by rfl) (hbase : attributeBase o "join" X.env (eval o X.env) = eval o X.env := by rfl) (hline : (apos.endLine == pos.line) = true := by rfl) :
    PE X (.Call (.Attribute o "join" apos) [e] [] pos) (tM1 (kJoin X.K) to te) := pe_join ho he hs hbase hline
def kSplit : V → List V → Hp → VK → Prop := fun x xs H Q => ∃ a b, x = .str a ∧ xs = [.str b] ∧ (b.length == 0) = false ∧ a.length + 2 ≤ sizeLine ∧ rNewStrs (Txt.split a b) H Q
theorem pe_splitK {o e : Expr} {apos pos : Pos} (ho : PE X o to) (he : PE X e te) (hs : starEach [e] X.env = [(false, eval e X.env)] := by rfl) (hbase : attributeBase o "split" X.env (eval o X.env) = eval o X.env := by rfl) (hline : (apos.endLine == pos.line) = true := by rfl) :
    PE X (.Call (.Attribute o "split" apos) [e] [] pos) (tM1 kSplit to te) := pe_split ho he hs hbase hline
theorem r_m1 {r : V → List V → Hp → VK → Prop} (h : to σ H fun x H1 => (∃ a, x = .str a) ∧ te σ H1 fun y H2 => r x [y] H2 Q) : tM1 r to te σ H Q := h
theorem r_m1s {R : Prop} (q : R) : (∃ a, V.str z = .str a) ∧ R := ⟨⟨z, rfl⟩, q⟩
theorem c_join {ys : List Str} (h : SqL K H p (ys.map V.str)) (hs : (ys.map (·.length)).sum + ys.length * z.length ≤ 16777216) (q : Q (.str (Txt.join z ys)) H) : kJoin K (.str z) [.ref p] H Q := ⟨z, p, ys, rfl, rfl, .inl h, hs, q⟩
theorem c_split (h : (z'.length == 0) = false) (hs : z.length + 2 ≤ sizeLine) (q : ∀ p, H p = none → Q (.ref p) (upd H p (.lst ((Txt.split z z').map V.str)))) : kSplit (.str z) [.str z'] H Q := ⟨z, z', rfl, rfl, h, hs, q⟩
theorem r_ixS' (hz : z.length ≤ sizeLine) (e : i = (n : Int)) (h : z.cps.toList[n]? = some c) (q : Q (.str ⟨#[c]⟩) H) : rIxS (.str z) (.int i) H Q := ⟨z, i, c, rfl, rfl, hz, at_ofS e h, q⟩
where at_ofS {z : List Nat} {i : Int} {n c : Nat} (e : i = (n : Int)) (h : z[n]? = some c) : atI z i = some c := by rw [e]; exact atI_nat h
theorem r_addS {r : V} (hz : z.length + z'.length ≤ sizeLine) (q : Q (.str (z ++ z')) H) : (fun x y H Q => ∃ i j, x = V.str i ∧ y = V.str j ∧ i.length + j.length ≤ sizeLine ∧ Q (.str (i ++ j)) H : R2) (.str z) (.str z') H Q := ⟨z, z', rfl, rfl, hz, q⟩
def kAddS : R2 := fun x y H Q => ∃ i j, x = .str i ∧ y = .str j ∧ i.length + j.length ≤ sizeLine ∧ Q (.str (i ++ j)) H
theorem op_addS : OpR X (binaryOp .Add) kAddS := op_add_str
theorem c_addS (hz : z.length + z'.length ≤ sizeLine) (q : Q (.str (z ++ z')) H) : kAddS (.str z) (.str z') H Q := ⟨z, z', rfl, rfl, hz, q⟩
theorem r_slS {lo hi : Option Int} (hz : z.length ≤ sizeLine) (q : Q (.str (cutS z lo hi)) H) : rSlS (.str z) lo hi H Q := ⟨z, rfl, hz, q⟩
/-- what is picked from: a list, a tuple, a text -/
def Src (K : PySem.W.Frag) (G : Hp) (s : V) (items : List V) : Prop :=
  (∃ a, s = .ref a ∧ SqL K G a items) ∨ (∃ a, s = .ref a ∧ SqT K G a items) ∨ ∃ z : Str, s = .str z ∧ z.length ≤ sizeLine ∧ items = z.cps.toList.map fun c => V.str ⟨#[c]⟩
theorem Src.len {s : V} {items : List V} (h : Src K H s items) : LenV K s H items.length := by
  rcases h with ⟨a, rfl, h⟩ | ⟨a, rfl, h⟩ | ⟨z, rfl, h, rfl⟩
  · exact .inl ⟨_, h, rfl⟩
  · exact .inr ⟨_, h, rfl⟩
  · exact ⟨h, by rw [List.length_map]; rfl⟩
theorem Src.at {s : V} {items : List V} {d : Nat} (h : Src K H s items) (e : items[d]? = some v) (q : Q v H) : rIx K s (.int (d : Int)) H Q := by
  rcases h with ⟨a, rfl, h⟩ | ⟨a, rfl, h⟩ | ⟨z, rfl, h, rfl⟩
  · exact .inl ⟨a, items, _, v, rfl, rfl, h, at_of rfl e, q⟩
  · exact .inr (.inl ⟨a, items, _, v, rfl, rfl, h, at_of rfl e, q⟩)
  · obtain ⟨c, hc, rfl⟩ := map_get e
    exact .inr (.inr ⟨z, _, c, rfl, rfl, h, r_ixS'.at_ofS rfl hc, q⟩)
theorem Src.same {G : Hp} {s : V} {items : List V} (e : Same G H) (h : Src K G s items) : Src K H s items := by
  rcases h with ⟨a, r, h⟩ | ⟨a, r, h⟩ | h
  · exact .inl ⟨a, r, e.seq h⟩
  · exact .inr (.inl ⟨a, r, Same.sqt e h⟩)
  · exact .inr (.inr h)
end
theorem app_list (a y : Str) : (a ++ y).cps.toList = a.cps.toList ++ y.cps.toList := by
  show (a.cps ++ y.cps).toList = _
  exact Array.toList_append ..
theorem join_empty : ∀ ps : List Str, (Str.join ⟨#[]⟩ ps).cps.toList = (ps.map fun z => z.cps.toList).flatten
  | [] => rfl
  | [x] => by simp [Str.join]
  | x :: y :: r => by
    have h : Str.join ⟨#[]⟩ (x :: y :: r) = x ++ ⟨#[]⟩ ++ Str.join ⟨#[]⟩ (y :: r) := rfl
    rw [h, app_list, app_list, join_empty (y :: r)]
    simp
theorem join_signs (zs : List Nat) : Txt.join ⟨#[]⟩ (zs.map fun c => (⟨#[c]⟩ : Str)) = ⟨zs.toArray⟩ := by
  rw [TL.join_eq]
  apply ext_toList
  rw [join_empty, List.map_map]
  induction zs with
  | nil => rfl
  | cons z r ih => rw [List.map_cons, List.flatten_cons, ih]; rfl
/-! dicts written out -/
section
variable {K : PySem.W.Frag} {H : Hp} {Q : VK} {σ : L2.St} {p : Addr} {xs : List V}
theorem r_disp {trs : List (TE × TE)} (h : ∀ p, H p = none → tPairs trs σ (upd H p (.dK [])) fun ps H2 => H2 p = some (.dK []) ∧ ∃ kvs : List (Key × V), ps = kvs.map (fun kv => (kV kv.1, kv.2)) ∧ kvs.length ≤ 15 ∧ Q (.ref p) (upd H2 p (.dK (mergeK [] kvs)))) : tDisp trs σ H Q := h
theorem r_pcons {tk tv : TE} {r : List (TE × TE)} {R : List (V × V) → Hp → Prop} (h : tk σ H fun x H1 => tv σ H1 fun y H2 => tPairs r σ H2 fun ps H3 => R ((x, y) :: ps) H3) : tPairs ((tk, tv) :: r) σ H R := h
theorem r_pnil {R : List (V × V) → Hp → Prop} (h : R [] H) : tPairs [] σ H R := h
theorem r_slL {lo hi : Option Int} (h : SqL K H p xs) (q : ∀ l, H l = none → Q (.ref l) (upd H l (.lst (cutV xs lo hi)))) : rSlL K (.ref p) lo hi H Q := ⟨p, xs, rfl, h, q⟩
theorem putK_new {x : Str} {v : V} {kvs : List (Key × V)} (h : (kvs.any fun kv => decide (kv.1 = (.inr x : Key))) = false) : putK kvs (.inr x : Key) v = kvs ++ [(.inr x, v)] := by
  unfold putK
  rw [if_neg (by rw [h]; exact Bool.false_ne_true)]
theorem merge2 {a b : Str} {x y : V} (h : a ≠ b) : mergeK [] [((.inr a : Key), x), (.inr b, y)] = [(.inr a, x), (.inr b, y)] := by
  have e2 : putK [((Sum.inr a : Key), x)] (Sum.inr b) y = [(Sum.inr a, x), (Sum.inr b, y)] := (putK_new (by simp [h])).trans rfl
  show putK (putK [] (Sum.inr a : Key) x) (Sum.inr b) y = _
  rw [show putK ([] : List (Key × V)) (Sum.inr a) x = [(Sum.inr a, x)] from rfl, e2]
theorem merge3 {a b c : Str} {x y z : V} (h : a ≠ b) (h1 : a ≠ c) (h2 : b ≠ c) : mergeK [] [((.inr a : Key), x), (.inr b, y), (.inr c, z)] = [(.inr a, x), (.inr b, y), (.inr c, z)] := by
  have e2 : putK [((Sum.inr a : Key), x)] (Sum.inr b) y = [(Sum.inr a, x), (Sum.inr b, y)] := (putK_new (by simp [h])).trans rfl
  have e3 : putK [((Sum.inr a : Key), x), (Sum.inr b, y)] (Sum.inr c) z = [(Sum.inr a, x), (Sum.inr b, y), (Sum.inr c, z)] := (putK_new (by simp [h1, h2])).trans rfl
  show putK (putK (putK [] (Sum.inr a : Key) x) (Sum.inr b) y) (Sum.inr c) z = _
  rw [show putK ([] : List (Key × V)) (Sum.inr a) x = [(Sum.inr a, x)] from rfl, e2, e3]
end
/-- a name: one to eight small letters -/
def NmOk (z : Str) : Prop := 1 ≤ z.length ∧ z.length ≤ 8 ∧ ∀ c ∈ z.cps.toList, 97 ≤ c ∧ c ≤ 122
theorem NmOk.sok {z : Str} (h : NmOk z) : SOk z := by
  show z.cps.all (· < 0x110000) = true
  rw [← Array.all_toList, List.all_eq_true]
  intro c hc
  have := h.2.2 c hc
  exact decide_eq_true (by omega)
/-! the rules, the written part named -/
section
variable {X : Cx} {K : PySem.W.Frag}
theorem k_ix_list (h : X.K = K) : IxR X (rIxL K) := h ▸ ix_list
theorem k_ix_tup (h : X.K = K) : IxR X (rIxT K) := h ▸ ix_tup
theorem k_ix_seq (h : X.K = K) : IxR X (rIx K) := h ▸ ix_seq
theorem k_sl_list (h : X.K = K) : SlR X (rSlL K) := h ▸ sl_list
theorem k_sl_tupA (h : X.K = K) : SlR X (rSlA K) := h ▸ sl_tupA
theorem k_op_eqD (h : X.K = K) (hu : X.A.units + 64 < cLine) : OpR X (compareOp .Eq) (rEqD K) := h ▸ op_eqD hu
theorem k_op_neD (h : X.K = K) (hu : X.A.units + 64 < cLine) : OpR X (compareOp .NotEq) (rNeD K) := h ▸ op_neD hu
theorem k_op_in (h : X.K = K) : OpR X (compareOp .In) (rIn K false) := h ▸ op_in_seq
theorem k_op_notIn (h : X.K = K) : OpR X (compareOp .NotIn) (rIn K true) := h ▸ op_notIn_seq
theorem k_op_catA (h : X.K = K) : OpR X (binaryOp .Add) (rCatA K) := h ▸ op_catA
theorem k_len (h : X.K = K) : CallR X (.builtin "len") (kLen K) := h ▸ call_lenK
theorem k_lenQ (h : X.K = K) : CallR X (.builtin "len") (kLenQ K) := h ▸ call_lenQ
theorem k_list (h : X.K = K) : CallR X (.type "list") (kList K) := h ▸ call_listK
theorem k_tuple (h : X.K = K) : CallR X (.type "tuple") (kTuple K) := h ▸ call_tupleK
theorem k_sortedS (h : X.K = K) : CallR X (.builtin "sorted") (rSortedS K) := h ▸ cr_sortedS
theorem k_isi (h : X.K = K) : CallR X (.builtin "isinstance") (rIsi K) := h ▸ call_isi
theorem k_tupIndex (h : X.K = K) : MtR X "tuple.index" (kTupIndex K) := h ▸ mt_tupIndexK
theorem k_index (h : X.K = K) : MtR X "list.index" (rIndex K) := h ▸ mt_index
variable {e o : Expr} {es : List Expr} {te to ta : TE} {t : TA} {name : Str} {apos cpos pos p1 p2 p3 : Pos} {T id : String} {r : V → List V → Hp → VK → Prop} {k : Nat}
theorem k_bm0 (h : X.K = K) (pa : PlainAttrs T) (slot : Slot T name id) (hty : typeOf (.builtin id) = pure (.type "method_descriptor")) (hm : MtR X id r) (ho : PE X o to)
    (hbase : attributeBase o name X.env (eval o X.env) = eval o X.env := by rfl) (hline : (apos.endLine == cpos.line) = true := by rfl) : PE X (.Call (.Attribute o name apos) [] [] cpos) (tBM0 K T r to) := h ▸ pe_bm0 pa slot hty hm ho hbase hline
theorem k_bm (h : X.K = K) (pa : PlainAttrs T) (slot : Slot T name id) (hty : typeOf (.builtin id) = pure (.type "method_descriptor")) (hm : MtR X id r) (ho : PE X o to) (ha : PA X (e :: es) t)
    (hbase : attributeBase o name X.env (eval o X.env) = eval o X.env := by rfl)
    (hfew : ((backTo cpos (starEach (e :: es) X.env)).all (fun x => !x.1) && (backToKw cpos (keywordEach [] X.env)).all (fun x => x.1.isSome)
      && decide ((e :: es).length + ([] : List Keyword).length + (if ([] : List Keyword).isEmpty then 0 else 1) < 30)) = true := by rfl)
    (hline : (apos.endLine == cpos.line) = true := by rfl) (hs : starEach (e :: es) X.env = (false, eval e X.env) :: starEach es X.env := by rfl) (hplain : (backTo cpos (starEach es X.env)).any (·.1) = false := by rfl) :
    PE X (.Call (.Attribute o name apos) (e :: es) [] cpos) (tBM K T r to t) := h ▸ pe_bm pa slot hty hm ho ha hbase hfew hline hs hplain
theorem k_join {apos pos : Pos} (h : X.K = K) (ho : PE X o to) (he : PE X e te) (hs : starEach [e] X.env = [(false, eval e X.env)] := by rfl) (hbase : attributeBase o "join" X.env (eval o X.env) = eval o X.env := by rfl) (hline : (apos.endLine == pos.line) = true := by rfl) :
    PE X (.Call (.Attribute o "join" apos) [e] [] pos) (tM1 (kJoin K) to te) := h ▸ pe_joinK ho he hs hbase hline
theorem k_revT {k : Nat} (h : X.K = K) (he : PE X e te) : PE X (.Subscript e (.Slice none none (some (.UnaryOp .USub (.Constant (.int 1) k p1) p2)) p3) pos) (tRevT K te) := h ▸ pe_revT he
theorem k_revL {k : Nat} (h : X.K = K) (he : PE X e te) : PE X (.Subscript e (.Slice none none (some (.UnaryOp .USub (.Constant (.int 1) k p1) p2)) p3) pos) (tRevL K te) := h ▸ pe_revL he
variable {tg l : Expr} {n : Nat} {gs : TGs}
theorem k_pi_list (h : X.K = K) (he : PE X l te) : PI X tg l (iList K te) := h ▸ pi_list he
theorem k_pi_tup (h : X.K = K) (he : PE X l te) : PI X tg l (iTup K te) := h ▸ pi_tup he
theorem k_pg_tup {es : List Expr} {k : Nat} (h : X.K = K) (hc : X.calm = true) (hg : PGs X es gs)
    (hn : (assignEach es X.env).length = n := by rfl) (hst : (assignEach es X.env).findIdx? (·.1) = none := by rfl) : PG X (.Tuple es k pos) (gTup K n gs) := h ▸ pg_tup hc hg hn hst
theorem k_truth {a : Expr} (h : X.K = K) (ha : PE X a ta) (he : ∀ whole, isTrue a X.env whole = (do let v ← whole; standAt a.pos; holding [v] (truthy v))) :
    PT X a (fun σ H Q => ta σ H fun x H' => ∃ k, TruV K x H' k ∧ Q k H') := h ▸ pt_truth ha he
end
/-! texts cut -/
theorem cutS_mem {z : Str} {lo hi : Option Int} {c : Nat} (h : c ∈ (cutS z lo hi).cps.toList) : c ∈ z.cps.toList := by
  have h' : c ∈ ((z.cps.toList.drop (HT.sIx z.length 0 lo)).take (HT.sIx z.length z.length hi - HT.sIx z.length 0 lo)) := h
  exact List.mem_of_mem_drop (List.mem_of_mem_take h')
theorem cutS_len (z : Str) (lo hi : Option Int) : (cutS z lo hi).length = min (HT.sIx z.length z.length hi - HT.sIx z.length 0 lo) (z.length - HT.sIx z.length 0 lo) := by
  show (((z.cps.toList.drop (HT.sIx z.length 0 lo)).take (HT.sIx z.length z.length hi - HT.sIx z.length 0 lo)).toArray).size = _
  rw [List.size_toArray, List.length_take, List.length_drop, Array.length_toList]
  rfl
theorem cutS_to (z : Str) (a : Nat) : (cutS z none (some ((a : Nat) : Int))).length = min a z.length := by
  rw [cutS_len, HT.sIx_nat, HT.sIx_none]
  omega
theorem cutS_from (z : Str) (a : Nat) : (cutS z (some ((a : Nat) : Int)) none).length = z.length - a := by
  rw [cutS_len, HT.sIx_nat, HT.sIx_none]
  omega
theorem cutS_le (z : Str) (lo hi : Option Int) : (cutS z lo hi).length ≤ z.length := by
  rw [cutS_len]
  omega
theorem nm_cat {u v w : Str} {b : Str} (hb : b.length ≤ 8) (hc : ∀ c ∈ b.cps.toList, 97 ≤ c ∧ c ≤ 122) (h1 : ∀ c ∈ u.cps.toList, c ∈ b.cps.toList) (h2 : ∀ c ∈ v.cps.toList, 97 ≤ c ∧ c ≤ 122) (h3 : ∀ c ∈ w.cps.toList, c ∈ b.cps.toList)
    (hv : v.length = 1) (hl : u.length + 1 + w.length ≤ b.length) : NmOk (u ++ v ++ w) := by
  have e : (u ++ v ++ w).cps.toList = u.cps.toList ++ v.cps.toList ++ w.cps.toList := by rw [app_list, app_list]
  have el : (u ++ v ++ w).length = u.length + v.length + w.length := by
    show (u ++ v ++ w).cps.size = _
    rw [← Array.length_toList, e, List.length_append, List.length_append]
    rfl
  refine ⟨by omega, by omega, fun c h => ?_⟩
  rw [e] at h
  rcases List.mem_append.mp h with h | h
  · rcases List.mem_append.mp h with h | h
    · exact hc c (h1 c h)
    · exact h2 c h
  · exact hc c (h3 c h)
/-! yards: rooms and doors as plain data -/
abbrev Dr := Str × Str
def DrAll (G : Hp) (xs : List V) (ds : List Dr) : Prop :=
  xs.length = ds.length ∧ ∀ (i : Nat) (d : Dr), ds[i]? = some d → ∃ t o, xs[i]? = some (.ref t) ∧ G t = some (.frz o (.tup ([d.1, d.2].map V.str))) ∧ o.dict = none
theorem DrAll.nil {G : Hp} : DrAll G [] [] := ⟨rfl, fun i d h => by simp at h⟩
theorem DrAll.same {G G' : Hp} {xs : List V} {ds : List Dr} (e : Same G G') (h : DrAll G xs ds) : DrAll G' xs ds :=
  ⟨h.1, fun i d hd => by obtain ⟨t, o, h1, h2, h3⟩ := h.2 i d hd; exact ⟨t, o, h1, e _ _ h2, h3⟩⟩
theorem DrAll.snoc {G : Hp} {xs : List V} {ds : List Dr} {t : Addr} {o : Obj} {d : Dr} (h : DrAll G xs ds) (e : G t = some (.frz o (.tup ([d.1, d.2].map V.str)))) (hd : o.dict = none) : DrAll G (xs ++ [.ref t]) (ds ++ [d]) := by
  refine ⟨by rw [List.length_append, List.length_append, h.1]; rfl, fun i d' hi => ?_⟩
  by_cases hl : i < ds.length
  · rw [List.getElem?_append_left hl] at hi
    obtain ⟨t', o', h1, h2, h3⟩ := h.2 i d' hi
    exact ⟨t', o', by rw [List.getElem?_append_left (by rw [h.1]; exact hl)]; exact h1, h2, h3⟩
  · rw [List.getElem?_append_right (by omega)] at hi
    have e0 : i - ds.length = 0 := by
      rcases Nat.eq_zero_or_pos (i - ds.length) with z | z
      · exact z
      · rw [List.getElem?_eq_none (by simp; omega)] at hi; cases hi
    rw [e0] at hi
    have hi' : d = d' := Option.some.inj hi
    subst hi'
    exact ⟨t, o, by rw [List.getElem?_append_right (by rw [h.1]; omega), h.1, e0]; rfl, e, hd⟩
theorem DrAll.snoc' {G : Hp} {xs : List V} {ds : List Dr} {t : Addr} {o : Obj} {a b : Str} (h : DrAll G xs ds) (e : G t = some (.frz o (.tup [.str a, .str b]))) (hd : o.dict = none) : DrAll G (xs ++ [.ref t]) (ds ++ [(a, b)]) :=
  h.snoc (d := (a, b)) e hd
/-- the yard at y: its rooms' list, its doors' list at d -/
def Yd (K : PySem.W.Frag) (G : Hp) (y : Addr) (rs : List Str) (d : Addr) : Prop :=
  ∃ r, G y = some (.dK [(.inr "rooms", .ref r), (.inr "doors", .ref d)]) ∧ SqL K G r (rs.map V.str)
def Yard (K : PySem.W.Frag) (G : Hp) (y : Addr) (rs : List Str) (ds : List Dr) : Prop :=
  ∃ d xs, Yd K G y rs d ∧ SqL K G d xs ∧ DrAll G xs ds
theorem Yd.same {K : PySem.W.Frag} {G G' : Hp} {y d : Addr} {rs : List Str} (e : Same G G') (h : Yd K G y rs d) : Yd K G' y rs d := by
  obtain ⟨r, h1, h2⟩ := h
  exact ⟨r, e _ _ h1, e.seq h2⟩
theorem Yard.same {K : PySem.W.Frag} {G G' : Hp} {y : Addr} {rs : List Str} {ds : List Dr} (e : Same G G') (h : Yard K G y rs ds) : Yard K G' y rs ds := by
  obtain ⟨d, xs, h1, h2, h3⟩ := h
  exact ⟨d, xs, h1.same e, e.seq h2, h3.same e⟩
theorem Yd.rooms {K : PySem.W.Frag} {G : Hp} {y d : Addr} {rs : List Str} (h : Yd K G y rs d) : ∃ r, DGet G y (.str "rooms") (some (.ref r)) ∧ SqL K G r (rs.map V.str) := by
  obtain ⟨r, h1, h2⟩ := h
  exact ⟨r, dk h1 vv0, h2⟩
theorem Yd.doors {K : PySem.W.Frag} {G : Hp} {y d : Addr} {rs : List Str} (h : Yd K G y rs d) : DGet G y (.str "doors") (some (.ref d)) := by
  obtain ⟨r, h1, h2⟩ := h
  exact dk h1 ((vv1 (by decide +kernel)).trans vv0)
theorem filt_yes {α : Type} {p : α → Bool} {l : List α} {x : α} (h : p x = true) : (l ++ [x]).filter p = l.filter p ++ [x] := by
  rw [List.filter_append, List.filter_cons_of_pos h, List.filter_nil]
theorem filt_no {α : Type} {p : α → Bool} {l : List α} {x : α} (h : p x = false) : (l ++ [x]).filter p = l.filter p := by
  rw [List.filter_append, List.filter_cons_of_neg (by rw [h]; exact Bool.false_ne_true), List.filter_nil, List.append_nil]
/-- what is beside x -/
def oth (x : Str) (d : Dr) : Str := if d.1 = x then d.2 else d.1
def hasD (x : Str) (d : Dr) : Bool := decide (d.1 = x) || decide (d.2 = x)
def nb (ds : List Dr) (x : Str) : List Str := (ds.filter (hasD x)).map (oth x)
theorem inV_pair (x a b : Str) : inV (.str x) ([a, b].map V.str) = (decide (a = x) || decide (b = x)) := by
  have h : ∀ c : Str, (c == x) = decide (c = x) := fun c => by
    by_cases e : c = x
    · subst e; simp
    · rw [decide_eq_false e]; exact beq_eq_false_iff_ne.mpr e
  show ((a == x) || ((b == x) || false)) = _
  rw [h, h, Bool.or_false]
theorem inV_strs (x : Str) : ∀ zs : List Str, inV (.str x) (zs.map V.str) = decide (x ∈ zs)
  | [] => by simp [inV]
  | z :: r => by
    have h := inV_strs x r
    unfold inV at h ⊢
    rw [List.map_cons, List.any_cons, h]
    show ((z == x) || decide (x ∈ r)) = decide (x ∈ z :: r)
    by_cases e : z = x
    · subst e; simp
    · have e' : ¬ x = z := fun q => e q.symm
      simp [e, e']
theorem flat_strs : ∀ zs : List Str, (zs.map V.str).all flatV = true
  | [] => rfl
  | z :: r => by rw [List.map_cons, List.all_cons, flat_strs r]; rfl
section
variable {K : PySem.W.Frag} {H : Hp} {Q : VK} {p : Addr} {xs : List V} {x : V} {i j : Int} {zs : List Str} {z : Str}
theorem r_inL (h : SqL K H p (zs.map V.str)) (q : Q (.bl (decide (z ∈ zs))) H) : rIn K false (.str z) (.ref p) H Q := ⟨p, _, rfl, .inl h, rfl, flat_strs _, by rw [inV_strs]; exact q⟩
theorem r_inT (h : SqT K H p (zs.map V.str)) (q : Q (.bl (decide (z ∈ zs))) H) : rIn K false (.str z) (.ref p) H Q := ⟨p, _, rfl, .inr h, rfl, flat_strs _, by rw [inV_strs]; exact q⟩
theorem r_ninL (h : SqL K H p (zs.map V.str)) (q : Q (.bl (!decide (z ∈ zs))) H) : rIn K true (.str z) (.ref p) H Q := ⟨p, _, rfl, .inl h, rfl, flat_strs _, by rw [inV_strs]; exact q⟩
theorem r_ninT (h : SqT K H p (zs.map V.str)) (q : Q (.bl (!decide (z ∈ zs))) H) : rIn K true (.str z) (.ref p) H Q := ⟨p, _, rfl, .inr h, rfl, flat_strs _, by rw [inV_strs]; exact q⟩
theorem c_sorted (h : SqL K H p (zs.map V.str)) (hl : zs.length < 64) (q : ∀ (ys : List Str) (p : Addr), ys.Perm zs → sortedS ys = true → H p = none → Q (.ref p) (upd H p (.lst (ys.map V.str)))) : rSortedS K [.ref p] H Q := ⟨p, zs, rfl, h, hl, q⟩
theorem frz_t {G : Hp} {t : Addr} {o : Obj} (h : G t = some (.frz o (.tup xs))) : SqT K G t xs := .inl (.inr ⟨o, h⟩)
end
/-! pairs of places -/
def PrAll (K : PySem.W.Frag) (G : Hp) (xs : List V) (ps : List (Nat × Nat)) : Prop :=
  xs.length = ps.length ∧ ∀ (i : Nat) (d : Nat × Nat), ps[i]? = some d → ∃ t, xs[i]? = some (.ref t) ∧ SqT K G t [.int (d.1 : Int), .int (d.2 : Int)]
theorem PrAll.nil {K : PySem.W.Frag} {G : Hp} : PrAll K G [] [] := ⟨rfl, fun i d h => by simp at h⟩
theorem PrAll.same {K : PySem.W.Frag} {G G' : Hp} {xs : List V} {ds : List (Nat × Nat)} (e : Same G G') (h : PrAll K G xs ds) : PrAll K G' xs ds :=
  ⟨h.1, fun i d hd => by obtain ⟨t, h1, h2⟩ := h.2 i d hd; exact ⟨t, h1, Same.sqt e h2⟩⟩
theorem PrAll.app {K : PySem.W.Frag} {G : Hp} {xs ys : List V} {ds es : List (Nat × Nat)} (h : PrAll K G xs ds) (h' : PrAll K G ys es) : PrAll K G (xs ++ ys) (ds ++ es) := by
  refine ⟨by rw [List.length_append, List.length_append, h.1, h'.1], fun i d hi => ?_⟩
  by_cases hl : i < ds.length
  · rw [List.getElem?_append_left hl] at hi
    obtain ⟨t, h1, h2⟩ := h.2 i d hi
    exact ⟨t, by rw [List.getElem?_append_left (by rw [h.1]; exact hl)]; exact h1, h2⟩
  · rw [List.getElem?_append_right (by omega)] at hi
    obtain ⟨t, h1, h2⟩ := h'.2 _ d hi
    exact ⟨t, by rw [List.getElem?_append_right (by rw [h.1]; omega), h.1]; exact h1, h2⟩
theorem PrAll.one {K : PySem.W.Frag} {G : Hp} {t : Addr} {a b : Nat} (h : SqT K G t [.int (a : Int), .int (b : Int)]) : PrAll K G [.ref t] [(a, b)] := by
  refine ⟨rfl, fun i d hi => ?_⟩
  cases i with
  | zero => cases hi; exact ⟨t, rfl, h⟩
  | succ i => simp at hi
theorem PrAll.snoc {K : PySem.W.Frag} {G : Hp} {xs : List V} {ds : List (Nat × Nat)} {t : Addr} {a b : Nat} (h : PrAll K G xs ds) (e : SqT K G t [.int (a : Int), .int (b : Int)]) : PrAll K G (xs ++ [.ref t]) (ds ++ [(a, b)]) := h.app (.one e)
theorem if_join {b : Bool} {te tu : TE} {σ : L2.St} {H : Hp} {Q : VK} (R : V → Prop) (h1 : b = true → ∀ Q' : VK, (∀ v, R v → Q' v H) → te σ H Q') (h2 : b = false → ∀ Q' : VK, (∀ v, R v → Q' v H) → tu σ H Q') (q : ∀ v, R v → Q v H) :
    if b = true then te σ H Q else tu σ H Q := by
  cases b with
  | true => exact h1 rfl Q q
  | false => exact h2 rfl Q q
theorem lcR1t {σ : L2.St} {G H : Hp} {Q : VK} {g : TG} {tt : TT} {te : TE} {vs : List Nat} {M : Addr → Prop} {j : Int} {n : Nat} (e : j.toNat = n) (hb : -(2 ^ 62) ≤ j ∧ j < 2 ^ 62) (hn : n < 2 ^ 20) (g0 : Same G H) (Pv : Nat → List V → Hp → Hp → Prop)
    (h0 : ∀ L, H L = none → Pv 0 [] G (upd H L (.lst [])))
    (hst : ∀ L (i : Nat) acc G' H' (Em : V → Hp → Prop) (Sk : Hp → Prop), i < n → H L = none → H' L = some (.lst acc) → G' L = none → acc.length ≤ i → Stp M G H G' H' → Pv i acc G' H' →
      (∀ y G2 H2, Stp M G H G2 H2 → H2 L = some (.lst acc) → G2 L = none → Pv (i + 1) (acc ++ [y]) G2 (upd H2 L (.lst (acc ++ [y]))) → Em y H2) →
      (∀ G2 H2, Stp M G H G2 H2 → H2 L = some (.lst acc) → G2 L = none → Pv (i + 1) acc G2 H2 → Sk H2) →
      g (.int (i : Int)) (wipe σ vs) H' fun σ2 H2 => wipe σ2 vs = wipe σ vs ∧ tt σ2 H2 fun b H3 => if b = true then te σ2 H3 Em else Sk H3)
    (hd : ∀ L acc G' H', H L = none → acc.length ≤ n → Stp M G H G' H' → H' L = some (.lst acc) → G' L = none → Pv n acc G' H' → Q (.ref L) H') :
    ∃ j' : Int, [V.int j] = [.int j'] ∧ -(2 ^ 62) ≤ j' ∧ j' < 2 ^ 62 ∧ LcJ g tt te vs σ Q (Itr 0 j'.toNat) H := by
  subst e
  refine ⟨j, rfl, hb.1, hb.2, ?_⟩
  refine lc_by (M := M) (Y := fun i x => x = .int (0 + (i : Int))) walk_range hn g0 Pv h0 (fun _ _ _ _ _ _ _ => trivial) (fun L i x acc G' H' Em Sk h1 h2 h3 h4 h5 h6 h7 h8 h9 h10 => ?_) hd
  subst h8
  rw [Int.zero_add]
  exact hst L i acc G' H' Em Sk h1 h2 h3 h4 h5 h6 h7 h9 h10
def PrIn (m : Nat) (ps : List (Nat × Nat)) : Prop := ∀ q ∈ ps, q.1 < m ∧ q.2 < m
/-- what is made of pairs so far -/
def PrP (K : PySem.W.Frag) (m i : Nat) (acc : List V) (G : Hp) : Prop := ∃ ps, PrAll K G acc ps ∧ ps.length ≤ i ∧ PrIn m ps
theorem PrP.nil {K : PySem.W.Frag} {m i : Nat} {G : Hp} : PrP K m i [] G := ⟨[], .nil, Nat.zero_le _, fun _ h => by cases h⟩
theorem pair_em {K : PySem.W.Frag} {M : Addr → Prop} {G H G' H' : Hp} {acc : List V} {L t : Addr} {a b m i : Nat} {va vb : Int} {Em : V → Hp → Prop} (ea : va = (a : Int)) (eb : vb = (b : Int)) (st : Stp M G H G' H') (hL' : H' L = some (.lst acc)) (gL : G' L = none) (pv : PrP K m i acc G') (nt : H' t = none)
    (hEm : ∀ y G2 H2, Stp M G H G2 H2 → H2 L = some (.lst acc) → G2 L = none → PrP K m (i + 1) (acc ++ [y]) G2 → Em y H2) (ha : a < m) (hb : b < m) : Em (.ref t) (upd H' t (.tup [.int va, .int vb])) := by
  subst ea eb
  obtain ⟨ps, hps, hpl, hpi⟩ := pv
  have sN : Stp M G' H' (upd G' t (.tup [.int (a : Int), .int (b : Int)])) (upd H' t (.tup [.int (a : Int), .int (b : Int)])) := Stp.new st.gh nt
  have nLt : L ≠ t := ne_of_none hL' nt
  refine hEm _ _ _ (st.trans sN) (by rw [upd_ne nLt]; exact hL') (by rw [upd_ne nLt]; exact gL) ⟨ps ++ [(a, b)], (hps.same sN.gg).snoc (tof upd_same), by rw [List.length_append]; exact Nat.succ_le_succ hpl, fun e he => ?_⟩
  rcases List.mem_append.mp he with he | he
  · exact hpi e he
  · rw [List.mem_singleton.mp he]
    exact ⟨ha, hb⟩
theorem pair_emP {K : PySem.W.Frag} {M : Addr → Prop} {G H G' H' : Hp} {acc : List V} {L t p : Addr} {a b m i c : Nat} {va vb : Int} {Em : V → Hp → Prop} (ea : va = (a : Int)) (eb : vb = (b : Int)) (st : Stp M G H G' H') (hL' : H' L = some (.lst acc)) (gL : G' L = none) (pv : PrP K m i acc G') (nt : H' t = none)
    (hEm : ∀ y G2 H2, Stp M G H G2 H2 → H2 L = some (.lst acc) → G2 L = none → PrP K m (i + 1) (acc ++ [y]) G2 ∧ Pen K G2 p c (upd H2 L (.lst (acc ++ [y]))) → Em y H2) (ha : a < m) (hb : b < m) (hp : Pen K G' p c H') : Em (.ref t) (upd H' t (.tup [.int va, .int vb])) := by
  subst ea eb
  obtain ⟨ps, hps, hpl, hpi⟩ := pv
  have sN : Stp M G' H' (upd G' t (.tup [.int (a : Int), .int (b : Int)])) (upd H' t (.tup [.int (a : Int), .int (b : Int)])) := Stp.new st.gh nt
  have nLt : L ≠ t := ne_of_none hL' nt
  refine hEm _ _ _ (st.trans sN) (by rw [upd_ne nLt]; exact hL') (by rw [upd_ne nLt]; exact gL) ⟨⟨ps ++ [(a, b)], (hps.same sN.gg).snoc (tof upd_same), by rw [List.length_append]; exact Nat.succ_le_succ hpl, fun e he => ?_⟩, ?_⟩
  · rcases List.mem_append.mp he with he | he
    · exact hpi e he
    · rw [List.mem_singleton.mp he]
      exact ⟨ha, hb⟩
  · exact (hp.stp (Stp.new (M := M0) st.gh nt) (fun z => z)).upd (hp.ne hL')
theorem PrIn.app {m : Nat} {ps qs : List (Nat × Nat)} (h : PrIn m ps) (h' : PrIn m qs) : PrIn m (ps ++ qs) := fun e he => by
  rcases List.mem_append.mp he with he | he
  · exact h e he
  · exact h' e he
theorem r_cat {H : Hp} {Q : VK} {l b : Addr} {xs zs : List V} (h : H l = some (.lst xs)) (h' : H b = some (.lst zs)) (hl : xs.length + zs.length ≤ sizeLine) (q : ∀ p, H p = none → Q (.ref p) (upd H p (.lst (xs ++ zs)))) : rCat (.ref l) (.ref b) H Q := ⟨l, b, xs, zs, rfl, rfl, h, h', hl, q⟩
theorem r_extend {H : Hp} {Q : VK} {l b : Addr} {xs zs : List V} (h : H l = some (.lst xs)) (h' : H b = some (.lst zs)) (hl : xs.length + zs.length ≤ sizeLine) (q : Q .non (upd H l (.lst (xs ++ zs)))) : rExtend (.ref l) [.ref b] H Q := ⟨l, b, xs, zs, rfl, rfl, h, h', hl, q⟩
/-! tuples made of tuples, told as known -/
section
variable {K : PySem.W.Frag} {G H : Hp} {Q : VK} {a b : Addr} {xs ys : List V} {lo hi : Option Int}
theorem kn_slT (g : Same G H) (h : SqT K G a xs) (q : ∀ r G' H', Stp M0 G H G' H' → SqT K G' r (cutV xs lo hi) → Q (.ref r) H') : rSlA K (.ref a) lo hi H Q := by
  refine ⟨a, xs, rfl, Same.sqt g h, fun hw => ?_, fun _ p np => q p (upd G p _) _ (Stp.new g np) (tof upd_same)⟩
  refine q a G H (Stp.refl g) ?_
  have e : cutV xs lo hi = xs := by
    unfold cutV
    rw [hw.1, hw.2, List.drop_zero, Nat.sub_zero]
    exact List.take_of_length_le (Nat.le_refl _)
  rw [e]
  exact h
theorem kn_cat (g : Same G H) (h : SqT K G a xs) (h' : SqT K G b ys) (hl : xs.length + ys.length ≤ sizeLine) (q : ∀ r G' H', Stp M0 G H G' H' → SqT K G' r (xs ++ ys) → Q (.ref r) H') : rCatA K (.ref a) (.ref b) H Q := by
  refine ⟨a, b, xs, ys, rfl, rfl, Same.sqt g h, Same.sqt g h', hl, fun e => ?_, fun _ e => ?_, fun _ _ p np => q p (upd G p _) _ (Stp.new g np) (tof upd_same)⟩
  · subst e
    exact q b G H (Stp.refl g) h'
  · subst e
    exact q a G H (Stp.refl g) (by rw [List.append_nil]; exact h)
def RevQ (K : PySem.W.Frag) (H1 : Hp) (Q : VK) (x : V) : Prop := ∃ a xs, x = .ref a ∧ SqT K H1 a xs ∧ ∀ p, H1 p = none → Q (.ref p) (upd H1 p (.tup xs.reverse))
theorem r_revQ {te : TE} {σ : L2.St} (h : te σ H fun x H1 => RevQ K H1 Q x) : tRevT K te σ H Q := h
theorem kn_rev (g : Same G H) (h : SqT K G a xs) (q : ∀ r G' H', Stp M0 G H G' H' → SqT K G' r xs.reverse → Q (.ref r) H') : RevQ K H Q (.ref a) :=
  ⟨a, xs, rfl, Same.sqt g h, fun p np => q p (upd G p _) _ (Stp.new g np) (tof upd_same)⟩
theorem tyx_tup (h : SqT K H a xs) : TyX K H (.ref a) (.type "tuple") := by
  rcases h with (h | ⟨o, h⟩) | ⟨o, _, _, h, c, _⟩
  · exact .base (.tup h)
  · exact .fTuple h
  · exact .kTuple h c
theorem isi_tup (h : SqT K H a xs) (q : Q (.bl true) H) : rIsi K [.ref a, .ty "tuple"] H Q :=
  ⟨.ref a, .ty "tuple", .type "tuple", .type "tuple", true, rfl, .ty "tuple", tyx_tup h, by unfold PySem.W.kitOne; rw [if_pos (by simp)], q⟩
end
/-! slices of texts in a row -/
theorem cut_to (ws : List Str) (n : Nat) : cutV (ws.map V.str) none (some (n : Int)) = (ws.take n).map V.str := by
  unfold cutV
  rw [HT.sIx_nat, HT.sIx_none, List.drop_zero, List.length_map, Nat.sub_zero, List.map_take]
  rcases Nat.le_total n ws.length with h | h
  · rw [Nat.min_eq_left h]
  · rw [Nat.min_eq_right h, List.take_of_length_le (by rw [List.length_map]; exact Nat.le_refl _), List.take_of_length_le (by rw [List.length_map]; exact h)]
theorem cut_from (ws : List Str) (n : Nat) : cutV (ws.map V.str) (some (n : Int)) none = (ws.drop n).map V.str := by
  unfold cutV
  rw [HT.sIx_nat, HT.sIx_none, List.length_map, List.map_drop]
  rcases Nat.le_total n ws.length with h | h
  · rw [Nat.min_eq_left h, List.take_of_length_le (by rw [List.length_drop, List.length_map]; exact Nat.le_refl _)]
  · rw [Nat.min_eq_right h, Nat.sub_self, List.take_zero, List.drop_of_length_le (by rw [List.length_map]; exact h)]
theorem cut_from' (ws : List Str) {i : Int} (n : Nat) (e : i = (n : Int)) : cutV (ws.map V.str) (some i) none = (ws.drop n).map V.str := by rw [e, cut_from]
theorem cut_to' (ws : List Str) {i : Int} (n : Nat) (e : i = (n : Int)) : cutV (ws.map V.str) none (some i) = (ws.take n).map V.str := by rw [e, cut_to]
/-! ### shrinking -/
def stepS (kept : List Str) (r : Str) : List Str := if kept.length > 1 ∧ kept[kept.length - 2]? = some r then kept.dropLast else kept ++ [r]
def shr (w : List Str) : List Str := w.foldl stepS []
theorem shr_snoc (w : List Str) (r : Str) : shr (w ++ [r]) = stepS (shr w) r := by unfold shr; rw [List.foldl_append]; rfl
theorem shr_app (u v : List Str) : shr (u ++ v) = v.foldl stepS (shr u) := by unfold shr; rw [List.foldl_append]
theorem stepS_len (k : List Str) (r : Str) : (stepS k r).length ≤ k.length + 1 := by
  unfold stepS
  split
  · rw [List.length_dropLast]; omega
  · rw [List.length_append]; simp
theorem foldl_len (w : List Str) : ∀ k, (w.foldl stepS k).length ≤ k.length + w.length := by
  induction w with
  | nil => intro k; simp
  | cons x w ih => intro k; have h := ih (stepS k x); have h2 := stepS_len k x; rw [List.foldl_cons, List.length_cons]; omega
theorem shr_len (w : List Str) : (shr w).length ≤ w.length := by have h := foldl_len w []; simp only [List.length_nil, Nat.zero_add] at h; exact h
/-- nothing goes straight back -/
def Rdc (k : List Str) : Prop := ∀ (i : Nat) (a b : Str), k[i]? = some a → k[i + 2]? = some b → a ≠ b
theorem get_dl {k : List Str} {i : Nat} {a : Str} (h : k.dropLast[i]? = some a) : k[i]? = some a ∧ i + 1 < k.length := by
  rw [List.getElem?_dropLast] at h
  split at h
  · rename_i c
    exact ⟨h, by omega⟩
  · cases h
theorem Rdc.step {k : List Str} {r : Str} (h : Rdc k) : Rdc (stepS k r) := by
  unfold stepS
  split
  · intro i a b ha hb
    exact h i a b (get_dl ha).1 (get_dl hb).1
  · rename_i c
    intro i a b ha hb
    by_cases hi : i + 2 < k.length
    · rw [List.getElem?_append_left (by omega)] at ha
      rw [List.getElem?_append_left hi] at hb
      exact h i a b ha hb
    · have hl : i + 2 < (k ++ [r]).length := by
        rcases Nat.lt_or_ge (i + 2) (k ++ [r]).length with z | z
        · exact z
        · rw [List.getElem?_eq_none z] at hb; cases hb
      rw [List.length_append] at hl
      have e : i + 2 = k.length := by simp at hl; omega
      rw [List.getElem?_append_left (by omega)] at ha
      rw [List.getElem?_append_right (by omega), e, Nat.sub_self] at hb
      intro z
      refine c ⟨by omega, ?_⟩
      rw [show k.length - 2 = i by omega, ha, z, ← Option.some.inj hb]
theorem Rdc.fold {w : List Str} : ∀ {k : List Str}, Rdc k → Rdc (w.foldl stepS k) := by
  induction w with
  | nil => intro k h; exact h
  | cons x w ih => intro k h; exact ih h.step
theorem Rdc.nil : Rdc [] := fun i a b h => by simp at h
theorem shr_rdc (w : List Str) : Rdc (shr w) := Rdc.nil.fold
theorem stepS_last (k : List Str) (r : Str) : (stepS k r)[(stepS k r).length - 1]? = some r := by
  unfold stepS
  split
  · rename_i c
    rw [List.length_dropLast, List.getElem?_dropLast, if_pos (by omega), show k.length - 1 - 1 = k.length - 2 by omega]
    exact c.2
  · rw [List.length_append]
    show (k ++ [r])[k.length + 1 - 1]? = some r
    rw [Nat.add_sub_cancel, List.getElem?_append_right (Nat.le_refl _), Nat.sub_self]
    rfl
theorem stepS_ne (k : List Str) (r : Str) : 1 ≤ (stepS k r).length := by
  have h := stepS_last k r
  rcases Nat.lt_or_ge 0 (stepS k r).length with z | z
  · exact z
  · rw [List.getElem?_eq_none (by omega)] at h; cases h
theorem dl_last {k : List Str} {x : Str} (h : k[k.length - 1]? = some x) : k.dropLast ++ [x] = k := by
  have hn : k ≠ [] := fun e => by subst e; simp at h
  have hp : 0 < k.length := List.length_pos_iff.mpr hn
  rw [List.getElem?_eq_getElem (by omega)] at h
  have e : k.getLast hn = x := by rw [List.getLast_eq_getElem]; exact Option.some.inj h
  rw [← e]
  exact List.dropLast_concat_getLast hn
/-- there and straight back -/
theorem step_back {k : List Str} {x y : Str} (hk : Rdc k) (hx : k[k.length - 1]? = some x) : stepS (stepS k y) x = k := by
  have hn : 0 < k.length := by
    rcases Nat.lt_or_ge 0 k.length with z | z
    · exact z
    · rw [List.getElem?_eq_none (by omega)] at hx; cases hx
  by_cases c : k.length > 1 ∧ k[k.length - 2]? = some y
  · have e1 : stepS k y = k.dropLast := by unfold stepS; rw [if_pos c]
    rw [e1]
    unfold stepS
    rw [if_neg]
    · exact dl_last hx
    · intro ⟨c1, c2⟩
      rw [List.length_dropLast] at c1 c2
      have h2 := (get_dl c2).1
      have h3 : k[(k.length - 1 - 2) + 2]? = some x := by rw [show k.length - 1 - 2 + 2 = k.length - 1 by omega]; exact hx
      exact hk _ _ _ h2 h3 rfl
  · have e1 : stepS k y = k ++ [y] := by unfold stepS; rw [if_neg c]
    rw [e1]
    unfold stepS
    rw [if_pos, List.dropLast_concat]
    refine ⟨by rw [List.length_append]; simp; omega, ?_⟩
    rw [List.length_append]
    show (k ++ [y])[k.length + 1 - 2]? = some x
    rw [show k.length + 1 - 2 = k.length - 1 by omega, List.getElem?_append_left (by omega)]
    exact hx
/-- what goes straight back may be taken out -/
theorem shr_red (u v : List Str) (x y : Str) : shr (u ++ x :: y :: x :: v) = shr (u ++ x :: v) := by
  rw [shr_app, shr_app, List.foldl_cons, List.foldl_cons, List.foldl_cons, List.foldl_cons, step_back (shr_rdc u).step (stepS_last _ _)]
theorem shr_irr {w : List Str} (h : Rdc w) : shr w = w := by
  have all : ∀ n, n ≤ w.length → shr (w.take n) = w.take n := by
    intro n
    induction n with
    | zero => intro _; rfl
    | succ n ih =>
      intro hn
      have e : w.take (n + 1) = w.take n ++ [w[n]] := by rw [List.take_add_one, List.getElem?_eq_getElem (by omega)]; rfl
      rw [e, shr_snoc, ih (by omega)]
      unfold stepS
      rw [if_neg]
      intro ⟨c1, c2⟩
      rw [List.length_take, Nat.min_eq_left (by omega)] at c1 c2
      rw [List.getElem?_take_of_lt (by omega)] at c2
      exact h (n - 2) _ _ c2 (by rw [show n - 2 + 2 = n by omega]; exact List.getElem?_eq_getElem (by omega)) rfl
  have h2 := all w.length (Nat.le_refl _)
  rwa [List.take_length] at h2
theorem shr_shr (w : List Str) : shr (shr w) = shr w := shr_irr (shr_rdc w)
theorem shr_last {w : List Str} {x : Str} (h : w[w.length - 1]? = some x) : (shr w)[(shr w).length - 1]? = some x := by
  rw [← dl_last h, shr_snoc]
  exact stepS_last _ _
theorem fold_head {w : List Str} : ∀ {k : List Str} {x : Str}, k[0]? = some x → (w.foldl stepS k)[0]? = some x := by
  induction w with
  | nil => intro k x h; exact h
  | cons y w ih =>
    intro k x h
    refine ih ?_
    unfold stepS
    split
    · rename_i c
      rw [List.getElem?_dropLast, if_pos (by omega)]
      exact h
    · have hp : 0 < k.length := by
        cases k with
        | nil => simp at h
        | cons z r => simp
      rw [List.getElem?_append_left hp]
      exact h
theorem shr_head (x : Str) (w : List Str) : (shr (x :: w))[0]? = some x := by
  show (w.foldl stepS (stepS [] x))[0]? = some x
  exact fold_head rfl
theorem shr_par (w : List Str) : (shr w).length % 2 = w.length % 2 := by
  have all : ∀ (w k : List Str), (w.foldl stepS k).length % 2 = (k.length + w.length) % 2 := by
    intro w
    induction w with
    | nil => intro k; rfl
    | cons x w ih =>
      intro k
      rw [List.foldl_cons, ih, List.length_cons]
      unfold stepS
      split
      · rw [List.length_dropLast]; omega
      · rw [List.length_append]; simp; omega
  have h := all w []
  simp only [List.length_nil, Nat.zero_add] at h
  exact h
theorem snoc_ind {α : Type} {R : List α → Prop} (h0 : R []) (h1 : ∀ l z, R l → R (l ++ [z])) (l : List α) : R l := by
  have all : ∀ l : List α, R l.reverse := by
    intro l
    induction l with
    | nil => exact h0
    | cons z l ih => rw [List.reverse_cons]; exact h1 _ z ih
  have h := all l.reverse
  rwa [List.reverse_reverse] at h
/-- out and straight back, put in -/
theorem shr_out (u v : List Str) : ∀ (o : List Str) (x : Str), shr (u ++ (x :: o) ++ (x :: o).reverse.tail ++ v) = shr (u ++ x :: v) := by
  intro o
  refine snoc_ind (R := fun o => ∀ (x : Str), shr (u ++ (x :: o) ++ (x :: o).reverse.tail ++ v) = shr (u ++ x :: v)) ?_ (fun o z ih => ?_) o
  · intro x
    simp
  · intro x
    rw [← ih x]
    have e1 : (x :: (o ++ [z])).reverse.tail = (x :: o).reverse := by simp
    obtain ⟨y, r, hr⟩ : ∃ y r, (x :: o).reverse = y :: r := by
      cases h : (x :: o).reverse with
      | nil => simp at h
      | cons y r => exact ⟨y, r, rfl⟩
    have e2 : x :: o = r.reverse ++ [y] := by rw [← List.reverse_reverse (x :: o), hr, List.reverse_cons]
    rw [e1, hr, ← List.cons_append, e2]
    have h := shr_red (u ++ r.reverse) (r ++ v) y z
    simp only [List.append_assoc, List.cons_append, List.nil_append, List.tail_cons] at h ⊢
    exact h
theorem while_k {c : TT} {tb : TS} {D : Ends} {σ : L2.St} {H : Hp} (W : Nat → L2.St → Hp → Prop) (m : Nat) (h0 : W m σ H)
    (hs : ∀ m σ H, W m σ H → ∀ Ct : Bool → Hp → Prop, (∀ H1, tb { D with nx := fun σ' H' => ∃ m', m' < m ∧ W m' σ' H', ct := fun σ' H' => ∃ m', m' < m ∧ W m' σ' H', bk := D.nx } σ H1 → Ct true H1) → (∀ H1, D.nx σ H1 → Ct false H1) → c σ H Ct) : tWhile c tb D σ H :=
  ⟨W, ⟨m, h0⟩, fun m σ H w => hs m σ H w _ (fun H1 h => by rw [if_pos rfl]; exact ⟨_, fun σ' H' q => q, h⟩) (fun H1 h => by rw [if_neg Bool.false_ne_true]; exact h)⟩
theorem List.mem_of_mem_dropLast' {α : Type} {l : List α} {z : α} (h : z ∈ l.dropLast) : z ∈ l := by
  rw [List.dropLast_eq_take] at h
  exact List.mem_of_mem_take h
theorem fold_mem {w : List Str} : ∀ {k : List Str} {z : Str}, z ∈ w.foldl stepS k → z ∈ k ∨ z ∈ w := by
  induction w with
  | nil => intro k z h; exact .inl h
  | cons x w ih =>
    intro k z h
    rcases ih h with h | h
    · unfold stepS at h
      split at h
      · exact .inl (List.mem_of_mem_dropLast' h)
      · rcases List.mem_append.mp h with h | h
        · exact .inl h
        · rw [List.mem_singleton.mp h]
          exact .inr List.mem_cons_self
    · exact .inr (List.mem_cons_of_mem _ h)
theorem shr_mem {w : List Str} {z : Str} (h : z ∈ shr w) : z ∈ w := by
  rcases fold_mem h with h | h
  · cases h
  · exact h
theorem iteN1 {A B : Prop} (h : B) : if (!true) = true then A else B := h
theorem iteN2 {A B : Prop} (h : A) : if (!false) = true then A else B := h
/-! own errors without fields: raised with nothing, caught by name, asked what they are -/
/-- what is asked of an own error's class at C -/
structure ErrC (K : PySem.W.Frag) (mg : Str → Option Value) (x : Str) (C : Addr) : Prop where
  g : mg x = some (.ref C)
  ex : PySem.W.excIn K C [.type "ValueError", .type "Exception", .type "BaseException", .type "object"] "ValueError.__new__" = true
  kp : PySem.W.keepIn K (.ref C) = true
  sb : PySem.W.subIn K (.ref C) (.type "BaseException") = some true
  ty : PySem.W.typeIn K (.ref C) = some (.type "type")
  ga : PySem.W.findIn K (.ref C) "__getattribute__" = some (some (.builtin "BaseException.__getattribute__"))
  gt : PySem.W.findIn K (.ref C) "__getattr__" = some none
  hd : PySem.W.hasDictIn K C = true
  cl : PySem.W.findIn K (.ref C) "__class__" = some (some (.builtin "object.__class__"))
  gs : PySem.W.specialIn K (.builtin "object.__class__") "__get__" = some (some (.builtin "getset_descriptor.__get__"))
  tk : PySem.W.takesIn K (.builtin "object.__class__") = some true
  mr : PySem.W.mroIn K C (.type "object") = some true
theorem ErrC.exc {K : PySem.W.Frag} {mg : Str → Option Value} {x : Str} {C : Addr} (h : ErrC K mg x C) : ExcC K C := ⟨h.ga, h.gt, h.sb, h.hd, h.cl, h.gs, h.tk, h.mr⟩
section
variable {X : Cx} {C : Addr} {x : Str} {p pos : Pos}
theorem pmk_none (h : ErrC X.K X.mg x C) (hg : Gl X x) (hdb : (x == ("__debug__" : Str)) = false := by decide) : PMk X (.Call (.Name x p) [] [] pos) (fun _ H Q => Q (.ref C) none H) := by
  intro pins s σ H Q I q
  refine wpAny_Call_Name_kw (ld_glob I hg h.g ?_ hdb)
  refine PySem.W.callWith_K0 I.kIn h.kp ?_
  obtain ⟨bm, N, nm, qn, bs, hdct, sn, sub, ab, col, dd, k0, k1, k2, k3, k5, mN, hC, hN, hni, T⟩ := exc_obj I.kIn h.ex
  refine wpAny_call_exc_subT PySem.F.excBase_ValueError T hC hN hni (fun h' e hm => ?_) (Nat.zero_le _)
  exact mk_of I hm (raises_own h.sb h.ty) q (I.hok.gone hm.new)
variable {CX : CXT} {k k' : Nat} {ps : List Str} {sp : Sp} {E : L2.St → XK} {e : Expr} {es : List Expr} {t : TA}
theorem pe_dfS (F : Df X.prog X.w X.K X.mg X.base CX k x ps sp) (hr : Room k' X.A) (hg : Gl X x) (hx : ∀ σ, PassesAt CX X σ (E σ)) (ha : PA X (e :: es) t) (hk : k ≤ k' := by decide)
    (hdb : (x == ("__debug__" : Str)) = false := by decide) (he : starEach (e :: es) X.env = (false, eval e X.env) :: starEach es X.env := by rfl) (hpl : (backTo pos (starEach es X.env)).any (·.1) = false := by rfl) :
    PE X (.Call (.Name x p) (e :: es) [] pos) (tCallS sp E t) := by
  obtain ⟨f, fd, F, hm, hkp, hb⟩ := F
  exact pe_callS F (hr.mono hk) hg hm hkp hb hx ha hdb he hpl
theorem r_callS {σ : L2.St} {H : Hp} {Q : VK} (h : t σ H fun vs H1 => sp vs H1 Q (E σ)) : tCallS sp E t σ H Q := h
/-- isinstance(e, (A, B)), e the error that the suite holds -/
def rIsET (K : PySem.W.Frag) (D a : Addr) : List V → Hp → VK → Prop := fun xs H Q => ∃ (tp : Addr) (cs : List V) (us : List Value) (b : Bool), xs = [.ref a, .ref tp] ∧ H tp = some (.tup cs) ∧ Paired ClsV cs us ∧ PySem.W.kitAny K (.ref D) us = some b ∧ Q (.bl b) H
theorem call_isET {a D : Addr} {oe : Obj} {pn : List (Addr × Obj)} (C : ExcC X.K D) (hz : Zc (.ref D) none oe) (hf : ∃ vs, oe.data = .fields vs) : CallR (X.suite a ((a, oe) :: pn)) (.builtin "isinstance") (rIsET X.K D a) := by
  intro pins s σ H xs us Q I r h
  obtain ⟨tp, cs, ws, b, rfl, hT, kc, e, q⟩ := h
  obtain ⟨u1, u2, rfl, r1, r2⟩ := vals2 r
  cases (show u1 = Value.ref a from r1)
  cases (show u2 = Value.ref tp from r2)
  have hp := (I.pin (a, oe) (List.mem_append_left _ List.mem_cons_self)).1
  obtain ⟨vs, hv⟩ := hf
  obtain ⟨hz1, hz2⟩ := hz
  have J : PySem.W.InstAt s.heap a oe D none := by
    cases oe with
    | mk c1 c2 c3 c4 =>
      simp only at hz1 hz2 hv
      rw [hz1, hz2, hv] at hp ⊢
      exact ⟨hp, rfl, rfl, trivial⟩
  have hO : ObjOk X.prog X.w H s.heap tp (.tup cs) := I.hok tp _ hT
  obtain ⟨_, its, rv, ⟨oc, od, dt, sl⟩, h1, h2, n, h3⟩ := hO
  have e3 := ClsV.all kc rv
  subst e3
  simp only at h2 h3
  subst h2 h3
  exact PySem.W.kia_tup (PySem.W.handS_kitx_exc C.hg C.hk C.hs C.hd C.ha C.hn C.ht C.hm) I.kIn J h1 e (fun z => nomatch z) fun tk => ⟨.bl b, H, I.kept (t' := tk) fun _ _ z => z, rfl, q⟩
end
section
variable {K : PySem.W.Frag} {D a tp : Addr} {H : Hp} {Q : VK} {c : V} {cv : Value} {b : Bool} {cs : List V} {us : List Value}
theorem c_isE (hc : ∀ u, RelV c u → u = cv) (e : PySem.W.kitOne K (.ref D) cv = some b) (q : Q (.bl b) H) : rIsE K D a [.ref a, c] H Q := ⟨c, cv, b, rfl, hc, e, q⟩
theorem c_isET (h : H tp = some (.tup cs)) (hc : Paired ClsV cs us) (e : PySem.W.kitAny K (.ref D) us = some b) (q : Q (.bl b) H) : rIsET K D a [.ref a, .ref tp] H Q := ⟨tp, cs, us, b, rfl, h, hc, e, q⟩
end
theorem pss_under {X : Cx} {R : Prop} {st : List Stmt} {t : TS} (h : R → PSs X st t) : PSs X st (fun D σ H => R ∧ t D σ H) := ⟨fun pins s σ H D I q => (h q.1).run pins s σ H D I q.2⟩
theorem zc_of {cls : Value} {C : Addr} {d : Option Addr} {oe : Obj} (h : cls = Value.ref C ∧ d = none) (z : Zc cls d oe) : Zc (.ref C) none oe := by
  obtain ⟨h1, h2⟩ := h
  subst h1 h2
  exact z
/-! ### walks one behind another -/
/-- what goes straight back taken out, again and again -/
inductive Rs : List Str → List Str → Prop
  | refl (w : List Str) : Rs w w
  | step {u v w : List Str} {x y : Str} : Rs (u ++ x :: v) w → Rs (u ++ x :: y :: x :: v) w
theorem Rs.shr {a b : List Str} (h : Rs a b) : TT.shr a = TT.shr b := by
  induction h with
  | refl w => rfl
  | step _ ih => rw [shr_red, ih]
theorem Rs.trans {a b c : List Str} (h : Rs a b) (h' : Rs b c) : Rs a c := by
  induction h with
  | refl w => exact h'
  | step _ ih => exact .step (ih h')
theorem Rs.app {a b : List Str} (u v : List Str) (h : Rs a b) : Rs (u ++ a ++ v) (u ++ b ++ v) := by
  induction h with
  | refl w => exact .refl _
  | @step u' v' w x y _ ih =>
    have e1 : u ++ (u' ++ x :: y :: x :: v') ++ v = (u ++ u') ++ x :: y :: x :: (v' ++ v) := by simp
    have e2 : u ++ (u' ++ x :: v') ++ v = (u ++ u') ++ x :: (v' ++ v) := by simp
    rw [e1]
    rw [e2] at ih
    exact .step ih
theorem Rs.rev {a b : List Str} (h : Rs a b) : Rs a.reverse b.reverse := by
  induction h with
  | refl w => exact .refl _
  | @step u v w x y _ ih =>
    have e1 : (u ++ x :: y :: x :: v).reverse = v.reverse ++ x :: y :: x :: u.reverse := by simp
    have e2 : (u ++ x :: v).reverse = v.reverse ++ x :: u.reverse := by simp
    rw [e1]
    rw [e2] at ih
    exact .step ih
theorem Rs.one (u v : List Str) (x y : Str) : Rs (u ++ x :: y :: x :: v) (u ++ x :: v) := .step (.refl _)
theorem rs_step (k : List Str) (r : Str) : Rs (k ++ [r]) (stepS k r) := by
  unfold stepS
  split
  · rename_i c
    have e1 : k.dropLast.dropLast ++ [r] = k.dropLast := by
      refine dl_last ?_
      rw [List.length_dropLast, List.getElem?_dropLast, if_pos (by omega), show k.length - 1 - 1 = k.length - 2 by omega]
      exact c.2
    obtain ⟨z, hz⟩ : ∃ z, k[k.length - 1]? = some z := ⟨_, List.getElem?_eq_getElem (by omega)⟩
    have e2 : k = k.dropLast.dropLast ++ [r] ++ [z] := by rw [e1]; exact (dl_last hz).symm
    have h := Rs.one k.dropLast.dropLast [] r z
    have e3 : k ++ [r] = k.dropLast.dropLast ++ r :: z :: [r] := by
      conv => lhs; rw [e2]
      simp
    rw [e1] at h
    rw [e3]
    exact h
  · exact .refl _
theorem rs_shr (w : List Str) : Rs w (shr w) := by
  refine snoc_ind (R := fun w => Rs w (shr w)) (.refl _) (fun l z ih => ?_) w
  rw [shr_snoc]
  have h := ih.app [] [z]
  exact h.trans (rs_step _ _)
theorem shr_in (u v w : List Str) : shr (u ++ shr v ++ w) = shr (u ++ v ++ w) := ((rs_shr v).app u w).shr.symm
theorem shr_rev (w : List Str) : shr w.reverse = (shr w).reverse := by
  rw [(rs_shr w).rev.shr]
  refine shr_irr fun i a b ha hb e => ?_
  have hl : i + 2 < (shr w).length := by
    rcases Nat.lt_or_ge (i + 2) (shr w).reverse.length with z | z
    · rwa [List.length_reverse] at z
    · rw [List.getElem?_eq_none z] at hb; cases hb
  rw [List.getElem?_reverse (by omega)] at ha hb
  refine shr_rdc w ((shr w).length - 1 - (i + 2)) b a hb ?_ e.symm
  rw [show (shr w).length - 1 - (i + 2) + 2 = (shr w).length - 1 - i by omega]
  exact ha
/-- last, first -/
def lst (w : List Str) : Option Str := w[w.length - 1]?
def fst0 (w : List Str) : Option Str := w[0]?
theorem lst_dl {w : List Str} {x : Str} (h : lst w = some x) : w.dropLast ++ [x] = w := dl_last h
theorem fst_tl {w : List Str} {x : Str} (h : fst0 w = some x) : x :: w.tail = w := by
  cases w with
  | nil => cases h
  | cons y r => rw [← Option.some.inj h]; rfl
theorem lst_shr {w : List Str} {x : Str} (h : lst w = some x) : lst (shr w) = some x := shr_last h
theorem fst_shr {w : List Str} {x : Str} (h : fst0 w = some x) : fst0 (shr w) = some x := by
  rw [← fst_tl h]
  exact shr_head x _
theorem lst_rev {w : List Str} {x : Str} (h : fst0 w = some x) : lst w.reverse = some x := by
  rw [← fst_tl h, List.reverse_cons]
  unfold lst
  rw [List.length_append]
  show (w.tail.reverse ++ [x])[w.tail.reverse.length + 1 - 1]? = some x
  rw [Nat.add_sub_cancel, List.getElem?_append_right (Nat.le_refl _), Nat.sub_self]
  rfl
theorem fst_rev {w : List Str} {x : Str} (h : lst w = some x) : fst0 w.reverse = some x := by
  rw [← lst_dl h, List.reverse_append]
  rfl
/-- one behind the other -/
def beh (a b : List Str) : List Str := shr (a ++ b.tail)
theorem glue {a b : List Str} {x : Str} (ha : lst a = some x) (hb : fst0 b = some x) : a ++ b.tail = a.dropLast ++ b := by
  conv => lhs; rw [← lst_dl ha]
  conv => rhs; rw [← fst_tl hb]
  simp
theorem fst_app {a b : List Str} {x : Str} (h : fst0 a = some x) : fst0 (a ++ b) = some x := by
  rw [← fst_tl h]
  rfl
theorem lst_app {a b : List Str} {x y : Str} (ha : lst a = some x) (hb : fst0 b = some x) (hl : lst b = some y) : lst (a ++ b.tail) = some y := by
  rw [glue ha hb, ← lst_dl hl, ← List.append_assoc]
  unfold lst
  rw [List.length_append]
  show (a.dropLast ++ b.dropLast ++ [y])[(a.dropLast ++ b.dropLast).length + 1 - 1]? = some y
  rw [Nat.add_sub_cancel, List.getElem?_append_right (Nat.le_refl _), Nat.sub_self]
  rfl
theorem fst_beh {a b : List Str} {x : Str} (h : fst0 a = some x) : fst0 (beh a b) = some x := fst_shr (fst_app h)
theorem lst_beh {a b : List Str} {x y : Str} (ha : lst a = some x) (hb : fst0 b = some x) (hl : lst b = some y) : lst (beh a b) = some y := lst_shr (lst_app ha hb hl)
theorem beh_shr {a b : List Str} {x : Str} (ha : lst a = some x) (hb : fst0 b = some x) : beh (shr a) (shr b) = beh a b := by
  unfold beh
  rw [glue (lst_shr ha) (fst_shr hb), glue ha hb]
  have h1 := ((rs_shr a).app [] b.tail).shr
  rw [← glue ha hb, ← glue (lst_shr ha) (fst_shr hb)]
  have h2 : shr (shr a ++ (shr b).tail) = shr (shr a ++ b.tail) := by
    rw [glue (lst_shr ha) (fst_shr hb), glue (lst_shr ha) hb]
    have h := shr_in (shr a).dropLast b []
    simpa using h
  rw [h2]
  simpa using h1.symm
theorem beh_assoc {a b c : List Str} {x y : Str} (ha : lst a = some x) (hb : fst0 b = some x) (hl : lst b = some y) (hc : fst0 c = some y) : beh (beh a b) c = beh a (beh b c) := by
  unfold beh
  have h1 : shr (shr (a ++ b.tail) ++ c.tail) = shr (a ++ b.tail ++ c.tail) := by
    have h := shr_in [] (a ++ b.tail) c.tail
    simpa using h
  have hbc : fst0 (shr (b ++ c.tail)) = some x := fst_shr (fst_app hb)
  rw [h1, glue ha hbc, glue ha hb]
  have h := shr_in a.dropLast (b ++ c.tail) []
  simp only [List.append_nil] at h
  rw [h, List.append_assoc]
theorem beh_back {a : List Str} {x : Str} (h : fst0 a = some x) : beh a a.reverse = [x] := by
  unfold beh
  have e := shr_out [] [] a.tail x
  rw [fst_tl h] at e
  simp only [List.nil_append, List.append_nil] at e
  rw [e]
  exact shr_irr fun i p q hp hq => by
    rw [List.getElem?_eq_none (by simp)] at hq
    cases hq
theorem beh_rev {a b : List Str} {x : Str} (ha : lst a = some x) (hb : fst0 b = some x) : beh b.reverse a.reverse = (beh a b).reverse := by
  unfold beh
  rw [← shr_rev]
  congr 1
  rw [glue (lst_rev hb) (fst_rev ha)]
  conv => lhs; rw [← lst_dl ha]
  conv => lhs; rw [← fst_tl hb]
  conv => rhs; rw [← lst_dl ha]
  simp
/-! ### t * k, k from 1; in a dict -/
theorem tuple_mulW1 (l : Addr) (items : Array Value) (n : Nat) (sl : Array (Option Value)) (dd : Option Addr) (x : Int) (u : Tok) (c0 : (decide (x < -(2 ^ 63)) || decide (x ≥ 2 ^ 63)) = false) (c1 : (items.isEmpty || x == 1) = true) :
    Meets (Builtin.«tuple.__mul__» ⟨[.ref l, .int x u], []⟩) (fun _ R s => s.heap.get? l = some { cls := .type "tuple", dict := dd, data := .seq items n, slots := sl } ∧
      R (.ok (.ret (Value.ref l))) s) :=
  .of_wp fun prog w A R s h => by
    obtain ⟨hp, g, d, tk, os⟩ := s
    obtain ⟨hl, h⟩ := h
    have f1 := AutoSeq1.idx_int
    wp_walk using wpAny_loadPart' hl
    repeat (first
      | (refine wpAny_ite_false (decide_eq_false (by rw [c0]; exact Bool.false_ne_true)) ?_; wp_walk using wpAny_loadPart' hl)
      | (refine wpAny_ite_true (decide_eq_true (by rw [c1])) ?_; wp_walk using wpAny_loadPart' hl))
    exact ⟨_, rfl, h⟩
def rRepA (K : PySem.W.Frag) : R2 := fun x y H Q => ∃ l k xs, x = .ref l ∧ y = .int k ∧ SqT K H l xs ∧ xs ≠ [] ∧ 1 ≤ k ∧ k ≤ 1000 ∧ xs.length ≤ 1000 ∧ (k = 1 → Q (.ref l) H) ∧ (2 ≤ k → ∀ p, H p = none → Q (.ref p) (upd H p (.tup (List.replicate k.toNat xs).flatten)))
section
variable {X : Cx}
theorem op_repA : OpR X (binaryOp .Mult) (rRepA X.K) := by
  intro pins s σ H x y v u Q I rx ry h
  obtain ⟨l, k, xs, rfl, rfl, hT, hne, h1, h2, hz, q1, q2⟩ := h
  by_cases hk : 2 ≤ k
  · exact op_repT pins s σ H _ _ v u Q I rx ry ⟨l, k, xs, rfl, rfl, hT, hne, hk, h2, hz, q2 hk⟩
  have ek : k = 1 := by omega
  subst ek
  cases rx
  obtain ⟨t, rfl⟩ := ry
  obtain ⟨its, r, ⟨⟨cls, dd, data, sl⟩, ho, hc, n, hd⟩, hs⟩ := I.tuple hT
  simp only at hc hd
  subst hc hd
  have c0 : (decide ((1 : Int) < -(2 ^ 63)) || decide ((1 : Int) ≥ 2 ^ 63)) = false := by decide
  have c1 : (its.toArray.isEmpty || (1 : Int) == 1) = true := by rw [Bool.or_eq_true]; exact .inr rfl
  refine wpAny_binaryOp_repeat_ref (T := "tuple") (U := "int") (by decide) ⟨_, ho, rfl⟩ (fun s' => typeIs_int s' 1 t) noFill_tuple_mul F.fills_int_mul F.slot_int_rmul repeat_tuple F.slot_int_index.lookup
    (call_meets F.slot_int_rmul (typeIs_int s 1 t) F.entry_int_rmul (F.args_int_rmul_2 _ _) (int_rmul_tuple 1 t l its.toArray n dd sl)
      ⟨ho, rfl, ⟨_, ho, rfl⟩, call_meets F.slot_tuple_mul ⟨_, ho, rfl⟩ F.entry_tuple_mul (F.args_tuple_mul_2 _ _) (tuple_mulW1 l its.toArray n sl dd 1 t c0 c1) ⟨ho, ?_⟩⟩)
  exact ⟨.ref l, H, I, rfl, q1 rfl⟩
end
theorem k_op_repA {X : Cx} {K : PySem.W.Frag} (e : X.K = K) : OpR X (binaryOp .Mult) (rRepA K) := by subst e; exact op_repA
section
variable {K : PySem.W.Frag} {G H : Hp} {Q : VK} {a : Addr} {xs : List V} {k : Int} {m : Nat}
theorem kn_rep (g : Same G H) (h : SqT K G a xs) (hne : xs ≠ []) (e : k = (m : Int)) (h1 : 1 ≤ m) (h2 : m ≤ 1000) (hz : xs.length ≤ 1000) (q : ∀ r G' H', Stp M0 G H G' H' → SqT K G' r (List.replicate m xs).flatten → Q (.ref r) H') : rRepA K (.ref a) (.int k) H Q := by
  subst e
  refine ⟨a, _, xs, rfl, rfl, Same.sqt g h, hne, by omega, by omega, hz, fun e => ?_, fun _ p np => q p (upd G p _) _ (Stp.new g np) (tof upd_same)⟩
  have em : m = 1 := by omega
  subst em
  refine q a G H (Stp.refl g) ?_
  have e2 : (List.replicate 1 xs).flatten = xs := by simp
  rw [e2]
  exact h
end
/-! in a dict of texts -/
section
variable {K : PySem.W.Frag} {H : Hp} {Q : VK} {σ : L2.St} {ty td : TE} {p : Addr} {kvs : List (Key × V)} {x : Str}
theorem r_din (h : ty σ H fun y H1 => td σ H1 fun x H2 => ∃ a o, x = .ref a ∧ DGet H2 a y o ∧ Q (.bl o.isSome) H2) : tDIn ty td σ H Q := h
theorem r_dnotin (h : ty σ H fun y H1 => td σ H1 fun x H2 => ∃ a o, x = .ref a ∧ DGet H2 a y o ∧ Q (.bl (!o.isSome)) H2) : tDNotIn ty td σ H Q := h
theorem dg_str (e : H p = some (.dK kvs)) : DGet H p (.str x) (valV kvs (Sum.inr x)) := DGet.k (k := Sum.inr x) e
theorem dp_str {v : V} (e : H p = some (.dK kvs)) (hl : kvs.length < sizeLine) : DPut H p (.str x) v (upd H p (.dK (putK kvs (Sum.inr x) v))) := DPut.k (k := Sum.inr x) e hl
end
/-! ### several suites, each with a name for the error -/
/-- the way on behind a suite: the name is gone -/
def offE (i : Nat) (D : Ends) : Ends := { nx := fun σ' H' => D.nx (σ'.set i none) H', rt := D.rt, bk := fun σ' H' => D.bk (σ'.set i none) H', ct := fun σ' H' => D.ct (σ'.set i none) H' }
abbrev Cl := Value × Nat × (Addr → Value → Option Addr → TS)
def wMore (K : PySem.W.Frag) (Wout : WX) (D : Ends) : List Cl → WX
  | [] => Wout
  | q :: r => fun cls d σ H => ∃ b, PySem.W.exmOne K cls q.1 = some b ∧ (b = true → ∀ a, H a = none → q.2.2 a cls d (offE q.2.1 D) (σ.set q.2.1 (some (.ref a))) H) ∧ (b = false → wMore K Wout D r cls d σ H)
inductive HsOk (X : Cx) : List ExceptHandler → List Cl → Prop
  | nil : HsOk X [] []
  | cons {x n : Str} {c : Value} {i : Nat} {ts : Addr → Value → Option Addr → TS} {b₀ : Stmt} {suite : List Stmt} {np pos' : Pos} {hds : List ExceptHandler} {l : List Cl} (hi : X.N[i]? = some n) (hln : X.env.kindOf n = some .local) (hc : Names X x c)
      (hsu : ∀ (a : Addr) (oe : Obj) (cls : Value) (d : Option Addr) (pn : List (Addr × Obj)), Zc cls d oe → (∃ vs, oe.data = .fields vs) → PSs (X.suite a ((a, oe) :: pn)) (b₀ :: suite) (ts a cls d)) (r : HsOk X hds l) :
      HsOk X (.ExceptHandler (some (.Name x np)) (some n) (b₀ :: suite) pos' :: hds) ((c, i, ts) :: l)
section
variable {X : Cx} {body : List Stmt} {h₀ : ExceptHandler} {hds : List ExceptHandler} {l : List Cl} {pos : Pos} {tb : WX → TS} {Wout : WX}
theorem ps_try_more (hs : X.stack = X.env :: X.outer) (hf : X.env.frame = some X.env.locals) (hN : X.N.Nodup) (tk : Takes X Wout)
    (hb : ∀ (W : WX) (pn : List (Addr × Obj)) (xe : Value → Shared → Prop), Takes (X.tr pn xe) W → PassesOwn (model X.prog X.w) X.A X.env xe → PSs (X.tr pn xe) body (tb W))
    (hh : HsOk X (h₀ :: hds) l) : PS X (.Try body (h₀ :: hds) [] [] pos) (fun D σ H => tb (wMore X.K Wout D l) D σ H) := by
  refine ⟨fun pins s σ H D I h => wpAny_Try_except ?_⟩
  have ok := I.ok
  have run := (hb (wMore X.K Wout D l) (X.pn ++ pins) (fun e s₁ => wpAny (model X.prog X.w) X.A (noteFrame e X.env) (fun _ s₂ => wpAny (model X.prog X.w) X.A (setFlight e none) (fun _ s₃ =>
    wpAny (model X.prog X.w) X.A (handleBy e X.env (h₀ :: hds)) (SP X pins D) X.xe s₃) X.xe s₂) X.xe s₁) (fun u s' xx => ?_) PassesOwn.looking).run [] s σ H D (I.toTry _) h
  · refine wpAny_mono run (fun f s1 hsp => ?_) (fun e s1 he => he)
    cases f with
    | next => obtain ⟨σ', H', J', q⟩ := hsp; exact wpAny_execs_nil ⟨σ', H', J'.ofTry ok, q⟩
    | brk => obtain ⟨σ', H', J', q⟩ := hsp; exact ⟨σ', H', J'.ofTry ok, q⟩
    | cont => obtain ⟨σ', H', J', q⟩ := hsp; exact ⟨σ', H', J'.ofTry ok, q⟩
    | ret u => obtain ⟨v, σ', H', J', r, q⟩ := hsp; exact ⟨v, σ', H', J'.ofTry ok, r, q⟩
  · obtain ⟨a, B, sI, pins', σ', H', cls, d, rfl, J', nb, up, sky, na, os, ag, w⟩ := xx
    have J : Inv X pins σ' H' sI := J'.ofTry ok
    have hfr : X.A.frames = some (X.env :: X.outer) := ok.frames.trans (congrArg some hs)
    have sky' : Sky B (X.env :: X.outer) a (Zc cls d) X.env.locals s'.heap := hs ▸ sky
    show wpAny (model X.prog X.w) X.A (noteFrame (.ref a) X.env) _ _ _
    refine Sky.land Zc.steady hfr hf sky' fun h3 fl3 up3 => ?_
    obtain ⟨oe3, vs3, he3, hz3, hd3⟩ := fl3.there
    have far : a ∉ frs (X.env :: X.outer) := fun hm => by
      obtain ⟨_, o', e', hnf⟩ := fl3.2.2.1.mem hm
      cases he3.symm.trans e'
      exact hnf _ hd3
    have nL : a ≠ X.env.locals := fun z => far (List.mem_filterMap.mpr ⟨X.env, List.mem_cons_self, hf.trans (congrArg some z.symm)⟩)
    have nF : a ∉ X.fs := fun hm => far (by
      obtain ⟨e, he, q⟩ := List.mem_filterMap.mp hm
      exact List.mem_filterMap.mpr ⟨e, List.mem_cons_of_mem _ he, q⟩)
    have J3 : Inv X pins σ' H' { s' with heap := h3 } := J.landed nb fl3.1 (up.trans up3) os ag
    have S3 := J3.suite he3 hd3 na nL nF
    suffices go : ∀ hs0 l0, HsOk X hs0 l0 → wMore X.K Wout D l0 cls d σ' H' → wpAny (model X.prog X.w) X.A (handleBy (.ref a) X.env hs0) (SP X pins D) X.xe { s' with heap := h3 } from go _ _ hh w
    clear w h hb hh
    intro hs0 l0 hk
    induction hk with
    | nil =>
      intro w
      refine wpAny_handleBy_nil ?_
      obtain ⟨k1, k2, k3, oe, vs, T, oT, ts', he, hz, hd, h1, hr⟩ := id fl3
      unfold PySem.passOn
      refine wpAny_bind (wpAny_field he hd h1 ?_)
      rw [if_neg (show ¬ ((Value.ref T == Value.none) = true) from by simp)]
      have fin : wpAny (model X.prog X.w) X.A (setFlight (.ref a) X.env.frame) (fun _ s4 => wpAny (model X.prog X.w) X.A (throw (.ref a) : Sem Flow) (SP X pins D) X.xe s4) X.xe { s' with heap := h3 } := by
        rw [hf]
        exact HandSPX.setFlight_upZ fl3 fun h4 hh4 up4 => wpAny_throw (tk _ _ ⟨a, B, sI, pins, σ', H', cls, d, rfl, J, nb, (up.trans up3).trans up4, .inr (.inr (hs ▸ hh4)), na, os, ag, w⟩)
      first
        | exact wpAny_bind (wpAny_pure (wpAny_bind fin))
        | exact wpAny_bind fin
    | @cons x n c i ts b₀ suite np pos' hds2 l2 hi hln hc hsu r ih =>
      intro w
      obtain ⟨b, hb1, hyes, hno⟩ := w
      refine wpAny_handleBy_cons (codeAny_handlers_test ?_) (by intro q; cases q)
      have LT : PySem.W.Looks (model X.prog X.w) h3 (typeOf (.ref a)) cls := fun A Q E s k q => wpAny_typeOf_ref (k _ _ he3) (by rw [hz3.1]; exact q)
      have LM := PySem.W.exm_one (M := model X.prog X.w) J3.kIn LT hb1
      have named : ∀ {Q : Value → Shared → Prop} {E : Value → Shared → Prop}, Q c { s' with heap := h3 } → wpAny (model X.prog X.w) (X.A.mark (some (.ref a))) (eval (.Name x np) X.env) Q E { s' with heap := h3 } := fun {Q E} q => by
        obtain ⟨hg, hdbg, hm | ⟨hm, hv, hnn⟩⟩ := hc
        · exact ld_glob (X := X.suite a ((a, oe3) :: (X.pn ++ pins))) S3 hg hm q hdbg
        · exact ld_blt (X := X.suite a ((a, oe3) :: (X.pn ++ pins))) S3 hg hm hv q hnn hdbg
      refine named (LM.here ?_)
      cases b with
      | false => exact ih (hno rfl)
      | true =>
        refine codeAny_handlers_suite_as (HandSPX.lands_againZ fl3 fun h4 fl4 up4 => ?_)
        obtain ⟨oe4, vs4, he4, hz4, hd4⟩ := fl4.there
        have J4 : Inv X pins σ' H' { s' with heap := h4 } := J.landed nb fl4.1 ((up.trans up3).trans up4) os ag
        have S4 := J4.suite he4 hd4 na nL nF
        refine store_ok (X := X.suite a ((a, oe4) :: (X.pn ++ pins))) (v := .ref a) S4 hN hi (.inl hln) rfl (fun s5 S5 => ?_) (.inr hln)
        refine wpAny_mono ((hsu a oe4 cls d (X.pn ++ pins) hz4 ⟨_, hd4⟩).run [] s5 _ H' _ S5 (hyes rfl a na)) (fun f s6 hsp => ?_) (fun _ _ z => False.elim z)
        cases f with
        | next => obtain ⟨σ6, H6, S6, q6⟩ := hsp; exact gone_ok (S6.unsuite ok) hN hi hln fun s7 J7 => ⟨_, _, J7, q6⟩
        | brk => obtain ⟨σ6, H6, S6, q6⟩ := hsp; exact gone_ok (S6.unsuite ok) hN hi hln fun s7 J7 => ⟨_, _, J7, q6⟩
        | cont => obtain ⟨σ6, H6, S6, q6⟩ := hsp; exact gone_ok (S6.unsuite ok) hN hi hln fun s7 J7 => ⟨_, _, J7, q6⟩
        | ret u => obtain ⟨v6, σ6, H6, S6, r6, q6⟩ := hsp; exact gone_ok (S6.unsuite ok) hN hi hln fun s7 J7 => ⟨_, _, _, J7, r6, q6⟩
end
section
variable {K : PySem.W.Frag} {Wout : WX} {D : Ends} {q : Cl} {r : List Cl} {cls : Value} {d : Option Addr} {σ : L2.St} {H : Hp} {A B : Addr}
theorem wm_yes (e : PySem.W.exmOne K cls q.1 = some true) (h : ∀ a, H a = none → q.2.2 a cls d (offE q.2.1 D) (σ.set q.2.1 (some (.ref a))) H) : wMore K Wout D (q :: r) cls d σ H := ⟨true, e, fun _ => h, fun z => nomatch z⟩
theorem wm_no (e : PySem.W.exmOne K cls q.1 = some false) (h : wMore K Wout D r cls d σ H) : wMore K Wout D (q :: r) cls d σ H := ⟨false, e, ⟨(fun z => by cases z), fun _ => h⟩⟩
theorem exm_kit (h : PySem.W.subIn K (.ref B) (.type "BaseException") = some true) (e : PySem.W.kitOne K (.ref A) (.ref B) = some false) : PySem.W.exmOne K (.ref A) (.ref B) = some false := by
  unfold PySem.W.exmOne
  rw [h]
  unfold PySem.W.kitOne at e
  split at e
  · cases e
  · exact e
end
theorem beh_mem {a b : List Str} {z : Str} (h : z ∈ beh a b) : z ∈ a ∨ z ∈ b := by
  rcases List.mem_append.mp (shr_mem h) with h | h
  · exact .inl h
  · exact .inr (List.mem_of_mem_tail h)
theorem beh_len (a b : List Str) : (beh a b).length ≤ a.length + b.length := by
  refine Nat.le_trans (shr_len _) ?_
  rw [List.length_append, List.length_tail]
  omega
theorem beh_ok {a b : List Str} (ha : ∀ z ∈ a, SOk z) (hb : ∀ z ∈ b, SOk z) : ∀ z ∈ beh a b, SOk z := fun z h => by
  rcases beh_mem h with h | h
  · exact ha z h
  · exact hb z h
theorem rev_ok {a : List Str} (ha : ∀ z ∈ a, SOk z) : ∀ z ∈ a.reverse, SOk z := fun z h => ha z (List.mem_reverse.mp h)
theorem shr_ok {a : List Str} (ha : ∀ z ∈ a, SOk z) : ∀ z ∈ shr a, SOk z := fun z h => ha z (shr_mem h)
theorem one_ok {x : Str} (h : SOk x) : ∀ z ∈ [x], SOk z := fun z e => by rw [List.mem_singleton.mp e]; exact h
theorem r_neT0 {K : PySem.W.Frag} {H : Hp} {p q : Addr} {ns : List Str} {Q : VK} (h : SqT K H p (ns.map V.str)) (h' : SqT K H q (ns.map V.str)) (a : ∀ z ∈ ns, SOk z) (k : Q (.bl false) H) : rNeD K (.ref p) (.ref q) H Q :=
  r_neTT h h' a a (by rw [decide_eq_true rfl]; exact k)
theorem beh_back' {a : List Str} {x : Str} (h : lst a = some x) : beh a.reverse a = [x] := by
  have e := beh_back (fst_rev h)
  rwa [List.reverse_reverse] at e
/-! ### defs that run where no repr is under way: repr(x) of data -/
/-- a def by its promise, called where no guard is set -/
structure FnG (P : Program) (w : World) (K : PySem.W.Frag) (mg : Str → Option Value) (base : Heap) (CX : CXT) (k : Nat) (f : Addr) (fd : FuncData) (ps : List Str) (sp : Sp) : Prop where
  len : ∀ vs H Q E, sp vs H Q E → vs.length = ps.length
  run : ∀ (A : Around) (outer : List Env) (s : Shared) (H : Hp) (args : Args) (us : List Value) (vs : List V) (Q : VK) (E : XK), A.guards = some [] → Room k A → Env0 P w K mg base A outer s H → BindsTo s fd args (ps.zip us) → Vals vs us → sp vs H Q E →
    codeAny (model P w) A (.call (.ref f) args) (CR CX outer P w H s Q E) s
theorem guards_deeper (A : Around) (env : Env) : (A.deeper env).guards = A.guards := rfl
theorem guards_caller : callerA.guards = some [] := rfl
section
variable {P : Program} {w : World} {K : PySem.W.Frag} {mg : Str → Option Value} {base : Heap}
theorem FnG.of {CX : CXT} {k : Nat} {f : Addr} {fd : FuncData} {ps : List Str} {sp : Sp} (F : FnOk P w K mg base CX k f fd ps sp) : FnG P w K mg base CX k f fd ps sp :=
  ⟨F.len, fun A outer s H args us vs Q E _ hr he hb hv hs => F.run A outer s H args us vs Q E hr he hb hv hs⟩
/-- by its body -/
theorem fnG_of {CX : CXT} {k : Nat} {f : Addr} {name qual : Str} {params : Arguments} {body : List Stmt} {scope : Scope} {dV kV doc pm cdv ct oc : Value} {an od : Option Addr}
    {osl : Array (Option Value)} {N ps : List Str} {sp : Sp} (lk : K.lookup f = some ⟨oc, od, .func (PySem.W.fnOf name qual params body scope dV kV doc pm an cdv ct), osl⟩) (hcd : PySem.W.codeIn K cdv qual = true) (S : FnScope N ps scope)
    (len : ∀ vs H Q E, sp vs H Q E → vs.length = ps.length)
    (hbody : ∀ (A : Around) (outer : List Env) (s : Shared) (H : Hp) (vs : List V) (Q : VK) (E : XK), A.guards = some [] → Room k (A.deeper (envOfC qual scope s.heap.objs.size f cdv)) → sp vs H Q E →
      ∃ t, PSs (cxOf CX P w K mg base N qual scope f cdv A outer s H E) body t ∧ t { nx := fun _ H' => Q .non H', rt := Q } (start N vs) H) :
    FnG P w K mg base CX (k + 1) f (PySem.W.fnOf name qual params body scope dV kV doc pm an cdv ct) ps sp := by
  refine ⟨len, fun A outer s H args us vs Q E hg hr e0 hb r hsp => ?_⟩
  have keep : ∀ {b : Addr} {o : Obj}, base.get? b = some o → s.heap.get? b = some o := fun {b o} e => (e0.bs b o e).1
  have kinds : ∀ y ∈ ps.zip us, scope.names.lookup y.1 = some .local ∨ (scope.names.lookup y.1 = some .cell ∧ ((cellsFrom (s.heap.objs.size + 1) scope.names []).lookup y.1).isSome = true) := by
    rintro ⟨n, v⟩ hy
    exact (S.par n (List.of_mem_zip hy).1).imp id fun q => ⟨q, PySem.W.cellsFrom_some _ _ _ (.inl q)⟩
  have KX : K.In s.heap := e0.mod.kin.keeps fun b o e => keep e
  refine codeAny_call_function hr.depth (KX _ _ lk) rfl S.co S.gen rfl (PySem.W.codeRec_of KX hcd) (hb _ _ _ _ (wpAny_newFunctionEnv_cells S.kind kinds fun env he s1 x => ?_))
  subst he
  refine ⟨(e0.mod.nolimit.keeps fun b o e => keep e).keeps x.toInCall.keep, codeAny_func ?_⟩
  obtain ⟨t, ht, hq⟩ := hbody A outer s H vs Q E hg (hr.deeper _) hsp
  refine wpAny_mono (ht.run [] s1 (start N vs) H _ (inv_start S hr.hd e0 (len _ _ _ _ hsp) r x) hq) (fun fl s' hs => ?_) fun e s' hs => hs
  cases fl with
  | ret u => obtain ⟨v, σ', H', J, rv, q⟩ := hs; exact ⟨v, H', J.os, J.bare, J.base, J.hok, rv, q⟩
  | next => obtain ⟨σ', H', J, q⟩ := hs; exact ⟨V.non, H', J.os, J.bare, J.base, J.hok, rfl, q⟩
  | brk => obtain ⟨_, _, _, q⟩ := hs; exact q.elim
  | cont => obtain ⟨_, _, _, q⟩ := hs; exact q.elim
theorem Fun.okG {x qual : Str} {st : Stmt} {f : Addr} {fd : FuncData} {N ps : List Str} {k : Nat} {sp : Sp} (F : Fun K x qual st f fd) (S : FnScope N ps (defScope st)) (len : ∀ vs H Q E, sp vs H Q E → vs.length = ps.length)
    (hbody : ∀ (cdv : Value) (A : Around) (outer : List Env) (s : Shared) (H : Hp) (vs : List V) (Q : VK) (E : XK), A.guards = some [] → Room k (A.deeper (envOfC qual (defScope st) s.heap.objs.size f cdv)) → sp vs H Q E →
      ∃ t, PSs (cxOf CX0 P w K mg base N qual (defScope st) f cdv A outer s H E).nox (defBody st) t ∧ t { nx := fun _ H' => Q .non H', rt := Q } (start N vs) H) : FnG P w K mg base CX0 (k + 1) f fd ps sp := by
  obtain ⟨oc, od, kV, doc, pm, an, cdv, ct, osl, rfl, lk, hcd⟩ := F.ex
  refine fnG_of lk hcd S len fun A outer s H vs Q E hg hr hsp => ?_
  obtain ⟨t, h, q⟩ := hbody cdv A outer s H vs Q E hg hr hsp
  exact ⟨t, h.nox, q⟩
end
/-! ### calls -/
section
variable {X : Cx} {CX : CXT} {k : Nat} {f C : Addr} {fd : FuncData} {ps : List Str} {sp : Sp} {dvs : List V} {ds : List Value} {E : XK} {x m : Str} {p pos apos : Pos} {e o : Expr} {es : List Expr} {ta : TE} {t : TA}
theorem runG {pins : List (Addr × Obj)} {σ : L2.St} {H : Hp} {s : Shared} {Q : VK} {us : List Value} {vs : List V} (F : FnG X.prog X.w X.K X.mg X.base CX k f fd ps sp) (gd : X.A.guards = some []) (hr : Room k X.A) (hb : Binds X.K fd ps ds) (hd : Vals dvs ds) (hx : Passes CX X E)
    (I : Inv X pins σ H s) (r : Vals vs us) (h : sp (vs ++ dvs) H Q E) : wpAny (model X.prog X.w) X.A (call (.ref f) us) (EP X pins σ Q) X.xe s := by
  have r2 : Vals (vs ++ dvs) (us ++ ds) := r.append hd
  have hl : (us ++ ds).length = ps.length := r2.length.symm.trans (F.len _ _ _ _ h)
  refine wpAny_call (codeAny_mono (F.run X.A X.stack s H ⟨us, []⟩ (us ++ ds) (vs ++ dvs) Q E gd hr I.env0 (hb s us I.kIn hl) r2 h) fun r s' hq => ?_)
  match r, hq with
  | .error e, hq => exact hx pins σ H s e s' I hq
  | .ok (.ret u), hq => exact I.after hq
theorem pe_callG (F : FnG X.prog X.w X.K X.mg X.base CX k f fd ps sp) (gd : X.A.guards = some []) (hr : Room k X.A) (hg : Gl X x) (hm : X.mg x = some (.ref f)) (hk : PySem.W.keepIn X.K (.ref f) = true) (hb : Binds X.K fd ps ds) (hd : Vals dvs ds) (hx : Passes CX X E)
    (ha : PA X (e :: es) t) (hdb : (x == ("__debug__" : Str)) = false := by decide) (he : starEach (e :: es) X.env = (false, eval e X.env) :: starEach es X.env := by rfl) (hpl : (backTo pos (starEach es X.env)).any (·.1) = false := by rfl) :
    PE X (.Call (.Name x p) (e :: es) [] pos) (tCall sp dvs E t) :=
  ⟨fun pins s σ H Q I h => wpAny_Call_Name_kw (ld_glob I hg hm (PySem.W.callWith_K (h₀ := X.base) I.ok.mod.kin hk (thn (ha.run pos pins s σ H _ I h) fun us s1 ⟨vs, H1, I1, r, q⟩ => ⟨I1.kIn, runG F gd hr hb hd hx I1 r q⟩) he hpl) hdb)⟩
end
/-! ### repr of data -/
def kRepr (K : PySem.W.Frag) : List V → Hp → VK → Prop := fun xs H Q => ∃ (a : Addr) (d : PyData), xs = [.ref a] ∧ Dp K H (.ref a) d ∧ d.showable = true ∧ d.hasDict = false ∧ d.depth ≤ 40 ∧ d.shown.length ≤ sizeLine ∧ Q (.str d.shown) H
theorem call_reprD {X : Cx} (gd : X.A.guards = some []) (hu : X.A.units + 64 < cLine) : CallR X (.builtin "repr") (kRepr X.K) := by
  intro pins s σ H xs us Q I r h
  obtain ⟨a, d, rfl, hD, hs, hn, hdp, hsz, q⟩ := h
  rw [Vals.ref1 r]
  obtain ⟨as, rd⟩ := Dp.reads I d (.ref a) (.ref a) hD rfl
  exact repr_of_reads' rd hs (fun z => by rw [hn] at z; cases z) gd (by omega) (fun _ _ e => e) (fun h' u tk hk => ⟨.str d.shown, H, I.kept (t' := tk) hk, ⟨_, rfl⟩, q⟩) hsz
theorem k_reprD {X : Cx} {K : PySem.W.Frag} (e : X.K = K) (gd : X.A.guards = some []) (hu : X.A.units + 64 < cLine) : CallR X (.builtin "repr") (kRepr K) := by subst e; exact call_reprD gd hu
theorem c_repr {K : PySem.W.Frag} {H : Hp} {Q : VK} {a : Addr} {d : PyData} (hD : Dp K H (.ref a) d) (hs : d.showable = true) (hn : d.hasDict = false) (hdp : d.depth ≤ 40) (hsz : d.shown.length ≤ sizeLine) (q : Q (.str d.shown) H) : kRepr K [.ref a] H Q := ⟨a, d, rfl, hD, hs, hn, hdp, hsz, q⟩
/-! ### a law whose own def wants that no repr is under way -/
/-- the script alone, tracked as it stands -/
def onlyH (a : Addr) (x : HO) : Hp := fun b => if b = a then some x else none
theorem onlyH_self {a : Addr} {x : HO} : onlyH a x a = some x := if_pos rfl
theorem onlyH_some {a b : Addr} {x u : HO} (h : onlyH a x b = some u) : b = a ∧ u = x := by
  unfold onlyH at h
  split at h
  · exact ⟨by assumption, (Option.some.inj h).symm⟩
  · cases h
theorem callG {P : Program} {w : World} {K : PySem.W.Frag} {mg mb : Str → Option Value} {CX : CXT} {k : Nat} {fa a : Addr} {fd : FuncData} {x : Str} {sp : Sp} {s₁ : Shared} {vs : List Value} {H : Hp}
    (KX : K.In s₁.heap) (hns : s₁.heap.Ns mainGlobals mg) (hb : s₁.heap.Ns builtinsNs mb) (hbb : ∀ x : Str, x ≠ "__name__" → mb x = bootBuiltins x) (hlim : s₁.heap.NoLimit) (hg : s₁.gens = #[])
    (ha : s₁.heap.get? a = some { cls := .type "list", data := .seq vs.toArray }) (hr : Room k callerA)
    (F : ∀ base : Heap, K.In base → base.Ns mainGlobals mg → FnG P w K mg base CX k fa fd [x] sp) (hbind : ∀ (s : Shared) (u : Value), BindsTo s fd ⟨[u], []⟩ [(x, u)])
    (hsp : sp [.ref a] H (fun v _ => v = .bl true) fun _ _ _ => False) (hCX : ∀ e s', CX [] H s₁ (fun _ _ _ => False) e s' → False)
    (hok : HOk P w H s₁.heap) (hA : ∀ b u, H b = some u → b = a ∧ K.lookup a = none ∧ ∃ ob xs, u = .frz ob (.lst xs)) :
    codeAny (model P w) callerA (.call (.ref fa) ⟨[.ref a], []⟩) (fun r s' => r = .ok (.ret (.bool true)) ∧ OldK s₁.heap s'.heap ∧ s'.os = s₁.os ∧ AllBare s'.gens) s₁ := by
  have seen : ∀ {b : Addr} {o : Obj}, s₁.heap.get? b = some o → b ≠ a → (hidT s₁.heap H).get? b = some o := fun {b o} e n => hidT_get e (by
    cases q : H b with
    | none => rfl
    | some u => exact absurd (hA b u q).1 n)
  have nsK : ∀ {b : Addr} {m : Str → Option Value}, s₁.heap.Ns b m → (hidT s₁.heap H).Ns b m := by
    rintro b m ⟨o, es, ep, e, d, r⟩
    refine ⟨o, es, ep, seen e fun z => ?_, d, r⟩
    subst z
    rw [ha] at e
    cases e
    cases d
  have hKb : K.In (hidT s₁.heap H) := fun b o e => hidT_get (KX b o e) (by
    cases q : H b with
    | none => rfl
    | some u =>
      obtain ⟨z, n, _⟩ := hA b u q
      rw [z, n] at e
      cases e)
  have hM : Mod K mg (hidT s₁.heap H) := ⟨hKb, nsK hns, ⟨mb, nsK hb, hbb⟩, by
    obtain ⟨mc, h1, h2⟩ := hlim
    exact ⟨mc, nsK h1, h2⟩⟩
  have e0 : Env0 P w K mg (hidT s₁.heap H) callerA [] s₁ H := ⟨rfl, hM, fun b o e => of_hidT e, Nat.le_of_eq (hidT_size _ _), trivial, fun b hb => absurd (show b ∈ ([] : List Addr) from hb) (by simp), hok, .of_eq hg⟩
  refine codeAny_mono ((F _ hKb (nsK hns)).run callerA [] s₁ H ⟨[.ref a], []⟩ [.ref a] [.ref a] _ _ guards_caller hr e0 (hbind s₁ (.ref a)) (.cons rfl .nil) hsp) fun r s' h => ?_
  match r, h with
  | .error e, h => exact (hCX e s' h).elim
  | .ok (.ret u), h =>
    obtain ⟨v, H', os, bare, un, hok', rv, q⟩ := h
    cases (show v = V.bl true from q)
    cases (show u = Value.bool true from rv)
    refine ⟨rfl, OldK.of_keep fun b o e => ?_, os, bare⟩
    cases q : H b with
    | none => exact un.keep b o e q (by intro z; exact absurd (show b ∈ ([] : List Addr) from z) (by simp)) (by simp)
    | some u =>
      obtain ⟨_, _, ob, xs, z⟩ := hA b u q
      subst z
      have k1 := (hok b _ q).1
      have k2 := (hok' b _ (un.frzs b ob _ q)).1
      rw [e] at k1
      cases k1
      exact k2
theorem law_callG {P : Program} {w : World} {K : PySem.W.Frag} {mg mb : Str → Option Value} {CX : CXT} {k : Nat} {fa a : Addr} {fd : FuncData} {x : Str} {sp : Sp} {s₁ : Shared} {vs : List Value} {ns : List Int}
    (KX : K.In s₁.heap) (hns : s₁.heap.Ns mainGlobals mg) (hb : s₁.heap.Ns builtinsNs mb) (hbb : ∀ x : Str, x ≠ "__name__" → mb x = bootBuiltins x) (hlim : s₁.heap.NoLimit) (hg : s₁.gens = #[])
    (ha : s₁.heap.get? a = some { cls := .type "list", data := .seq vs.toArray }) (hi : IntsAre vs ns) (hl : ns.length ≤ sizeLine) (hr : Room k callerA)
    (F : ∀ base : Heap, K.In base → base.Ns mainGlobals mg → FnG P w K mg base CX k fa fd [x] sp) (hbind : ∀ (s : Shared) (u : Value), BindsTo s fd ⟨[u], []⟩ [(x, u)])
    (hsp : ∀ H : Hp, Only H → SqL K H a (ns.map V.int) → sp [.ref a] H (fun v _ => v = .bl true) fun _ _ _ => False)
    (hCX : ∀ H e s', CX [] H s₁ (fun _ _ _ => False) e s' → False) :
    codeAny (model P w) callerA (.call (.ref fa) ⟨[.ref a], []⟩) (fun r s' => r = .ok (.ret (.bool true)) ∧ OldK s₁.heap s'.heap ∧ s'.os = s₁.os ∧ AllBare s'.gens) s₁ := by
  have rv := vals_ints hi
  cases hk : K.lookup a with
  | some o =>
    have e := KX a o hk
    rw [ha] at e
    cases e
    exact callG KX hns hb hbb hlim hg ha hr F hbind (hsp (fun _ => none) (fun _ => .inl rfl) (.inr ⟨_, vs.toArray, _, hk, rfl, rfl, rfl, by rw [List.size_toArray, hi.length]; exact hl, by simpa using rv⟩)) (hCX _)
      (fun b u z => by cases z) (fun b u z => by cases z)
  | none =>
    refine callG (H := onlyH a (.frz { cls := .type "list", data := .seq vs.toArray } (.lst (ns.map V.int)))) KX hns hb hbb hlim hg ha hr F hbind (hsp _ (fun b => ?_) (.inl (.inr ⟨_, onlyH_self⟩))) (hCX _) (fun b u z => ?_) (fun b u z => ?_)
    · unfold onlyH
      split
      · exact .inr ⟨_, _, rfl⟩
      · exact .inl rfl
    · obtain ⟨rfl, rfl⟩ := onlyH_some z
      exact ⟨ha, by rw [List.length_map]; exact hl, vs, _, rv, ha⟩
    · obtain ⟨rfl, rfl⟩ := onlyH_some z
      exact ⟨rfl, hk, _, _, rfl⟩
theorem walk_ofG {l : PySem.W.OpenLaw} {n k : Nat} {q : Program} {loose : List Str} {XP : (Str → Option Value) → Heap → Prop} {YP : World → Heap → Prop} {d : DefRec} {K : Params → PySem.W.Frag} {CX : World → CXT} {sp : World → Sp} {x : Str}
    (hn : l.most = some n) (hn2 : n ≤ sizeLine) (hdf : d.params.defaults = []) (hr : Room k callerA)
    (hY : ∀ (w : World) (h : Heap), YP w h → (K w.params).In h)
    (F : ∀ (w : World) (mg : Str → Option Value) (fa : Addr) (h : Heap), (K w.params).In h → h.Ns mainGlobals mg → mg d.name = some (.ref fa) →
      ∃ fd : FuncData, (∀ (s : Shared) (u : Value), BindsTo s fd ⟨[u], []⟩ [(x, u)]) ∧
        ∀ base : Heap, (K w.params).In base → base.Ns mainGlobals mg → FnG l.prog w (K w.params) mg base (CX w) k fa fd [x] (sp w))
    (hsp : ∀ (w : World) (H : Hp) (a : Addr) (ns : List Int), ns.length ≤ n → Only H → SqL (K w.params) H a (ns.map V.int) → sp w [.ref a] H (fun v _ => v = .bl true) fun _ _ _ => False)
    (hCX : ∀ (w : World) (H : Hp) (s : Shared) (e : Value) (s' : Shared), CX w [] H s (fun _ _ _ => False) e s' → False) :
    PySem.W.WalkO q loose XP YP l.row.toRowW d [] (fun f vs => PySem.call f vs) := by
  refine Att.attach_call hn hdf fun w s₀ s₁ mg mb fa o pm cd doc a vs ns G Y ho hd hcd hmg hobj hints hlen hg => ?_
  obtain ⟨fd, hb, hF⟩ := F w mg fa _ (hY w _ Y) G.T.g hmg
  exact law_callG (hY w _ Y) G.T.g G.T.b G.T.builtins G.T.nolimit hg hobj hints (Nat.le_trans hlen hn2) hr hF hb (fun H hO hS => hsp w H a ns hlen hO hS) fun H e s' => hCX w H s₁ e s'
/-! ### stems and rings; a couple of walks as data -/
/-- no room twice side by side, nothing straight back -/
structure Gd (W : List Str) : Prop where
  one : ∀ (i : Nat) (a b : Str), W[i]? = some a → W[i + 1]? = some b → a ≠ b
  two : ∀ (i : Nat) (a b : Str), W[i]? = some a → W[i + 2]? = some b → a ≠ b
def Pal (W : List Str) (t : Nat) : Prop := ∀ i, i ≤ t → W[i]? = W[W.length - 1 - i]?
structure CoreAt (W : List Str) (t : Nat) : Prop where
  lt : 2 * t < W.length
  pal : Pal W t
  fin : W.length = 1 ∨ (2 * t + 4 ≤ W.length ∧ W[t + 1]? ≠ W[W.length - 2 - t]?)
theorem pal_room {W : List Str} {t : Nat} (g : Gd W) (h : Pal W t) (hl : 2 * t + 1 < W.length) : 2 * t + 4 ≤ W.length := by
  have e := h t (Nat.le_refl t)
  rcases Nat.lt_or_ge (2 * t + 3) W.length with c | c
  · exact c
  · exfalso
    have hh : W.length = 2 * t + 2 ∨ W.length = 2 * t + 3 := by omega
    rcases hh with q | q
    · rw [show W.length - 1 - t = t + 1 by omega] at e
      exact g.one t W[t] W[t + 1] (List.getElem?_eq_getElem (by omega)) (List.getElem?_eq_getElem (by omega)) (by
        rw [List.getElem?_eq_getElem (by omega), List.getElem?_eq_getElem (by omega)] at e
        exact Option.some.inj e)
    · rw [show W.length - 1 - t = t + 2 by omega] at e
      exact g.two t W[t] W[t + 2] (List.getElem?_eq_getElem (by omega)) (List.getElem?_eq_getElem (by omega)) (by
        rw [List.getElem?_eq_getElem (by omega), List.getElem?_eq_getElem (by omega)] at e
        exact Option.some.inj e)
theorem pal_end {W : List Str} {t : Nat} (g : Gd W) (h : Pal W t) (hl : 2 * t < W.length) (he : W.length ≤ 2 * t + 1) : W.length = 1 ∧ t = 0 := by
  cases t with
  | zero => exact ⟨by omega, rfl⟩
  | succ t =>
    have h2 := pal_room (t := t) g (fun i hi => h i (by omega)) (by omega)
    omega
theorem core_uniq {W : List Str} {t s : Nat} (h : CoreAt W t) (h' : CoreAt W s) : t = s := by
  have key : ∀ {t s : Nat}, CoreAt W t → CoreAt W s → ¬ t < s := by
    intro t s h h' c
    rcases h.fin with e | ⟨_, e⟩
    · have := h'.lt; omega
    · exact e (by rw [show W.length - 2 - t = W.length - 1 - (t + 1) by omega]; exact h'.pal (t + 1) (by omega))
  have := key h h'
  have := key h' h
  omega
/-- the ring behind so many steps of the stem -/
def rg (W : List Str) (t : Nat) : List Str := (W.drop t).take (W.length - 2 * t)
def sm (W : List Str) (t : Nat) : List Str := W.take (t + 1)
theorem rg_len {W : List Str} {t : Nat} : (rg W t).length = W.length - 2 * t := by
  unfold rg
  rw [List.length_take, List.length_drop]
  omega
theorem rg_get {W : List Str} {t i : Nat} (h : i < W.length - 2 * t) : (rg W t)[i]? = W[t + i]? := by
  unfold rg
  rw [List.getElem?_take, if_pos h, List.getElem?_drop]
theorem rg_next {W : List Str} {t : Nat} : ((rg W t).drop 1).take ((rg W t).length - 2) = rg W (t + 1) := by
  unfold rg
  rw [List.drop_take, List.drop_drop, List.take_take, List.length_take, List.length_drop]
  congr 1
  omega
theorem sm_next {W : List Str} {t : Nat} (h : t + 1 < W.length) : sm W t ++ (rg W (t + 1)).take 1 = sm W (t + 1) ∨ W.length - 2 * (t + 1) = 0 := by
  by_cases c : W.length - 2 * (t + 1) = 0
  · exact .inr c
  · left
    unfold sm rg
    rw [List.take_take, Nat.min_eq_left (by omega), List.take_one]
    have e : (W.drop (t + 1)).head? = some W[t + 1] := by rw [List.head?_drop, List.getElem?_eq_getElem h]
    rw [e]
    have e3 : W.take (t + 1 + 1) = W.take (t + 1) ++ W[t + 1]?.toList := List.take_succ
    rw [e3, List.getElem?_eq_getElem h]
    first | done | rfl
theorem pal_iff {W : List Str} {t : Nat} (ht : t < W.length) : (W.take (t + 1)).reverse = W.drop (W.length - 1 - t) ↔ Pal W t := by
  constructor
  · intro h i hi
    have e : (W.take (t + 1)).reverse[t - i]? = (W.drop (W.length - 1 - t))[t - i]? := by rw [h]
    rw [List.getElem?_reverse (by rw [List.length_take]; omega), List.length_take, List.getElem?_take, if_pos (by omega), List.getElem?_drop] at e
    rw [show min (t + 1) W.length - 1 - (t - i) = i by omega, show W.length - 1 - t + (t - i) = W.length - 1 - i by omega] at e
    exact e
  · intro h
    refine List.ext_getElem? fun j => ?_
    by_cases c : j ≤ t
    · rw [List.getElem?_reverse (by rw [List.length_take]; omega), List.length_take, List.getElem?_take, if_pos (by omega), List.getElem?_drop]
      have e := h (t - j) (by omega)
      rw [show min (t + 1) W.length - 1 - j = t - j by omega, e]
      congr 1
      omega
    · rw [List.getElem?_eq_none (by rw [List.length_reverse, List.length_take]; omega), List.getElem?_eq_none (by rw [List.length_drop]; omega)]
theorem core_whole {W : List Str} {t : Nat} (h : CoreAt W t) : sm W t ++ (rg W t).tail ++ (sm W t).reverse.tail = W := by
  have hl := h.lt
  have e1 : (sm W t).reverse = W.drop (W.length - 1 - t) := (pal_iff (by omega)).mpr h.pal
  rw [e1]
  have e2 : (W.drop (W.length - 1 - t)).tail = W.drop (W.length - t) := by
    rw [← List.drop_one, List.drop_drop]
    congr 1
    omega
  have e3 : (rg W t).tail = (W.drop (t + 1)).take (W.length - 2 * t - 1) := by
    unfold rg
    rw [← List.drop_one, List.drop_take, List.drop_drop]
  rw [e2, e3]
  unfold sm
  have e4 : W.take (t + 1) ++ (W.drop (t + 1)).take (W.length - 2 * t - 1) = W.take (W.length - t) := by
    have e5 : W.take (t + 1 + (W.length - 2 * t - 1)) = W.take (t + 1) ++ (W.drop (t + 1)).take (W.length - 2 * t - 1) := List.take_add ..
    rw [← e5]
    congr 1
    omega
  rw [e4, List.take_append_drop]
theorem rg_core {W : List Str} {t : Nat} (h : CoreAt W t) : CoreAt (rg W t) 0 := by
  have hl := h.lt
  refine ⟨by rw [rg_len]; omega, fun i hi => ?_, ?_⟩
  · have e : i = 0 := by omega
    subst e
    rw [rg_len, rg_get (by omega), rg_get (by omega)]
    have e := h.pal t (Nat.le_refl t)
    rw [Nat.add_zero, e]
    congr 1
    omega
  · rw [rg_len]
    rcases h.fin with e | ⟨e1, e2⟩
    · left; omega
    · right
      refine ⟨by omega, ?_⟩
      rw [rg_get (by omega), rg_get (by omega)]
      rw [show t + (0 + 1) = t + 1 by omega, show t + (W.length - 2 * t - 2 - 0) = W.length - 2 - t by omega]
      exact e2
theorem rg_gd {W : List Str} {t : Nat} (g : Gd W) : Gd (rg W t) := by
  have get : ∀ {i : Nat} {a : Str}, (rg W t)[i]? = some a → W[t + i]? = some a := by
    intro i a h
    have hi : i < W.length - 2 * t := by
      rcases Nat.lt_or_ge i (rg W t).length with c | c
      · rwa [rg_len] at c
      · rw [List.getElem?_eq_none c] at h; cases h
    rwa [rg_get hi] at h
  exact ⟨fun i a b ha hb => g.one (t + i) a b (get ha) (by rw [show t + i + 1 = t + (i + 1) by omega]; exact get hb), fun i a b ha hb => g.two (t + i) a b (get ha) (by rw [show t + i + 2 = t + (i + 2) by omega]; exact get hb)⟩
theorem sm_zero (W : List Str) : sm W 0 = W.take 1 := rfl
theorem rg_zero (W : List Str) : rg W 0 = W := by unfold rg; rw [List.drop_zero]; exact List.take_of_length_le (by omega)
/-- what shrinks leaves unlike ones side by side where they were -/
theorem shr_gd {w : List Str} (h : ∀ (i : Nat) (a b : Str), w[i]? = some a → w[i + 1]? = some b → a ≠ b) : Gd (shr w) := by
  refine ⟨?_, fun i a b ha hb e => shr_rdc w i a b ha hb e⟩
  suffices hh : ∀ n, n ≤ w.length → (∀ (i : Nat) (a b : Str), (shr (w.take n))[i]? = some a → (shr (w.take n))[i + 1]? = some b → a ≠ b) by
    have := hh w.length (Nat.le_refl _)
    rwa [List.take_length] at this
  intro n
  induction n with
  | zero => intro _ i a b ha; simp [shr] at ha
  | succ n ih =>
    intro hn i a b ha hb
    have hr : w[n]? = some w[n] := List.getElem?_eq_getElem (by omega)
    rw [take_succ_get hr, shr_snoc] at ha hb
    unfold stepS at ha hb
    split at ha
    · rename_i c
      rw [if_pos c] at hb
      rw [List.getElem?_dropLast] at ha hb
      split at hb
      · rw [if_pos (by omega)] at ha
        exact ih (by omega) i a b ha hb
      · cases hb
    · rename_i c
      rw [if_neg c] at hb
      rcases Nat.lt_or_ge (i + 1) (shr (w.take n)).length with z | z
      · rw [List.getElem?_append_left (by omega)] at ha
        rw [List.getElem?_append_left z] at hb
        exact ih (by omega) i a b ha hb
      · rw [List.getElem?_append_right z] at hb
        have hi : i + 1 = (shr (w.take n)).length := by
          rcases Nat.lt_or_ge (i + 1 - (shr (w.take n)).length) 1 with y | y
          · omega
          · rw [List.getElem?_eq_none (by simp; omega)] at hb; cases hb
        rw [hi, Nat.sub_self] at hb
        rw [List.getElem?_append_left (by omega)] at ha
        cases n with
        | zero => simp [shr] at hi
        | succ n =>
          have hl : lst (w.take (n + 1)) = some w[n] := by
            unfold lst
            rw [List.length_take, Nat.min_eq_left (by omega), Nat.add_sub_cancel, List.getElem?_take, if_pos (by omega)]
            exact List.getElem?_eq_getElem (by omega)
          have hl2 := lst_shr hl
          unfold lst at hl2
          rw [show (shr (w.take (n + 1))).length - 1 = i by omega, ha] at hl2
          have e2 : b = w[n + 1] := (Option.some.inj hb).symm
          rw [Option.some.inj hl2, e2]
          exact h n _ _ (List.getElem?_eq_getElem (by omega)) (List.getElem?_eq_getElem (by omega))
/-! data: a couple of walks -/
def dTT (xs ys : List Str) : PyData := .tuple [.tuple (xs.map .str), .tuple (ys.map .str)]
section
variable {K : PySem.W.Frag} {H : Hp} {c s g c' s' g' : Addr} {xs ys xs' ys' : List Str} {Q : VK}
theorem dp_TT (h : SqT K H c [.ref s, .ref g]) (h1 : SqT K H s (xs.map V.str)) (h2 : SqT K H g (ys.map V.str)) : Dp K H (.ref c) (dTT xs ys) :=
  .tup h (.cons (.tup h1 (dp_strs _)) (.cons (.tup h2 (dp_strs _)) .nil))
theorem sh_TT (a : ∀ z ∈ xs, SOk z) (b : ∀ z ∈ ys, SOk z) : SeqAt.shaped (dTT xs ys) = true := by
  simp [dTT, SeqAt.shaped, PyData.canLay0, PyData.canLayAll0, PyData.depth, PyData.depthAll, lay_strs xs a, lay_strs ys b, deep_strs]
theorem eqv_TT : PyData.eqv (dTT xs ys) (dTT xs' ys') = (decide (xs = xs') && decide (ys = ys')) := by
  simp only [dTT, PyData.eqv, PyData.eqvAll, eqv_strs, Bool.and_true]
theorem r_neTT2 (h : SqT K H c [.ref s, .ref g]) (h1 : SqT K H s (xs.map V.str)) (h2 : SqT K H g (ys.map V.str)) (h' : SqT K H c' [.ref s', .ref g']) (h1' : SqT K H s' (xs.map V.str)) (h2' : SqT K H g' (ys.map V.str))
    (a : ∀ z ∈ xs, SOk z) (b : ∀ z ∈ ys, SOk z) (q : Q (.bl false) H) : rNeD K (.ref c) (.ref c') H Q :=
  ⟨_, _, dp_TT h h1 h2, dp_TT h' h1' h2', sh_TT a b, sh_TT a b, by rw [eqv_TT, decide_eq_true rfl, decide_eq_true rfl]; exact q⟩
theorem shows_strs : ∀ ns : List Str, PyData.showableAll (ns.map PyData.str) = true
  | [] => rfl
  | _ :: r => by simp [PyData.showableAll, PyData.showable, shows_strs r]
theorem nodict_strs : ∀ ns : List Str, PyData.hasDictAll (ns.map PyData.str) = false
  | [] => rfl
  | _ :: r => by simp [PyData.hasDictAll, PyData.hasDict, nodict_strs r]
theorem shown_strs : ∀ ns : List Str, PyData.shownAll (ns.map PyData.str) = ns.map reprText
  | [] => rfl
  | _ :: r => by simp [PyData.shownAll, PyData.shown, shown_strs r]
theorem sum_shown : ∀ ns : List Str, (∀ z ∈ ns, NmOk z) → ((ns.map reprText).map (·.length)).sum ≤ 82 * ns.length
  | [], _ => Nat.zero_le _
  | x :: r, h => by
    have h1 := h x List.mem_cons_self
    have h2 := sum_shown r fun z hz => h z (List.mem_cons_of_mem _ hz)
    have h3 := StrLaws.reprText_len x (fun c hc => by have := (h1.2.2 c hc).2; omega)
    have h4 := h1.2.1
    simp only [List.map_cons, List.sum_cons, List.length_cons]
    omega
theorem len_tt (ns : List Str) (h : ∀ z ∈ ns, NmOk z) : (tupleText (ns.map reprText)).length ≤ 84 * ns.length + 3 := by
  have h1 := tupleText_len_le (ns.map reprText)
  have h2 := sum_shown ns h
  rw [List.length_map] at h1
  omega
theorem c_reprTT (h : SqT K H c [.ref s, .ref g]) (h1 : SqT K H s (xs.map V.str)) (h2 : SqT K H g (ys.map V.str)) (a : ∀ z ∈ xs, NmOk z) (b : ∀ z ∈ ys, NmOk z) (la : xs.length ≤ 10000) (lb : ys.length ≤ 10000)
    (q : Q (.str (dTT xs ys).shown) H) : kRepr K [.ref c] H Q := by
  refine c_repr (dp_TT h h1 h2) ?_ ?_ ?_ ?_ q
  · simp [dTT, PyData.showable, PyData.showableAll, shows_strs]
  · simp [dTT, PyData.hasDict, PyData.hasDictAll, nodict_strs]
  · simp [dTT, PyData.depth, PyData.depthAll, deep_strs]
  · have e : (dTT xs ys).shown = tupleText [tupleText (xs.map reprText), tupleText (ys.map reprText)] := by simp only [dTT, PyData.shown, PyData.shownAll, shown_strs]
    rw [e, sizeLine_eq]
    have h1 := tupleText_len_le [tupleText (xs.map reprText), tupleText (ys.map reprText)]
    have h3 := len_tt xs a
    have h4 := len_tt ys b
    simp only [List.map_cons, List.map_nil, List.sum_cons, List.sum_nil, List.length_cons, List.length_nil] at h1
    omega
end
theorem cut_mid {l : List Str} {i j : Int} (a b : Nat) (ei : i = (a : Int)) (ej : j = (b : Int)) (ha : a ≤ l.length) (hb : b ≤ l.length) : cutV (l.map V.str) (some i) (some j) = ((l.drop a).take (b - a)).map V.str := by
  subst ei ej
  unfold cutV
  rw [HT.sIx_nat, HT.sIx_nat, List.length_map, Nat.min_eq_left ha, Nat.min_eq_left hb, ← List.map_drop, ← List.map_take]
theorem cut_in {l : List Str} {i j : Int} (ei : i = 1) (ej : j = -1) (h : 2 ≤ l.length) : cutV (l.map V.str) (some i) (some j) = ((l.drop 1).take (l.length - 2)).map V.str := by
  subst ei ej
  have e0 : HT.sIx l.length 0 (some 1) = 1 := by
    have := HT.sIx_nat l.length 0 1
    rw [show ((1 : Nat) : Int) = 1 from rfl] at this
    rw [this]
    omega
  have e1 : HT.sIx l.length l.length (some (-1)) = l.length - 1 := by
    show (if (-1 : Int) < 0 then ((-1 : Int) + (l.length : Int)).toNat else min (-1 : Int).toNat l.length) = _
    rw [if_pos (by decide)]
    omega
  unfold cutV
  rw [List.length_map, e0, e1, ← List.map_drop, ← List.map_take]
  congr 2
theorem if_and {b : Bool} {te : TE} {σ : L2.St} {H : Hp} {Q : VK} (R : Bool → Prop) (h1 : b = true → ∀ Q' : VK, (∀ c, R c → Q' (.bl c) H) → te σ H Q') (h2 : b = false → R false) (q : ∀ c, R c → Q (.bl c) H) : if b = true then te σ H Q else Q (.bl false) H := by
  cases b with
  | true => exact h1 rfl Q q
  | false => exact q false (h2 rfl)
/-! ### min of a list of tuples of texts -/
def dT (w : List Str) : PyData := .tuple (w.map .str)
theorem alike_strs : ∀ a b : List Str, PySem.W.alikeAll (a.map PyData.str) (b.map PyData.str) = true
  | [], _ => by simp [PySem.W.alikeAll]
  | _ :: _, [] => by simp [PySem.W.alikeAll]
  | _ :: r, _ :: t => by simp [PySem.W.alikeAll, PySem.W.alike, alike_strs r t]
theorem alike_dT (ds : List (List Str)) : PySem.W.AlikeAll (ds.map dT) := by
  refine ⟨fun x hx y hy => ?_, fun x hx => ?_⟩
  · obtain ⟨a, _, rfl⟩ := List.mem_map.mp hx
    obtain ⟨b, _, rfl⟩ := List.mem_map.mp hy
    simp [dT, PySem.W.alike, alike_strs]
  · obtain ⟨a, _, rfl⟩ := List.mem_map.mp hx
    intro z
    cases z
theorem deep_dT : ∀ ds : List (List Str), PyData.depthAll (ds.map dT) ≤ 1
  | [] => by simp [PyData.depthAll]
  | a :: r => by
    have h := deep_dT r
    simp only [List.map_cons, PyData.depthAll, dT, PyData.depth, deep_strs]
    omega
/-- a before b, as tuples of texts -/
def ltW (a b : List Str) : Bool := PySem.W.dataLt (dT a) (dT b)
def minW (x : List Str) (xs : List (List Str)) : List Str := xs.foldl (fun a y => if ltW y a = true then y else a) x
theorem minD_dT : ∀ (xs : List (List Str)) (x : List Str), PySem.W.minD (dT x) (xs.map dT) = dT (minW x xs)
  | [], _ => rfl
  | y :: xs, x => by
    have h : ∀ z, PySem.W.minD (dT z) (xs.map dT) = dT (minW z xs) := minD_dT xs
    show PySem.W.minD (if PySem.W.dataLt (dT y) (dT x) = true then dT y else dT x) (xs.map dT) = dT (minW (if ltW y x = true then y else x) xs)
    unfold ltW
    split
    · exact h y
    · exact h x
/-- rows of texts in a heap -/
def Rws (K : PySem.W.Frag) (H : Hp) (xs : List V) (ds : List (List Str)) : Prop := xs.length = ds.length ∧ ∀ (i : Nat) (d : List Str), ds[i]? = some d → ∃ t, xs[i]? = some (.ref t) ∧ SqT K H t (d.map V.str)
theorem Rws.dps {K : PySem.W.Frag} {H : Hp} : ∀ {xs : List V} {ds : List (List Str)}, Rws K H xs ds → DpAll K H xs (ds.map dT)
  | [], [], _ => .nil
  | [], _ :: _, h => by cases h.1
  | _ :: _, [], h => by cases h.1
  | x :: xs, d :: ds, h => by
    obtain ⟨t, e, hs⟩ := h.2 0 d rfl
    cases Option.some.inj e
    exact .cons (.tup hs (dp_strs d)) (Rws.dps ⟨by have := h.1; simpa using this, fun i d hd => h.2 (i + 1) d hd⟩)
theorem Rws.same {K : PySem.W.Frag} {G H : Hp} {xs : List V} {ds : List (List Str)} (e : Same G H) (h : Rws K G xs ds) : Rws K H xs ds :=
  ⟨h.1, fun i d hd => by obtain ⟨t, h1, h2⟩ := h.2 i d hd; exact ⟨t, h1, Same.sqt e h2⟩⟩
theorem Rws.snoc {K : PySem.W.Frag} {G : Hp} {xs : List V} {ds : List (List Str)} {t : Addr} {d : List Str} (h : Rws K G xs ds) (e : SqT K G t (d.map V.str)) : Rws K G (xs ++ [.ref t]) (ds ++ [d]) := by
  refine ⟨by rw [List.length_append, List.length_append, h.1]; rfl, fun i z hz => ?_⟩
  rcases Nat.lt_or_ge i ds.length with c | c
  · rw [List.getElem?_append_left c] at hz
    obtain ⟨s, h1, h2⟩ := h.2 i z hz
    exact ⟨s, by rw [List.getElem?_append_left (by rw [h.1]; exact c)]; exact h1, h2⟩
  · rw [List.getElem?_append_right c] at hz
    have hi : i - ds.length = 0 := by
      rcases Nat.lt_or_ge (i - ds.length) 1 with y | y
      · omega
      · rw [List.getElem?_eq_none (by simp; omega)] at hz; cases hz
    rw [hi] at hz
    cases Option.some.inj hz
    exact ⟨t, by rw [List.getElem?_append_right (by rw [h.1]; exact c), h.1, hi]; rfl, e⟩
def rMinT (K : PySem.W.Frag) : List V → Hp → VK → Prop := fun vs H Q => ∃ (a : Addr) (xs : List V) (m0 : List Str) (ms : List (List Str)), vs = [V.ref a] ∧ SqL K H a xs ∧ Rws K H xs (m0 :: ms) ∧ (∀ m ∈ m0 :: ms, ∀ z ∈ m, SOk z) ∧
  ∀ t, SqT K H t ((minW m0 ms).map V.str) → (∃ i : Nat, (m0 :: ms)[i]? = some (minW m0 ms) ∧ xs[i]? = some (V.ref t)) → Q (.ref t) H
theorem lay_dT {d : List Str} (h : ∀ z ∈ d, SOk z) : (dT d).canLay0 = true := by
  simp only [dT, PyData.canLay0]
  exact lay_strs d h
theorem minW_mem : ∀ (xs : List (List Str)) (x : List Str), minW x xs ∈ x :: xs
  | [], x => List.mem_cons_self
  | y :: xs, x => by
    show minW (if ltW y x = true then y else x) xs ∈ _
    split
    · exact List.mem_cons_of_mem _ (minW_mem xs y)
    · rcases List.mem_cons.mp (minW_mem xs x) with h | h
      · rw [h]; exact List.mem_cons_self
      · exact List.mem_cons_of_mem _ (List.mem_cons_of_mem _ h)
theorem strs_inj : ∀ {a b : List Str}, a.map PyData.str = b.map PyData.str → a = b
  | [], [], _ => rfl
  | [], _ :: _, h => by cases h
  | _ :: _, [], h => by cases h
  | x :: a, y :: b, h => by
    rw [List.map_cons, List.map_cons] at h
    have h1 := List.cons.inj h
    rw [PyData.str.inj h1.1, strs_inj h1.2]
theorem dT_inj {a b : List Str} (h : dT a = dT b) : a = b := strs_inj (PyData.tuple.inj h)
theorem cr_minT {X : Cx} (hc : X.calm = true) (hu : X.A.units + 64 < cLine) : CallR X (.builtin "min") (rMinT X.K) := by
  intro pins s σ H vs us Q I r h
  obtain ⟨a, xs, m0, ms, rfl, hs, hR, hok, q⟩ := h
  obtain ⟨its, rv, hl, _⟩ := I.list hs
  rw [Vals.ref1 r]
  obtain ⟨as, rd⟩ := Dp.readsAll I ((m0 :: ms).map dT) xs its hR.dps rv
  have hdp := deep_dT (m0 :: ms)
  refine PySem.W.min_list_data (I.ok.hd hc) hl.isList (x := dT m0) (xs := ms.map dT) (as := as) (by simpa using rd) (alike_dT (m0 :: ms)) (by simp only [List.map_cons] at hdp; omega) fun i v h' tk bs hv hr hk => ?_
  rw [minD_dT] at hr
  have hv' : its[i]? = some v := by simpa using hv
  obtain ⟨x, hx, rx⟩ : ∃ x, xs[i]? = some x ∧ RelV x v := by
    obtain ⟨hi, hiv⟩ := List.getElem?_eq_some_iff.mp hv'
    have hlen := rv.length
    have hxi : xs[i]? = some (xs[i]'(by omega)) := List.getElem?_eq_getElem (by omega)
    obtain ⟨u, hu2, ru⟩ := rv.get hxi
    rw [hv'] at hu2
    cases Option.some.inj hu2
    exact ⟨_, hxi, ru⟩
  have hil : i < (m0 :: ms).length := by
    rw [← hR.1]
    exact (List.getElem?_eq_some_iff.mp hx).1
  obtain ⟨t, ht, hS⟩ := hR.2 i _ (List.getElem?_eq_getElem hil)
  rw [hx] at ht
  cases Option.some.inj ht
  cases rx
  obtain ⟨as2, r2⟩ := Dp.reads I (dT ((m0 :: ms)[i])) (.ref t) (.ref t) (.tup hS (dp_strs _)) rfl
  have e := (PySem.Reads.unique (Reads.keeps hk r2) _ _ hr).1
  have e2 := dT_inj e
  rw [e2] at hS
  exact ⟨.ref t, H, I.kept (t' := tk) hk, rfl, q t hS ⟨i, by rw [List.getElem?_eq_getElem hil, e2], hx⟩⟩
/-! ### rings of a walk that is led elsewhere -/
/-- R begun at its second place -/
def turn1 (R : List Str) : List Str := R.tail ++ R.tail.take 1
/-- R is a ring or one room -/
structure IsR (R : List Str) : Prop where
  gd : Gd R
  co : CoreAt R 0
/-- w shrinks to the stem S, the ring R, the stem turned about -/
def HasR (w R : List Str) : Prop := ∃ t, CoreAt (shr w) t ∧ R = rg (shr w) t
theorem shr_of_gd {W : List Str} (g : Gd W) : shr W = W := shr_irr fun i a b ha hb e => g.two i a b ha hb e
theorem hasR_uniq {w R R' : List Str} (h : HasR w R) (h' : HasR w R') : R = R' := by
  obtain ⟨t, h1, rfl⟩ := h
  obtain ⟨s, h2, rfl⟩ := h'
  rw [core_uniq h1 h2]
theorem gd_cons {x a : Str} {r : List Str} (g : Gd (a :: r)) (h1 : x ≠ a) (h2 : ∀ b, r[0]? = some b → x ≠ b) : Gd (x :: a :: r) := by
  refine ⟨fun i p q hp hq => ?_, fun i p q hp hq => ?_⟩
  · cases i with
    | zero => rw [← Option.some.inj hp, ← Option.some.inj hq]; exact h1
    | succ i => exact g.one i p q hp hq
  · cases i with
    | zero => rw [← Option.some.inj hp]; exact h2 q hq
    | succ i => exact g.two i p q hp hq
theorem gd_rev {W : List Str} (g : Gd W) : Gd W.reverse := by
  have key : ∀ (k i : Nat) (a b : Str), W.reverse[i]? = some a → W.reverse[i + k]? = some b → ∃ j, W[j]? = some b ∧ W[j + k]? = some a := by
    intro k i a b ha hb
    have hl : i + k < W.length := by
      rcases Nat.lt_or_ge (i + k) W.reverse.length with z | z
      · rwa [List.length_reverse] at z
      · rw [List.getElem?_eq_none z] at hb; cases hb
    rw [List.getElem?_reverse (by omega)] at ha hb
    exact ⟨W.length - 1 - (i + k), hb, by rw [show W.length - 1 - (i + k) + k = W.length - 1 - i by omega]; exact ha⟩
  refine ⟨fun i a b ha hb e => ?_, fun i a b ha hb e => ?_⟩
  · obtain ⟨j, h1, h2⟩ := key 1 i a b ha hb
    exact g.one j b a h1 h2 e.symm
  · obtain ⟨j, h1, h2⟩ := key 2 i a b ha hb
    exact g.two j b a h1 h2 e.symm
theorem gd_snoc {x a : Str} {W : List Str} (g : Gd W) (hl : lst W = some a) (h1 : a ≠ x) (h2 : ∀ b, 2 ≤ W.length → W[W.length - 2]? = some b → b ≠ x) : Gd (W ++ [x]) := by
  have hr := gd_rev g
  have e : W.reverse = a :: W.reverse.tail := (fst_tl (fst_rev hl)).symm
  rw [e] at hr
  have h3 := gd_rev (gd_cons hr (x := x) (fun q => h1 q.symm) (fun b hb q => by
    have hb2 : W.reverse[1]? = some b := by rw [e]; exact hb
    have hl2 : 1 < W.length := by
      rcases Nat.lt_or_ge 1 W.reverse.length with z | z
      · rwa [List.length_reverse] at z
      · rw [List.getElem?_eq_none z] at hb2; cases hb2
    rw [List.getElem?_reverse hl2] at hb2
    exact h2 b (by omega) (by rw [show W.length - 2 = W.length - 1 - 1 by omega]; exact hb2) q.symm))
  rw [← e] at h3
  simpa using h3
/-- the stem grows by a room -/
theorem core_grow {W : List Str} {t : Nat} {x : Str} (h : CoreAt W t) (h1 : W.length ≠ 1) : CoreAt (x :: (W ++ [x])) (t + 1) ∧ rg (x :: (W ++ [x])) (t + 1) = rg W t := by
  have hl := h.lt
  have hn : (x :: (W ++ [x])).length = W.length + 2 := by simp
  have get : ∀ i, i < W.length → (x :: (W ++ [x]))[i + 1]? = W[i]? := fun i hi => by
    rw [List.getElem?_cons_succ, List.getElem?_append_left hi]
  refine ⟨⟨by rw [hn]; omega, fun i hi => ?_, ?_⟩, ?_⟩
  · rw [hn]
    cases i with
    | zero =>
      show some x = _
      rw [show W.length + 2 - 1 - 0 = W.length + 1 by omega, List.getElem?_cons_succ, List.getElem?_append_right (Nat.le_refl _), Nat.sub_self]
      rfl
    | succ i =>
      rw [get i (by omega), show W.length + 2 - 1 - (i + 1) = (W.length - 1 - i) + 1 by omega, get _ (by omega)]
      exact h.pal i (by omega)
  · obtain ⟨f1, f2⟩ := h.fin.resolve_left h1
    right
    rw [hn]
    refine ⟨by omega, ?_⟩
    rw [get (t + 1) (by omega), show W.length + 2 - 2 - (t + 1) = (W.length - 2 - t) + 1 by omega, get _ (by omega)]
    exact f2
  · unfold rg
    rw [hn, List.drop_succ_cons, List.drop_append_of_le_length (by omega), List.take_append_of_le_length (by rw [List.length_drop]; omega)]
    congr 1
    omega
/-- the stem loses a room -/
theorem core_lose {W : List Str} {t : Nat} (h : CoreAt W (t + 1)) : CoreAt W.tail.dropLast t ∧ rg W.tail.dropLast t = rg W (t + 1) := by
  have hl := h.lt
  have hn : W.tail.dropLast.length = W.length - 2 := by rw [List.length_dropLast, List.length_tail]; omega
  have get : ∀ i, i + 2 < W.length → W.tail.dropLast[i]? = W[i + 1]? := fun i hi => by
    rw [List.getElem?_dropLast, if_pos (by rw [List.length_tail]; omega), List.getElem?_tail]
  obtain ⟨f1, f2⟩ := h.fin.resolve_left (by omega)
  refine ⟨⟨by rw [hn]; omega, fun i hi => ?_, .inr ⟨by rw [hn]; omega, ?_⟩⟩, ?_⟩
  · rw [hn, get i (by omega), get _ (by omega), h.pal (i + 1) (by omega)]
    congr 1
    omega
  · rw [hn, get (t + 1) (by omega), get _ (by omega), show W.length - 2 - 2 - t + 1 = W.length - 2 - (t + 1) by omega]
    exact f2
  · unfold rg
    refine List.ext_getElem? fun i => ?_
    rw [List.getElem?_take, List.getElem?_take, hn]
    by_cases c : i < W.length - 2 * (t + 1)
    · rw [if_pos (by omega), if_pos c, List.getElem?_drop, List.getElem?_drop, get _ (by omega)]
      congr 1
      omega
    · rw [if_neg (by omega), if_neg c]
/-- z goes round as the rooms C do, closed up -/
def Rd (C z : List Str) : Prop := ∃ p q, C = p ++ q ∧ q ≠ [] ∧ z = q ++ p ++ q.take 1
theorem rd_rot (c : Str) (r z : List Str) : Rd (c :: r) z ↔ Rd (r ++ [c]) z := by
  constructor
  · rintro ⟨p, q, e, hq, rfl⟩
    cases p with
    | nil =>
      rw [List.nil_append] at e
      subst e
      exact ⟨r, [c], rfl, by simp, by simp⟩
    | cons d p =>
      rw [List.cons_append] at e
      obtain ⟨rfl, rfl⟩ := List.cons.inj e
      refine ⟨p, q ++ [c], by simp, by simp, ?_⟩
      cases q with
      | nil => exact absurd rfl hq
      | cons y q => simp
  · rintro ⟨p, q, e, hq, rfl⟩
    obtain ⟨q', d, rfl⟩ : ∃ q' d, q = q' ++ [d] := ⟨q.dropLast, q.getLast hq, (List.dropLast_concat_getLast hq).symm⟩
    rw [← List.append_assoc] at e
    have h1 := List.append_inj' e rfl
    obtain ⟨rfl, h2⟩ := h1
    obtain rfl : c = d := by simpa using h2
    cases q' with
    | nil => exact ⟨[], c :: p, by simp, by simp, by simp⟩
    | cons y q' => exact ⟨c :: p, y :: q', by simp, by simp, by simp⟩
/-- two rings that go round alike -/
def SameR (R R' : List Str) : Prop := R.length = R'.length ∧ ∀ z, Rd R.dropLast z ↔ Rd R'.dropLast z
theorem SameR.refl (R : List Str) : SameR R R := ⟨rfl, fun _ => Iff.rfl⟩
theorem SameR.trans {A B C : List Str} (h : SameR A B) (h' : SameR B C) : SameR A C := ⟨h.1.trans h'.1, fun z => (h.2 z).trans (h'.2 z)⟩
theorem rd_nil (z : List Str) : ¬ Rd [] z := fun ⟨p, q, e, hq, _⟩ => hq (by
  have h := congrArg List.length e
  rw [List.length_append] at h
  exact List.eq_nil_of_length_eq_zero (by simp at h; omega))
theorem shr_one (x : Str) : shr [x] = [x] := rfl
theorem gd_tail {W : List Str} (g : Gd W) : Gd W.tail := ⟨fun i a b ha hb => g.one (i + 1) a b (by rwa [List.getElem?_tail] at ha) (by rwa [List.getElem?_tail] at hb), fun i a b ha hb => g.two (i + 1) a b (by rwa [List.getElem?_tail] at ha) (by rwa [List.getElem?_tail] at hb)⟩
theorem gd_dl {W : List Str} (g : Gd W) : Gd W.dropLast := by
  have get : ∀ {i : Nat} {a : Str}, W.dropLast[i]? = some a → W[i]? = some a := by
    intro i a h
    rw [List.getElem?_dropLast] at h
    split at h
    · exact h
    · cases h
  exact ⟨fun i a b ha hb => g.one i a b (get ha) (get hb), fun i a b ha hb => g.two i a b (get ha) (get hb)⟩
theorem lst_snoc' (l : List Str) (x : Str) : lst (l ++ [x]) = some x := by
  unfold lst
  rw [List.length_append]
  show (l ++ [x])[l.length + 1 - 1]? = some x
  rw [Nat.add_sub_cancel, List.getElem?_append_right (Nat.le_refl _), Nat.sub_self]
  rfl
/-- led by one step the ring turns by one room at most -/
theorem ring_step {w R : List Str} {a x : Str} (g : Gd (shr w)) (hf : fst0 w = some a) (hl : lst w = some a) (hx : x ≠ a) (h : HasR w R) : ∃ R', HasR (x :: (w ++ [x])) R' ∧ SameR R R' ∧ Gd (shr (x :: (w ++ [x]))) := by
  have e0 : shr (x :: (w ++ [x])) = shr (x :: (shr w ++ [x])) := by
    have := shr_in [x] w [x]
    simpa using this.symm
  unfold HasR
  rw [e0]
  obtain ⟨t, hC, rfl⟩ := h
  have hfW := fst_shr hf
  have hlW := lst_shr hl
  generalize shr w = W at g hC hfW hlW
  have hlt := hC.lt
  by_cases hn : W.length = 1
  · obtain rfl : W = [a] := by
      match W, hn, hfW with
      | [z], _, hfW => rw [Option.some.inj (show some z = some a from hfW)]
    have ht : t = 0 := by simp at hlt; omega
    subst ht
    have e1 : shr (x :: ([a] ++ [x])) = [x] := (shr_red [] [] x a).trans rfl
    rw [e1]
    refine ⟨[x], ⟨0, ⟨by simp, fun i hi => ?_, .inl rfl⟩, rfl⟩, ⟨rfl, fun z => ?_⟩, ⟨fun i p q _ hq => ?_, fun i p q _ hq => ?_⟩⟩
    · have : i = 0 := by omega
      subst this
      rfl
    · exact ⟨fun h => absurd h (rd_nil z), fun h => absurd h (rd_nil z)⟩
    · rw [List.getElem?_eq_none (by simp)] at hq; cases hq
    · rw [List.getElem?_eq_none (by simp)] at hq; cases hq
  obtain ⟨f1, f2⟩ := hC.fin.resolve_left hn
  -- W = a :: M ++ [a]
  obtain ⟨M, rfl⟩ : ∃ M, W = a :: (M ++ [a]) := by
    have e1 := (fst_tl hfW).symm
    have e2 : lst W.tail = some a := by
      unfold lst at hlW ⊢
      rw [List.getElem?_tail, List.length_tail, show W.length - 1 - 1 + 1 = W.length - 1 by omega]
      exact hlW
    exact ⟨W.tail.dropLast, by rw [lst_dl e2]; exact e1⟩
  have hnn : (a :: (M ++ [a])).length = M.length + 2 := by simp
  rw [hnn] at f1 f2 hlt
  have hM : 2 ≤ M.length := by omega
  obtain ⟨b, hb⟩ : ∃ b, M[0]? = some b := ⟨_, List.getElem?_eq_getElem (by omega)⟩
  obtain ⟨y, hy⟩ : ∃ y, lst M = some y := ⟨_, List.getElem?_eq_getElem (by omega)⟩
  have eM := fst_tl hb
  have eM2 := lst_dl hy
  have g1 : ∀ (V : List Str), V = a :: (M ++ [a]) → V[1]? = some b ∧ V[V.length - 2]? = some y := by
    rintro V rfl
    refine ⟨by rw [List.getElem?_cons_succ, List.getElem?_append_left (by omega)]; exact hb, ?_⟩
    rw [hnn, show M.length + 2 - 2 = M.length - 1 + 1 by omega, List.getElem?_cons_succ, List.getElem?_append_left (by omega)]
    exact hy
  obtain ⟨gb, gy⟩ := g1 _ rfl
  rw [hnn, Nat.add_sub_cancel] at gy
  have hba : a ≠ b := g.one 0 a b rfl gb
  by_cases cb : x = b
  · by_cases cy : x = y
    · -- both: the stem loses a room
      obtain ⟨t', rfl⟩ : ∃ t', t = t' + 1 := by
        cases t with
        | zero =>
          exfalso
          rw [Nat.sub_zero, Nat.zero_add, show M.length + 2 - 2 = M.length by omega, gb, gy, ← cb, ← cy] at f2
          exact f2 rfl
        | succ t' => exact ⟨t', rfl⟩
      obtain ⟨k1, k2⟩ := core_lose hC
      have e1 : shr (x :: (a :: (M ++ [a]) ++ [x])) = (a :: (M ++ [a])).tail.dropLast := by
        have gM : Gd M := by
          have := gd_dl (gd_tail g)
          simpa using this
        have e2 : x :: (a :: (M ++ [a]) ++ [x]) = [] ++ x :: a :: x :: (M.tail ++ [a] ++ [x]) := by
          have q : x :: (a :: (M ++ [a]) ++ [x]) = x :: (a :: ((b :: M.tail) ++ [a]) ++ [x]) := by rw [eM]
          rw [q, cb]
          simp
        rw [e2, shr_red, List.nil_append]
        have e3 : x :: (M.tail ++ [a] ++ [x]) = M.dropLast ++ x :: a :: x :: [] := by
          have e4 : x :: (M.tail ++ [a] ++ [x]) = M ++ [a, x] := by
            have q : M ++ [a, x] = (b :: M.tail) ++ [a, x] := by rw [eM]
            rw [q, cb]
            simp
          have q : M ++ [a, x] = (M.dropLast ++ [y]) ++ [a, x] := by rw [eM2]
          rw [e4, q, ← cy]
          simp
        rw [e3, shr_red]
        have e5 : M.dropLast ++ [x] = M := by rw [cy]; exact eM2
        rw [e5, shr_of_gd gM]
        simp
      rw [e1]
      exact ⟨_, ⟨t', k1, rfl⟩, by rw [k2]; exact SameR.refl _, gd_dl (gd_tail g)⟩
    · -- along the ring
      have ht : t = 0 := by
        cases t with
        | zero => rfl
        | succ t' =>
          exfalso
          have e := hC.pal 1 (by omega)
          rw [hnn, show M.length + 2 - 1 - 1 = M.length by omega, gb, gy] at e
          exact cy (by rw [cb]; exact Option.some.inj e)
      subst ht
      have lW : lst (M ++ [a]) = some a := lst_snoc' M a
      have gR : Gd (M ++ [a] ++ [x]) := gd_snoc (by have := gd_tail g; simpa using this) lW (fun q => hx q.symm) (fun z _ hz q => cy (by
        rw [List.length_append, show M.length + [a].length - 2 = M.length - 1 by simp, List.getElem?_append_left (by omega)] at hz
        rw [← q, Option.some.inj ((show M[M.length - 1]? = some y from hy).symm.trans hz)]))
      have e1 : shr (x :: (a :: (M ++ [a]) ++ [x])) = M ++ [a] ++ [x] := by
        have e2 : x :: (a :: (M ++ [a]) ++ [x]) = [] ++ x :: a :: x :: (M.tail ++ [a] ++ [x]) := by
          have q : x :: (a :: (M ++ [a]) ++ [x]) = x :: (a :: ((b :: M.tail) ++ [a]) ++ [x]) := by rw [eM]
          rw [q, cb]
          simp
        rw [e2, shr_red, List.nil_append]
        have e4 : x :: (M.tail ++ [a] ++ [x]) = M ++ [a] ++ [x] := by
          have q : M ++ [a] ++ [x] = (b :: M.tail) ++ [a] ++ [x] := by rw [eM]
          rw [q, cb]
          simp
        rw [e4, shr_of_gd gR]
      have hln : (M ++ [a] ++ [x]).length = M.length + 2 := by simp
      rw [e1, rg_zero]
      refine ⟨_, ⟨0, ⟨by rw [hln]; omega, fun i hi => ?_, .inr ⟨by rw [hln]; omega, ?_⟩⟩, rfl⟩, ?_, gR⟩
      · have : i = 0 := by omega
        subst this
        rw [hln, List.append_assoc, List.getElem?_append_left (by omega), hb, Nat.sub_zero, ← List.append_assoc, List.getElem?_append_right (by simp), cb]
        simp
      · rw [hln, show M.length + 2 - 2 - 0 = M.length by omega]
        intro q
        have q1 : (M ++ [a] ++ [x])[M.length]? = some a := by rw [List.append_assoc, List.getElem?_append_right (Nat.le_refl _), Nat.sub_self]; rfl
        have q2 : (a :: (M ++ [a]))[2]? = some a := by
          rw [List.getElem?_cons_succ, List.getElem?_append_left (by omega), ← q1, ← q, List.append_assoc, List.getElem?_append_left (by omega)]
        exact g.two 0 a a rfl q2 rfl
      · rw [rg_zero]
        refine ⟨by rw [hnn, hln], fun z => ?_⟩
        have d1 : (a :: (M ++ [a])).dropLast = a :: M := by
          have := List.dropLast_concat (l₁ := a :: M) (b := a)
          simpa using this
        have d2 : (M ++ [a] ++ [x]).dropLast = M ++ [a] := List.dropLast_concat
        rw [d1, d2]
        exact rd_rot a M z
  · by_cases cy : x = y
    · -- against the ring
      have ht : t = 0 := by
        cases t with
        | zero => rfl
        | succ t' =>
          exfalso
          have e := hC.pal 1 (by omega)
          rw [hnn, show M.length + 2 - 1 - 1 = M.length by omega, gb, gy] at e
          exact cb (by rw [cy]; exact (Option.some.inj e).symm)
      subst ht
      have d1 : (a :: (M ++ [a])).dropLast = a :: M := by
        have := List.dropLast_concat (l₁ := a :: M) (b := a)
        simpa using this
      have gR : Gd (x :: a :: M) := gd_cons (by have := gd_dl g; rwa [d1] at this) hx (fun z hz q => cb (by rw [q]; exact (Option.some.inj (hb.symm.trans hz)).symm))
      have e1 : shr (x :: (a :: (M ++ [a]) ++ [x])) = x :: a :: M := by
        have e2 : x :: (a :: (M ++ [a]) ++ [x]) = (x :: a :: M.dropLast) ++ x :: a :: x :: [] := by
          have q : x :: (a :: (M ++ [a]) ++ [x]) = x :: (a :: ((M.dropLast ++ [y]) ++ [a]) ++ [x]) := by rw [eM2]
          rw [q, ← cy]
          simp
        have e3 : (x :: a :: M.dropLast) ++ [x] = x :: a :: M := by
          have q : x :: a :: M = x :: a :: (M.dropLast ++ [y]) := by rw [eM2]
          rw [q, ← cy]
          simp
        rw [e2, shr_red, e3, shr_of_gd gR]
      have hln : (x :: a :: M).length = M.length + 2 := by simp
      rw [e1, rg_zero]
      refine ⟨_, ⟨0, ⟨by rw [hln]; omega, fun i hi => ?_, .inr ⟨by rw [hln]; omega, ?_⟩⟩, rfl⟩, ?_, gR⟩
      · have : i = 0 := by omega
        subst this
        rw [hln, show M.length + 2 - 1 - 0 = (M.length - 1) + 1 + 1 by omega, List.getElem?_cons_succ, List.getElem?_cons_succ]
        rw [show M[M.length - 1]? = some y from hy, cy]
        rfl
      · have q0 : (x :: a :: M)[0 + 1]? = some a := rfl
        rw [q0, hln, show M.length + 2 - 2 - 0 = (M.length - 2) + 1 + 1 by omega, List.getElem?_cons_succ, List.getElem?_cons_succ]
        intro q
        have q1 : (a :: (M ++ [a]))[M.length - 1]? = some a := by
          rw [show M.length - 1 = (M.length - 2) + 1 by omega, List.getElem?_cons_succ, List.getElem?_append_left (by omega), ← q]
        have q2 : (a :: (M ++ [a]))[M.length - 1 + 2]? = some a := by
          rw [show M.length - 1 + 2 = M.length + 1 by omega, List.getElem?_cons_succ, List.getElem?_append_right (Nat.le_refl _), Nat.sub_self]
          rfl
        exact g.two (M.length - 1) a a q1 q2 rfl
      · rw [rg_zero]
        refine ⟨by rw [hnn, hln], fun z => ?_⟩
        have d2 : (x :: a :: M).dropLast = x :: a :: M.dropLast := by
          cases M with
          | nil => simp at hM
          | cons m M => rfl
        have d3 : a :: M = a :: M.dropLast ++ [x] := by
          have q : a :: M = a :: (M.dropLast ++ [y]) := by rw [eM2]
          rw [q, ← cy]
          rfl
        rw [d1, d2, d3]
        exact (rd_rot x (a :: M.dropLast) z).symm
    · -- neither: the stem grows
      have gs : Gd (a :: (M ++ [a]) ++ [x]) := gd_snoc g (by unfold lst; rw [hnn]; show (a :: (M ++ [a]))[M.length + 1]? = _; rw [List.getElem?_cons_succ, List.getElem?_append_right (Nat.le_refl _), Nat.sub_self]; rfl) (fun q => hx q.symm) (fun z _ hz q => cy (by
        rw [hnn, Nat.add_sub_cancel, gy] at hz
        rw [← q, Option.some.inj hz]))
      have gg : Gd (x :: (a :: (M ++ [a]) ++ [x])) := gd_cons gs hx (fun z hz q => cb (by
        rw [q]
        have q3 : (M ++ [a] ++ [x])[0]? = some b := by rw [List.append_assoc, List.getElem?_append_left (by omega)]; exact hb
        exact (Option.some.inj (q3.symm.trans hz)).symm))
      obtain ⟨k1, k2⟩ := core_grow (x := x) hC hn
      rw [shr_of_gd gg]
      exact ⟨_, ⟨t + 1, k1, rfl⟩, by rw [k2]; exact SameR.refl _, gg⟩
/-- led by any walk: the ring goes round alike -/
theorem ring_led : ∀ (v : List Str) {w R : List Str} {a : Str}, Gd (shr w) → fst0 w = some a → lst w = some a → HasR w R → (∀ (i : Nat) (p q : Str), (a :: v)[i]? = some p → (a :: v)[i + 1]? = some q → q ≠ p) →
    ∃ R', HasR (v.reverse ++ w ++ v) R' ∧ SameR R R' ∧ Gd (shr (v.reverse ++ w ++ v))
  | [], w, R, a, g, _, _, h, _ => ⟨R, by simpa using h, SameR.refl R, by simpa using g⟩
  | x :: v, w, R, a, g, hf, hl, h, hr => by
    obtain ⟨R1, h1, s1, g1⟩ := ring_step g hf hl (hr 0 a x rfl rfl) h
    have hf1 : fst0 (x :: (w ++ [x])) = some x := rfl
    have hl1 : lst (x :: (w ++ [x])) = some x := lst_snoc' (x :: w) x
    obtain ⟨R2, h2, s2, g2⟩ := ring_led v g1 hf1 hl1 h1 (fun i p q hp hq => hr (i + 1) p q hp hq)
    have e : v.reverse ++ (x :: (w ++ [x])) ++ v = (x :: v).reverse ++ w ++ (x :: v) := by simp
    rw [e] at h2 g2
    exact ⟨R2, h2, s1.trans s2, g2⟩
/-! ### the least of rows of texts -/
theorem toksAll_inj : ∀ {a b : List Str}, PySem.W.keyToksAll (a.map PyData.str) = PySem.W.keyToksAll (b.map PyData.str) → a = b
  | [], [], _ => rfl
  | [], _ :: _, h => by simp [PySem.W.keyToksAll] at h
  | _ :: _, [], h => by simp [PySem.W.keyToksAll] at h
  | x :: a, y :: b, h => by
    simp only [List.map_cons, PySem.W.keyToksAll, PySem.W.keyToks, List.cons.injEq, List.cons_append, List.nil_append, Sum.inr.injEq, true_and] at h
    rw [PySem.W.str_of_cps h.1, toksAll_inj h.2]
theorem ltW_eq (a b : List Str) : ltW a b = PyProof.Rows.lexLt PyProof.Rows.itemOrd (PySem.W.keyToksAll (a.map PyData.str)) (PySem.W.keyToksAll (b.map PyData.str)) := PySem.W.dataLt_tuple _ _
theorem ltW_irr (a : List Str) : ltW a a = false := by rw [ltW_eq]; exact PyProof.Rows.lex_irrefl _
theorem ltW_trans {a b c : List Str} (h : ltW a b = true) (h' : ltW b c = true) : ltW a c = true := by
  rw [ltW_eq] at h h' ⊢
  exact PyProof.Rows.lex_trans _ _ _ h h'
theorem ltW_total {a b : List Str} (h : ltW a b = false) (h' : ltW b a = false) : a = b := by
  rw [ltW_eq] at h h'
  exact toksAll_inj (PyProof.Rows.lex_total _ _ h h')
theorem minW_le : ∀ (xs : List (List Str)) (x : List Str), ∀ y ∈ x :: xs, ltW y (minW x xs) = false
  | [], x, y, h => by
    rw [List.mem_singleton.mp h]
    exact ltW_irr x
  | z :: xs, x, y, h => by
    show ltW y (minW (if ltW z x = true then z else x) xs) = false
    have least : ∀ m, ltW m (minW m xs) = false := fun m => minW_le xs m m List.mem_cons_self
    by_cases c : ltW z x = true
    · rw [if_pos c]
      rcases List.mem_cons.mp h with e | h
      · rw [e]
        cases q : ltW x (minW z xs) with
        | false => rfl
        | true => have := least z; rw [ltW_trans c q] at this; cases this
      · exact minW_le xs z y h
    · rw [if_neg c]
      rcases List.mem_cons.mp h with e | h
      · rw [e]; exact least x
      · rcases List.mem_cons.mp h with e | h
        · rw [e]
          cases q : ltW z (minW x xs) with
          | false => rfl
          | true =>
            cases q2 : ltW x z with
            | true => have := least x; rw [ltW_trans q2 q] at this; cases this
            | false =>
              have e2 := ltW_total q2 (by simpa using c)
              rw [← e2, least x] at q
              cases q
        · exact minW_le xs x y (List.mem_cons_of_mem _ h)
theorem minW_same {x y : List Str} {xs ys : List (List Str)} (h : ∀ z, z ∈ x :: xs ↔ z ∈ y :: ys) : minW x xs = minW y ys :=
  ltW_total (minW_le ys y _ ((h _).mp (minW_mem xs x))) (minW_le xs x _ ((h _).mpr (minW_mem ys y)))
/-! ### all turns of a ring; one walk as data for repr -/
/-- the ring begun at its k-th place -/
def tn (R : List Str) (k : Nat) : List Str := (R.drop k).dropLast ++ R.take (k + 1)
def rds (R : List Str) : List (List Str) := (List.range (R.length - 1)).map (tn R)
theorem rds_len (R : List Str) : (rds R).length = R.length - 1 := by unfold rds; rw [List.length_map, List.length_range]
theorem closed_cat {R : List Str} (h : 2 ≤ R.length) (hc : R[0]? = R[R.length - 1]?) : ∃ c C, R = c :: C ++ [c] := by
  obtain ⟨c, hc0⟩ : ∃ c, R[0]? = some c := ⟨_, List.getElem?_eq_getElem (by omega)⟩
  have e1 : c :: R.tail = R := fst_tl hc0
  have e2 : lst R.tail = some c := by
    unfold lst
    rw [List.getElem?_tail, List.length_tail, show R.length - 1 - 1 + 1 = R.length - 1 by omega, ← hc, hc0]
  exact ⟨c, R.tail.dropLast, by rw [List.cons_append, lst_dl e2]; exact e1.symm⟩
theorem tn_eq {c : Str} {C : List Str} {k : Nat} (hk : k ≤ C.length) : tn (c :: C ++ [c]) k = (c :: C).drop k ++ (c :: C).take k ++ ((c :: C).drop k).take 1 := by
  have h1 : k ≤ (c :: C).length := by rw [List.length_cons]; omega
  unfold tn
  rw [List.drop_append_of_le_length h1, List.dropLast_concat, List.take_append_of_le_length (by rw [List.length_cons]; omega), List.append_assoc]
  congr 1
  have h2 : (c :: C).take (k + 1) = (c :: C).take k ++ (c :: C)[k]?.toList := List.take_succ
  have h3 : k < (c :: C).length := by rw [List.length_cons]; omega
  rw [h2, List.getElem?_eq_getElem h3, List.drop_eq_getElem_cons h3]
  rfl
theorem rds_mem {R : List Str} (hc : R.length = 1 ∨ (2 ≤ R.length ∧ R[0]? = R[R.length - 1]?)) (z : List Str) : z ∈ rds R ↔ Rd R.dropLast z := by
  rcases hc with h | ⟨h, hc⟩
  · have e : R.dropLast = [] := List.eq_nil_of_length_eq_zero (by rw [List.length_dropLast]; omega)
    rw [e]
    constructor
    · intro q
      unfold rds at q
      rw [h] at q
      simp at q
    · exact fun q => absurd q (rd_nil z)
  · obtain ⟨c, C, rfl⟩ := closed_cat h hc
    rw [List.dropLast_concat]
    have hl : (c :: C ++ [c]).length - 1 = C.length + 1 := by simp
    unfold rds
    rw [hl]
    constructor
    · intro q
      obtain ⟨k, hk, rfl⟩ := List.mem_map.mp q
      rw [List.mem_range] at hk
      rw [tn_eq (by omega)]
      exact ⟨(c :: C).take k, (c :: C).drop k, (List.take_append_drop k _).symm, fun e => by
        have := congrArg List.length e
        rw [List.length_drop, List.length_cons] at this
        simp at this
        omega, rfl⟩
    · rintro ⟨p, q, e, hq, rfl⟩
      have hlen := congrArg List.length e
      rw [List.length_append, List.length_cons] at hlen
      have hq0 : 0 < q.length := by
        cases q with
        | nil => exact absurd rfl hq
        | cons a b => simp
      refine List.mem_map.mpr ⟨p.length, List.mem_range.mpr (by omega), ?_⟩
      rw [tn_eq (by omega), e, List.drop_left, List.take_left]
theorem rds_same {R R' : List Str} (hR : R.length = 1 ∨ (2 ≤ R.length ∧ R[0]? = R[R.length - 1]?)) (hR' : R'.length = 1 ∨ (2 ≤ R'.length ∧ R'[0]? = R'[R'.length - 1]?)) (h : SameR R R') (z : List Str) : z ∈ rds R ↔ z ∈ rds R' := by
  rw [rds_mem hR, rds_mem hR']
  exact h.2 z
/-- the name of a ring -/
def nmR (R : List Str) : List Str := match rds R with
  | [] => []
  | x :: xs => minW x xs
theorem nmR_same {R R' : List Str} (hR : R.length = 1 ∨ (2 ≤ R.length ∧ R[0]? = R[R.length - 1]?)) (hR' : R'.length = 1 ∨ (2 ≤ R'.length ∧ R'[0]? = R'[R'.length - 1]?)) (h : SameR R R') : nmR R = nmR R' := by
  have hm := rds_same hR hR' h
  have h1 := rds_len R
  have h2 := rds_len R'
  have hl := h.1
  unfold nmR
  cases e : rds R with
  | nil =>
    cases e' : rds R' with
    | nil => rfl
    | cons y ys => rw [e] at h1; rw [e', List.length_cons] at h2; rw [List.length_nil] at h1; omega
  | cons x xs =>
    cases e' : rds R' with
    | nil => rw [e, List.length_cons] at h1; rw [e'] at h2; rw [List.length_nil] at h2; omega
    | cons y ys =>
      rw [e, e'] at hm
      exact minW_same hm
section
variable {K : PySem.W.Frag} {H : Hp} {s : Addr} {xs : List Str} {Q : VK}
theorem c_reprT (h1 : SqT K H s (xs.map V.str)) (a : ∀ z ∈ xs, NmOk z) (la : xs.length ≤ 10000) (q : Q (.str (dT xs).shown) H) : kRepr K [.ref s] H Q := by
  refine c_repr (.tup h1 (dp_strs _)) ?_ ?_ ?_ ?_ q
  · simp [PyData.showable, shows_strs]
  · simp [PyData.hasDict, nodict_strs]
  · simp [PyData.depth, deep_strs]
  · have e : (PyData.tuple (xs.map .str)).shown = tupleText (xs.map reprText) := by simp only [PyData.shown, shown_strs]
    rw [e, sizeLine_eq]
    have h3 := len_tt xs a
    omega
end
theorem k_minT {X : Cx} {K : PySem.W.Frag} (e : X.K = K) (hc : X.calm = true) (hu : X.A.units + 64 < cLine) : CallR X (.builtin "min") (rMinT K) := by subst e; exact cr_minT hc hu
/-! ### periods, roots; t * k of a long row -/
/-- f goes round alike behind k of n places -/
def Per {α : Type} (f : Nat → α) (n k : Nat) : Prop := ∀ i, i < n → f ((i + k) % n) = f i
section
variable {α : Type} {f : Nat → α} {n k d e : Nat}
theorem per_n (f : Nat → α) (n : Nat) : Per f n n := fun i hi => by rw [Nat.add_mod_right, Nat.mod_eq_of_lt hi]
theorem per_iter (h : Per f n k) (m : Nat) : ∀ i, i < n → f ((i + m * k) % n) = f i := by
  induction m with
  | zero => intro i hi; rw [Nat.zero_mul, Nat.add_zero, Nat.mod_eq_of_lt hi]
  | succ m ih =>
    intro i hi
    have hn : 0 < n := by omega
    have e : (i + (m + 1) * k) % n = ((i + m * k) % n + k) % n := by
      rw [Nat.mod_add_mod]
      congr 1
      rw [Nat.succ_mul]
      omega
    rw [e, h _ (Nat.mod_lt _ hn), ih i hi]
/-- the fewest places behind which f goes round alike -/
structure Few (f : Nat → α) (n d : Nat) : Prop where
  one : 1 ≤ d
  le : d ≤ n
  per : Per f n d
  least : ∀ k, 1 ≤ k → k < d → ¬ Per f n k
theorem few_dvd (h : Few f n d) : n % d = 0 := by
  apply Classical.byContradiction
  intro c
  have h1 := h.one
  have h2 := h.le
  have hr : n % d < d := Nat.mod_lt _ h1
  refine h.least (n % d) (by omega) hr (fun i hi => ?_)
  have hn : 0 < n := by omega
  have e := per_iter h.per (n / d) ((i + n % d) % n) (Nat.mod_lt _ hn)
  rw [Nat.mod_add_mod] at e
  have e2 : i + n % d + n / d * d = i + n := by
    have := Nat.div_add_mod n d
    rw [Nat.mul_comm] at this
    omega
  rw [e2, Nat.add_mod_right, Nat.mod_eq_of_lt hi] at e
  exact e.symm
theorem few_ex (hn : 1 ≤ n) : ∃ d, Few f n d := by
  have key : ∀ m, 1 ≤ m → m ≤ n → Per f n m → ∃ d, Few f n d := by
    intro m
    induction m using Nat.strongRecOn with
    | ind m ih =>
      intro h1 h2 h3
      by_cases c : ∃ k, 1 ≤ k ∧ k < m ∧ Per f n k
      · obtain ⟨k, a, b, q⟩ := c
        exact ih k b a (by omega) q
      · exact ⟨m, h1, h2, h3, fun k a b q => c ⟨k, a, b, q⟩⟩
  exact key n hn (Nat.le_refl n) (per_n f n)
theorem few_uniq (h : Few f n d) (h' : Few f n e) : d = e := by
  rcases Nat.lt_trichotomy d e with c | c | c
  · exact absurd h.per (h'.least d h.one c)
  · exact c
  · exact absurd h'.per (h.least e h'.one c)
theorem per_mod (hk : n % k = 0) (h1 : 1 ≤ k) : Per f n k ↔ ∀ i, i < n → f (i % k) = f i := by
  constructor
  · intro h i hi
    have hkn : k ≤ n := Nat.le_of_dvd (by omega) (Nat.dvd_of_mod_eq_zero hk)
    have hlt := Nat.mod_lt i h1
    have e := per_iter h (i / k) (i % k) (by omega)
    have e2 : i % k + i / k * k = i := by
      have := Nat.mod_add_div i k
      rw [Nat.mul_comm] at this
      exact this
    rw [e2, Nat.mod_eq_of_lt hi] at e
    exact e.symm
  · intro h i hi
    have hn : 0 < n := by omega
    have e1 := h ((i + k) % n) (Nat.mod_lt _ hn)
    rw [Nat.mod_mod_of_dvd _ (Nat.dvd_of_mod_eq_zero hk), Nat.add_mod_right, h i hi] at e1
    exact e1.symm
theorem repF_len (q : Nat) (L : List α) : (List.replicate q L).flatten.length = q * L.length := by simp
theorem repF_get {L : List α} (hL : 0 < L.length) : ∀ (q i : Nat), i < q * L.length → (List.replicate q L).flatten[i]? = L[i % L.length]?
  | 0, i, h => by rw [Nat.zero_mul] at h; omega
  | q + 1, i, h => by
    rw [List.replicate_succ, List.flatten_cons]
    by_cases c : i < L.length
    · rw [List.getElem?_append_left c, Nat.mod_eq_of_lt c]
    · rw [List.getElem?_append_right (by omega), repF_get hL q (i - L.length) (by rw [Nat.succ_mul] at h; omega), ← Nat.mod_eq_sub_mod (by omega)]
end
section
variable {R W : List Str} {n k d t : Nat}
theorem tn_get {i : Nat} (hl : R.length = n + 1) (hk : k < n) (hi : i < n) : (tn R k)[i]? = R[(i + k) % n]? := by
  unfold tn
  have e0 : ((R.drop k).dropLast).length = n - k := by rw [List.length_dropLast, List.length_drop]; omega
  by_cases c : i < n - k
  · rw [List.getElem?_append_left (by omega), List.getElem?_dropLast, if_pos (by rw [List.length_drop]; omega), List.getElem?_drop, Nat.mod_eq_of_lt (by omega), Nat.add_comm]
  · rw [List.getElem?_append_right (by omega), e0, List.getElem?_take, if_pos (by omega)]
    congr 1
    rw [Nat.mod_eq_sub_mod (by omega), Nat.mod_eq_of_lt (by omega)]
    omega
theorem tn_len' (hl : R.length = n + 1) (hk : k < n) : (tn R k).length = n + 1 := by
  unfold tn
  rw [List.length_append, List.length_dropLast, List.length_drop, List.length_take]
  omega
theorem tn_per (hl : R.length = n + 1) (hc : R[0]? = R[n]?) (hk : k < n) : tn R k = R ↔ Per (fun i => R[i]?) n k := by
  constructor
  · intro e i hi
    show R[(i + k) % n]? = R[i]?
    rw [← tn_get hl hk hi, e]
  · intro h
    refine List.ext_getElem? fun i => ?_
    rcases Nat.lt_trichotomy i n with c | c | c
    · rw [tn_get hl hk c]
      exact h i c
    · subst c
      have h0 : R[(0 + k) % i]? = R[0]? := h 0 (by omega)
      rw [Nat.zero_add, Nat.mod_eq_of_lt hk] at h0
      have e : (tn R k)[i]? = R[k]? := by
        unfold tn
        have e0 : ((R.drop k).dropLast).length = i - k := by rw [List.length_dropLast, List.length_drop]; omega
        rw [List.getElem?_append_right (by omega), e0, List.getElem?_take, if_pos (by omega)]
        congr 1
        omega
      rw [e, h0, hc]
    · rw [List.getElem?_eq_none (by rw [tn_len' hl hk]; omega), List.getElem?_eq_none (by omega)]
theorem rep_per (hl : R.length = n + 1) (h1 : 1 ≤ k) (hk : n % k = 0) (hn : 1 ≤ n) : (List.replicate (n / k) (R.take k)).flatten = R.dropLast ↔ Per (fun i => R[i]?) n k := by
  have hkn : k ≤ n := Nat.le_of_dvd hn (Nat.dvd_of_mod_eq_zero hk)
  have hT : (R.take k).length = k := by rw [List.length_take]; omega
  have hq : n / k * k = n := Nat.div_mul_cancel (Nat.dvd_of_mod_eq_zero hk)
  have get : ∀ i, i < n → (List.replicate (n / k) (R.take k)).flatten[i]? = R[i % k]? := fun i hi => by
    rw [repF_get (by omega) _ _ (by rw [hT, hq]; exact hi), hT, List.getElem?_take, if_pos (Nat.mod_lt _ h1)]
  rw [per_mod hk h1]
  constructor
  · intro e i hi
    show R[i % k]? = R[i]?
    rw [← get i hi, e, List.getElem?_dropLast, if_pos (by omega)]
  · intro h
    refine List.ext_getElem? fun i => ?_
    by_cases c : i < n
    · rw [get i c, List.getElem?_dropLast, if_pos (by omega)]
      exact h i c
    · rw [List.getElem?_eq_none (by rw [repF_len, hT, hq]; omega), List.getElem?_eq_none (by rw [List.length_dropLast]; omega)]
theorem per_ext (hc : R[0]? = R[n]?) (h : Few (fun i => R[i]?) n d) : ∀ j, j ≤ n → R[j % d]? = R[j]? := by
  intro j hj
  have hd := few_dvd h
  rcases Nat.lt_or_ge j n with c | c
  · exact (per_mod hd h.one).mp h.per j c
  · have e : j = n := by omega
    subst e
    rw [hd, hc]
/-- the root: the stem, so many steps of the ring, the stem turned about -/
def rtW (W : List Str) (t d : Nat) : List Str := sm W t ++ ((rg W t).drop 1).take d ++ (sm W t).reverse.tail
theorem sm_len (h : t < W.length) : (sm W t).length = t + 1 := by unfold sm; rw [List.length_take]; omega
theorem rg_closed (hC : CoreAt W t) (hn : W.length = 2 * t + n + 1) : (rg W t)[0]? = (rg W t)[n]? := by
  rw [rg_get (by omega), rg_get (by omega), Nat.add_zero]
  have e := hC.pal t (Nat.le_refl t)
  rw [e]
  congr 1
  omega
theorem rt_len (hC : CoreAt W t) (hn : W.length = 2 * t + n + 1) (hd : d ≤ n) : (rtW W t d).length = 2 * t + d + 1 := by
  unfold rtW
  rw [List.length_append, List.length_append, List.length_tail, List.length_reverse, sm_len (by omega), List.length_take, List.length_drop, rg_len]
  omega
theorem rt_low (hn : W.length = 2 * t + n + 1) (hd : d ≤ n) {i : Nat} (hi : i ≤ t + d) : (rtW W t d)[i]? = W[i]? := by
  unfold rtW
  have e1 : (sm W t).length = t + 1 := sm_len (by omega)
  have e2 : (((rg W t).drop 1).take d).length = d := by rw [List.length_take, List.length_drop, rg_len]; omega
  rw [List.getElem?_append_left (by rw [List.length_append]; omega)]
  by_cases c : i ≤ t
  · rw [List.getElem?_append_left (by omega)]
    unfold sm
    rw [List.getElem?_take, if_pos (by omega)]
  · rw [List.getElem?_append_right (by omega), e1, List.getElem?_take, if_pos (by omega), List.getElem?_drop, rg_get (by omega)]
    congr 1
    omega
theorem rt_high (hC : CoreAt W t) (hn : W.length = 2 * t + n + 1) (h : Few (fun i => (rg W t)[i]?) n d) {i : Nat} (h1 : t ≤ i) (h2 : i ≤ 2 * t + d) : (rtW W t d)[i]? = W[i + (n - d)]? := by
  have hd := h.le
  have hdv := few_dvd h
  by_cases c : i ≤ t + d
  · rw [rt_low hn hd c]
    have hx := per_ext (rg_closed hC hn) h
    have a1 := hx (i - t) (by omega)
    have a2 := hx (i - t + (n - d)) (by omega)
    have e : (i - t + (n - d)) % d = (i - t) % d := by
      have e3 : n - d = (n / d - 1) * d := by
        have := Nat.div_add_mod n d
        rw [hdv, Nat.add_zero, Nat.mul_comm] at this
        rw [Nat.sub_mul, Nat.one_mul, this]
      rw [e3, Nat.add_mul_mod_self_right]
    rw [e] at a2
    have a3 := a1.symm.trans a2
    rw [rg_get (by omega), rg_get (by omega)] at a3
    rw [show t + (i - t) = i by omega, show t + (i - t + (n - d)) = i + (n - d) by omega] at a3
    exact a3
  · unfold rtW
    have e1 : (sm W t).length = t + 1 := sm_len (by omega)
    have e2 : (((rg W t).drop 1).take d).length = d := by rw [List.length_take, List.length_drop, rg_len]; omega
    rw [List.getElem?_append_right (by rw [List.length_append]; omega), List.length_append, e1, e2, List.getElem?_tail, List.getElem?_reverse (by omega), e1]
    unfold sm
    rw [List.getElem?_take, if_pos (by omega), hC.pal _ (by omega)]
    congr 1
    omega
theorem few_three (hC : CoreAt W t) (hn : W.length = 2 * t + n + 1) (hn1 : 1 ≤ n) (h : Few (fun i => (rg W t)[i]?) n d) : 3 ≤ d ∧ 3 ≤ n ∧ W[t + 1]? ≠ W[t + n - 1]? := by
  have h1 := h.one
  have hd := h.le
  have hf := hC.fin.resolve_left (by omega)
  have hne : W[t + 1]? ≠ W[t + n - 1]? := by
    have := hf.2
    rw [show W.length - 2 - t = t + n - 1 by omega] at this
    exact this
  refine ⟨?_, by omega, hne⟩
  apply Classical.byContradiction
  intro c
  have hx := per_ext (rg_closed hC hn) h
  have a1 := hx 1 (by omega)
  have a2 := hx (n - 1) (by omega)
  have hdv := few_dvd h
  have e : 1 % d = (n - 1) % d := by
    have h12 : d = 1 ∨ d = 2 := by omega
    rcases h12 with rfl | rfl
    · rw [Nat.mod_one, Nat.mod_one]
    · omega
  rw [e] at a1
  have a3 := a1.symm.trans a2
  rw [rg_get (by omega), rg_get (by omega)] at a3
  exact hne (by rw [show t + n - 1 = t + (n - 1) by omega]; exact a3)
structure RootOk (W : List Str) (t n d : Nat) : Prop where
  gd : Gd (rtW W t d)
  co : CoreAt (rtW W t d) t
  sm : TT.sm (rtW W t d) t = TT.sm W t
  rg : TT.rg (rtW W t d) t = (TT.rg W t).take (d + 1)
  few : Few (fun i => (TT.rg (rtW W t d) t)[i]?) d d
  same : rtW (rtW W t d) t d = rtW W t d
theorem root_ok (g : Gd W) (hC : CoreAt W t) (hn : W.length = 2 * t + n + 1) (hn1 : 1 ≤ n) (h : Few (fun i => (rg W t)[i]?) n d) : RootOk W t n d := by
  obtain ⟨h3, hn3, hne⟩ := few_three hC hn hn1 h
  have hd := h.le
  have hl := rt_len hC hn hd
  have some_lt : ∀ {i : Nat} {a : Str}, (rtW W t d)[i]? = some a → i < 2 * t + d + 1 := by
    intro i a e
    rcases Nat.lt_or_ge i (rtW W t d).length with c | c
    · omega
    · rw [List.getElem?_eq_none c] at e; cases e
  have e_sm : TT.sm (rtW W t d) t = TT.sm W t := by
    have e1 : (TT.sm W t).length = t + 1 := sm_len (by omega)
    unfold rtW
    rw [List.append_assoc]
    show List.take (t + 1) _ = _
    rw [List.take_append_of_le_length (by omega)]
    exact List.take_of_length_le (by omega)
  have e_rg : TT.rg (rtW W t d) t = (TT.rg W t).take (d + 1) := by
    refine List.ext_getElem? fun i => ?_
    by_cases c : i < d + 1
    · rw [rg_get (by omega), rt_low hn hd (by omega), List.getElem?_take, if_pos c, rg_get (by omega)]
    · rw [List.getElem?_eq_none (by rw [rg_len]; omega), List.getElem?_eq_none (by rw [List.length_take]; omega)]
  refine ⟨⟨fun i a b ha hb => ?_, fun i a b ha hb => ?_⟩, ⟨by omega, fun i hi => ?_, .inr ⟨by omega, ?_⟩⟩, e_sm, e_rg, ?_, ?_⟩
  · have hi := some_lt hb
    by_cases c : i + 1 ≤ t + d
    · rw [rt_low hn hd (by omega)] at ha hb
      exact g.one i a b ha hb
    · rw [rt_high hC hn h (by omega) (by omega)] at ha hb
      exact g.one (i + (n - d)) a b ha (by rw [show i + (n - d) + 1 = i + 1 + (n - d) by omega]; exact hb)
  · have hi := some_lt hb
    by_cases c : i + 2 ≤ t + d
    · rw [rt_low hn hd (by omega)] at ha hb
      exact g.two i a b ha hb
    · rw [rt_high hC hn h (by omega) (by omega)] at ha hb
      exact g.two (i + (n - d)) a b ha (by rw [show i + (n - d) + 2 = i + 2 + (n - d) by omega]; exact hb)
  · rw [hl, rt_low hn hd (by omega), rt_high hC hn h (by omega) (by omega), hC.pal i hi]
    congr 1
    omega
  · rw [hl, rt_low hn hd (by omega), rt_high hC hn h (by omega) (by omega), show 2 * t + d + 1 - 2 - t + (n - d) = t + n - 1 by omega]
    exact hne
  · have gt : ∀ i, i < d → ((TT.rg W t).take (d + 1))[i]? = (TT.rg W t)[i]? := fun i hi => by rw [List.getElem?_take, if_pos (by omega)]
    rw [e_rg]
    refine ⟨h.one, Nat.le_refl d, per_n _ d, fun k k1 k2 hp => h.least k k1 k2 (fun i hi => ?_)⟩
    have hx := per_ext (rg_closed hC hn) h
    have hd0 : 0 < d := by omega
    have hn0 : 0 < n := by omega
    have b1 := hx ((i + k) % n) (Nat.le_of_lt (Nat.mod_lt _ hn0))
    have b2 := hx i (by omega)
    rw [Nat.mod_mod_of_dvd _ (Nat.dvd_of_mod_eq_zero (few_dvd h))] at b1
    have b3 : ((TT.rg W t).take (d + 1))[(i % d + k) % d]? = ((TT.rg W t).take (d + 1))[i % d]? := hp (i % d) (Nat.mod_lt _ hd0)
    rw [gt _ (Nat.mod_lt _ hd0), gt _ (Nat.mod_lt _ hd0), Nat.mod_add_mod] at b3
    show (TT.rg W t)[(i + k) % n]? = (TT.rg W t)[i]?
    rw [← b1, b3, b2]
  · show TT.sm (rtW W t d) t ++ ((TT.rg (rtW W t d) t).drop 1).take d ++ (TT.sm (rtW W t d) t).reverse.tail = rtW W t d
    rw [e_sm, e_rg, List.drop_take, List.take_take]
    unfold rtW
    rw [show min d (d + 1 - 1) = d by omega]
/-! powers -/
def powW (A : List Str) : Nat → List Str
  | 0 => A.take 1
  | m + 1 => beh (powW A m) A
theorem lst_catT {A X : List Str} {c : Str} (h : lst X = some c) : lst (A ++ X) = some c := by
  have h0 : 0 < X.length := by
    rcases Nat.lt_or_ge 0 X.length with z | z
    · exact z
    · unfold lst at h; rw [List.getElem?_eq_none (by omega)] at h; cases h
  unfold lst at h ⊢
  rw [List.length_append, List.getElem?_append_right (by omega), ← h]
  congr 1
  omega
theorem pow_stem {S X : List Str} {c : Str} (hS : lst S = some c) (hX : lst X = some c) : ∀ m, powW (S ++ X ++ S.reverse.tail) m = shr (S ++ (List.replicate m X).flatten ++ S.reverse.tail)
  | 0 => by
    cases S with
    | nil => cases hS
    | cons x o =>
      have e := shr_out [] [] o x
      rw [List.nil_append, List.append_nil, List.nil_append] at e
      have e2 : (x :: o) ++ (List.replicate 0 X).flatten ++ (x :: o).reverse.tail = (x :: o) ++ (x :: o).reverse.tail := by simp
      rw [e2, e]
      rfl
  | m + 1 => by
    show beh (powW (S ++ X ++ S.reverse.tail) m) (S ++ X ++ S.reverse.tail) = _
    rw [pow_stem hS hX m]
    unfold beh
    have hz : lst (S ++ (List.replicate m X).flatten) = some c := by
      cases m with
      | zero => simpa using hS
      | succ m => rw [List.replicate_succ', List.flatten_concat, ← List.append_assoc]; exact lst_catT hX
    have e1 := shr_in [] (S ++ (List.replicate m X).flatten ++ S.reverse.tail) (S ++ X ++ S.reverse.tail).tail
    rw [List.nil_append, List.nil_append] at e1
    rw [e1]
    have eR : S.reverse = c :: S.reverse.tail := (fst_tl (fst_rev hS)).symm
    have eA := (lst_dl hz).symm
    have eT : (S ++ X ++ S.reverse.tail).tail = S.tail ++ X ++ S.reverse.tail := by
      cases S with
      | nil => cases hS
      | cons x o => rfl
    have eS : S.tail = (c :: S.reverse.tail).reverse.tail := by rw [← eR, List.reverse_reverse]
    have e3 := shr_out (S ++ (List.replicate m X).flatten).dropLast (X ++ S.reverse.tail) S.reverse.tail c
    rw [eT]
    have e4 : S ++ (List.replicate m X).flatten ++ S.reverse.tail ++ (S.tail ++ X ++ S.reverse.tail) = (S ++ (List.replicate m X).flatten).dropLast ++ (c :: S.reverse.tail) ++ (c :: S.reverse.tail).reverse.tail ++ (X ++ S.reverse.tail) := by
      rw [← eS]
      conv => lhs; rw [eA]
      simp
    rw [e4, e3]
    have e5 : (S ++ (List.replicate m X).flatten).dropLast ++ c :: (X ++ S.reverse.tail) = S ++ (List.replicate m X).flatten ++ X ++ S.reverse.tail := by
      conv => rhs; rw [eA]
      simp
    rw [e5, List.replicate_succ', List.flatten_concat, List.append_assoc S]
theorem rt_split (hC : CoreAt W t) (hn : W.length = 2 * t + n + 1) (hn1 : 1 ≤ n) (h : Few (fun i => (rg W t)[i]?) n d) : ∃ c, lst (sm W t) = some c ∧ lst (((rg W t).drop 1).take d) = some c := by
  have h1 := h.one
  have hd := h.le
  refine ⟨W[t]'(by omega), ?_, ?_⟩
  · unfold lst
    rw [sm_len (by omega)]
    unfold sm
    rw [List.getElem?_take, if_pos (by omega)]
    exact List.getElem?_eq_getElem (by omega)
  · have e2 : (((rg W t).drop 1).take d).length = d := by rw [List.length_take, List.length_drop, rg_len]; omega
    have hx := per_ext (rg_closed hC hn) h
    have a := hx d hd
    rw [Nat.mod_self] at a
    unfold lst
    rw [e2, List.getElem?_take, if_pos (by omega), List.getElem?_drop, show 1 + (d - 1) = d by omega, ← a, rg_get (by omega)]
    exact List.getElem?_eq_getElem (by omega)
theorem pow_root (g : Gd W) (hC : CoreAt W t) (hn : W.length = 2 * t + n + 1) (hn1 : 1 ≤ n) (h : Few (fun i => (rg W t)[i]?) n d) : powW (rtW W t d) (n / d) = W := by
  obtain ⟨c, c1, c2⟩ := rt_split hC hn hn1 h
  have h1 := h.one
  have hd := h.le
  unfold rtW
  rw [pow_stem c1 c2]
  have e : (List.replicate (n / d) (((rg W t).drop 1).take d)).flatten = (rg W t).tail := by
    have e2 : (((rg W t).drop 1).take d).length = d := by rw [List.length_take, List.length_drop, rg_len]; omega
    have hq : n / d * d = n := Nat.div_mul_cancel (Nat.dvd_of_mod_eq_zero (few_dvd h))
    have hx := per_ext (rg_closed hC hn) h
    refine List.ext_getElem? fun i => ?_
    by_cases ci : i < n
    · have hm := Nat.mod_lt i h1
      rw [repF_get (by omega) _ _ (by rw [e2, hq]; exact ci), e2, List.getElem?_take, if_pos hm, List.getElem?_drop, List.getElem?_tail]
      have a1 := hx (i + 1) (by omega)
      have a2 := hx (1 + i % d) (by omega)
      have e3 : (1 + i % d) % d = (i + 1) % d := by rw [Nat.add_mod_mod, Nat.add_comm]
      rw [e3] at a2
      exact a2.symm.trans a1
    · rw [List.getElem?_eq_none (by rw [repF_len, e2, hq]; omega), List.getElem?_eq_none (by rw [List.length_tail, rg_len]; omega)]
  rw [e, core_whole hC]
  exact shr_of_gd g
theorem pow_len (hC : CoreAt W t) (hn : W.length = 2 * t + n + 1) (hn1 : 1 ≤ n) (h : Few (fun i => (rg W t)[i]?) n d) (j : Nat) (hj : j ≤ n / d) : (powW (rtW W t d) j).length ≤ W.length := by
  obtain ⟨c, c1, c2⟩ := rt_split hC hn hn1 h
  have hd := h.le
  unfold rtW
  rw [pow_stem c1 c2]
  refine Nat.le_trans (shr_len _) ?_
  have e2 : (((rg W t).drop 1).take d).length = d := by rw [List.length_take, List.length_drop, rg_len]; omega
  rw [List.length_append, List.length_append, repF_len, e2, List.length_tail, List.length_reverse, sm_len (by omega)]
  have hq : n / d * d = n := Nat.div_mul_cancel (Nat.dvd_of_mod_eq_zero (few_dvd h))
  have := Nat.mul_le_mul_right d hj
  omega
end
/-! a walk so many times -/
section
variable {A : List Str} {x : Str}
theorem pow_fst (hf : fst0 A = some x) : ∀ m, fst0 (powW A m) = some x
  | 0 => by
    show (A.take 1)[0]? = some x
    rw [List.getElem?_take, if_pos (by omega)]
    exact hf
  | m + 1 => fst_beh (pow_fst hf m)
theorem pow_one (hf : fst0 A = some x) : A.take 1 = [x] := by
  cases A with
  | nil => cases hf
  | cons y r =>
    have e : y = x := Option.some.inj hf
    subst e
    rfl
theorem pow_lst (hf : fst0 A = some x) (hl : lst A = some x) : ∀ m, lst (powW A m) = some x
  | 0 => by
    show lst (A.take 1) = some x
    rw [pow_one hf]
    rfl
  | m + 1 => lst_beh (pow_lst hf hl m) hf hl
theorem pow_mem : ∀ (m : Nat) (z : Str), z ∈ powW A m → z ∈ A
  | 0, z, h => List.mem_of_mem_take h
  | m + 1, z, h => by
    rcases beh_mem h with h | h
    · exact pow_mem m z h
    · exact h
theorem pow_le : ∀ m, (powW A m).length ≤ 1 + m * A.length
  | 0 => by
    show (A.take 1).length ≤ _
    rw [List.length_take]
    omega
  | m + 1 => by
    have h := pow_le m
    have h2 := beh_len (powW A m) A
    show (beh (powW A m) A).length ≤ _
    rw [Nat.succ_mul]
    omega
/-- unlike ones side by side -/
def Unl (w : List Str) : Prop := ∀ (i : Nat) (a b : Str), w[i]? = some a → w[i + 1]? = some b → a ≠ b
theorem unl_glue {a b : List Str} {x : Str} (ha : lst a = some x) (hb : fst0 b = some x) (ua : Unl a) (ub : Unl b) : Unl (a ++ b.tail) := by
  intro i p q hp hq
  have h0 : 0 < a.length := by
    rcases Nat.lt_or_ge 0 a.length with z | z
    · exact z
    · unfold lst at ha; rw [List.getElem?_eq_none (by omega)] at ha; cases ha
  by_cases c : i + 1 < a.length
  · rw [List.getElem?_append_left (by omega)] at hp
    rw [List.getElem?_append_left c] at hq
    exact ua i p q hp hq
  · rw [List.getElem?_append_right (by omega), List.getElem?_tail] at hq
    have hp2 : b[i + 1 - a.length]? = some p := by
      by_cases c2 : i < a.length
      · rw [List.getElem?_append_left c2] at hp
        have e : i = a.length - 1 := by omega
        rw [e] at hp
        rw [show i + 1 - a.length = 0 by omega, ← hp]
        exact hb.trans ha.symm
      · rw [List.getElem?_append_right (by omega), List.getElem?_tail] at hp
        rw [show i + 1 - a.length = i - a.length + 1 by omega]
        exact hp
    exact ub _ p q hp2 hq
theorem pow_unl (hf : fst0 A = some x) (hl : lst A = some x) (hu : Unl A) : ∀ m, Unl (powW A m)
  | 0 => fun i a b ha hb => by
    change (A.take 1)[i + 1]? = some b at hb
    rw [pow_one hf, List.getElem?_eq_none (by simp)] at hb
    cases hb
  | m + 1 => (shr_gd (unl_glue (pow_lst hf hl m) hf (pow_unl hf hl hu m) hu)).one
end
/-! ### t * k of a longer row -/
def rRepB (K : PySem.W.Frag) : R2 := fun x y H Q => ∃ l k xs, x = .ref l ∧ y = .int k ∧ SqT K H l xs ∧ xs ≠ [] ∧ 1 ≤ k ∧ k.toNat * xs.length ≤ 1000000 ∧ (k = 1 → Q (.ref l) H) ∧ (2 ≤ k → ∀ p, H p = none → Q (.ref p) (upd H p (.tup (List.replicate k.toNat xs).flatten)))
theorem op_repB {X : Cx} : OpR X (binaryOp .Mult) (rRepB X.K) := by
  intro pins s σ H x y v u Q I rx ry h
  obtain ⟨l, k, xs, rfl, rfl, hT, hne, h1, hz, q1, q2⟩ := h
  have hx0 : 1 ≤ xs.length := by
    cases xs with
    | nil => exact absurd rfl hne
    | cons a b => simp
  by_cases hk : k = 1
  · have hsm : rRepA X.K (.ref l) (.int k) H Q ∨ 1000 < xs.length := by
      rcases Nat.lt_or_ge 1000 xs.length with c | c
      · exact .inr c
      · exact .inl ⟨l, k, xs, rfl, rfl, hT, hne, h1, by omega, c, q1, q2⟩
    rcases hsm with hsm | hbig
    · exact op_repA pins s σ H _ _ v u Q I rx ry hsm
    subst hk
    cases rx
    obtain ⟨t, rfl⟩ := ry
    obtain ⟨itm, rv, ⟨⟨cl, od, dt, sv⟩, hob, hcl, no, hdt⟩, hsz⟩ := I.tuple hT
    simp only at hcl hdt
    subst hcl hdt
    have b0 : (decide ((1 : Int) < -(2 ^ 63)) || decide ((1 : Int) ≥ 2 ^ 63)) = false := by decide
    have b1 : (itm.toArray.isEmpty || (1 : Int) == 1) = true := by rw [Bool.or_eq_true]; exact .inr rfl
    have m1 := call_meets (prog := X.prog) (w := X.w) (A := X.A) (E := X.xe) (Q := EP X pins σ Q) (s := s) (self := .ref l) F.slot_tuple_mul ⟨_, hob, rfl⟩ F.entry_tuple_mul (F.args_tuple_mul_2 _ _) (tuple_mulW1 l itm.toArray no sv od 1 t b0 b1) ⟨hob, ⟨.ref l, H, I, rfl, q1 rfl⟩⟩
    refine wpAny_binaryOp_repeat_ref (T := "tuple") (U := "int") (by decide) ⟨_, hob, rfl⟩ (fun s' => typeIs_int s' 1 t) noFill_tuple_mul F.fills_int_mul F.slot_int_rmul repeat_tuple F.slot_int_index.lookup
      (call_meets F.slot_int_rmul (typeIs_int s 1 t) F.entry_int_rmul (F.args_int_rmul_2 _ _) (int_rmul_tuple 1 t l itm.toArray no od sv) ⟨hob, rfl, ⟨_, hob, rfl⟩, m1⟩)
  have hk2 : 2 ≤ k := by omega
  cases rx
  obtain ⟨t, rfl⟩ := ry
  obtain ⟨itm, rv, ⟨⟨cl, od, dt, sv⟩, hob, hcl, no, hdt⟩, hsz⟩ := I.tuple hT
  simp only at hcl hdt
  subst hcl hdt
  have hlen : itm.length = xs.length := rv.length.symm
  obtain ⟨z, zs, rfl⟩ : ∃ z zs, itm = z :: zs := by
    cases itm with
    | nil => rw [← hlen] at hx0; simp at hx0
    | cons z zs => exact ⟨z, zs, rfl⟩
  generalize hitm : z :: zs = itm at hlen hob rv
  have hemp : itm.toArray.isEmpty = false := by subst hitm; rfl
  obtain ⟨m, rfl⟩ : ∃ m : Nat, k = (m : Int) := ⟨k.toNat, by omega⟩
  have htn : ((m : Nat) : Int).toNat = m := by omega
  rw [htn] at hz q2
  have hsz0 : itm.toArray.size = xs.length := by rw [List.size_toArray, hlen]
  have hprod : ((itm.toArray.size : Nat) : Int) * (m : Int) ≤ 1000000 := by
    rw [hsz0, ← Int.natCast_mul, Nat.mul_comm]
    omega
  have hm1 : m ≤ 1000000 := Nat.le_trans (Nat.le_mul_of_pos_right m hx0) hz
  have hfl : (List.replicate m itm).flatten.length ≤ sizeLine := by
    rw [PyProof.Rows.lm_len_rep_flat, hlen, sizeLine_eq]
    omega
  have b0 : (decide ((m : Int) < -(2 ^ 63)) || decide ((m : Int) ≥ 2 ^ 63)) = false := by
    rw [Bool.or_eq_false_iff]
    exact ⟨decide_eq_false (by omega), decide_eq_false (by omega)⟩
  have b1 : (itm.toArray.isEmpty || (m : Int) == 1) = false := by
    rw [hemp, Bool.false_or]
    exact beq_eq_false_iff_ne.mpr (by omega)
  have b2 : (decide ((m : Int) ≤ 0) || itm.toArray.isEmpty) = false := by
    rw [hemp, Bool.or_false]
    exact decide_eq_false (by omega)
  have b3 : ¬ ((itm.toArray.size : Nat) : Int) * (m : Int) > (2 ^ 63 - 1) / 8 := by omega
  have b4 : Builtin.Tuple.tupleTooMany (((itm.toArray.size : Nat) : Int) * (m : Int)) = false := by
    unfold Builtin.Tuple.tupleTooMany
    exact decide_eq_false (by rw [sizeLine_eq]; omega)
  have fin : EP X pins σ Q (.ref s.heap.objs.size) { s with heap := s.heap.push { cls := .type "tuple", data := .seq (List.replicate m itm).flatten.toArray } } := by
    refine ⟨.ref s.heap.objs.size, _, I.laid (t' := s.toks) (o := .tup (List.replicate m xs).flatten) (fun b ob q => Heap.get?_push_of_some _ q) (Nat.le_refl _) ?_, rfl, q2 hk2 _ (I.hok.fresh (Nat.le_refl _))⟩
    refine ⟨?_, _, rv.rep m, IsTup.new _ _⟩
    rw [PyProof.Rows.lm_len_rep_flat, sizeLine_eq]
    omega
  have m1 := call_meets (prog := X.prog) (w := X.w) (A := X.A) (E := X.xe) (Q := EP X pins σ Q) (s := s) (self := .ref l) F.slot_tuple_mul ⟨_, hob, rfl⟩ F.entry_tuple_mul (F.args_tuple_mul_2 _ _) (tuple_mulW l itm.toArray no od sv (m : Int) t b0 b1 b2 b3 b4 (by rw [htn, size_rep, List.size_toArray]; exact hfl))
    ⟨hob, by rw [htn, size_rep]; exact fin⟩
  exact wpAny_binaryOp_repeat_ref (T := "tuple") (U := "int") (by decide) ⟨_, hob, rfl⟩ (fun s' => typeIs_int s' _ t) noFill_tuple_mul F.fills_int_mul F.slot_int_rmul repeat_tuple F.slot_int_index.lookup
    (call_meets F.slot_int_rmul (typeIs_int s _ t) F.entry_int_rmul (F.args_int_rmul_2 _ _) (int_rmul_tuple _ t l itm.toArray no od sv) ⟨hob, rfl, ⟨_, hob, rfl⟩, m1⟩)
theorem k_op_repB {X : Cx} {K : PySem.W.Frag} (e : X.K = K) : OpR X (binaryOp .Mult) (rRepB K) := by subst e; exact op_repB
section
variable {K : PySem.W.Frag} {G H : Hp} {Q : VK} {a : Addr} {xs : List V} {k : Int} {m : Nat}
theorem kn_repB (g : Same G H) (h : SqT K G a xs) (hne : xs ≠ []) (e : k = (m : Int)) (h1 : 1 ≤ m) (hz : m * xs.length ≤ 1000000) (q : ∀ r G' H', Stp M0 G H G' H' → SqT K G' r (List.replicate m xs).flatten → Q (.ref r) H') : rRepB K (.ref a) (.int k) H Q := by
  subst e
  refine ⟨a, _, xs, rfl, rfl, Same.sqt g h, hne, by omega, by rw [show ((m : Nat) : Int).toNat = m by omega]; exact hz, fun e => ?_, fun _ p np => q p (upd G p _) _ (Stp.new g np) (tof upd_same)⟩
  have em : m = 1 := by omega
  subst em
  refine q a G H (Stp.refl g) ?_
  have e2 : (List.replicate 1 xs).flatten = xs := by simp
  rw [e2]
  exact h
end
/-! repr of a number -/
def kReprI : List V → Hp → VK → Prop := fun xs H Q => ∃ i : Int, xs = [.int i] ∧ i.natAbs.log2 < 1920 ∧ Q (.str (toString i)) H
theorem call_reprI {X : Cx} : CallR X (.builtin "repr") kReprI := SkE.call_repr_int
theorem c_reprI {i : Int} {H : Hp} {Q : VK} (h : i.natAbs.log2 < 1920) (q : Q (.str (toString i)) H) : kReprI [.int i] H Q := ⟨i, rfl, h, q⟩
/-! l.index(x) of data -/
theorem k_indexD {X : Cx} {K : PySem.W.Frag} (e : X.K = K) (hu : X.A.units + 65 < cLine) : MtR X "list.index" (rIndexD K) := by subst e; exact mt_indexD hu
theorem hu65_of {k : Nat} {A : Around} (hr : Room k A) : A.units + 65 < cLine := by have := hr.un; omega
/-! ### powers and roots: roots of powers, turned about, led elsewhere -/
/-- where the ring begins, its steps, the steps of its root -/
structure RD (W : List Str) (t n d : Nat) : Prop where
  co : CoreAt W t
  len : W.length = 2 * t + n + 1
  pos : 1 ≤ n
  few : Few (fun i => (rg W t)[i]?) n d
section
variable {W V : List Str} {t n d t' n' d' m : Nat}
theorem RD.uniq (h : RD W t n d) (h' : RD W t' n' d') : t' = t ∧ n' = n ∧ d' = d := by
  obtain rfl := core_uniq h'.co h.co
  obtain rfl : n' = n := by have := h.len; have := h'.len; omega
  exact ⟨rfl, rfl, few_uniq h'.few h.few⟩
theorem RD.three (h : RD W t n d) : 3 ≤ d ∧ 3 ≤ n ∧ W[t + 1]? ≠ W[t + n - 1]? := few_three h.co h.len h.pos h.few
theorem RD.root (g : Gd W) (h : RD W t n d) : Gd (rtW W t d) ∧ RD (rtW W t d) t d d ∧ rtW (rtW W t d) t d = rtW W t d := by
  have r := root_ok g h.co h.len h.pos h.few
  exact ⟨r.gd, ⟨r.co, rt_len h.co h.len h.few.le, h.few.one, r.few⟩, r.same⟩
/-- the word of so many times round -/
def zW (W : List Str) (t m : Nat) : List Str := sm W t ++ (List.replicate m (rg W t).tail).flatten ++ (sm W t).reverse.tail
theorem z_len (h : RD W t n d) (m : Nat) : (zW W t m).length = 2 * t + m * n + 1 := by
  have := h.len
  unfold zW
  rw [List.length_append, List.length_append, repF_len, List.length_tail, rg_len, List.length_tail, List.length_reverse, sm_len (by omega), show W.length - 2 * t - 1 = n by omega]
  omega
theorem z_low (h : RD W t n d) (m : Nat) {i : Nat} (hi : i ≤ t) : (zW W t m)[i]? = W[i]? := by
  have hl := h.len
  have e1 : (sm W t).length = t + 1 := sm_len (by omega)
  unfold zW
  rw [List.append_assoc, List.getElem?_append_left (by omega)]
  unfold sm
  rw [List.getElem?_take, if_pos (by omega)]
theorem rg_at (h : RD W t n d) {j : Nat} (hj : j ≤ n) : (rg W t)[j]? = W[t + j]? := rg_get (by have := h.len; omega)
theorem rg_mod (h : RD W t n d) {j : Nat} (hj : j ≤ n) : (rg W t)[j % n]? = (rg W t)[j]? := by
  rcases Nat.lt_or_ge j n with c | c
  · rw [Nat.mod_eq_of_lt c]
  · have e : j = n := by omega
    rw [e, Nat.mod_self]
    exact rg_closed h.co h.len
theorem z_mid (h : RD W t n d) (m : Nat) {i : Nat} (h1 : t ≤ i) (h2 : i ≤ t + m * n) : (zW W t m)[i]? = (rg W t)[(i - t) % n]? := by
  have hl := h.len
  have hp := h.pos
  by_cases c : i = t
  · subst c
    rw [z_low h m (Nat.le_refl _), Nat.sub_self, Nat.zero_mod, rg_at h (Nat.zero_le _), Nat.add_zero]
  · have e1 : (sm W t).length = t + 1 := sm_len (by omega)
    have e2 : (rg W t).tail.length = n := by rw [List.length_tail, rg_len]; omega
    unfold zW
    rw [List.getElem?_append_left (by rw [List.length_append, repF_len, e1, e2]; omega), List.getElem?_append_right (by omega), e1, repF_get (by omega) _ _ (by rw [e2]; omega), e2, List.getElem?_tail]
    have hm := Nat.mod_lt (i - (t + 1)) hp
    rw [← rg_mod h (show (i - (t + 1)) % n + 1 ≤ n by omega), Nat.mod_add_mod, show i - (t + 1) + 1 = i - t by omega]
theorem z_high (h : RD W t n d) (hm : 1 ≤ m) {i : Nat} (h1 : t + m * n ≤ i) (h2 : i ≤ 2 * t + m * n) : (zW W t m)[i]? = W[i - m * n + n]? := by
  have hl := h.len
  have hp := h.pos
  by_cases c : i = t + m * n
  · subst c
    rw [z_mid h m (by omega) (Nat.le_refl _), show t + m * n - t = m * n by omega, Nat.mul_mod_left, ← Nat.mod_self n, rg_mod h (Nat.le_refl _), rg_at h (Nat.le_refl _)]
    congr 1
    omega
  · have e1 : (sm W t).length = t + 1 := sm_len (by omega)
    have e2 : (rg W t).tail.length = n := by rw [List.length_tail, rg_len]; omega
    unfold zW
    rw [List.getElem?_append_right (by rw [List.length_append, repF_len, e1, e2]; omega), List.length_append, repF_len, e1, e2, List.getElem?_tail, List.getElem?_reverse (by omega), e1]
    unfold sm
    rw [List.getElem?_take, if_pos (by omega), h.co.pal _ (by omega)]
    congr 1
    omega
theorem mn_ge (h : RD W t n d) (hm : 1 ≤ m) : n ≤ m * n := Nat.le_mul_of_pos_left n hm
theorem mn_last (hn : 1 ≤ n) (hm : 1 ≤ m) : (m * n - 1) % n = n - 1 := by
  obtain ⟨k, rfl⟩ : ∃ k, m = k + 1 := ⟨m - 1, by omega⟩
  rw [Nat.succ_mul, show k * n + n - 1 = n - 1 + k * n by omega, Nat.add_mul_mod_self_right, Nat.mod_eq_of_lt (by omega)]
theorem z_gd (g : Gd W) (h : RD W t n d) (hm : 1 ≤ m) : Gd (zW W t m) := by
  have hl := h.len
  obtain ⟨_, hn3, hne⟩ := h.three
  have hmn := mn_ge h hm
  have hz := z_len h m
  have some_lt : ∀ {i : Nat} {a : Str}, (zW W t m)[i]? = some a → i < 2 * t + m * n + 1 := by
    intro i a e
    rcases Nat.lt_or_ge i (zW W t m).length with c | c
    · omega
    · rw [List.getElem?_eq_none c] at e; cases e
  have nxt : ∀ j, j % n + 1 < n → (j + 1) % n = j % n + 1 := fun j hj => by
    rw [← Nat.mod_add_mod, Nat.mod_eq_of_lt hj]
  have nx0 : ∀ j, j % n + 1 = n → (j + 1) % n = 0 := fun j hj => by
    rw [← Nat.mod_add_mod, hj, Nat.mod_self]
  refine ⟨fun i a b ha hb => ?_, fun i a b ha hb => ?_⟩
  · have hi := some_lt hb
    by_cases c1 : i + 1 ≤ t
    · rw [z_low h m (by omega)] at ha hb
      exact g.one i a b ha hb
    by_cases c2 : t + m * n ≤ i
    · rw [z_high h hm (by omega) (by omega)] at ha hb
      exact g.one (i - m * n + n) a b ha (by rw [show i - m * n + n + 1 = i + 1 - m * n + n by omega]; exact hb)
    rw [z_mid h m (by omega) (by omega)] at ha hb
    have hj := Nat.mod_lt (i - t) h.pos
    rw [show i + 1 - t = i - t + 1 by omega] at hb
    have hb2 : (rg W t)[(i - t) % n + 1]? = some b := by
      rw [← rg_mod h (by omega), Nat.mod_add_mod]
      exact hb
    rw [rg_at h (by omega)] at ha hb2
    exact g.one _ a b ha hb2
  · have hi := some_lt hb
    by_cases c1 : i + 2 ≤ t
    · rw [z_low h m (by omega)] at ha hb
      exact g.two i a b ha hb
    by_cases c2 : t + m * n ≤ i
    · rw [z_high h hm (by omega) (by omega)] at ha hb
      exact g.two (i - m * n + n) a b ha (by rw [show i - m * n + n + 2 = i + 2 - m * n + n by omega]; exact hb)
    by_cases c3 : i < t
    · have ei : i + 2 = t + 1 := by omega
      rw [z_low h m (by omega)] at ha
      rw [ei, z_mid h m (by omega) (by omega), show t + 1 - t = 1 by omega, rg_mod h (by omega), rg_at h (by omega)] at hb
      exact g.two i a b ha (by rw [ei]; exact hb)
    by_cases c4 : i + 2 ≤ t + m * n
    · rw [z_mid h m (by omega) (by omega)] at ha hb
      have hj := Nat.mod_lt (i - t) h.pos
      rw [show i + 2 - t = i - t + 2 by omega, ← Nat.mod_add_mod] at hb
      by_cases c5 : (i - t) % n + 2 ≤ n
      · rw [rg_mod h c5, rg_at h c5] at hb
        rw [rg_at h (by omega)] at ha
        exact g.two _ a b ha hb
      · have ej : (i - t) % n = n - 1 := by omega
        rw [ej] at ha hb
        rw [show n - 1 + 2 = 1 + n by omega, Nat.add_mod_right, rg_mod h (by omega), rg_at h (by omega)] at hb
        rw [rg_at h (by omega)] at ha
        intro e
        refine hne ?_
        rw [hb, show t + n - 1 = t + (n - 1) by omega, ha, e]
    · have ei : i = t + m * n - 1 := by omega
      rw [z_mid h m (by omega) (by omega), show i - t = m * n - 1 by omega, mn_last h.pos hm, rg_at h (by omega)] at ha
      rw [z_high h hm (by omega) (by omega)] at hb
      exact g.two _ a b ha (by rw [show t + (n - 1) + 2 = i + 2 - m * n + n by omega]; exact hb)
theorem z_rd (g : Gd W) (h : RD W t n d) (hm : 1 ≤ m) : RD (zW W t m) t (m * n) d ∧ rtW (zW W t m) t d = rtW W t d := by
  have hl := h.len
  obtain ⟨hd3, hn3, hne⟩ := h.three
  have hmn := mn_ge h hm
  have hz := z_len h m
  have hd := h.few.le
  have rgz : ∀ j, j ≤ m * n → (rg (zW W t m) t)[j]? = (rg W t)[j % n]? := fun j hj => by
    rw [rg_get (by omega), z_mid h m (by omega) (by omega), show t + j - t = j by omega]
  have dv : n ∣ m * n := Nat.dvd_mul_left n m
  have esm : sm (zW W t m) t = sm W t := by
    refine List.ext_getElem? fun i => ?_
    unfold sm
    rw [List.getElem?_take, List.getElem?_take]
    by_cases c : i < t + 1
    · rw [if_pos c, if_pos c, z_low h m (by omega)]
    · rw [if_neg c, if_neg c]
  refine ⟨⟨⟨by omega, fun i hi => ?_, .inr ⟨by omega, ?_⟩⟩, hz, by omega, ⟨h.few.one, by omega, fun i hi => ?_, fun k k1 k2 hp => h.few.least k k1 k2 (fun i hi => ?_)⟩⟩, ?_⟩
  · rw [hz, z_low h m hi, z_high h hm (by omega) (by omega), h.co.pal i hi]
    congr 1
    omega
  · rw [hz, z_mid h m (by omega) (by omega), z_mid h m (by omega) (by omega), show t + 1 - t = 1 by omega, show 2 * t + m * n + 1 - 2 - t - t = m * n - 1 by omega, mn_last h.pos hm, rg_mod h (by omega), rg_at h (by omega), rg_at h (by omega), show t + (n - 1) = t + n - 1 by omega]
    exact hne
  · show (rg (zW W t m) t)[(i + d) % (m * n)]? = (rg (zW W t m) t)[i]?
    rw [rgz _ (Nat.le_of_lt (Nat.mod_lt _ (by omega))), rgz _ (by omega), Nat.mod_mod_of_dvd _ dv]
    have e := h.few.per (i % n) (Nat.mod_lt _ h.pos)
    rw [Nat.mod_add_mod] at e
    exact e
  · show (rg W t)[(i + k) % n]? = (rg W t)[i]?
    have e : (rg (zW W t m) t)[(i + k) % (m * n)]? = (rg (zW W t m) t)[i]? := hp i (by omega)
    rw [rgz _ (Nat.le_of_lt (Nat.mod_lt _ (by omega))), rgz _ (by omega), Nat.mod_mod_of_dvd _ dv, Nat.mod_eq_of_lt hi] at e
    exact e
  · unfold rtW
    rw [esm]
    congr 2
    refine List.ext_getElem? fun i => ?_
    rw [List.getElem?_take, List.getElem?_take]
    by_cases c : i < d
    · rw [if_pos c, if_pos c, List.getElem?_drop, List.getElem?_drop, rgz _ (by omega), rg_mod h (by omega)]
    · rw [if_neg c, if_neg c]
theorem pow_zW (g : Gd W) (h : RD W t n d) (hm : 1 ≤ m) : powW W m = zW W t m := by
  have hl := h.len
  have hc1 : lst (sm W t) = some (W[t]'(by omega)) := by
    unfold lst
    rw [sm_len (by omega)]
    unfold sm
    rw [List.getElem?_take, if_pos (by omega)]
    exact List.getElem?_eq_getElem (by omega)
  have hc2 : lst (rg W t).tail = some (W[t]'(by omega)) := by
    have hp := h.pos
    unfold lst
    rw [List.length_tail, rg_len, List.getElem?_tail, show W.length - 2 * t - 1 - 1 + 1 = n by omega, ← rg_closed h.co h.len, rg_at h (Nat.zero_le _)]
    exact List.getElem?_eq_getElem (by omega)
  have e := pow_stem hc1 hc2 m
  rw [core_whole h.co] at e
  rw [e]
  exact shr_of_gd (z_gd g h hm)
/-- the root of a walk so many times is its own -/
theorem pow_rd (g : Gd W) (h : RD W t n d) (hm : 1 ≤ m) : Gd (powW W m) ∧ RD (powW W m) t (m * n) d ∧ rtW (powW W m) t d = rtW W t d := by
  rw [pow_zW g h hm]
  exact ⟨z_gd g h hm, z_rd g h hm⟩
/-! turned about -/
theorem per_congr {f g : Nat → Option Str} {k : Nat} (e : ∀ j, j < n → f j = g j) (h : Per f n k) : Per g n k := fun i hi => by
  rw [← e i hi, ← e _ (Nat.mod_lt _ (by omega))]
  exact h i hi
theorem per_rev {f : Nat → Option Str} {k : Nat} (hc : f 0 = f n) (h : Per f n k) : Per (fun j => f (n - j)) n k := by
  intro i hi
  have hn : 0 < n := by omega
  have fm : ∀ j, j ≤ n → f (j % n) = f j := fun j hj => by
    rcases Nat.lt_or_ge j n with c | c
    · rw [Nat.mod_eq_of_lt c]
    · have e : j = n := by omega
      rw [e, Nat.mod_self, hc]
  show f (n - (i + k) % n) = f (n - i)
  have ha := Nat.mod_lt (i + k) hn
  have e := h ((n - (i + k) % n) % n) (Nat.mod_lt _ hn)
  rw [Nat.mod_add_mod] at e
  have hq := Nat.mod_add_div (i + k) n
  have e2 : (n - (i + k) % n + k) % n = (n - i) % n := by rw [show n - (i + k) % n + k = n - i + n * ((i + k) / n) by omega, Nat.add_mul_mod_self_left]
  rw [e2, fm (n - i) (by omega), fm (n - (i + k) % n) (by omega)] at e
  exact e.symm
theorem rev_rd (h : RD W t n d) : RD W.reverse t n d ∧ rtW W.reverse t d = (rtW W t d).reverse := by
  have hl := h.len
  obtain ⟨hd3, hn3, hne⟩ := h.three
  have hd := h.few.le
  have get : ∀ i, i < W.length → W.reverse[i]? = W[2 * t + n - i]? := fun i hi => by
    rw [List.getElem?_reverse hi]
    congr 1
    omega
  have hco : CoreAt W.reverse t := by
    refine ⟨by rw [List.length_reverse]; omega, fun i hi => ?_, .inr ⟨by rw [List.length_reverse]; omega, ?_⟩⟩
    · rw [List.length_reverse, get _ (by omega), get _ (by omega), show 2 * t + n - (W.length - 1 - i) = i by omega, h.co.pal i hi]
      congr 1
      omega
    · rw [List.length_reverse, get _ (by omega), get _ (by omega), show 2 * t + n - (W.length - 2 - t) = t + 1 by omega, show 2 * t + n - (t + 1) = t + n - 1 by omega]
      exact fun e => hne e.symm
  have rgr : ∀ j, j ≤ n → (rg W.reverse t)[j]? = (rg W t)[n - j]? := fun j hj => by
    rw [rg_get (by rw [List.length_reverse]; omega), get _ (by omega), rg_at h (by omega)]
    congr 1
    omega
  have hc : (rg W t)[0]? = (rg W t)[n]? := rg_closed h.co h.len
  have hR : RD W.reverse t n d := by
    refine ⟨hco, by rw [List.length_reverse]; exact hl, h.pos, ⟨h.few.one, hd, ?_, fun k k1 k2 hp => h.few.least k k1 k2 ?_⟩⟩
    · exact per_congr (fun j hj => (rgr j (by omega)).symm) (per_rev (f := fun i => (rg W t)[i]?) hc h.few.per)
    · have h1 : Per (fun j => (rg W t)[n - j]?) n k := per_congr (fun j hj => rgr j (by omega)) hp
      have h2 := per_rev (f := fun j => (rg W t)[n - j]?) (by show (rg W t)[n - 0]? = (rg W t)[n - n]?; rw [Nat.sub_zero, Nat.sub_self, hc]) h1
      refine per_congr (fun j hj => ?_) h2
      show (rg W t)[n - (n - j)]? = _
      rw [show n - (n - j) = j by omega]
  refine ⟨hR, ?_⟩
  have l1 := rt_len hco hR.len hd
  have l2 := rt_len h.co hl hd
  refine List.ext_getElem? fun i => ?_
  by_cases c : i < 2 * t + d + 1
  · rw [List.getElem?_reverse (by omega), l2]
    by_cases c2 : i ≤ t + d
    · rw [rt_low hR.len hd c2, get _ (by omega), rt_high h.co hl h.few (by omega) (by omega)]
      congr 1
      omega
    · rw [rt_high hco hR.len hR.few (by omega) (by omega), get _ (by omega), rt_low hl hd (by omega)]
      congr 1
      omega
  · rw [List.getElem?_eq_none (by omega), List.getElem?_eq_none (by rw [List.length_reverse]; omega)]
/-- a closed walk, shrunk, has a ring or is one room -/
theorem core_ex {x : Str} (g : Gd W) (hf : fst0 W = some x) (hl : lst W = some x) : ∃ t, CoreAt W t := by
  have hW0 : 0 < W.length := by
    cases W with
    | nil => cases hf
    | cons z r => simp
  have key : ∀ k t, W.length ≤ 2 * t + k → 2 * t < W.length → Pal W t → ∃ t, CoreAt W t := by
    intro k
    induction k with
    | zero => intro t h1 h2 _; omega
    | succ k ih =>
      intro t h1 h2 hp
      by_cases fin : W.length = 1 ∨ (2 * t + 4 ≤ W.length ∧ W[t + 1]? ≠ W[W.length - 2 - t]?)
      · exact ⟨t, h2, hp, fin⟩
      · have c' : 2 * t + 1 < W.length := by
          rcases Nat.lt_or_ge (2 * t + 1) W.length with h | h
          · exact h
          · exact absurd (.inl (pal_end g hp h2 h).1) fin
        have h4 := pal_room g hp c'
        refine ih (t + 1) (by omega) (by omega) (fun i hi => ?_)
        by_cases hi2 : i ≤ t
        · exact hp i hi2
        · have e6 : i = t + 1 := by omega
          subst e6
          rw [show W.length - 1 - (t + 1) = W.length - 2 - t by omega]
          apply Classical.byContradiction
          intro q
          exact fin (.inr ⟨h4, q⟩)
  refine key W.length 0 (by omega) (by omega) (fun i hi => ?_)
  have e : i = 0 := by omega
  subst e
  rw [Nat.sub_zero]
  exact (show W[0]? = some x from hf).trans (show W[W.length - 1]? = some x from hl).symm
theorem rd_ex {x : Str} (g : Gd W) (hf : fst0 W = some x) (hl : lst W = some x) : W = [x] ∨ ∃ t n d, RD W t n d := by
  obtain ⟨t, hC⟩ := core_ex g hf hl
  have hlt := hC.lt
  by_cases c : W.length = 1
  · left
    match W, c, hf with
    | [z], _, hf => rw [Option.some.inj (show some z = some x from hf)]
  · right
    have hfin := hC.fin.resolve_left c
    obtain ⟨d, hF⟩ := few_ex (f := fun i => (rg W t)[i]?) (n := W.length - 2 * t - 1) (by omega)
    exact ⟨t, _, d, hC, by omega, by omega, hF⟩
end
/-! one behind another, so many times -/
section
variable {A B o u v : List Str} {x z : Str}
theorem beh_one (h : fst0 v = some x) : beh [x] v = shr v := by
  unfold beh
  rw [List.singleton_append, fst_tl h]
theorem beh_end (v : List Str) (x : Str) : beh v [x] = shr v := by
  unfold beh
  rw [List.tail_cons, List.append_nil]
theorem beh_shrL (h : lst u = some x) (h' : fst0 v = some x) : beh (shr u) v = beh u v := by
  rw [← beh_shr (lst_shr h) h', shr_shr, beh_shr h h']
theorem beh_shrR (h : lst u = some x) (h' : fst0 v = some x) : beh u (shr v) = beh u v := by
  rw [← beh_shr h (fst_shr h'), shr_shr, beh_shr h h']
theorem pow_shrunk (hf : fst0 A = some x) : ∀ m, shr (powW A m) = powW A m
  | 0 => by
    show shr (A.take 1) = A.take 1
    rw [pow_one hf]
    rfl
  | m + 1 => shr_shr _
theorem pow_of_shr (hf : fst0 A = some x) (hl : lst A = some x) : ∀ m, powW (shr A) m = powW A m
  | 0 => by
    show (shr A).take 1 = A.take 1
    rw [pow_one hf, pow_one (fst_shr hf)]
  | m + 1 => by
    show beh (powW (shr A) m) (shr A) = beh (powW A m) A
    rw [pow_of_shr hf hl m, beh_shrR (pow_lst hf hl m) hf]
theorem pow_add (hf : fst0 A = some x) (hl : lst A = some x) (m : Nat) : ∀ l, powW A (m + l) = beh (powW A m) (powW A l)
  | 0 => by
    show powW A m = beh (powW A m) (A.take 1)
    rw [pow_one hf, beh_end, pow_shrunk hf]
  | l + 1 => by
    show beh (powW A (m + l)) A = beh (powW A m) (beh (powW A l) A)
    rw [pow_add hf hl m l, beh_assoc (pow_lst hf hl m) (pow_fst hf l) (pow_lst hf hl l) hf]
theorem pow_mul (hf : fst0 A = some x) (hl : lst A = some x) (m : Nat) : ∀ l, powW (powW A m) l = powW A (l * m)
  | 0 => by
    show (powW A m).take 1 = _
    rw [pow_one (pow_fst hf m), Nat.zero_mul]
    show [x] = A.take 1
    rw [pow_one hf]
  | l + 1 => by
    show beh (powW (powW A m) l) (powW A m) = _
    rw [pow_mul hf hl m l, ← pow_add hf hl, Nat.succ_mul]
theorem pow_1 (hf : fst0 A = some x) : powW A 1 = shr A := by
  show beh (A.take 1) A = _
  rw [pow_one hf, beh_one hf]
/-- led along o -/
def cj (o w : List Str) : List Str := beh (beh o.reverse w) o
theorem cj_fst (ho : fst0 o = some x) (hz : lst o = some z) : fst0 (cj o u) = some z := fst_beh (fst_beh (fst_rev hz))
theorem cj_lst (ho : fst0 o = some x) (hz : lst o = some z) (hf : fst0 u = some x) (hl : lst u = some x) : lst (cj o u) = some z := lst_beh (lst_beh (lst_rev ho) hf hl) ho hz
theorem cj_in (ho : fst0 o = some x) (hz : lst o = some z) (hf : fst0 u = some x) (hl : lst u = some x) : beh o (cj o u) = beh u o := by
  have h1 := lst_rev ho
  have h2 := fst_rev hz
  unfold cj
  rw [← beh_assoc hz (fst_beh h2) (lst_beh h1 hf hl) ho, ← beh_assoc hz h2 h1 hf, beh_back ho, beh_one hf, beh_shrL hl ho]
theorem cj_beh (ho : fst0 o = some x) (hz : lst o = some z) (hf : fst0 u = some x) (hl : lst u = some x) (hf' : fst0 v = some x) (hl' : lst v = some x) : beh (cj o u) (cj o v) = cj o (beh u v) := by
  have h1 := lst_rev ho
  conv => lhs; arg 1; unfold cj
  rw [beh_assoc (lst_beh h1 hf hl) ho hz (cj_fst ho hz), cj_in ho hz hf' hl', ← beh_assoc (lst_beh h1 hf hl) hf' hl' ho, beh_assoc h1 hf hl hf']
  rfl
theorem cj_pow (ho : fst0 o = some x) (hz : lst o = some z) (hf : fst0 u = some x) (hl : lst u = some x) : ∀ m, powW (cj o u) m = cj o (powW u m)
  | 0 => by
    show (cj o u).take 1 = cj o (u.take 1)
    rw [pow_one (cj_fst ho hz), pow_one hf]
    unfold cj
    rw [beh_end, beh_shrL (lst_rev ho) ho, beh_back' hz]
  | m + 1 => by
    show beh (powW (cj o u) m) (cj o u) = cj o (beh (powW u m) u)
    rw [cj_pow ho hz hf hl m, cj_beh ho hz (pow_fst hf m) (pow_lst hf hl m) hf hl]
theorem cj_back (ho : fst0 o = some x) (hz : lst o = some z) (hf : fst0 u = some x) (hl : lst u = some x) : cj o.reverse (cj o u) = shr u := by
  conv => lhs; unfold cj
  rw [List.reverse_reverse]
  show beh (beh o (cj o u)) o.reverse = _
  rw [cj_in ho hz hf hl, beh_assoc hl ho hz (fst_rev hz), beh_back ho, beh_end]
theorem unl_rev (h : Unl o) : Unl o.reverse := by
  intro i a b ha hb
  have hl : i + 1 < o.length := by
    rcases Nat.lt_or_ge (i + 1) o.reverse.length with c | c
    · rwa [List.length_reverse] at c
    · rw [List.getElem?_eq_none c] at hb; cases hb
  rw [List.getElem?_reverse (by omega)] at ha hb
  intro e
  exact h (o.length - 1 - (i + 1)) b a hb (by rw [show o.length - 1 - (i + 1) + 1 = o.length - 1 - i by omega]; exact ha) e.symm
theorem cj_gd (ho : fst0 o = some x) (hz : lst o = some z) (hf : fst0 u = some x) (hl : lst u = some x) (uo : Unl o) (uu : Unl u) : Gd (cj o u) := by
  have h1 := lst_rev ho
  have g1 : Gd (beh o.reverse u) := shr_gd (unl_glue h1 hf (unl_rev uo) uu)
  exact shr_gd (unl_glue (lst_beh h1 hf hl) ho g1.one uo)
theorem cj_shr (ho : fst0 o = some x) (hz : lst o = some z) (hf : fst0 u = some x) : cj o (shr u) = cj o u := by
  unfold cj
  rw [beh_shrR (lst_rev ho) hf]
end
section
variable {W o : List Str} {t n d : Nat} {x z : Str}
theorem fst_of_rd (h : RD W t n d) (hf : fst0 W = some x) : lst W = some x := by
  have := h.co.pal 0 (Nat.zero_le _)
  rw [Nat.sub_zero] at this
  exact this.symm.trans hf
theorem rt_fst (h : RD W t n d) (hf : fst0 W = some x) : fst0 (rtW W t d) = some x := by
  unfold fst0
  rw [rt_low h.len h.few.le (Nat.zero_le _)]
  exact hf
/-- the root of what is led along is the root led along -/
theorem cj_rd (g : Gd W) (h : RD W t n d) (hf : fst0 W = some x) (ho : fst0 o = some x) (hz : lst o = some z) (uo : Unl o) :
    ∃ t1 n1 d1, RD (cj o W) t1 n1 d1 ∧ rtW (cj o W) t1 d1 = cj o (rtW W t d) ∧ n1 / d1 = n / d ∧ Gd (cj o W) := by
  have hl := fst_of_rd h hf
  obtain ⟨gT, hT, sT⟩ := h.root g
  have hTf := rt_fst h hf
  have hTl := fst_of_rd hT hTf
  have hW := pow_root g h.co h.len h.pos h.few
  have hk : 1 ≤ n / d := Nat.div_pos h.few.le h.few.one
  generalize hTT : rtW W t d = T at gT hT sT hTf hTl hW
  have gV : Gd (cj o T) := cj_gd ho hz hTf hTl uo gT.one
  have fV := cj_fst (u := T) ho hz
  have lV := cj_lst ho hz hTf hTl
  have bV := cj_back ho hz hTf hTl
  rw [shr_of_gd gT] at bV
  have T1 : T ≠ [x] := fun e => by
    have h1 := hT.len
    have h2 := hT.pos
    rw [e] at h1
    simp at h1
    omega
  have ho' := fst_rev hz
  have hz' := lst_rev ho
  have uo' := unl_rev uo
  have bk1 : cj o.reverse [z] = [x] := by
    unfold cj
    rw [beh_end, List.reverse_reverse, beh_shrL hz ho', beh_back ho]
  rcases rd_ex gV fV lV with e | ⟨t1, n1, d1, hV⟩
  · rw [e, bk1] at bV
    exact absurd bV.symm T1
  obtain ⟨gU, hU, sU⟩ := hV.root gV
  have hUf := rt_fst hV fV
  have hUl := fst_of_rd hU hUf
  have hVU := pow_root gV hV.co hV.len hV.pos hV.few
  have hj : 1 ≤ n1 / d1 := Nat.div_pos hV.few.le hV.few.one
  have hj1 : n1 / d1 = 1 := by
    generalize rtW (cj o T) t1 d1 = U at gU hU sU hUf hUl hVU
    rw [← hVU, ← cj_pow ho' hz' hUf hUl] at bV
    have gY : Gd (cj o.reverse U) := cj_gd ho' hz' hUf hUl uo' gU.one
    have fY := cj_fst (u := U) ho' hz'
    have lY := cj_lst ho' hz' hUf hUl
    generalize cj o.reverse U = Y at bV gY fY lY
    rcases rd_ex gY fY lY with e | ⟨t2, n2, d2, hY⟩
    · subst e
      have : ∀ m, powW [x] m = [x] := by
        intro m
        induction m with
        | zero => rfl
        | succ m ih => show beh (powW [x] m) [x] = [x]; rw [ih]; rfl
      rw [this] at bV
      exact absurd bV.symm T1
    · obtain ⟨_, hP, _⟩ := pow_rd gY hY hj
      rw [bV] at hP
      obtain ⟨_, e2, e3⟩ := RD.uniq hT hP
      have hle := hY.few.le
      have h2 := hY.pos
      have h3 : n1 / d1 * n2 ≤ 1 * n2 := by rw [e2, Nat.one_mul, ← e3]; exact hle
      have := Nat.le_of_mul_le_mul_right h3 h2
      omega
  have eV : rtW (cj o T) t1 d1 = cj o T := by
    rw [hj1, pow_1 hUf, shr_of_gd gU] at hVU
    exact hVU
  have en : n1 = d1 := by
    have := few_dvd hV.few
    have h2 := Nat.div_add_mod n1 d1
    rw [hj1, this, Nat.mul_one] at h2
    omega
  obtain ⟨g3, h3, e3⟩ := pow_rd gV hV hk
  have eW : cj o W = powW (cj o T) (n / d) := by
    rw [cj_pow ho hz hTf hTl, hW]
  rw [eW]
  refine ⟨t1, _, d1, h3, by rw [e3, eV], ?_, g3⟩
  rw [en, Nat.mul_div_cancel _ hV.few.one]
end
/-! the text -/
def topS (i : Nat) : Stmt := PySem.Challenge.pw_tautropes_k10_whole_powers_and_roots.main.body.getD i (.Pass ⟨0, 0, 0, 0⟩)
local macro_rules | `(tactic| walk_at "u1") => `(tactic| first
  | with_reducible refine r_seq ?_ | with_reducible refine r_asg ?_ | with_reducible refine r_gname ?_ | with_reducible refine r_ret ?_ | with_reducible refine r_drop ?_ | with_reducible refine r_if ?_
  | with_reducible refine r_par ?_ | with_reducible refine r_par' ?_ | with_reducible refine r_par3 ?_ | with_reducible refine r_par3' ?_ | with_reducible refine r_next ?_
  | ((with_reducible refine' r_var ?h ?_); (case h => rfl))
  | with_reducible refine r_c ?_ | with_reducible refine r_op ?_ | with_reducible refine r_un ?_ | with_reducible refine r_cb ?_ | with_reducible refine r_call ?_ | with_reducible refine r_cons ?_ | with_reducible refine r_nil ?_
  | with_reducible refine r_tup ?_ | with_reducible refine r_lst ?_ | with_reducible refine r_ifx ?_ | with_reducible refine r_sl ?_ | with_reducible refine r_nopart ?_ | with_reducible refine r_part ?_
  | with_reducible refine r_int ?_ | with_reducible refine r_bool ?_ | with_reducible refine r_test ?_ | with_reducible refine r_tb ?_ | with_reducible refine r_and ?_ | with_reducible refine r_or ?_ | with_reducible refine r_not ?_
  | with_reducible refine r_andv ?_ | with_reducible refine r_orv ?_ | with_reducible refine r_notv ?_ | with_reducible refine r_yes ?_ | with_reducible refine r_dget ?_ | with_reducible refine r_bm0 ?_ | with_reducible refine r_bm ?_ | with_reducible refine r_revT ?_
  | with_reducible refine r_I0 ?_ | with_reducible refine r_U ?_
  | ((with_reducible refine r_eq ?h ?_); (case h => rfl)) | ((with_reducible refine r_ne ?h ?_); (case h => rfl))
  | ((with_reducible refine iteT ?_)) | ((with_reducible refine iteF ?_)))
local macro_rules | `(tactic| walk_at "go") => `(tactic| ((try dsimp only); repeat (walk_at "u1"; (try dsimp only))))
local macro_rules | `(tactic| walk_at "u1") => `(tactic| first
  | with_reducible refine r_forT ?_ | with_reducible refine r_forL ?_ | with_reducible refine r_forR1 ?_ | with_reducible refine r_forR2 ?_ | with_reducible refine r_lcT ?_ | with_reducible refine r_lcL ?_ | with_reducible refine r_lcR1 ?_ | with_reducible refine r_lcR2 ?_)
local macro_rules | `(tactic| walk_at "go0") => `(tactic| ((try dsimp only [cxOf]); walk_at "go"))
local macro_rules | `(tactic| walk_at "gs") => `(tactic| first
  | exact L2.Same.refl _ | assumption
  | (refine L2.Same.trans ?_ (Stp.gh (by assumption)); walk_at "gs")
  | (refine L2.Same.trans ?_ (Stp.gg (by assumption)); walk_at "gs"))
local macro_rules | `(tactic| walk_at "sq") => `(tactic| first
  | assumption | exact lof (by assumption) | exact tof (by assumption)
  | (refine L2.Same.seq ?_ (by assumption); walk_at "gs") | (refine Same.sqt ?_ (by assumption); walk_at "gs")
  | (refine L2.Same.seq ?_ (lof (by assumption)); walk_at "gs") | (refine Same.sqt ?_ (tof (by assumption)); walk_at "gs"))
local macro_rules | `(tactic| walk_at "u1") => `(tactic| first
  | ((with_reducible refine' c_len (Or.inl ?h) ?_); (case h => walk_at "sq")) | ((with_reducible refine' c_len (Or.inr ?h) ?_); (case h => walk_at "sq"))
  | ((with_reducible refine' c_lenS ?h ?_); (case h => assumption)) | with_reducible refine c_abs ?_ | with_reducible refine c_max ?_ | with_reducible refine c_min ?_ | with_reducible refine c_intI ?_ | with_reducible refine c_intB ?_)
local macro_rules | `(tactic| walk_at "hp") => `(tactic| first | assumption | exact upd_same)
local macro_rules | `(tactic| walk_at "u1") => `(tactic| first
  | ((with_reducible refine' c_meth ?h ?_); (case h => walk_at "hp")))
local macro_rules | `(tactic| walk_at "dg") => `(tactic| first | exact pen_cells (by walk_at "hp") | exact pen_at (by walk_at "hp") | exact pen_left (by walk_at "hp"))
local macro_rules | `(tactic| walk_at "cond") => `(tactic| first
  | (show (0 : Int) < _; (try simp only [List.length_map]); omega) | (show (0 : Int) < _ ∧ _; (try simp only [List.length_map]); omega) | exact ⟨by decide, by decide, by decide⟩ | exact Or.inl ⟨by omega, by omega⟩ | exact Or.inr ⟨by omega, by omega⟩)
local macro_rules | `(tactic| walk_at "u1") => `(tactic| first
  | ((with_reducible refine' r_dget' ?h ?_); (case h => walk_at "dg")) | ((with_reducible refine' r_I ?h ?_); (case h => walk_at "cond")) | with_reducible refine r_dput ?_
  | ((with_reducible refine' r_put ?h ?_); (case h => first | exact pen_putAt (by walk_at "hp") _ | exact pen_putLeft (by walk_at "hp") _)))
local macro_rules | `(tactic| walk_at "u1") => `(tactic| first
  | with_reducible refine r_m1 ?_ | with_reducible refine r_m1s ?_ | with_reducible refine r_tupF ?_ | with_reducible refine r_bmF ?_)
local macro_rules | `(tactic| walk_at "kn") => `(tactic| first | assumption | (refine Pen.stp0 ?_ (by assumption); walk_at "kn"))
local macro_rules | `(tactic| walk_at "u1") => `(tactic| first
  | with_reducible refine r_pcons ?_ | with_reducible refine r_pnil ?_ | with_reducible refine r_disp ?_)
local macro_rules | `(tactic| walk_at "u1") => `(tactic| first
  | with_reducible refine r_gcons ?_ | with_reducible refine r_gnil ?_)
local macro_rules | `(tactic| walk_at "u1") => `(tactic| first
  | with_reducible refine iteN1 ?_ | with_reducible refine iteN2 ?_)
local macro_rules | `(tactic| walk_at "u1") => `(tactic| first
  | with_reducible refine r_revQ ?_)
local macro_rules | `(tactic| walk_at "u1") => `(tactic| first
  | with_reducible refine r_callS ?_)

structure Mgs (mg : Str → Option Value) : Prop where
  len : mg "len" = none
  range : mg "range" = none
  list_ : mg "list" = none
  tuple_ : mg "tuple" = none
  abs : mg "abs" = none
  max : mg "max" = none
  min : mg "min" = none
  sorted : mg "sorted" = none
  isinstance : mg "isinstance" = none
  int_ : mg "int" = none
  ValueError_ : mg "ValueError" = none
  bool_ : mg "bool" = none
  str_ : mg "str" = none
  dict_ : mg "dict" = none
  repr : mg "repr" = none
  zip : mg "zip" = none
  any : mg "any" = none
  all : mg "all" = none
  sum : mg "sum" = none
  set_ : mg "set" = none
abbrev sPen : Stmt := topS 16
theorem scPen : FnScope ["_law_script"] ["_law_script"] (defScope sPen) := ⟨rfl, rfl, rfl, by decide +kernel, rfl, by decide +kernel, by decide +kernel⟩
abbrev sDraw : Stmt := topS 17
theorem scDraw : FnScope ["_law_pen_here", "_law_many", "_law_digit", "_law_at", "_law_cell", "_law_blend"] ["_law_pen_here", "_law_many"] (defScope sDraw) := ⟨rfl, rfl, rfl, by decide +kernel, rfl, by decide +kernel, by decide +kernel⟩
abbrev sPick : Stmt := topS 18
theorem scPick : FnScope ["_law_pen_here", "_law_some"] ["_law_pen_here", "_law_some"] (defScope sPick) := ⟨rfl, rfl, rfl, by decide +kernel, rfl, by decide +kernel, by decide +kernel⟩
def spDraw (K : PySem.W.Frag) : Sp := fun vs H Q _ => ∃ (p : Addr) (i : Int) (m n : Nat) (G : Hp), vs = [.ref p, .int i] ∧ Same G H ∧ Pen K G p n H ∧ n < 2 ^ 40 ∧ i = (m : Int) ∧ 1 ≤ m ∧ m < 2 ^ 30 ∧
  ∀ (d : Nat) H', d < m → Stp (M1 p) G H G H' → Pen K G p (n + 1) H' → Q (.int (d : Int)) H'
abbrev DDraw (P : Program) (w : World) (K : PySem.W.Frag) (mg : Str → Option Value) (base : Heap) : Prop := Df P w K mg base CX0 1 "_law_draw" ["_law_pen_here", "_law_many"] (spDraw K)
section
variable {P : Program} {w : World} {K : PySem.W.Frag} {mg : Str → Option Value} {base : Heap}
theorem ok_Draw {f : Addr} {fd : FuncData} (F : Fun K "_law_draw" "_law_draw" sDraw f fd) (M : Mgs mg) : FnOk P w K mg base CX0 1 f fd ["_law_pen_here", "_law_many"] (spDraw K) := by
  refine F.ok scDraw (fun vs H Q E h => ?_) (fun cdv A outer s H vs Q E hr h => ?_)
  · obtain ⟨p, i, m, n, G, rfl, _⟩ := h
    rfl
  · obtain ⟨p, i, m, n, G, rfl, g0, hp, hn, rfl, hm, hm2, q⟩ := h
    have hu := hu_of hr
    have hu64 := hu64_of hr
    obtain ⟨gp, c, ns, a, l, hc, hl, ha, hH⟩ := hp
    refine ⟨_, ((pss_cons (ps_if (pt_cmpR op_gt (pe_dget hu (pv 0) pe_str (fun _ _ => rfl)) pe_int (nomark _))
    (pss_cons (ps_set (i := 2) scDraw.nd rfl (Or.inl rfl) (pe_op op_mod (pe_dget hu (pv 0) pe_str (fun _ _ => rfl)) (pv 1)))
    (pss_cons (ps_dput hu (pv 0) pe_str (pe_op op_fdiv (pe_dget hu (pv 0) pe_str (fun _ _ => rfl)) (pv 1)) rfl)
    (pss_one (ps_ret (pv 2)))))
    pss_nil)
    (pss_cons (ps_set (i := 3) scDraw.nd rfl (Or.inl rfl) (pe_dget hu (pv 0) pe_str (fun _ _ => rfl)))
    (pss_cons (ps_dput hu (pv 0) pe_str (pe_op op_add (pv 3) pe_int) rfl)
    (pss_cons (ps_set (i := 4) scDraw.nd rfl (Or.inl rfl) (pe_op op_add (pe_op op_mul pe_int (pv 3)) pe_int))
    (pss_cons (ps_if (pt_cmpR (k_op_neD (K := K) rfl hu64) (pe_dget hu (pv 0) pe_str (fun _ _ => rfl)) (pe_lst pa_nil) (nomark _))
    (pss_one (ps_set (i := 4) scDraw.nd rfl (Or.inl rfl) (pe_ix (k_ix_list (K := K) rfl) (pe_dget hu (pv 0) pe_str (fun _ _ => rfl)) (pe_op op_mod (pv 3) (pe_callB (k_len (K := K) rfl) (by rfl) M.len PySem.boot_len (pa_cons (pe_dget hu (pv 0) pe_str (fun _ _ => rfl)) pa_nil))) (fun _ _ => rfl))))
    pss_nil)
    (pss_cons (ps_if (PW.pt (pw_and (pt_cmpR op_lt (pv 3) (pe_callB (k_len (K := K) rfl) (by rfl) M.len PySem.boot_len (pa_cons (pe_dget hu (pv 0) pe_str (fun _ _ => rfl)) pa_nil)) (nomark _)) (pw_and1 (pt_cmpR op_ge (pe_callB call_absK (by rfl) M.abs (by decide +kernel) (pa_cons (pv 4) pa_nil)) (pe_op op_pow pe_int pe_int) (nomark _)))))
    (pss_cons (ps_dput hu (pv 0) pe_str (pe_op op_fdiv (pe_op op_sub (pe_callB call_absK (by rfl) M.abs (by decide +kernel) (pa_cons (pv 4) pa_nil)) (pe_op op_pow pe_int pe_int)) (pv 1)) rfl)
    (pss_one (ps_ret (pe_op op_mod (pe_op op_sub (pe_callB call_absK (by rfl) M.abs (by decide +kernel) (pa_cons (pv 4) pa_nil)) (pe_op op_pow pe_int pe_int)) (pv 1)))))
    pss_nil)
    (pss_cons (ps_set (i := 5) scDraw.nd rfl (Or.inl rfl) (pe_op op_mod (pe_op op_add (pe_op op_add (pe_op op_add (pe_op op_mul (pe_op op_mod (pv 4) pe_int) pe_int) (pe_op op_mul (pe_op op_mul pe_int (pv 3)) (pv 3))) (pe_op op_mul pe_int (pv 3))) pe_int) pe_int))
    (pss_cons (ps_set (i := 5) scDraw.nd rfl (Or.inl rfl) (pe_op op_mod (pe_op op_add (pe_op op_add (pe_op op_add (pe_op op_mul (pv 5) (pv 5)) (pe_op op_mul pe_int (pv 5))) (pe_op op_mul pe_int (pv 3))) pe_int) pe_int))
    (pss_one (ps_ret (pe_op op_mod (pe_op op_fdiv (pe_op op_mod (pe_op op_mul (pv 5) (pe_op op_add (pv 5) pe_int)) pe_int) pe_int) (pv 1))))))))))))), ?_⟩
    walk_at "go0"
    refine ifD (fun c1 => ?_) (fun c1 => ?_)
    · walk_at "go"
      obtain ⟨d, e, hd⟩ := mod_nat (i := l) hm
      rw [e]
      exact q d _ hd (Stp.mut g0 hH gp rfl) ⟨gp, c, ns, a, _, hc, hl, Nat.le_succ_of_le ha, upd_same⟩
    · walk_at "go"
      have s1 : Stp (M1 p) G H G (upd H p (penO c (a + 1) l)) := Stp.mut g0 hH gp rfl
      have h1 : (upd H p (penO c (a + 1) l)) p = some (penO c (a + 1) l) := upd_same
      generalize upd H p (penO c (a + 1) l) = H1 at s1 h1 ⊢
      have hc1 : SqL K H1 c (ns.map V.int) := s1.gh.seq hc
      refine ⟨Nat.zero_le _, fun z nz => ?_⟩
      have s2 : Stp (M1 p) G H G (upd H1 z (.lst [])) := s1.trans (Stp.newM s1.gh nz)
      have h2 : (upd H1 z (.lst [])) p = some (penO c (a + 1) l) := by rw [upd_ne (ne_of_none h1 nz)]; exact h1
      have hz : (upd H1 z (.lst [])) z = some (.lst (([] : List Int).map V.int)) := upd_same
      have hc2 : SqL K (upd H1 z (.lst [])) c (ns.map V.int) := (same_new nz).seq hc1
      generalize upd H1 z (.lst []) = H2 at s2 h2 hz hc2 ⊢
      refine r_neII hc2 (lof hz) ?_
      have fin : ∀ d : Nat, d < m → Q (.int (d : Int)) H2 := fun d hd => q d H2 hd s2 ⟨gp, c, ns, a + 1, l, hc, hl, Nat.succ_le_succ ha, h2⟩
      have fin2 : ∀ (d : Nat) (j : Int), d < m → Q (.int (d : Int)) (upd H2 p (penO c (a + 1) j)) := fun d j hd => q d _ hd (s2.trans (Stp.mut s2.gh h2 gp rfl)) ⟨gp, c, ns, a + 1, j, hc, hl, Nat.succ_le_succ ha, upd_same⟩
      walk_at "go"
      refine ifND (fun c2 => ?_) (fun c2 => ?_)
      · have hpos : 1 ≤ ns.length := by
          cases ns with
          | nil => exact absurd rfl c2
          | cons x r => simp
        obtain ⟨d0, e0, hd0⟩ := mod_nat (i := (a : Int)) hpos
        walk_at "go"
        rw [List.length_map, e0]
        refine r_ixL' hc2 rfl (v := .int ns[d0]) (by rw [List.getElem?_map, List.getElem?_eq_getElem hd0]; rfl) ?_
        generalize ns[d0] = cell
        walk_at "go"
        refine ifD (fun c3 => ?_) (fun c3 => ?_)
        · walk_at "go"
          refine ifD (fun c4 => ?_) (fun c4 => ?_)
          · walk_at "go"
            exact mod_q (Q := fun v => Q v _) hm (fun d hd => fin2 d _ hd)
          · walk_at "go"
            exact mod_q (Q := fun v => Q v _) hm fin
        · walk_at "go"
          exact mod_q (Q := fun v => Q v _) hm fin
      · walk_at "go"
        generalize (23 * (a : Int) + 7) = cell
        walk_at "go"
        refine ifD (fun c3 => ?_) (fun c3 => ?_)
        · walk_at "go"
          refine ifD (fun c4 => ?_) (fun c4 => ?_)
          · walk_at "go"
            exact mod_q (Q := fun v => Q v _) hm (fun d hd => fin2 d _ hd)
          · walk_at "go"
            exact mod_q (Q := fun v => Q v _) hm fin
        · walk_at "go"
          exact mod_q (Q := fun v => Q v _) hm fin
end
section
variable {P : Program} {w : World} {K : PySem.W.Frag} {mg : Str → Option Value} {base : Heap}
theorem use_draw {G H : Hp} {p : Addr} {i : Int} {m n : Nat} {Q : VK} {E : XK} (g0 : Same G H) (hp : Pen K G p n H) (hn : n < 2 ^ 40) (e : i = (m : Int)) (h1 : 1 ≤ m) (h2 : m < 2 ^ 30)
    (q : ∀ (d : Nat) H', d < m → Stp (M1 p) G H G H' → Pen K G p (n + 1) H' → Q (.int (d : Int)) H') : spDraw K [.ref p, .int i] H Q E := ⟨p, i, m, n, G, rfl, g0, hp, hn, e, h1, h2, q⟩
def spPick (K : PySem.W.Frag) : Sp := fun vs H Q _ => ∃ (p : Addr) (src : V) (items : List V) (n : Nat) (G : Hp), vs = [.ref p, src] ∧ Same G H ∧ Pen K G p n H ∧ n < 2 ^ 40 ∧ Src K G src items ∧ 1 ≤ items.length ∧ items.length < 2 ^ 30 ∧
  ∀ (d : Nat) x H', items[d]? = some x → Stp (M1 p) G H G H' → Pen K G p (n + 1) H' → Q x H'
abbrev DPick (P : Program) (w : World) (K : PySem.W.Frag) (mg : Str → Option Value) (base : Heap) : Prop := Df P w K mg base CX0 2 "_law_pick" ["_law_pen_here", "_law_some"] (spPick K)
theorem use_pick {G H : Hp} {p : Addr} {src : V} {items : List V} {n : Nat} {Q : VK} {E : XK} (g0 : Same G H) (hp : Pen K G p n H) (hn : n < 2 ^ 40) (hs : Src K G src items) (h1 : 1 ≤ items.length) (h2 : items.length < 2 ^ 30)
    (q : ∀ (d : Nat) x H', items[d]? = some x → Stp (M1 p) G H G H' → Pen K G p (n + 1) H' → Q x H') : spPick K [.ref p, src] H Q E := ⟨p, src, items, n, G, rfl, g0, hp, hn, hs, h1, h2, q⟩
theorem ok_Pick {f : Addr} {fd : FuncData} (F : Fun K "_law_pick" "_law_pick" sPick f fd) (M : Mgs mg) (D_draw : DDraw P w K mg base) : FnOk P w K mg base CX0 2 f fd ["_law_pen_here", "_law_some"] (spPick K) := by
  refine F.ok scPick (fun vs H Q E h => ?_) (fun cdv A outer s H vs Q E hr h => ?_)
  · obtain ⟨p, src, items, n, G, rfl, _⟩ := h
    rfl
  · obtain ⟨p, src, items, n, G, rfl, g0, hp, hn, hs, h1, h2, q⟩ := h
    refine ⟨_, ((pss_one (ps_ret (pe_ix (k_ix_seq (K := K) rfl) (pv 1) (pe_df D_draw hr (by rfl) pass0 (pa_cons (pv 0) (pa_cons (pe_callB (k_lenQ (K := K) rfl) (by rfl) M.len PySem.boot_len (pa_cons (pv 1) pa_nil)) pa_nil))) (fun _ _ => rfl))))), ?_⟩
    walk_at "go0"
    refine c_lenQ (Src.len (hs.same g0)) ?_
    walk_at "go"
    refine use_draw g0 hp hn rfl h1 h2 (fun d H' hd s1 hp1 => ?_)
    walk_at "go"
    exact Src.at (hs.same s1.gh) (List.getElem?_eq_getElem hd) (q d _ _ (List.getElem?_eq_getElem hd) s1 hp1)
def spPen (K : PySem.W.Frag) : Sp := fun vs H Q _ => ∃ (a : Addr) (ns : List Int) (G : Hp), vs = [.ref a] ∧ Same G H ∧ SqL K G a (ns.map V.int) ∧ ns.length ≤ 63 ∧
  ∀ p G' H', Stp M0 G H G' H' → Pen K G' p 0 H' → Q (.ref p) H'
abbrev DPen (P : Program) (w : World) (K : PySem.W.Frag) (mg : Str → Option Value) (base : Heap) : Prop := Df P w K mg base CX0 1 "_law_pen" ["_law_script"] (spPen K)
theorem ok_Pen {f : Addr} {fd : FuncData} (F : Fun K "_law_pen" "_law_pen" sPen f fd) (M : Mgs mg) : FnOk P w K mg base CX0 1 f fd ["_law_script"] (spPen K) := by
  refine F.ok scPen (fun vs H Q E h => ?_) (fun cdv A outer s H vs Q E hr h => ?_)
  · obtain ⟨a, ns, G, rfl, _⟩ := h
    rfl
  · obtain ⟨a, ns, G, rfl, g0, hS, hl, q⟩ := h
    refine ⟨_, ((pss_one (ps_ret (pe_disp (pps_cons pe_str (pe_callTy (k_list (K := K) rfl) (by rfl) M.list_ (by decide +kernel) (pa_cons (pe_slice (k_sl_list (K := K) rfl) (pv 0) po_none (po_some pe_int)) pa_nil)) (pps_cons pe_str pe_int (pps_cons pe_str pe_int pps_nil))) (by rfl) (by rfl) (fun z => by cases z) (by decide))))), ?_⟩
    walk_at "go0"
    intro p np
    walk_at "go"
    have n0 : ∀ b, b ≠ p → (upd H p (.dK [])) b = H b := fun b hb => upd_ne hb
    have s1 : Stp M0 G H G (upd H p (.dK [])) := Stp.newM g0 np
    have hp1 : (upd H p (.dK [])) p = some (.dK []) := upd_same
    generalize upd H p (.dK []) = H1 at s1 hp1 ⊢
    refine r_slL (s1.gh.seq hS) (fun l nl => ?_)
    have e1 : cutV (ns.map V.int) none (some 63) = ns.map V.int := by
      unfold cutV
      rw [show (some (63 : Int)) = some ((63 : Nat) : Int) from rfl, HT.sIx_nat, HT.sIx_none, List.drop_zero, List.length_map, Nat.sub_zero]
      exact List.take_of_length_le (by rw [List.length_map]; omega)
    rw [e1]
    walk_at "go"
    have s2 : Stp M0 G H G (upd H1 l (.lst (ns.map V.int))) := s1.trans (Stp.newM s1.gh nl)
    have hl2 : (upd H1 l (.lst (ns.map V.int))) l = some (.lst (ns.map V.int)) := upd_same
    have hp2 : (upd H1 l (.lst (ns.map V.int))) p = some (.dK []) := by rw [upd_ne (ne_of_none hp1 nl)]; exact hp1
    generalize upd H1 l (.lst (ns.map V.int)) = H2 at s2 hl2 hp2 ⊢
    refine c_list (.inl (lof hl2)) (fun k nk => ?_)
    have s3 : Stp M0 G H (upd G k (.lst (ns.map V.int))) (upd H2 k (.lst (ns.map V.int))) := s2.trans (Stp.new s2.gh nk)
    have hp3 : (upd H2 k (.lst (ns.map V.int))) p = some (.dK []) := by rw [upd_ne (ne_of_none hp2 nk)]; exact hp2
    have hk : (upd G k (.lst (ns.map V.int))) k = some (.lst (ns.map V.int)) := upd_same
    have gp : (upd G k (.lst (ns.map V.int))) p = none := by rw [upd_ne (ne_of_none hp2 nk)]; exact none_of g0 np
    generalize upd H2 k (.lst (ns.map V.int)) = H3 at s3 hp3 ⊢
    generalize upd G k (.lst (ns.map V.int)) = G3 at s3 hk gp ⊢
    walk_at "go"
    refine ⟨hp3, [(.inr "cells", .ref k), (.inr "at", .int 0), (.inr "left", .int 0)], rfl, (by show 3 ≤ 15; decide), ?_⟩
    rw [merge3 (by decide +kernel) (by decide +kernel) (by decide +kernel)]
    exact q p G3 _ (s3.inner (M' := M1 p) (Stp.mut s3.gh hp3 gp rfl) (fun a e => .inr (by rw [e]; exact np))) ⟨gp, k, ns, 0, 0, lof hk, hl, Nat.le_refl 0, upd_same⟩
end
abbrev sNames : Stmt := topS 19
theorem scNames : FnScope ["_law_pen_here", "_law_many", "_law_letters", "_law_base", "_law_at", "_law_begin", "_law_short", "_law_by", "_law_found", "_law_some", "_law_k", "_law_tail"] ["_law_pen_here", "_law_many"] (defScope sNames) := ⟨rfl, rfl, rfl, by decide +kernel, rfl, by decide +kernel, by decide +kernel⟩
section
variable {P : Program} {w : World} {K : PySem.W.Frag} {mg : Str → Option Value} {base : Heap}
def letters : Str := "abcdefghijklmnopqrstuvwxyz"
theorem letters_ok : ∀ c ∈ letters.cps.toList, 97 ≤ c ∧ c ≤ 122 := by decide +kernel
theorem letters_len : letters.cps.toList.length = 26 := by decide +kernel
def wordsT : Str := "room door folk rope post at acts go tie cut free a ab abc b ba ro roo rooms c ca cab z"
def wordsL : List Str := ["room", "door", "folk", "rope", "post", "at", "acts", "go", "tie", "cut", "free", "a", "ab", "abc", "b", "ba", "ro", "roo", "rooms", "c", "ca", "cab", "z"]
theorem words_eq : Txt.split wordsT " " = wordsL := by decide +kernel
instance (z : Str) : Decidable (NmOk z) := inferInstanceAs (Decidable (_ ∧ _ ∧ _))
theorem words_ok : ∀ z ∈ wordsL, NmOk z := by decide +kernel
def bysL : List Int := [1, 3, 5, 7, 9, 11, 15, 17, 19, 21, 23, 25]
theorem bys_ok : ∀ b ∈ bysL, 0 < b ∧ b < 26 := by decide
def spNames (K : PySem.W.Frag) : Sp := fun vs H Q _ => ∃ (p : Addr) (i : Int) (m n : Nat) (G : Hp), vs = [.ref p, .int i] ∧ Same G H ∧ Pen K G p n H ∧ n + 100 < 2 ^ 40 ∧ i = (m : Int) ∧ m ≤ 20 ∧
  ∀ r (ns : List Str) G' H', Stp (M1 p) G H G' H' → Pen K G' p (n + 20) H' → SqL K G' r (ns.map V.str) → ns.length = m → (∀ z ∈ ns, NmOk z) → Q (.ref r) H'
abbrev DNames (P : Program) (w : World) (K : PySem.W.Frag) (mg : Str → Option Value) (base : Heap) : Prop := Df P w K mg base CX0 3 "_law_names" ["_law_pen_here", "_law_many"] (spNames K)
theorem ok_Names {f : Addr} {fd : FuncData} (F : Fun K "_law_names" "_law_names" sNames f fd) (M : Mgs mg) (D_draw : DDraw P w K mg base) (D_pick : DPick P w K mg base) : FnOk P w K mg base CX0 3 f fd ["_law_pen_here", "_law_many"] (spNames K) := by
  refine F.ok scNames (fun vs H Q E h => ?_) (fun cdv A outer s H vs Q E hr h => ?_)
  · obtain ⟨p, i, m, n, G, rfl, _⟩ := h
    rfl
  · obtain ⟨p, i, m, n, G, rfl, g0, hp, hn, rfl, hm, q⟩ := h
    refine ⟨_, ((pss_cons (ps_set (i := 2) scNames.nd rfl (Or.inr rfl) pe_str)
    (pss_cons (ps_set (i := 3) scNames.nd rfl (Or.inl rfl) (k_join (K := K) rfl pe_str (pe_lc (own := [("_law_k", 10)]) rfl scNames.nd (pi_range1 (by rfl) M.range (pa_cons (pe_op op_add pe_int (pe_df D_draw hr (by rfl) pass0 (pa_cons (pv 0) (pa_cons pe_int pa_nil)))) pa_nil)) (blkOk_by (N := ["_law_pen_here", "_law_many", "_law_letters", "_law_base", "_law_at", "_law_begin", "_law_short", "_law_by", "_law_found", "_law_some", "_law_k", "_law_tail"]) (sc := defScope sNames) (by decide +kernel)) (fun _ _ _ _ _ => (pg_name (i := 10) scNames.nd rfl (Or.inl rfl))) (fun _ _ _ _ _ => pts_nil) (fun _ _ _ _ _ => (pe_df D_pick hr (by rfl) pass0 (pa_cons (pv 0) (pa_cons (pv 2) pa_nil)))))))
    (pss_cons (ps_asg (pe_tup (pa_cons (pe_df D_draw hr (by rfl) pass0 (pa_cons (pv 0) (pa_cons (pe_callB call_lenS (by rfl) M.len PySem.boot_len (pa_cons (pv 3) pa_nil)) pa_nil))) (pa_cons (pe_df D_draw hr (by rfl) pass0 (pa_cons (pv 0) (pa_cons pe_int pa_nil))) (pa_cons (pe_df D_draw hr (by rfl) pass0 (pa_cons (pv 0) (pa_cons pe_int pa_nil))) pa_nil)))) (k_pg_tup (K := K) rfl rfl (pgs_cons (pg_name (i := 4) scNames.nd rfl (Or.inl rfl)) (pgs_cons (pg_name (i := 5) scNames.nd rfl (Or.inr rfl)) (pgs_cons (pg_name (i := 6) scNames.nd rfl (Or.inl rfl)) pgs_nil)))))
    (pss_cons (ps_par (i := 7) (j := 8) (by rfl) scNames.nd rfl rfl (by decide) rfl rfl (pa_cons (pe_df D_pick hr (by rfl) pass0 (pa_cons (pv 0) (pa_cons (pe_lst (pa_cons pe_int (pa_cons pe_int (pa_cons pe_int (pa_cons pe_int (pa_cons pe_int (pa_cons pe_int (pa_cons pe_int (pa_cons pe_int (pa_cons pe_int (pa_cons pe_int (pa_cons pe_int (pa_cons pe_int pa_nil))))))))))))) pa_nil))) (pa_cons (pe_lst pa_nil) pa_nil)) (by rfl))
    (pss_cons (ps_if (pt_cmpR op_eq (pv 7) pe_int (nomark _))
    (pss_cons (ps_set (i := 9) scNames.nd rfl (Or.inr rfl) pe_str)
    (pss_one (ps_ret (pe_lc (own := [("_law_k", 10)]) rfl scNames.nd (pi_range1 (by rfl) M.range (pa_cons (pv 1) pa_nil)) (blkOk_by (N := ["_law_pen_here", "_law_many", "_law_letters", "_law_base", "_law_at", "_law_begin", "_law_short", "_law_by", "_law_found", "_law_some", "_law_k", "_law_tail"]) (sc := defScope sNames) (by decide +kernel)) (fun _ _ _ _ _ => (pg_name (i := 10) scNames.nd rfl (Or.inl rfl))) (fun _ _ _ _ _ => pts_nil) (fun _ _ _ _ _ => (pe_ix (k_ix_list (K := K) rfl) (pe_splitK (pv 9) pe_str) (pe_op op_mod (pe_op op_add (pv 5) (pe_op op_mul pe_int (pv 10))) pe_int) (fun _ _ => rfl)))))))
    pss_nil)
    (pss_cons (ps_for PassesOwn.never rfl (pi_range1 (by rfl) M.range (pa_cons (pv 1) pa_nil)) (pg_name (i := 10) scNames.nd rfl (Or.inl rfl))
    (pss_cons (ps_set (i := 11) scNames.nd rfl (Or.inl rfl) (pe_slice sl_str (pe_slice sl_str (pv 3) (po_some (pe_op op_add (pv 4) pe_int)) po_none) po_none (po_some (pe_ix (k_ix_list (K := K) rfl) (pe_lst (pa_cons pe_int (pa_cons (pe_op op_mod (pv 10) pe_int) pa_nil))) (pv 6) (fun _ _ => rfl)))))
    (pss_one (ps_expr (k_bm (K := K) rfl PySem.F.plainAttrs_list PySem.F.slot_list_append PySem.F.type_list_append mt_append (pv 8) (pa_cons (pe_op op_addS (pe_op op_addS (pe_slice sl_str (pv 3) po_none (po_some (pv 4))) (pe_ix ix_str (pv 2) (pe_op op_mod (pe_op op_add (pv 5) (pe_op op_mul (pv 7) (pv 10))) pe_int) (fun _ _ => rfl))) (pv 11)) pa_nil))))))
    (pss_one (ps_ret (pv 8)))))))))), ?_⟩
    walk_at "go0"
    refine use_draw (m := 8) g0 hp (by omega) rfl (by omega) (by omega) (fun d0 H1 hd0 s1 hp1 => ?_)
    walk_at "go"
    refine lcR1 (M := M1 p) (n := 1 + d0) (by omega) (by omega) s1.gh (fun i acc G' H' => G = G' ∧ ∃ zs : List Nat, acc = zs.map (fun c => V.str ⟨#[c]⟩) ∧ zs.length = i ∧ (∀ c ∈ zs, 97 ≤ c ∧ c ≤ 122) ∧ Pen K G' p (n + 1 + i) H')
      (fun L hL => ⟨rfl, [], rfl, rfl, (fun _ h => by cases h), hp1.upd (hp1.new hL)⟩) (fun L i acc G' H' Em Sk hi hL hL' gL hacc st pv hEm _ => ?_) (fun L acc G' H' hL hacc st hL' gL pv => ?_)
    · obtain ⟨rfl, zs, rfl, hz, hzc, hpz⟩ := pv
      walk_at "go"
      refine ⟨rfl, ?_⟩
      walk_at "go"
      refine use_pick (items := letters.cps.toList.map fun c => V.str ⟨#[c]⟩) st.gh hpz (by omega) (.inr (.inr ⟨letters, rfl, by decide +kernel, rfl⟩)) (by decide +kernel) (by decide +kernel) (fun d x H2 hx s2 hp2 => ?_)
      obtain ⟨c, hc, rfl⟩ := map_get hx
      have hL2 : H2 L = some (.lst (zs.map fun c => V.str ⟨#[c]⟩)) := s2.up _ _ (hpz.ne hL') hL'
      refine hEm _ G H2 (st.trans s2) hL2 gL ⟨rfl, zs ++ [c], by rw [List.map_append]; rfl, by rw [List.length_append, hz]; rfl, fun e he => ?_, ?_⟩
      · rcases List.mem_append.mp he with he | he
        · exact hzc e he
        · rw [List.mem_singleton.mp he]
          exact letters_ok c (List.mem_of_getElem? hc)
      · exact (hp2.upd (hp2.ne hL2)).mono (by omega)
    · obtain ⟨rfl, zs, rfl, hz, hzc, hpz⟩ := pv
      walk_at "go"
      have hzl : zs.length = 1 + d0 := hz
      refine c_join (ys := zs.map fun c => (⟨#[c]⟩ : Str)) (lof (by rw [List.map_map]; exact hL')) ?_ ?_
      · have e1 : ((zs.map fun c => (⟨#[c]⟩ : Str)).map (·.length)).sum = zs.length := by
          rw [List.map_map, show ((fun z : Str => z.length) ∘ fun c => (⟨#[c]⟩ : Str)) = fun _ => 1 from rfl, List.map_const', List.sum_replicate_nat, Nat.mul_one]
        rw [e1, show Str.length "" = 0 by decide +kernel]
        omega
      rw [show (Str.ofString "") = (⟨#[]⟩ : Str) by decide +kernel, join_signs]
      have hBl : Str.length ⟨zs.toArray⟩ = 1 + d0 := by show zs.toArray.size = 1 + d0; rw [List.size_toArray]; omega
      have hB : Str.length ⟨zs.toArray⟩ ≤ sizeLine := by rw [hBl]; exact Nat.le_trans (show 1 + d0 ≤ 100 by omega) (by decide)
      generalize hBe : (⟨zs.toArray⟩ : Str) = B at hBl hB ⊢
      walk_at "go"
      refine use_draw (m := 1 + d0) st.gh hpz (by omega) (by rw [hBl]) (by omega) (by omega) (fun d1 H2 hd1 s2 hp2 => ?_)
      walk_at "go"
      refine use_draw (m := 26) s2.gh hp2 (by omega) rfl (by omega) (by omega) (fun d2 H3 hd2 s3 hp3 => ?_)
      walk_at "go"
      refine use_draw (m := 2) s3.gh hp3 (by omega) rfl (by omega) (by omega) (fun d3 H4 hd3 s4 hp4 => ?_)
      walk_at "go"
      refine ⟨by show 3 ≤ sizeLine; decide, fun t nt => ?_⟩
      have s5 : Stp (M1 p) G H4 G (upd H4 t (.tup [.int d1, .int d2, .int d3])) := Stp.newM s4.gh nt
      have ht : (upd H4 t (.tup [.int d1, .int d2, .int d3])) t = some (.tup [.int d1, .int d2, .int d3]) := upd_same
      have hp5 := hp4.upd (x := .tup [.int d1, .int d2, .int d3]) (hp4.new nt)
      generalize upd H4 t (.tup [.int d1, .int d2, .int d3]) = H5 at s5 ht hp5 ⊢
      refine r_gtup (tof ht) rfl ?_
      walk_at "go"
      refine ⟨by show 12 ≤ sizeLine; decide, fun l nl => ?_⟩
      have s6 : Stp (M1 p) G H5 (upd G l (.lst (bysL.map V.int))) (upd H5 l (.lst (bysL.map V.int))) := Stp.new s5.gh nl
      have hp6 : Pen K (upd G l (.lst (bysL.map V.int))) p (n + 1 + (1 + d0) + 1 + 1 + 1) (upd H5 l (.lst (bysL.map V.int))) := hp5.stp (Stp.new (M := M0) s5.gh nl) (fun z => z)
      have hl6 : SqL K (upd G l (.lst (bysL.map V.int))) l (bysL.map V.int) := lof upd_same
      show tNil _ (upd H5 l (.lst (bysL.map V.int))) _
      generalize upd H5 l (.lst (bysL.map V.int)) = H6 at s6 hp6 ⊢
      generalize upd G l (.lst (bysL.map V.int)) = G6 at s6 hp6 hl6 ⊢
      walk_at "go"
      refine use_pick (items := bysL.map V.int) s6.gh hp6 (by omega) (.inl ⟨l, rfl, hl6⟩) (by decide) (by decide) (fun d4 x H7 hx s7 hp7 => ?_)
      obtain ⟨dby, hby, rfl⟩ := map_get hx
      have hby2 := bys_ok _ (List.mem_of_getElem? hby)
      walk_at "go"
      refine ⟨Nat.zero_le _, fun o no => ?_⟩
      have sA : Stp (M1 p) G H G6 H7 := (((((s1.trans st).trans s2).trans s3).trans s4).trans s5).trans (s6.trans s7)
      clear s1 hp1 s2 hp2 s3 hp3 s4 hp4 s5 hp5 s6 hp6 ht nt hx hl6 st hpz
      have sB : Stp (M1 p) G6 H7 G6 (upd H7 o (.lst (([] : List Str).map V.str))) := Stp.newM s7.gh no
      have ho : (upd H7 o (.lst (([] : List Str).map V.str))) o = some (.lst (([] : List Str).map V.str)) := upd_same
      have hpB := hp7.upd (x := .lst (([] : List Str).map V.str)) (hp7.new no)
      have gO : G6 o = none := none_of s7.gh no
      have hO : H o = none := sA.free no
      show tNil _ (upd H7 o (.lst (([] : List Str).map V.str))) _
      generalize upd H7 o (.lst (([] : List Str).map V.str)) = H8 at sB ho hpB ⊢
      walk_at "go"
      refine ifD (fun c => ?_) (fun c => ?_)
      · walk_at "go"
        refine lcR1 (M := M1 p) (n := m) (by omega) (by omega) sB.gh (fun i acc G' H' => G6 = G' ∧ ∃ ws : List Str, acc = ws.map V.str ∧ ws.length = i ∧ (∀ z ∈ ws, NmOk z) ∧ Pen K G' p (n + 20) H')
          (fun L hL => ⟨rfl, [], rfl, rfl, (fun _ h => by cases h), (hpB.upd (hpB.new hL)).mono (by omega)⟩) (fun L i acc G' H' Em Sk hi hL hL' gL hacc st pv hEm _ => ?_) (fun L acc G' H' hL hacc st hL' gL pv => ?_)
        · obtain ⟨e, ws, rfl, hw, hwn, hpz⟩ := pv
          subst e
          walk_at "go"
          refine ⟨rfl, ?_⟩
          walk_at "go"
          refine c_split (by decide +kernel) (by decide +kernel) (fun t nt => ?_)
          rw [show (Str.ofString "room door folk rope post at acts go tie cut free a ab abc b ba ro roo rooms c ca cab z") = wordsT from rfl, words_eq]
          have sC : Stp (M1 p) G6 H8 G6 (upd H' t (.lst (wordsL.map V.str))) := st.trans (Stp.newM st.gh nt)
          have ht : (upd H' t (.lst (wordsL.map V.str))) t = some (.lst (wordsL.map V.str)) := upd_same
          have hLt : (upd H' t (.lst (wordsL.map V.str))) L = some (.lst (ws.map V.str)) := by rw [upd_ne (ne_of_none hL' nt)]; exact hL'
          have hpt := hpz.upd (x := .lst (wordsL.map V.str)) (hpz.new nt)
          generalize upd H' t (.lst (wordsL.map V.str)) = H9 at sC ht hLt hpt ⊢
          walk_at "go"
          obtain ⟨d, ed, hd⟩ := mod_nat (i := (d2 : Int) + 5 * (i : Int)) (m := 23) (by omega)
          have hd' : d < wordsL.length := hd
          refine r_ixL' (lof ht) ed (v := .str wordsL[d]) (by rw [List.getElem?_map, List.getElem?_eq_getElem hd']; rfl) ?_
          refine hEm _ G6 H9 sC hLt gL ⟨rfl, ws ++ [wordsL[d]], by rw [List.map_append]; rfl, by rw [List.length_append, hw]; rfl, fun e he => ?_, hpt.upd (hpt.ne hLt)⟩
          rcases List.mem_append.mp he with he | he
          · exact hwn e he
          · rw [List.mem_singleton.mp he]
            exact words_ok _ (List.getElem_mem hd')
        · obtain ⟨e, ws, rfl, hw, hwn, hpz⟩ := pv
          subst e
          have hL0 : H L = none := sA.free (sB.free hL)
          exact q L ws (upd G6 L _) H' (((sA.trans sB).trans st).freeze hL' hL0 gL) (hpz.know (same_new gL) (by rw [upd_ne (hpz.ne hL').symm]; exact hpz.1)) (lof upd_same) hw hwn
      · walk_at "go"
        refine loopR1 (n := m) rfl (by omega) (fun i σ H' => ∃ y10 y11, ∃ ws : List Str, σ = [some (.ref p), some (.int (m : Int)), some (.str letters), some (.str B), some (.int (d1 : Int)), some (.int (d2 : Int)), some (.int (d3 : Int)), some (.int dby), some (.ref o), none, y10, y11] ∧
          Stp (M1 p) G H G6 H' ∧ H' o = some (.lst (ws.map V.str)) ∧ ws.length = i ∧ (∀ z ∈ ws, NmOk z) ∧ Pen K G6 p (n + 20) H') ⟨none, none, [], rfl, sA.trans sB, ho, rfl, (fun _ h => by cases h), hpB.mono (by omega)⟩ (fun i σ H' hi pv => ?_) (fun σ H' pv => ?_)
        · obtain ⟨y10, y11, ws, rfl, st, ho', hw, hwn, hpz⟩ := pv
          walk_at "go"
          refine r_slS hB ?_
          walk_at "go"
          refine ⟨by show 2 ≤ sizeLine; decide, fun t nt => ?_⟩
          have sC : Stp (M1 p) G H G6 (upd H' t (.lst [.int 8, .int ((i : Int) % 3)])) := st.trans (Stp.newM st.gh nt)
          have ht : (upd H' t (.lst [.int 8, .int ((i : Int) % 3)])) t = some (.lst [.int 8, .int ((i : Int) % 3)]) := upd_same
          have hot : (upd H' t (.lst [.int 8, .int ((i : Int) % 3)])) o = some (.lst (ws.map V.str)) := by rw [upd_ne (ne_of_none ho' nt)]; exact ho'
          have hpt := hpz.upd (x := .lst [.int 8, .int ((i : Int) % 3)]) (hpz.new nt)
          generalize upd H' t (.lst [.int 8, .int ((i : Int) % 3)]) = H9 at sC ht hot hpt ⊢
          walk_at "go"
          obtain ⟨v, hv⟩ : ∃ v : Nat, ([.int 8, .int ((i : Int) % 3)] : List V)[d3]? = some (.int (v : Int)) := by
            have h : d3 = 0 ∨ d3 = 1 := by omega
            rcases h with rfl | rfl
            · exact ⟨8, rfl⟩
            · exact ⟨i % 3, rfl⟩
          refine r_ixL' (lof ht) rfl hv ?_
          walk_at "go"
          have hT : (cutS B (some ((d1 : Int) + 1)) none).length = (1 + d0) - (d1 + 1) := by rw [show ((d1 : Int) + 1) = ((d1 + 1 : Nat) : Int) by omega, cutS_from, hBl]
          refine r_slS (Nat.le_trans (cutS_le _ _ _) hB) ?_
          walk_at "go"
          have hT2 : (cutS (cutS B (some ((d1 : Int) + 1)) none) none (some (v : Int))).length ≤ (1 + d0) - (d1 + 1) := by rw [← hT]; exact cutS_le _ _ _
          have hT3 : ∀ c ∈ (cutS (cutS B (some ((d1 : Int) + 1)) none) none (some (v : Int))).cps.toList, c ∈ B.cps.toList := fun c h => cutS_mem (cutS_mem h)
          generalize cutS (cutS B (some ((d1 : Int) + 1)) none) none (some (v : Int)) = T at hT2 hT3 ⊢
          refine r_slS hB ?_
          walk_at "go"
          have hF : (cutS B none (some (d1 : Int))).length = d1 := by rw [cutS_to, hBl]; omega
          have hF3 : ∀ c ∈ (cutS B none (some (d1 : Int))).cps.toList, c ∈ B.cps.toList := fun c h => cutS_mem h
          generalize cutS B none (some (d1 : Int)) = F0 at hF hF3 ⊢
          obtain ⟨d, ed, hd⟩ := mod_nat (i := (d2 : Int) + dby * (i : Int)) (m := 26) (by omega)
          have hd' : d < letters.cps.toList.length := by rw [letters_len]; exact hd
          refine r_ixS' (by decide +kernel) ed (List.getElem?_eq_getElem hd') ?_
          have hcc := letters_ok _ (List.getElem_mem hd')
          generalize letters.cps.toList[d] = cc at hcc ⊢
          refine c_addS (by rw [hF]; show d1 + 1 ≤ sizeLine; exact Nat.le_trans (show d1 + 1 ≤ 100 by omega) (by decide)) ?_
          walk_at "go"
          have hFC : (F0 ++ (⟨#[cc]⟩ : Str)).length = d1 + 1 := by
            show (F0.cps ++ #[cc]).size = d1 + 1
            rw [Array.size_append]
            show F0.length + 1 = d1 + 1
            rw [hF]
          refine c_addS (by rw [hFC]; exact Nat.le_trans (show d1 + 1 + T.length ≤ 100 by omega) (by decide)) ?_
          walk_at "go"
          have hzc' : ∀ c ∈ B.cps.toList, 97 ≤ c ∧ c ≤ 122 := fun c hc => hzc c (by rw [← hBe] at hc; exact hc)
          have hN : NmOk (F0 ++ (⟨#[cc]⟩ : Str) ++ T) := nm_cat (b := B) (by omega) hzc' hF3 (fun c h => by rw [List.mem_singleton.mp h]; exact hcc) hT3 rfl (by omega)
          refine c_append hot (small5 (by rw [List.length_map, hw]; omega)) ?_
          refine ⟨_, _, ws ++ [F0 ++ (⟨#[cc]⟩ : Str) ++ T], rfl, sC.inner (M' := M1 o) (Stp.mut sC.gh hot gO rfl) (fun a e => .inr (by rw [e]; exact hO)), ?_, by rw [List.length_append, hw]; rfl, fun e he => ?_, hpt.upd (hpt.ne hot)⟩
          · rw [upd_same, List.map_append]
            rfl
          · rcases List.mem_append.mp he with he | he
            · exact hwn e he
            · rw [List.mem_singleton.mp he]
              exact hN
        · obtain ⟨y10, y11, ws, rfl, st, ho', hw, hwn, hpz⟩ := pv
          walk_at "go"
          have gO : G6 o = none := gO
          exact q o ws (upd G6 o _) H' (st.freeze ho' hO gO) (hpz.know (same_new gO) (by rw [upd_ne (hpz.ne ho').symm]; exact hpz.1)) (lof upd_same) hw hwn
end
abbrev sNear : Stmt := topS 20
theorem scNear : FnScope ["_law_yard_here", "_law_room", "_law_some", "_law_pair"] ["_law_yard_here", "_law_room"] (defScope sNear) := ⟨rfl, rfl, rfl, by decide +kernel, rfl, by decide +kernel, by decide +kernel⟩
section
variable {P : Program} {w : World} {K : PySem.W.Frag} {mg : Str → Option Value} {base : Heap}
def spNear (K : PySem.W.Frag) : Sp := fun vs H Q _ => ∃ (y : Addr) (x : Str) (rs : List Str) (ds : List Dr) (G : Hp), vs = [.ref y, .str x] ∧ Same G H ∧ Yard K G y rs ds ∧ ds.length < 64 ∧
  ∀ r (ys : List Str) G' H', Stp M0 G H G' H' → SqL K G' r (ys.map V.str) → ys.Perm (nb ds x) → sortedS ys = true → Q (.ref r) H'
abbrev DNear (P : Program) (w : World) (K : PySem.W.Frag) (mg : Str → Option Value) (base : Heap) : Prop := Df P w K mg base CX0 1 "_law_near" ["_law_yard_here", "_law_room"] (spNear K)
theorem use_near {G H : Hp} {y : Addr} {x : Str} {rs : List Str} {ds : List Dr} {Q : VK} {E : XK} (g0 : Same G H) (hy : Yard K G y rs ds) (hl : ds.length < 64)
    (q : ∀ r (ys : List Str) G' H', Stp M0 G H G' H' → SqL K G' r (ys.map V.str) → ys.Perm (nb ds x) → sortedS ys = true → Q (.ref r) H') : spNear K [.ref y, .str x] H Q E := ⟨y, x, rs, ds, G, rfl, g0, hy, hl, q⟩
theorem mem_pair {x : Str} {d : Dr} : decide (x ∈ [d.1, d.2]) = hasD x d := by
  unfold hasD
  by_cases h1 : d.1 = x
  · simp [h1]
  · by_cases h2 : d.2 = x
    · simp [h2]
    · simp [h1, h2, Ne.symm h1, Ne.symm h2]
theorem ok_Near {f : Addr} {fd : FuncData} (F : Fun K "_law_near" "_law_near" sNear f fd) (M : Mgs mg) : FnOk P w K mg base CX0 1 f fd ["_law_yard_here", "_law_room"] (spNear K) := by
  refine F.ok scNear (fun vs H Q E h => ?_) (fun cdv A outer s H vs Q E hr h => ?_)
  · obtain ⟨y, x, rs, ds, G, rfl, _⟩ := h
    rfl
  · obtain ⟨y, x, rs, ds, G, rfl, g0, ⟨d, xs, hy, hS, hD⟩, hl, q⟩ := h
    have hu := hu_of hr
    refine ⟨_, ((pss_cons (ps_setLc (i := 2) (own := [("_law_pair", 3)]) rfl scNear.nd rfl rfl (sw_true rfl rfl rfl (by decide +kernel)) (k_pi_list (K := K) rfl (pe_dget hu (pv 0) pe_str (fun _ _ => rfl))) (blkOk_by (N := ["_law_yard_here", "_law_room", "_law_some", "_law_pair"]) (sc := defScope sNear) (by decide +kernel)) (fun _ _ _ _ _ => (pg_name (i := 3) scNear.nd rfl (Or.inl rfl))) (fun _ _ _ _ _ => (pts_one (pt_cmpR (k_op_in (K := K) rfl) (pv 1) (pv 3) (by rfl)))) (fun _ _ _ _ _ => (pv 3)))
    (pss_one (ps_ret (pe_callB (k_sortedS (K := K) rfl) (by rfl) M.sorted (by decide +kernel) (pa_cons (pe_lc (own := [("_law_pair", 3)]) rfl scNear.nd (k_pi_list (K := K) rfl (pv 2)) (blkOk_by (N := ["_law_yard_here", "_law_room", "_law_some", "_law_pair"]) (sc := defScope sNear) (by decide +kernel)) (fun _ _ _ _ _ => (pg_name (i := 3) scNear.nd rfl (Or.inl rfl))) (fun _ _ _ _ _ => pts_nil) (fun _ _ _ _ _ => (pe_ix (k_ix_tup (K := K) rfl) (pv 3) (pe_op op_sub pe_int (pe_bmF PySem.F.plainAttrs_tuple PySem.F.slot_tuple_index PySem.F.type_tuple_index (k_tupIndex (K := K) rfl) (pv 3) (pa_cons (pv 1) pa_nil))) (fun _ _ => rfl)))) pa_nil)))))), ?_⟩
    walk_at "go0"
    refine r_dget' (hy.same g0).doors ?_
    refine lcL (M := M0) hS (by rw [hD.1]; omega) g0 (fun i acc G' H' => G = G' ∧ DrAll G acc ((ds.take i).filter (hasD x))) (fun L hL => ⟨rfl, by simpa using DrAll.nil⟩)
      (fun L i v acc G' H' Em Sk hi hL hL' gL hacc st pv hv hEm hSk => ?_) (fun L acc G' H' hL hacc st hL' gL pv => ?_)
    · obtain ⟨e, hA⟩ := pv
      subst e
      have hi' : i < ds.length := by rw [← hD.1]; exact hi
      obtain ⟨t, o, ht, hg, ho⟩ := hD.2 i _ (List.getElem?_eq_getElem hi')
      cases ht.symm.trans hv
      have e1 := take_succ_get (List.getElem?_eq_getElem hi')
      walk_at "go"
      refine ⟨rfl, ?_⟩
      walk_at "go"
      refine r_inT (frz_t (st.gh _ _ hg)) ?_
      walk_at "go"
      refine ifD (fun c => ?_) (fun c => ?_)
      · walk_at "go"
        refine hEm _ G H' st hL' gL ⟨rfl, ?_⟩
        rw [e1, List.filter_append, List.filter_cons_of_pos (by rw [← mem_pair]; exact decide_eq_true c)]
        exact hA.snoc hg ho
      · refine hSk G H' st hL' gL ⟨rfl, ?_⟩
        rw [e1, List.filter_append, List.filter_cons_of_neg (by rw [← mem_pair]; exact fun z => c (of_decide_eq_true z)), List.filter_nil, List.append_nil]
        exact hA
    · obtain ⟨e, hA⟩ := pv
      subst e
      rw [List.take_of_length_le (by rw [hD.1]; exact Nat.le_refl _)] at hA
      have sF : Stp M0 G H (upd G L (.lst acc)) H' := st.freeze hL' hL gL
      have hGL : (upd G L (.lst acc)) L = some (.lst acc) := upd_same
      have hA1 : DrAll (upd G L (.lst acc)) acc (ds.filter (hasD x)) := hA.same (same_new gL)
      generalize upd G L (.lst acc) = G1 at sF hGL hA1
      walk_at "go"
      generalize hfs : ds.filter (hasD x) = fs at hA1
      refine lcL (M := M0) (G := G1) (lof hGL) (Nat.lt_of_le_of_lt hacc (by rw [hD.1]; omega)) sF.gh (fun i acc' G' H2 => G1 = G' ∧ acc' = ((fs.take i).map (oth x)).map V.str) (fun L hL => ⟨rfl, rfl⟩)
        (fun LL i v acc' G' H2 Em Sk hi hl2 hl2' gl2 hacc' st2 pv hv hEm hSk => ?_) (fun LL acc' G' H2 hl2 hacc' st2 hl2' gl2 pv => ?_)
      · obtain ⟨e, rfl⟩ := pv
        subst e
        have hi' : i < fs.length := by rw [← hA1.1]; exact hi
        obtain ⟨t, o, ht, hg, ho⟩ := hA1.2 i _ (List.getElem?_eq_getElem hi')
        cases ht.symm.trans hv
        have hx : hasD x fs[i] = true := by
          have hm : fs[i] ∈ ds.filter (hasD x) := by rw [hfs]; exact List.getElem_mem hi'
          exact (List.mem_filter.mp hm).2
        have e1 := take_succ_get (List.getElem?_eq_getElem hi')
        have hg2 : H2 t = some (.frz o (.tup ([fs[i].1, fs[i].2].map V.str))) := st2.gh _ _ hg
        have fin : ∀ z, z = oth x fs[i] → Em (.str z) H2 := fun z ez => by
          refine hEm _ G1 H2 st2 hl2' gl2 ⟨rfl, ?_⟩
          rw [e1, List.map_append, List.map_append, ez]
          rfl
        generalize fs[i] = d at hx hg2 fin
        walk_at "go"
        refine ⟨rfl, ?_⟩
        walk_at "go"
        refine c_methF hg2 ho ?_
        walk_at "go"
        by_cases h1 : d.1 = x
        · refine c_tupIndex (j := 0) hg2 (by rw [← h1]; rfl) (fun m hm => absurd hm (Nat.not_lt_zero m)) ?_
          walk_at "go"
          refine r_ixT' (n := 1) (frz_t hg2) (by omega) rfl ?_
          exact fin _ (by unfold oth; rw [if_pos h1])
        · have h2 : d.2 = x := by
            unfold hasD at hx
            rw [decide_eq_false h1, Bool.false_or] at hx
            exact of_decide_eq_true hx
          refine c_tupIndex (j := 1) hg2 (by rw [← h2]; rfl) (fun m hm => ?_) ?_
          · have : m = 0 := by omega
            subst this
            intro e
            exact h1 (Option.some.inj e)
          walk_at "go"
          refine r_ixT' (n := 0) (frz_t hg2) (by omega) rfl ?_
          exact fin _ (by unfold oth; rw [if_neg h1])
      · obtain ⟨e, rfl⟩ := pv
        subst e
        rw [List.take_of_length_le (by rw [hA1.1]; exact Nat.le_refl _)] at hl2'
        walk_at "go"
        refine c_sorted (lof hl2') (by rw [List.length_map, ← hfs]; exact Nat.lt_of_le_of_lt (List.length_filter_le _ _) hl) (fun ys r hperm hsort nr => ?_)
        exact q r ys (upd G1 r _) _ ((sF.trans st2).trans (Stp.new st2.gh nr)) (lof upd_same) (by rw [← hfs] at hperm; exact hperm) hsort
end
abbrev sMayDoor : Stmt := topS 21
theorem scMayDoor : FnScope ["_law_yard_here", "_law_one", "_law_other", "_law_some", "_law_room"] ["_law_yard_here", "_law_one", "_law_other"] (defScope sMayDoor) := ⟨rfl, rfl, rfl, by decide +kernel, rfl, by decide +kernel, by decide +kernel⟩
abbrev sDrawnPairs : Stmt := topS 23
theorem scDrawnPairs : FnScope ["_law_pen_here", "_law_many", "_law_count", "_law_k"] ["_law_pen_here", "_law_many", "_law_count"] (defScope sDrawnPairs) := ⟨rfl, rfl, rfl, by decide +kernel, rfl, by decide +kernel, by decide +kernel⟩
section
variable {P : Program} {w : World} {K : PySem.W.Frag} {mg : Str → Option Value} {base : Heap}
def mayD (ds : List Dr) (a b : Str) : Bool := decide (a ≠ b) && decide (b ∉ nb ds a) && decide (∀ r ∈ nb ds a, r ∉ nb ds b)
def DsOk (ds : List Dr) : Prop := ∀ d ∈ ds, SOk d.1 ∧ SOk d.2
theorem nb_ok {ds : List Dr} {x z : Str} (h : DsOk ds) (hz : z ∈ nb ds x) : SOk z := by
  obtain ⟨d, hd, rfl⟩ := List.mem_map.mp hz
  have h1 := h d (List.mem_filter.mp hd).1
  unfold oth
  split
  · exact h1.2
  · exact h1.1
def spMayDoor (K : PySem.W.Frag) : Sp := fun vs H Q _ => ∃ (y : Addr) (a b : Str) (rs : List Str) (ds : List Dr) (G : Hp), vs = [.ref y, .str a, .str b] ∧ Same G H ∧ Yard K G y rs ds ∧ ds.length < 64 ∧ DsOk ds ∧
  ∀ G' H', Stp M0 G H G' H' → Q (.bl (mayD ds a b)) H'
abbrev DMayDoor (P : Program) (w : World) (K : PySem.W.Frag) (mg : Str → Option Value) (base : Heap) : Prop := Df P w K mg base CX0 2 "_law_may_door" ["_law_yard_here", "_law_one", "_law_other"] (spMayDoor K)
theorem ok_MayDoor {f : Addr} {fd : FuncData} (F : Fun K "_law_may_door" "_law_may_door" sMayDoor f fd) (M : Mgs mg) (D_near : DNear P w K mg base) : FnOk P w K mg base CX0 2 f fd ["_law_yard_here", "_law_one", "_law_other"] (spMayDoor K) := by
  refine F.ok scMayDoor (fun vs H Q E h => ?_) (fun cdv A outer s H vs Q E hr h => ?_)
  · obtain ⟨y, a, b, rs, ds, G, rfl, _⟩ := h
    rfl
  · obtain ⟨y, a, b, rs, ds, G, rfl, g0, hy, hl, hds, q⟩ := h
    have hu := hu_of hr
    have hu64 := hu64_of hr
    refine ⟨_, ((pss_cons (ps_if (PW.pt (pw_or (pt_cmpR op_eq (pv 1) (pv 2) (nomark _)) (pw_or1 (pt_cmpR (k_op_in (K := K) rfl) (pv 2) (pe_df D_near hr (by rfl) pass0 (pa_cons (pv 0) (pa_cons (pv 1) pa_nil))) (by rfl)))))
    (pss_one (ps_ret pe_bl))
    pss_nil)
    (pss_cons (ps_set (i := 3) scMayDoor.nd rfl (Or.inr rfl) (pe_df D_near hr (by rfl) pass0 (pa_cons (pv 0) (pa_cons (pv 2) pa_nil))))
    (pss_one (ps_ret (pe_cmpR (k_op_eqD (K := K) rfl hu64) (pe_lc (own := [("_law_room", 4)]) rfl scMayDoor.nd (k_pi_list (K := K) rfl (pe_df D_near hr (by rfl) pass0 (pa_cons (pv 0) (pa_cons (pv 1) pa_nil)))) (blkOk_by (N := ["_law_yard_here", "_law_one", "_law_other", "_law_some", "_law_room"]) (sc := defScope sMayDoor) (by decide +kernel)) (fun _ _ _ _ _ => (pg_name (i := 4) scMayDoor.nd rfl (Or.inl rfl))) (fun _ _ _ _ _ => (pts_one (pt_cmpR (k_op_in (K := K) rfl) (pv 4) (pv 3) (by rfl)))) (fun _ _ _ _ _ => (pv 4))) (pe_lst pa_nil) (nomark _))))))), ?_⟩
    walk_at "go0"
    refine ifD (fun c => ?_) (fun c => ?_)
    · have c' : a = b := V.str.inj c
      subst c'
      walk_at "go"
      have e : mayD ds a a = false := by unfold mayD; simp
      rw [← e]
      exact q G H (Stp.refl g0)
    · have c' : a ≠ b := fun e => c (by rw [e])
      walk_at "go"
      refine use_near g0 hy hl (fun r ys G1 H1 s1 h1 p1 _ => ?_)
      walk_at "go"
      refine r_inL (s1.gh.seq h1) ?_
      walk_at "go"
      refine ifD (fun c2 => ?_) (fun c2 => ?_)
      · walk_at "go"
        have e : mayD ds a b = false := by
          unfold mayD
          rw [decide_eq_false (p := b ∉ nb ds a) (fun z => z (p1.mem_iff.mp c2)), Bool.and_false, Bool.false_and]
        rw [← e]
        exact q G1 H1 s1
      · have c2' : b ∉ nb ds a := fun z => c2 (p1.mem_iff.mpr z)
        walk_at "go"
        refine use_near s1.gh (hy.same s1.gg) hl (fun r2 ys2 G2 H2 s2 h2 p2 _ => ?_)
        walk_at "go"
        refine use_near s2.gh (hy.same (s1.gg.trans s2.gg)) hl (fun r3 ys3 G3 H3 s3 h3 p3 _ => ?_)
        walk_at "go"
        have hn3 : ys3.length < 64 := by
          rw [p3.length_eq]
          unfold nb
          rw [List.length_map]
          exact Nat.lt_of_le_of_lt (List.length_filter_le _ _) hl
        have h23 : SqL K G3 r2 (ys2.map V.str) := s3.gg.seq h2
        refine lcL (M := M0) h3 (by rw [List.length_map]; omega) s3.gh (fun i acc G' H' => G3 = G' ∧ acc = ((ys3.take i).filter fun z => decide (z ∈ ys2)).map V.str) (fun L hL => ⟨rfl, rfl⟩)
          (fun L i v acc G' H' Em Sk hi hL hL' gL hacc st pv hv hEm hSk => ?_) (fun L acc G' H' hL hacc st hL' gL pv => ?_)
        · obtain ⟨e, rfl⟩ := pv
          subst e
          obtain ⟨z, hz, rfl⟩ := map_get hv
          have e1 := take_succ_get hz
          walk_at "go"
          refine ⟨rfl, ?_⟩
          walk_at "go"
          refine r_inL (st.gh.seq h23) ?_
          walk_at "go"
          refine ifD (fun c3 => ?_) (fun c3 => ?_)
          · walk_at "go"
            refine hEm _ G3 H' st hL' gL ⟨rfl, ?_⟩
            rw [e1, filt_yes (p := fun z => decide (z ∈ ys2)) (decide_eq_true c3), List.map_append]
            rfl
          · refine hSk G3 H' st hL' gL ⟨rfl, ?_⟩
            rw [e1, filt_no (p := fun z => decide (z ∈ ys2)) (decide_eq_false c3)]
        · obtain ⟨e, rfl⟩ := pv
          subst e
          rw [List.take_of_length_le (by rw [List.length_map]; exact Nat.le_refl _)] at hL'
          walk_at "go"
          refine ⟨Nat.zero_le _, fun o no => ?_⟩
          have s5 : Stp M0 G H G3 (upd H' o (.lst [])) := (((s1.trans s2).trans s3).trans st).trans (Stp.newM st.gh no)
          have ho : (upd H' o (.lst [])) o = some (.lst (([] : List Str).map V.str)) := upd_same
          have hLo : (upd H' o (.lst [])) L = some (.lst ((ys3.filter fun z => decide (z ∈ ys2)).map V.str)) := by rw [upd_ne (ne_of_none hL' no)]; exact hL'
          generalize upd H' o (.lst []) = H6 at s5 ho hLo ⊢
          have hokz : ∀ z ∈ ys3.filter fun z => decide (z ∈ ys2), SOk z := fun z hz => nb_ok hds (p3.mem_iff.mp (List.mem_filter.mp hz).1)
          refine r_eqLL (lof hLo) (lof ho) hokz (fun _ h => by cases h) ?_
          have e : decide ((ys3.filter fun z => decide (z ∈ ys2)) = []) = mayD ds a b := by
            unfold mayD
            rw [decide_eq_true c', decide_eq_true c2', Bool.true_and, Bool.true_and]
            refine decide_eq_decide.mpr ?_
            rw [List.filter_eq_nil_iff]
            exact ⟨fun h r hr hr2 => h r (p3.mem_iff.mpr hr) (decide_eq_true (p2.mem_iff.mpr hr2)), fun h r hr hr2 => h r (p3.mem_iff.mp hr) (p2.mem_iff.mp (of_decide_eq_true hr2))⟩
          rw [e]
          exact q G3 H6 s5
end
abbrev sWithDoors : Stmt := topS 22
theorem scWithDoors : FnScope ["_law_rooms", "_law_pairs", "_law_yard_here", "_law_k", "_law_j"] ["_law_rooms", "_law_pairs"] (defScope sWithDoors) := ⟨rfl, rfl, rfl, by decide +kernel, rfl, by decide +kernel, by decide +kernel⟩
section
variable {P : Program} {w : World} {K : PySem.W.Frag} {mg : Str → Option Value} {base : Heap}
def spDrawnPairs (K : PySem.W.Frag) : Sp := fun vs H Q _ => ∃ (p : Addr) (i j : Int) (m c n : Nat) (G : Hp), vs = [.ref p, .int i, .int j] ∧ Same G H ∧ Pen K G p n H ∧ n + 2 * c < 2 ^ 40 ∧ i = (m : Int) ∧ 1 ≤ m ∧ m < 2 ^ 30 ∧ j = (c : Int) ∧ c < 1000 ∧
  ∀ r xs ps G' H', Stp (M1 p) G H G' H' → Pen K G' p (n + 2 * c) H' → G' r = some (.lst xs) → PrAll K G' xs ps → ps.length = c → PrIn m ps → Q (.ref r) H'
abbrev DDrawnPairs (P : Program) (w : World) (K : PySem.W.Frag) (mg : Str → Option Value) (base : Heap) : Prop := Df P w K mg base CX0 2 "_law_drawn_pairs" ["_law_pen_here", "_law_many", "_law_count"] (spDrawnPairs K)
theorem ok_DrawnPairs {f : Addr} {fd : FuncData} (F : Fun K "_law_drawn_pairs" "_law_drawn_pairs" sDrawnPairs f fd) (M : Mgs mg) (D_draw : DDraw P w K mg base) : FnOk P w K mg base CX0 2 f fd ["_law_pen_here", "_law_many", "_law_count"] (spDrawnPairs K) := by
  refine F.ok scDrawnPairs (fun vs H Q E h => ?_) (fun cdv A outer s H vs Q E hr h => ?_)
  · obtain ⟨p, i, j, m, c, n, G, rfl, _⟩ := h
    rfl
  · obtain ⟨p, i, j, m, c, n, G, rfl, g0, hp, hn, rfl, hm, hm2, rfl, hc, q⟩ := h
    refine ⟨_, ((pss_one (ps_ret (pe_lc (own := [("_law_k", 3)]) rfl scDrawnPairs.nd (pi_range1 (by rfl) M.range (pa_cons (pv 2) pa_nil)) (blkOk_by (N := ["_law_pen_here", "_law_many", "_law_count", "_law_k"]) (sc := defScope sDrawnPairs) (by decide +kernel)) (fun _ _ _ _ _ => (pg_name (i := 3) scDrawnPairs.nd rfl (Or.inl rfl))) (fun _ _ _ _ _ => pts_nil) (fun _ _ _ _ _ => (pe_tup (pa_cons (pe_df D_draw hr (by rfl) pass0 (pa_cons (pv 0) (pa_cons (pv 1) pa_nil))) (pa_cons (pe_df D_draw hr (by rfl) pass0 (pa_cons (pv 0) (pa_cons (pv 1) pa_nil))) pa_nil)))))))), ?_⟩
    walk_at "go0"
    refine lcR1 (M := M1 p) (n := c) rfl (by omega) g0 (fun i acc G' H' => ∃ ps, PrAll K G' acc ps ∧ ps.length = i ∧ PrIn m ps ∧ Pen K G' p (n + 2 * i) H') (fun L hL => ⟨[], .nil, rfl, (fun _ h => by cases h), hp.upd (hp.new hL)⟩)
      (fun L i acc G' H' Em Sk hi hL hL' gL hacc st pv hEm hSk => ?_) (fun L acc G' H' hL hacc st hL' gL pv => ?_)
    · obtain ⟨ps, hps, hpl, hpi, hpz⟩ := pv
      walk_at "go"
      refine ⟨rfl, ?_⟩
      walk_at "go"
      refine use_draw (m := m) st.gh hpz (by omega) rfl hm hm2 (fun d1 H1 hd1 s1 hp1 => ?_)
      walk_at "go"
      refine use_draw (m := m) s1.gh hp1 (by omega) rfl hm hm2 (fun d2 H2 hd2 s2 hp2 => ?_)
      walk_at "go"
      refine ⟨by show 2 ≤ sizeLine; decide, fun t nt => ?_⟩
      have s3 := (st.trans s1).trans s2
      have hL2 : H2 L = some (.lst acc) := s2.up _ _ (hp1.ne (s1.up _ _ (hpz.ne hL') hL')) (s1.up _ _ (hpz.ne hL') hL')
      have sN : Stp (M1 p) G' H2 (upd G' t (.tup [.int (d1 : Int), .int (d2 : Int)])) (upd H2 t (.tup [.int (d1 : Int), .int (d2 : Int)])) := Stp.new s2.gh nt
      have nLt : L ≠ t := ne_of_none hL2 nt
      refine hEm _ _ _ (s3.trans sN) (by rw [upd_ne nLt]; exact hL2) (by rw [upd_ne nLt]; exact gL) ⟨ps ++ [(d1, d2)], (hps.same sN.gg).snoc (tof upd_same), by rw [List.length_append, hpl]; rfl, fun e he => ?_, ?_⟩
      · rcases List.mem_append.mp he with he | he
        · exact hpi e he
        · rw [List.mem_singleton.mp he]
          exact ⟨hd1, hd2⟩
      · exact ((hp2.stp (Stp.new (M := M0) s2.gh nt) (fun z => z)).upd (hp2.ne hL2)).mono (by omega)
    · obtain ⟨ps, hps, hpl, hpi, hpz⟩ := pv
      exact q L acc ps (upd G' L _) H' (st.freeze hL' hL gL) (hpz.know (same_new gL) (by rw [upd_ne (hpz.ne hL').symm]; exact hpz.1)) upd_same (hps.same (same_new gL)) hpl hpi
def gR (rs : List Str) (i : Nat) : Str := rs.getD i ⟨#[]⟩
def stepD (rs : List Str) (ds : List Dr) (q : Nat × Nat) : List Dr := if mayD ds (gR rs q.1) (gR rs q.2) = true then ds ++ [(gR rs q.1, gR rs q.2)] else ds
def withD (rs : List Str) (ps : List (Nat × Nat)) : List Dr := ps.foldl (stepD rs) []
theorem withD_snoc (rs : List Str) (ps : List (Nat × Nat)) (q : Nat × Nat) : withD rs (ps ++ [q]) = stepD rs (withD rs ps) q := by unfold withD; rw [List.foldl_append]; rfl
theorem stepD_len (rs : List Str) (ds : List Dr) (q : Nat × Nat) : (stepD rs ds q).length ≤ ds.length + 1 := by
  unfold stepD
  split
  · rw [List.length_append]; exact Nat.le_refl _
  · omega
theorem foldD_len (rs : List Str) (ps : List (Nat × Nat)) : ∀ ds, (ps.foldl (stepD rs) ds).length ≤ ds.length + ps.length := by
  induction ps with
  | nil => intro ds; simp
  | cons q ps ih => intro ds; have h := ih (stepD rs ds q); have h2 := stepD_len rs ds q; rw [List.foldl_cons, List.length_cons]; omega
theorem withD_len (rs : List Str) (ps : List (Nat × Nat)) : (withD rs ps).length ≤ ps.length := by have h := foldD_len rs ps []; simp only [List.length_nil, Nat.zero_add] at h; exact h
theorem withD_ok {rs : List Str} (h : ∀ z ∈ rs, NmOk z) : ∀ (ps : List (Nat × Nat)) , PrIn rs.length ps → ∀ ds, (∀ d ∈ ds, d.1 ∈ rs ∧ d.2 ∈ rs) → ∀ d ∈ ps.foldl (stepD rs) ds, d.1 ∈ rs ∧ d.2 ∈ rs
  | [], _, ds, hd => hd
  | q :: ps, hp, ds, hd => by
    rw [List.foldl_cons]
    refine withD_ok h ps (fun e he => hp e (List.mem_cons_of_mem _ he)) _ ?_
    unfold stepD
    have hq := hp q List.mem_cons_self
    split
    · intro d hd'
      rcases List.mem_append.mp hd' with h1 | h1
      · exact hd d h1
      · rw [List.mem_singleton.mp h1]
        unfold gR
        rw [List.getD_eq_getElem?_getD, List.getD_eq_getElem?_getD, List.getElem?_eq_getElem hq.1, List.getElem?_eq_getElem hq.2]
        exact ⟨List.getElem_mem hq.1, List.getElem_mem hq.2⟩
    · exact hd
theorem withD_in {rs : List Str} (h : ∀ z ∈ rs, NmOk z) {ps : List (Nat × Nat)} (hp : PrIn rs.length ps) : ∀ d ∈ withD rs ps, d.1 ∈ rs ∧ d.2 ∈ rs := withD_ok h ps hp [] (fun _ h => by cases h)
theorem gR_get {rs : List Str} {i : Nat} (h : i < rs.length) : (rs.map V.str)[i]? = some (.str (gR rs i)) := by
  unfold gR
  rw [List.getElem?_map, List.getD_eq_getElem?_getD, List.getElem?_eq_getElem h]
  rfl
def spWithDoors (K : PySem.W.Frag) : Sp := fun vs H Q _ => ∃ (r l : Addr) (rs : List Str) (xs : List V) (ps : List (Nat × Nat)) (G : Hp), vs = [.ref r, .ref l] ∧ Same G H ∧ SqL K G r (rs.map V.str) ∧ (∀ z ∈ rs, NmOk z) ∧ SqL K G l xs ∧ PrAll K G xs ps ∧ PrIn rs.length ps ∧ ps.length < 64 ∧ 
  ∀ y G' H', Stp M0 G H G' H' → Yard K G' y rs (withD rs ps) → Q (.ref y) H'
abbrev DWithDoors (P : Program) (w : World) (K : PySem.W.Frag) (mg : Str → Option Value) (base : Heap) : Prop := Df P w K mg base CX0 3 "_law_with_doors" ["_law_rooms", "_law_pairs"] (spWithDoors K)
theorem ok_WithDoors {f : Addr} {fd : FuncData} (F : Fun K "_law_with_doors" "_law_with_doors" sWithDoors f fd) (M : Mgs mg) (D_may_door : DMayDoor P w K mg base) : FnOk P w K mg base CX0 3 f fd ["_law_rooms", "_law_pairs"] (spWithDoors K) := by
  refine F.ok scWithDoors (fun vs H Q E h => ?_) (fun cdv A outer s H vs Q E hr h => ?_)
  · obtain ⟨r, l, rs, xs, ps, G, rfl, _⟩ := h
    rfl
  · obtain ⟨r, l, rs, xs, ps, G, rfl, g0, hR, hRn, hX, hP, hPi, hPl, q⟩ := h
    have hu := hu_of hr
    refine ⟨_, ((pss_cons (ps_set (i := 2) scWithDoors.nd rfl (Or.inl rfl) (pe_disp (pps_cons pe_str (pe_callTy (k_list (K := K) rfl) (by rfl) M.list_ (by decide +kernel) (pa_cons (pv 0) pa_nil)) (pps_cons pe_str (pe_lst pa_nil) pps_nil)) (by rfl) (by rfl) (fun z => by cases z) (by decide)))
    (pss_cons (ps_for PassesOwn.never rfl (k_pi_list (K := K) rfl (pv 1)) (k_pg_tup (K := K) rfl rfl (pgs_cons (pg_name (i := 3) scWithDoors.nd rfl (Or.inl rfl)) (pgs_cons (pg_name (i := 4) scWithDoors.nd rfl (Or.inl rfl)) pgs_nil)))
    (pss_one (ps_if (pt_val (pe_df D_may_door hr (by rfl) pass0 (pa_cons (pv 2) (pa_cons (pe_ix (k_ix_list (K := K) rfl) (pv 0) (pv 3) (fun _ _ => rfl)) (pa_cons (pe_ix (k_ix_list (K := K) rfl) (pv 0) (pv 4) (fun _ _ => rfl)) pa_nil)))))
    (pss_one (ps_expr (k_bm (K := K) rfl PySem.F.plainAttrs_list PySem.F.slot_list_append PySem.F.type_list_append mt_append (pe_dget hu (pv 2) pe_str (fun _ _ => rfl)) (pa_cons (pe_tupF (pa_cons (pe_ix (k_ix_list (K := K) rfl) (pv 0) (pv 3) (fun _ _ => rfl)) (pa_cons (pe_ix (k_ix_list (K := K) rfl) (pv 0) (pv 4) (fun _ _ => rfl)) pa_nil))) pa_nil))))
    pss_nil)))
    (pss_one (ps_ret (pv 2)))))), ?_⟩
    walk_at "go0"
    intro y ny
    walk_at "go"
    have s1 : Stp M0 G H G (upd H y (.dK [])) := Stp.newM g0 ny
    have hy1 : (upd H y (.dK [])) y = some (.dK []) := upd_same
    generalize upd H y (.dK []) = H1 at s1 hy1 ⊢
    refine c_list (.inl (s1.gh.seq hR)) (fun a na => ?_)
    have s2 : Stp M0 G H (upd G a (.lst (rs.map V.str))) (upd H1 a (.lst (rs.map V.str))) := s1.trans (Stp.new s1.gh na)
    have ha2 : SqL K (upd G a (.lst (rs.map V.str))) a (rs.map V.str) := lof upd_same
    have hy2 : (upd H1 a (.lst (rs.map V.str))) y = some (.dK []) := by rw [upd_ne (ne_of_none hy1 na)]; exact hy1
    have gy2 : (upd G a (.lst (rs.map V.str))) y = none := by rw [upd_ne (ne_of_none hy1 na)]; exact none_of g0 ny
    generalize upd H1 a (.lst (rs.map V.str)) = H2 at s2 hy2 ⊢
    generalize upd G a (.lst (rs.map V.str)) = G2 at s2 ha2 gy2 ⊢
    walk_at "go"
    refine ⟨Nat.zero_le _, fun d nd => ?_⟩
    have s3 : Stp M0 G H G2 (upd H2 d (.lst [])) := s2.trans (Stp.newM s2.gh nd)
    have hd3 : (upd H2 d (.lst [])) d = some (.lst []) := upd_same
    have hy3 : (upd H2 d (.lst [])) y = some (.dK []) := by rw [upd_ne (ne_of_none hy2 nd)]; exact hy2
    have gd3 : G2 d = none := none_of s2.gh nd
    have nyd : y ≠ d := ne_of_none hy2 nd
    have hH : H d = none := s2.free nd
    generalize upd H2 d (.lst []) = H3 at s3 hd3 hy3 ⊢
    walk_at "go"
    refine ⟨hy3, [(.inr "rooms", .ref a), (.inr "doors", .ref d)], rfl, (by show 2 ≤ 15; decide), ?_⟩
    rw [merge2 (by decide +kernel)]
    have s4 : Stp M0 G H G2 (upd H3 y (.dK [(.inr "rooms", .ref a), (.inr "doors", .ref d)])) := s3.inner (M' := M1 y) (Stp.mut s3.gh hy3 gy2 rfl) (fun b e => .inr (by rw [e]; exact ny))
    have hy4 : (upd H3 y (.dK [(.inr "rooms", .ref a), (.inr "doors", .ref d)])) y = some (.dK [(.inr "rooms", .ref a), (.inr "doors", .ref d)]) := upd_same
    have hd4 : (upd H3 y (.dK [(.inr "rooms", .ref a), (.inr "doors", .ref d)])) d = some (.lst []) := by rw [upd_ne nyd.symm]; exact hd3
    generalize upd H3 y (.dK [(.inr "rooms", .ref a), (.inr "doors", .ref d)]) = H4 at s4 hy4 hd4 ⊢
    have s5 : Stp M0 G H (upd G2 y (.dK [(.inr "rooms", .ref a), (.inr "doors", .ref d)])) H4 := s4.freeze hy4 ny gy2
    have hY : Yd K (upd G2 y (.dK [(.inr "rooms", .ref a), (.inr "doors", .ref d)])) y rs d := ⟨a, upd_same, (same_new gy2).seq ha2⟩
    have gd5 : (upd G2 y (.dK [(.inr "rooms", .ref a), (.inr "doors", .ref d)])) d = none := by rw [upd_ne nyd.symm]; exact gd3
    generalize upd G2 y (.dK [(.inr "rooms", .ref a), (.inr "doors", .ref d)]) = G5 at s5 hY gd5
    walk_at "go"
    refine loopL (xs := xs) ((s5.gg.trans s5.gh).seq hX) (fun i σ H' => ∃ y3 y4, ∃ (G' : Hp) (zs : List V), σ = [some (.ref r), some (.ref l), some (.ref y), y3, y4] ∧ Stp M0 G H G' H' ∧ Same G5 G' ∧ H' d = some (.lst zs) ∧ G' d = none ∧ DrAll G' zs (withD rs (ps.take i)))
      ⟨none, none, G5, [], rfl, s5, Same.refl _, hd4, gd5, .nil⟩ (fun i σ H' _ pv => ?_) (fun i v σ H' hi hv pv => ?_) (fun σ H' pv => ?_)
    · obtain ⟨_, _, G', _, _, st, _⟩ := pv
      exact (st.gg.trans st.gh).seq hX
    · obtain ⟨y3, y4, G', zs, rfl, st, sg, hdz, gdz, hz⟩ := pv
      have hi' : i < ps.length := by rw [← hP.1]; exact hi
      obtain ⟨t, ht, hst⟩ := hP.2 i _ (List.getElem?_eq_getElem hi')
      cases ht.symm.trans hv
      have e1 := take_succ_get (List.getElem?_eq_getElem hi')
      have hin := hPi _ (List.getElem_mem hi')
      have hpin : PrIn rs.length (ps.take i) := fun e he => hPi e (List.mem_of_mem_take he)
      generalize ps[i] = pr at hst e1 hin
      refine r_gtup (Same.sqt (st.gg.trans st.gh) hst) rfl ?_
      walk_at "go"
      have hRs : SqL K H' r (rs.map V.str) := (st.gg.trans st.gh).seq hR
      refine r_ixL' hRs rfl (gR_get hin.1) ?_
      walk_at "go"
      refine r_ixL' hRs rfl (gR_get hin.2) ?_
      walk_at "go"
      have hwl : (withD rs (ps.take i)).length < 64 := Nat.lt_of_le_of_lt (withD_len _ _) (by rw [List.length_take]; omega)
      have hds : DsOk (withD rs (ps.take i)) := fun e he => by
        have h := withD_in hRn hpin e he
        exact ⟨(hRn _ h.1).sok, (hRn _ h.2).sok⟩
      have hG1 : Same (upd G' d (.lst zs)) H' := fun b o e => by
        by_cases h : b = d
        · subst h; rw [upd_same] at e; rw [hdz]; exact e
        · rw [upd_ne h] at e; exact st.gh b o e
      refine ⟨y, _, _, rs, withD rs (ps.take i), upd G' d (.lst zs), rfl, hG1, ⟨d, zs, (hY.same sg).same (same_new gdz), lof upd_same, hz.same (same_new gdz)⟩, hwl, hds, fun G6 H6 s6 => ?_⟩
      have s7 : Stp M0 G' H' G' H6 := s6.forget st.gh (fun _ z => z.elim)
      have hd6 : H6 d = some (.lst zs) := s6.up _ _ (fun z => z) hdz
      clear s6 hG1
      walk_at "go"
      have est : withD rs (ps.take (i + 1)) = stepD rs (withD rs (ps.take i)) pr := by rw [e1, withD_snoc]
      by_cases c : mayD (withD rs (ps.take i)) (gR rs pr.1) (gR rs pr.2) = true
      · rw [c]
        walk_at "go"
        refine r_dget' (((hY.same sg).same s7.gh).doors) ?_
        walk_at "go"
        refine r_ixL' ((s7.gg.trans s7.gh).seq (st.gg.seq hR)) rfl (gR_get hin.1) ?_
        walk_at "go"
        refine r_ixL' ((s7.gg.trans s7.gh).seq (st.gg.seq hR)) rfl (gR_get hin.2) ?_
        walk_at "go"
        refine ⟨by show 2 ≤ sizeLine; decide, fun t2 o2 nt2 ho2 => ?_⟩
        have s8 : Stp M0 G' H6 (upd G' t2 (.frz o2 (.tup [.str (gR rs pr.1), .str (gR rs pr.2)]))) (upd H6 t2 (.frz o2 (.tup [.str (gR rs pr.1), .str (gR rs pr.2)]))) := Stp.new s7.gh nt2
        have hf : (upd G' t2 (.frz o2 (.tup [.str (gR rs pr.1), .str (gR rs pr.2)]))) t2 = some (.frz o2 (.tup [.str (gR rs pr.1), .str (gR rs pr.2)])) := upd_same
        have ndt : d ≠ t2 := ne_of_none hd6 nt2
        have hd8 : (upd H6 t2 (.frz o2 (.tup [.str (gR rs pr.1), .str (gR rs pr.2)]))) d = some (.lst zs) := by rw [upd_ne ndt]; exact hd6
        have gd8 : (upd G' t2 (.frz o2 (.tup [.str (gR rs pr.1), .str (gR rs pr.2)]))) d = none := by rw [upd_ne ndt]; exact gdz
        generalize upd H6 t2 (.frz o2 (.tup [.str (gR rs pr.1), .str (gR rs pr.2)])) = H8 at s8 hd8 ⊢
        generalize upd G' t2 (.frz o2 (.tup [.str (gR rs pr.1), .str (gR rs pr.2)])) = G8 at s8 hf gd8
        walk_at "go"
        have s9 : Stp M0 G H G8 H8 := (st.trans s7).trans s8
        refine c_append hd8 (small5 (by rw [hz.1]; omega)) ?_
        refine ⟨_, _, G8, zs ++ [.ref t2], rfl, s9.inner (M' := M1 d) (Stp.mut s9.gh hd8 gd8 rfl) (fun b e => .inr (by rw [e]; exact hH)), sg.trans (s7.gg.trans s8.gg), upd_same, gd8, ?_⟩
        rw [est, stepD, if_pos c]
        exact (hz.same (s7.gg.trans s8.gg)).snoc' hf ho2
      · have c' : mayD (withD rs (ps.take i)) (gR rs pr.1) (gR rs pr.2) = false := by
          cases h : mayD (withD rs (ps.take i)) (gR rs pr.1) (gR rs pr.2)
          · rfl
          · exact absurd h c
        rw [c']
        walk_at "go"
        refine ⟨_, _, G', zs, rfl, st.trans s7, sg, hd6, gdz, ?_⟩
        rw [est, stepD, if_neg c]
        exact hz
    · obtain ⟨y3, y4, G', zs, rfl, st, sg, hdz, gdz, hz⟩ := pv
      rw [List.take_of_length_le (by rw [hP.1]; exact Nat.le_refl _)] at hz
      walk_at "go"
      exact q y (upd G' d (.lst zs)) H' (st.freeze hdz hH gdz) ⟨d, zs, (hY.same sg).same (same_new gdz), lof upd_same, hz.same (same_new gdz)⟩
end
abbrev sYard : Stmt := topS 24
theorem scYard : FnScope ["_law_pen_here", "_law_most", "_law_way", "_law_many", "_law_rooms", "_law_round_pairs", "_law_half", "_law_some", "_law_bit", "_law_ones", "_law_k"] ["_law_pen_here", "_law_most"] (defScope sYard) := ⟨rfl, rfl, rfl, by decide +kernel, rfl, by decide +kernel, by decide +kernel⟩
section
variable {P : Program} {w : World} {K : PySem.W.Frag} {mg : Str → Option Value} {base : Heap}
def spYard (K : PySem.W.Frag) : Sp := fun vs H Q _ => ∃ (p : Addr) (i : Int) (m n : Nat) (G : Hp), vs = [.ref p, .int i] ∧ Same G H ∧ Pen K G p n H ∧ n + 300 < 2 ^ 40 ∧ i = (m : Int) ∧ 1 ≤ m ∧ m ≤ 16 ∧
  ∀ y (rs : List Str) (ps : List (Nat × Nat)) G' H', Stp (M1 p) G H G' H' → Pen K G' p (n + 200) H' → Yard K G' y rs (withD rs ps) → 1 ≤ rs.length → rs.length ≤ m → (∀ z ∈ rs, NmOk z) → PrIn rs.length ps → ps.length < 64 → Q (.ref y) H'
abbrev DYard (P : Program) (w : World) (K : PySem.W.Frag) (mg : Str → Option Value) (base : Heap) : Prop := Df P w K mg base CX0 4 "_law_yard" ["_law_pen_here", "_law_most"] (spYard K)
theorem ok_Yard {f : Addr} {fd : FuncData} (F : Fun K "_law_yard" "_law_yard" sYard f fd) (M : Mgs mg) (D_draw : DDraw P w K mg base) (D_names : DNames P w K mg base) (D_drawn_pairs : DDrawnPairs P w K mg base) (D_with_doors : DWithDoors P w K mg base) : FnOk P w K mg base CX0 4 f fd ["_law_pen_here", "_law_most"] (spYard K) := by
  refine F.ok scYard (fun vs H Q E h => ?_) (fun cdv A outer s H vs Q E hr h => ?_)
  · obtain ⟨p, i, m, n, G, rfl, _⟩ := h
    rfl
  · obtain ⟨p, i, m, n, G, rfl, g0, hp, hn, rfl, hm, hm2, q⟩ := h
    refine ⟨_, ((pss_cons (ps_asg (pe_tup (pa_cons (pe_df D_draw hr (by rfl) pass0 (pa_cons (pv 0) (pa_cons pe_int pa_nil))) (pa_cons (pe_op op_add pe_int (pe_df D_draw hr (by rfl) pass0 (pa_cons (pv 0) (pa_cons (pv 1) pa_nil)))) pa_nil))) (k_pg_tup (K := K) rfl rfl (pgs_cons (pg_name (i := 2) scYard.nd rfl (Or.inl rfl)) (pgs_cons (pg_name (i := 3) scYard.nd rfl (Or.inr rfl)) pgs_nil))))
    (pss_cons (ps_set (i := 3) scYard.nd rfl (Or.inr rfl) (pe_ifExp (pt_cmpR op_gt (pe_df D_draw hr (by rfl) pass0 (pa_cons (pv 0) (pa_cons pe_int pa_nil))) pe_int (nomark _)) (pe_callB (call_maxK rfl) (by rfl) M.max (by decide +kernel) (pa_cons (pv 3) (pa_cons (pe_callB (call_minK rfl) (by rfl) M.min (by decide +kernel) (pa_cons pe_int (pa_cons (pv 1) pa_nil))) pa_nil))) (pv 3)))
    (pss_cons (ps_set (i := 4) scYard.nd rfl (Or.inl rfl) (pe_df D_names hr (by rfl) pass0 (pa_cons (pv 0) (pa_cons (pv 3) pa_nil))))
    (pss_cons (ps_setLc (i := 5) (own := [("_law_k", 10)]) rfl scYard.nd rfl rfl (sw_true rfl rfl rfl (by decide +kernel)) (pi_range1 (by rfl) M.range (pa_cons (pv 3) pa_nil)) (blkOk_by (N := ["_law_pen_here", "_law_most", "_law_way", "_law_many", "_law_rooms", "_law_round_pairs", "_law_half", "_law_some", "_law_bit", "_law_ones", "_law_k"]) (sc := defScope sYard) (by decide +kernel)) (fun _ _ _ _ _ => (pg_name (i := 10) scYard.nd rfl (Or.inl rfl))) (fun _ _ _ _ _ => pts_nil) (fun _ _ _ _ _ => (pe_tup (pa_cons (pv 10) (pa_cons (pe_op op_mod (pe_op op_add (pv 10) pe_int) (pv 3)) pa_nil)))))
    (pss_cons (ps_asg (pe_tup (pa_cons (pe_callB (call_maxK rfl) (by rfl) M.max (by decide +kernel) (pa_cons pe_int (pa_cons (pe_op op_fdiv (pv 3) pe_int) pa_nil))) (pa_cons (pe_lst pa_nil) pa_nil))) (k_pg_tup (K := K) rfl rfl (pgs_cons (pg_name (i := 6) scYard.nd rfl (Or.inr rfl)) (pgs_cons (pg_name (i := 7) scYard.nd rfl (Or.inl rfl)) pgs_nil))))
    (pss_cons (ps_if (pt_cmpR op_lt (pv 2) pe_int (nomark _))
    (pss_one (ps_set (i := 7) scYard.nd rfl (Or.inl rfl) (pe_op op_cat (pv 5) (pe_df D_drawn_pairs hr (by rfl) pass0 (pa_cons (pv 0) (pa_cons (pv 3) (pa_cons (pe_ix (k_ix_list (K := K) rfl) (pe_lst (pa_cons pe_int (pa_cons pe_int (pa_cons pe_int pa_nil)))) (pv 2) (fun _ _ => rfl)) pa_nil)))))))
    (pss_one (ps_if (pt_cmpR op_eq (pv 2) pe_int (nomark _))
    (pss_one (ps_setLc (i := 7) (own := [("_law_k", 10)]) rfl scYard.nd rfl rfl (sw_true rfl rfl rfl (by decide +kernel)) (pi_range2 (by rfl) M.range (pa_cons pe_int (pa_cons (pv 3) pa_nil))) (blkOk_by (N := ["_law_pen_here", "_law_most", "_law_way", "_law_many", "_law_rooms", "_law_round_pairs", "_law_half", "_law_some", "_law_bit", "_law_ones", "_law_k"]) (sc := defScope sYard) (by decide +kernel)) (fun _ _ _ _ _ => (pg_name (i := 10) scYard.nd rfl (Or.inl rfl))) (fun _ _ _ _ _ => pts_nil) (fun _ _ _ _ _ => (pe_tup (pa_cons (pv 10) (pa_cons (pe_df D_draw hr (by rfl) pass0 (pa_cons (pv 0) (pa_cons (pv 10) pa_nil))) pa_nil))))))
    (pss_one (ps_if (pt_cmpR op_eq (pv 2) pe_int (nomark _))
    (pss_cons (ps_setLc (i := 7) (own := [("_law_k", 10)]) rfl scYard.nd rfl rfl (sw_true rfl rfl rfl (by decide +kernel)) (pi_range1 (by rfl) M.range (pa_cons (pe_op op_sub (pv 3) (pv 6)) pa_nil)) (blkOk_by (N := ["_law_pen_here", "_law_most", "_law_way", "_law_many", "_law_rooms", "_law_round_pairs", "_law_half", "_law_some", "_law_bit", "_law_ones", "_law_k"]) (sc := defScope sYard) (by decide +kernel)) (fun _ _ _ _ _ => (pg_name (i := 10) scYard.nd rfl (Or.inl rfl))) (fun _ _ _ _ _ => pts_nil) (fun _ _ _ _ _ => (pe_tup (pa_cons (pv 10) (pa_cons (pe_op op_add (pv 6) (pv 10)) pa_nil)))))
    (pss_one (ps_set (i := 7) scYard.nd rfl (Or.inl rfl) (pe_op op_cat (pv 7) (pe_lc (own := [("_law_k", 10)]) rfl scYard.nd (pi_range1 (by rfl) M.range (pa_cons (pe_op op_sub (pv 3) pe_int) pa_nil)) (blkOk_by (N := ["_law_pen_here", "_law_most", "_law_way", "_law_many", "_law_rooms", "_law_round_pairs", "_law_half", "_law_some", "_law_bit", "_law_ones", "_law_k"]) (sc := defScope sYard) (by decide +kernel)) (fun _ _ _ _ _ => (pg_name (i := 10) scYard.nd rfl (Or.inl rfl))) (fun _ _ _ _ _ => (pts_one (pt_cmpR op_ne (pv 10) (pe_op op_sub (pv 6) pe_int) (nomark _)))) (fun _ _ _ _ _ => (pe_tup (pa_cons (pv 10) (pa_cons (pe_op op_add (pv 10) pe_int) pa_nil)))))))))
    (pss_one (ps_if (pt_cmpR op_eq (pv 2) pe_int (nomark _))
    (pss_one (ps_for PassesOwn.never rfl (k_pi_tup (K := K) rfl (pe_tup (pa_cons pe_int (pa_cons pe_int (pa_cons pe_int pa_nil))))) (pg_name (i := 8) scYard.nd rfl (Or.inr rfl))
    (pss_cons (ps_setLc (i := 9) (own := [("_law_k", 10)]) rfl scYard.nd rfl rfl (sw_true rfl rfl rfl (by decide +kernel)) (pi_range1 (by rfl) M.range (pa_cons (pe_op op_sub (pv 3) (pv 8)) pa_nil)) (blkOk_by (N := ["_law_pen_here", "_law_most", "_law_way", "_law_many", "_law_rooms", "_law_round_pairs", "_law_half", "_law_some", "_law_bit", "_law_ones", "_law_k"]) (sc := defScope sYard) (by decide +kernel)) (fun _ _ _ _ _ => (pg_name (i := 10) scYard.nd rfl (Or.inl rfl))) (fun _ _ _ _ _ => (pts_one (pt_cmpR op_eq (pe_op op_mod (pe_op op_fdiv (pv 10) (pv 8)) pe_int) pe_int (nomark _)))) (fun _ _ _ _ _ => (pv 10)))
    (pss_one (ps_expr (k_bm (K := K) rfl PySem.F.plainAttrs_list PySem.F.slot_list_extend PySem.F.type_list_extend mt_extend (pv 7) (pa_cons (pe_lc (own := [("_law_k", 10)]) rfl scYard.nd (k_pi_list (K := K) rfl (pv 9)) (blkOk_by (N := ["_law_pen_here", "_law_most", "_law_way", "_law_many", "_law_rooms", "_law_round_pairs", "_law_half", "_law_some", "_law_bit", "_law_ones", "_law_k"]) (sc := defScope sYard) (by decide +kernel)) (fun _ _ _ _ _ => (pg_name (i := 10) scYard.nd rfl (Or.inl rfl))) (fun _ _ _ _ _ => pts_nil) (fun _ _ _ _ _ => (pe_tup (pa_cons (pv 10) (pa_cons (pe_op op_add (pv 10) (pv 8)) pa_nil))))) pa_nil)))))))
    (pss_one (ps_if (pt_cmpR op_eq (pv 2) pe_int (nomark _))
    (pss_cons (ps_setLc (i := 7) (own := [("_law_k", 10)]) rfl scYard.nd rfl rfl (sw_true rfl rfl rfl (by decide +kernel)) (pi_range1 (by rfl) M.range (pa_cons (pv 6) pa_nil)) (blkOk_by (N := ["_law_pen_here", "_law_most", "_law_way", "_law_many", "_law_rooms", "_law_round_pairs", "_law_half", "_law_some", "_law_bit", "_law_ones", "_law_k"]) (sc := defScope sYard) (by decide +kernel)) (fun _ _ _ _ _ => (pg_name (i := 10) scYard.nd rfl (Or.inl rfl))) (fun _ _ _ _ _ => pts_nil) (fun _ _ _ _ _ => (pe_tup (pa_cons (pv 10) (pa_cons (pe_op op_mod (pe_op op_add (pv 10) pe_int) (pv 6)) pa_nil)))))
    (pss_one (ps_set (i := 7) scYard.nd rfl (Or.inl rfl) (pe_op op_cat (pv 7) (pe_lc (own := [("_law_k", 10)]) rfl scYard.nd (pi_range2 (by rfl) M.range (pa_cons (pv 6) (pa_cons (pe_op op_sub (pv 3) pe_int) pa_nil))) (blkOk_by (N := ["_law_pen_here", "_law_most", "_law_way", "_law_many", "_law_rooms", "_law_round_pairs", "_law_half", "_law_some", "_law_bit", "_law_ones", "_law_k"]) (sc := defScope sYard) (by decide +kernel)) (fun _ _ _ _ _ => (pg_name (i := 10) scYard.nd rfl (Or.inl rfl))) (fun _ _ _ _ _ => pts_nil) (fun _ _ _ _ _ => (pe_tup (pa_cons (pv 10) (pa_cons (pe_op op_add (pv 10) pe_int) pa_nil)))))))))
    (pss_one (ps_set (i := 7) scYard.nd rfl (Or.inl rfl) (pe_df D_drawn_pairs hr (by rfl) pass0 (pa_cons (pv 0) (pa_cons (pv 3) (pa_cons (pe_callB (call_minK rfl) (by rfl) M.min (by decide +kernel) (pa_cons pe_int (pa_cons (pe_op op_mul pe_int (pv 3)) pa_nil))) pa_nil)))))))))))))))
    (pss_one (ps_ret (pe_df D_with_doors hr (by rfl) pass0 (pa_cons (pv 4) (pa_cons (pv 7) pa_nil)))))))))))), ?_⟩
    walk_at "go0"
    refine use_draw (m := 9) g0 hp (by omega) rfl (by omega) (by omega) (fun way H1 hway s1 hp1 => ?_)
    walk_at "go"
    refine use_draw (m := m) s1.gh hp1 (by omega) rfl (by omega) (by omega) (fun d2 H2 hd2 s2 hp2 => ?_)
    walk_at "go"
    refine ⟨by show 2 ≤ sizeLine; decide, fun t nt => ?_⟩
    have s3 : Stp (M1 p) G H G (upd H2 t (.tup [.int (way : Int), .int (1 + (d2 : Int))])) := (s1.trans s2).trans (Stp.newM s2.gh nt)
    have ht : (upd H2 t (.tup [.int (way : Int), .int (1 + (d2 : Int))])) t = some (.tup [.int (way : Int), .int (1 + (d2 : Int))]) := upd_same
    have hp3 := hp2.upd (x := .tup [.int (way : Int), .int (1 + (d2 : Int))]) (hp2.new nt)
    generalize upd H2 t (.tup [.int (way : Int), .int (1 + (d2 : Int))]) = H3 at s3 ht hp3 ⊢
    refine r_gtup (tof ht) rfl ?_
    walk_at "go"
    refine use_draw (m := 4) s3.gh hp3 (by omega) rfl (by omega) (by omega) (fun d3 H4 hd3 s4 hp4 => ?_)
    walk_at "go"
    refine if_join (fun v => ∃ mm : Nat, v = .int (mm : Int) ∧ 1 ≤ mm ∧ mm ≤ m) (fun _ Q' hQ => ?_) (fun _ Q' hQ => ?_) (fun v hv => ?_)
    · walk_at "go"
      refine hQ _ ⟨Int.toNat _, congrArg V.int (Int.toNat_of_nonneg ?_).symm, ?_, ?_⟩ <;> (repeat' split) <;> omega
    · walk_at "go"
      exact hQ _ ⟨1 + d2, by congr 1, by omega, by omega⟩
    obtain ⟨mm, rfl, hmm, hmm2⟩ := hv
    walk_at "go"
    refine ⟨p, _, mm, _, G, rfl, s4.gh, hp4, by omega, rfl, by omega, fun r rs G5 H5 s5 hp5 hrs hrl hrn => ?_⟩
    walk_at "go"
    have s6 : Stp (M1 p) G H G5 H5 := (s3.trans s4).trans s5
    refine lcR1t (M := M0) (n := mm) (by omega) (by omega) (by omega) s5.gh (fun i acc G' _ => PrP K mm i acc G') (fun _ _ => .nil) (fun L i acc G' H' Em Sk hi hL hL' gL hacc st pv hEm hSk => ?_) (fun L acc G' H' hL hacc st hL' gL pv => ?_)
    · walk_at "go"
      refine ⟨rfl, ?_⟩
      walk_at "go"
      obtain ⟨dd, ed, hdd⟩ := mod_nat (i := (i : Int) + 1) hmm
      refine ⟨by show 2 ≤ sizeLine; decide, fun t nt => ?_⟩
      exact pair_em (a := i) (b := dd) (by omega) (by exact ed) st hL' gL pv nt hEm (by omega) (by omega)
    obtain ⟨ps1, hps1, hpl1, hpi1⟩ := pv
    have s7 : Stp (M1 p) G H (upd G' L (.lst acc)) H' := (s6.trans st.weak).freeze hL' (s6.free hL) gL
    have hp7 : Pen K (upd G' L (.lst acc)) p _ H' := (hp5.stp0 st).know (same_new gL) (by rw [upd_ne (hp5.new hL).symm]; exact (hp5.stp0 st).1)
    have gr : (upd G' L (.lst acc)) L = some (.lst acc) := upd_same
    have hrs7 : SqL K (upd G' L (.lst acc)) r (rs.map V.str) := (st.gg.trans (same_new gL)).seq hrs
    replace hps1 : PrAll K (upd G' L (.lst acc)) acc ps1 := hps1.same (same_new gL)
    generalize upd G' L (.lst acc) = G7 at s7 hp7 gr hrs7 hps1
    clear hL' gL st hp5 s5 s6 hrs
    walk_at "go"
    refine ⟨Nat.zero_le _, fun o no => ?_⟩
    have s8 : Stp (M1 p) G H G7 (upd H' o (.lst [])) := s7.trans (Stp.newM s7.gh no)
    have ho8 : (upd H' o (.lst [])) o = some (.lst []) := upd_same
    have hp8 := hp7.upd (x := .lst []) (hp7.new no)
    have go8 : G7 o = none := none_of s7.gh no
    have hoH : H o = none := s7.free no
    generalize upd H' o (.lst []) = H8 at s8 ho8 hp8 ⊢
    clear s7 hp7
    walk_at "go"
    refine ⟨by show 2 ≤ sizeLine; decide, fun t2 nt2 => ?_⟩
    obtain ⟨half, ehalf, hh1, hh2⟩ : ∃ half : Nat, (if (mm : Int) / 2 > 1 then (mm : Int) / 2 else 1) = (half : Int) ∧ 1 ≤ half ∧ half ≤ mm := ⟨Int.toNat _, (Int.toNat_of_nonneg (by split <;> omega)).symm, by split <;> omega, by split <;> omega⟩
    rw [ehalf]
    have s9 : Stp (M1 p) G H G7 (upd H8 t2 (.tup [.int (half : Int), .ref o])) := s8.trans (Stp.newM s8.gh nt2)
    have ht9 : (upd H8 t2 (.tup [.int (half : Int), .ref o])) t2 = some (.tup [.int (half : Int), .ref o]) := upd_same
    have ho9 : (upd H8 t2 (.tup [.int (half : Int), .ref o])) o = some (.lst []) := by rw [upd_ne (ne_of_none ho8 nt2)]; exact ho8
    have hp9 := hp8.upd (x := .tup [.int (half : Int), .ref o]) (hp8.new nt2)
    generalize upd H8 t2 (.tup [.int (half : Int), .ref o]) = H9 at s9 ht9 ho9 hp9 ⊢
    clear s8 hp8 ho8 ht
    refine r_gtup (tof ht9) rfl ?_
    walk_at "go"
    have fin : ∀ (l : Addr) xs ps G' H' (E' : XK), Stp (M1 p) G H G' H' → Same G7 G' → Pen K G' p (n + 200) H' → G' l = some (.lst xs) → PrAll K G' xs ps → PrIn mm ps → ps.length < 64 → spWithDoors K [.ref r, .ref l] H' Q E' := fun l xs ps G' H' E' st sg hpen hl hps hpi hpl =>
      ⟨r, l, rs, xs, ps, G', rfl, st.gh, sg.seq hrs7, hrn, lof hl, hps, (by rw [hrl]; exact hpi), hpl, fun y G2 H2 s2 hy => q y rs ps G2 H2 (st.trans s2.weak) (hpen.stp0 s2) hy (by omega) (by omega) hrn (by rw [hrl]; exact hpi) hpl⟩
    -- two lists behind one another
    have fin2 : ∀ (l1 l2 lc : Addr) xs1 xs2 ps1 ps2 G' H' (E' : XK), Stp (M1 p) G H G' H' → Same G7 G' → Pen K G' p (n + 200) H' → PrAll K G' xs1 ps1 → PrAll K G' xs2 ps2 → PrIn mm ps1 → PrIn mm ps2 → ps1.length + ps2.length < 64 → H' lc = none → spWithDoors K [.ref r, .ref lc] (upd H' lc (.lst (xs1 ++ xs2))) Q E' := fun l1 l2 lc xs1 xs2 ps1 ps2 G' H' E' st sg hpen hps hps' hpi hpi' hpl nlc =>
      fin lc (xs1 ++ xs2) (ps1 ++ ps2) (upd G' lc _) _ E' (st.trans (Stp.new st.gh nlc)) (sg.trans (same_new (none_of st.gh nlc))) (hpen.stp (Stp.new (M := M0) st.gh nlc) (fun z => z)) upd_same ((hps.app hps').same (same_new (none_of st.gh nlc))) (hpi.app hpi') (by rw [List.length_append]; exact hpl)
    refine ifD (fun c1 => ?_) (fun c1 => ?_)
    · walk_at "go"
      refine ⟨by show 3 ≤ sizeLine; decide, fun l nl => ?_⟩
      walk_at "go"
      obtain ⟨cc, hcc, hcc4⟩ : ∃ cc : Nat, ([.int 0, .int 1, .int 4] : List V)[way]? = some (.int (cc : Int)) ∧ cc ≤ 4 := by
        have h : way = 0 ∨ way = 1 ∨ way = 2 := by omega
        rcases h with rfl | rfl | rfl
        · exact ⟨0, rfl, by omega⟩
        · exact ⟨1, rfl, by omega⟩
        · exact ⟨4, rfl, by omega⟩
      refine r_ixL' (lof upd_same) rfl hcc ?_
      walk_at "go"
      have sA : Stp (M1 p) G H G7 (upd H9 l (.lst [.int 0, .int 1, .int 4])) := s9.trans (Stp.newM s9.gh nl)
      have hpA := hp9.upd (x := .lst [.int 0, .int 1, .int 4]) (hp9.new nl)
      generalize upd H9 l (.lst [.int 0, .int 1, .int 4]) = H10 at sA hpA ⊢
      refine ⟨p, _, _, mm, cc, _, G7, rfl, sA.gh, hpA, by omega, rfl, by omega, by omega, rfl, by omega, fun l2 xs2 ps2 G11 H11 sB hpB hl2 hps2 hpl2 hpi2 => ?_⟩
      walk_at "go"
      have gL11 : G11 L = some (.lst acc) := sB.gg _ _ gr
      refine r_cat (sB.gh _ _ gL11) (sB.gh _ _ hl2) (Nat.le_of_lt (small5 (by rw [hps1.1, hps2.1]; omega))) (fun lc nlc => ?_)
      walk_at "go"
      exact fin2 L l2 lc acc xs2 ps1 ps2 G11 H11 _ (sA.trans sB) sB.gg (hpB.mono (by omega)) (hps1.same sB.gg) hps2 hpi1 hpi2 (by omega) nlc
    · walk_at "go"
      refine ifD (fun c3 => ?_) (fun c3 => ?_)
      · walk_at "go"
        refine lcR2 (M := M1 p) (n := mm - 1) (by omega) (by omega) (by omega) s9.gh (fun i acc G' H' => PrP K mm i acc G' ∧ Pen K G' p (n + 1 + 1 + 1 + 20 + i) H') (fun L hL => ⟨.nil, (hp9.upd (hp9.new hL)).mono (by omega)⟩) (fun L i acc G' H' Em Sk hi hL hL' gL hacc st pv hEm hSk => ?_) (fun L acc G' H' hL hacc st hL' gL pv => ?_)
        · obtain ⟨pv, hpz⟩ := pv
          walk_at "go"
          refine ⟨rfl, ?_⟩
          walk_at "go"
          refine use_draw (m := 1 + i) st.gh hpz (by omega) (by omega) (by omega) (by omega) (fun dd H10 hdd s10 hp10 => ?_)
          walk_at "go"
          refine ⟨by show 2 ≤ sizeLine; decide, fun t nt => ?_⟩
          have hL10 : H10 L = some (.lst acc) := s10.up _ _ (hpz.ne hL') hL'
          have hne : t ≠ p := hp10.new nt
          exact pair_emP (a := 1 + i) (b := dd) (by omega) rfl (st.trans s10) hL10 gL pv nt hEm (by omega) (by omega) (hp10.mono (by omega)) 
        · obtain ⟨⟨ps, hps, hpl, hpi⟩, hpz⟩ := pv
          walk_at "go"
          have sB : Stp (M1 p) G H (upd G' L (.lst acc)) H' := (s9.trans st).freeze hL' (s9.free hL) gL
          exact fin L acc ps (upd G' L _) H' _ sB (st.gg.trans (same_new gL)) ((hpz.know (same_new gL) (by rw [upd_ne (hpz.ne hL').symm]; exact hpz.1)).mono (by omega)) upd_same (hps.same (same_new gL)) hpi (by omega)
      · walk_at "go"
        refine ifD (fun c4 => ?_) (fun c4 => ?_)
        · walk_at "go"
          refine lcR1t (M := M0) (n := mm - half) (by omega) (by omega) (by omega) s9.gh (fun i acc G' _ => PrP K mm i acc G') (fun _ _ => .nil) (fun L i acc G' H' Em Sk hi hL hL' gL hacc st pv hEm hSk => ?_) (fun L acc G' H' hL hacc st hL' gL pv => ?_)
          · walk_at "go"
            refine ⟨rfl, ?_⟩
            walk_at "go"
            refine ⟨by show 2 ≤ sizeLine; decide, fun t nt => ?_⟩
            exact pair_em (a := i) (b := half + i) (by rfl) (by omega) st hL' gL pv nt hEm (by omega) (by omega)
          obtain ⟨psA, hpsA, hplA, hpiA⟩ := pv
          have sA : Stp (M1 p) G H (upd G' L (.lst acc)) H' := (s9.trans st.weak).freeze hL' (s9.free hL) gL
          have sgA : Same G7 (upd G' L (.lst acc)) := st.gg.trans (same_new gL)
          have hpA : Pen K (upd G' L (.lst acc)) p _ H' := (hp9.stp0 st).know (same_new gL) (by rw [upd_ne (hp9.new hL).symm]; exact (hp9.stp0 st).1)
          have grA : (upd G' L (.lst acc)) L = some (.lst acc) := upd_same
          replace hpsA : PrAll K (upd G' L (.lst acc)) acc psA := hpsA.same (same_new gL)
          generalize upd G' L (.lst acc) = GA at sA sgA hpA grA hpsA
          walk_at "go"
          refine lcR1t (M := M0) (n := mm - 1) (by omega) (by omega) (by omega) sA.gh (fun i acc G' _ => PrP K mm i acc G') (fun _ _ => .nil) (fun L5 i acc5 G' H' Em Sk hi hL5 hL5' gL5 hacc5 st pv hEm hSk => ?_) (fun L5 acc5 G' H' hL5 hacc5 st hL5' gL5 pv => ?_)
          · walk_at "go"
            refine ⟨rfl, ?_⟩
            walk_at "go"
            refine ifND (fun c => ?_) (fun c => ?_)
            · walk_at "go"
              refine ⟨by show 2 ≤ sizeLine; decide, fun t nt => ?_⟩
              exact pair_em (a := i) (b := i + 1) (by rfl) (by omega) st hL5' gL5 pv nt hEm (by omega) (by omega)
            · exact hSk _ _ st hL5' gL5 (by obtain ⟨ps, h1, h2, h3⟩ := pv; exact ⟨ps, h1, Nat.le_succ_of_le h2, h3⟩)
          obtain ⟨psB, hpsB, hplB, hpiB⟩ := pv
          have sB : Stp (M1 p) G H (upd G' L5 (.lst acc5)) H' := (sA.trans st.weak).freeze hL5' (sA.free hL5) gL5
          have sgB : Same GA (upd G' L5 (.lst acc5)) := st.gg.trans (same_new gL5)
          have hpB : Pen K (upd G' L5 (.lst acc5)) p _ H' := (hpA.stp0 st).know (same_new gL5) (by rw [upd_ne (hpA.new hL5).symm]; exact (hpA.stp0 st).1)
          have grB : (upd G' L5 (.lst acc5)) L5 = some (.lst acc5) := upd_same
          replace hpsB : PrAll K (upd G' L5 (.lst acc5)) acc5 psB := hpsB.same (same_new gL5)
          generalize upd G' L5 (.lst acc5) = GB at sB sgB hpB grB hpsB
          walk_at "go"
          refine r_cat (sB.gh _ _ (sgB _ _ grA)) (sB.gh _ _ grB) (Nat.le_of_lt (small5 (by rw [hpsA.1, hpsB.1]; omega))) (fun lc nlc => ?_)
          walk_at "go"
          exact fin2 L L5 lc _ _ psA psB GB _ _ sB (sgA.trans sgB) (hpB.mono (by omega)) (hpsA.same sgB) hpsB hpiA hpiB (by omega) nlc
        · walk_at "go"
          refine ifD (fun c5 => ?_) (fun c5 => ?_)
          · walk_at "go"
            refine ⟨by show 3 ≤ sizeLine; decide, fun t nt => ?_⟩
            have sA : Stp (M1 p) G H (upd G7 t (.tup [.int 1, .int 2, .int 4])) (upd H9 t (.tup [.int 1, .int 2, .int 4])) := s9.trans (Stp.new s9.gh nt)
            have gt : SqT K (upd G7 t (.tup [.int 1, .int 2, .int 4])) t [.int 1, .int 2, .int 4] := tof upd_same
            have oA : (upd H9 t (.tup [.int 1, .int 2, .int 4])) o = some (.lst []) := by rw [upd_ne (ne_of_none ho9 nt)]; exact ho9
            have goA : (upd G7 t (.tup [.int 1, .int 2, .int 4])) o = none := by rw [upd_ne (ne_of_none ho9 nt)]; exact go8
            have hpA : Pen K (upd G7 t (.tup [.int 1, .int 2, .int 4])) p _ (upd H9 t (.tup [.int 1, .int 2, .int 4])) := hp9.stp (Stp.new (M := M0) s9.gh nt) (fun z => z)
            have sgA : Same G7 (upd G7 t (.tup [.int 1, .int 2, .int 4])) := same_new (none_of s9.gh nt)
            generalize upd H9 t (.tup [.int 1, .int 2, .int 4]) = HA at sA oA hpA ⊢
            generalize upd G7 t (.tup [.int 1, .int 2, .int 4]) = GA at sA gt goA hpA sgA ⊢
            clear s9 hp9 ho9 ht9
            walk_at "go"
            refine loopT (Same.sqt sA.gh gt) (fun i σ H' => ∃ y8 y9 y10, ∃ (G' : Hp) (zs : List V) (ps : List (Nat × Nat)), σ = [some (.ref p), some (.int (m : Int)), some (.int (way : Int)), some (.int (mm : Int)), some (.ref r), some (.ref L), some (.int (half : Int)), some (.ref o), y8, y9, y10] ∧
              Stp (M1 p) G H G' H' ∧ Same GA G' ∧ H' o = some (.lst zs) ∧ G' o = none ∧ PrAll K G' zs ps ∧ ps.length ≤ i * 16 ∧ PrIn mm ps ∧ Pen K G' p (n + 200) H')
              ⟨none, none, none, GA, [], [], rfl, sA, Same.refl _, oA, goA, .nil, Nat.zero_le _, (fun _ h => by cases h), hpA.mono (by omega)⟩ (fun i σ H' _ pv => ?_) (fun i v σ H' hi hv pv => ?_) (fun σ H' pv => ?_)
            · obtain ⟨_, _, _, G', _, _, _, st, sg, _⟩ := pv
              exact Same.sqt (sg.trans st.gh) gt
            · obtain ⟨y8, y9, y10, G', zs, ps, rfl, st, sg, hoz, goz, hz, hzl, hzi, hpz⟩ := pv
              obtain ⟨bit, rfl, hb1, hb2⟩ : ∃ bit : Nat, v = .int (bit : Int) ∧ 1 ≤ bit ∧ bit ≤ 4 := by
                have hi3 : i < 3 := hi
                have h : i = 0 ∨ i = 1 ∨ i = 2 := by omega
                rcases h with rfl | rfl | rfl
                · exact ⟨1, (Option.some.inj hv).symm, by omega, by omega⟩
                · exact ⟨2, (Option.some.inj hv).symm, by omega, by omega⟩
                · exact ⟨4, (Option.some.inj hv).symm, by omega, by omega⟩
              walk_at "go"
              refine lcR1t (M := M0) (n := mm - bit) (by omega) (by omega) (by omega) st.gh (fun i acc G' _ => ∃ ks : List Nat, acc = ks.map (fun k : Nat => V.int (k : Int)) ∧ ks.length ≤ i ∧ ∀ k ∈ ks, k + bit < mm) (fun _ _ => ⟨[], rfl, Nat.zero_le _, fun _ h => by cases h⟩) (fun L5 i5 acc5 G5 H5 Em Sk hi5 hL5 hL5' gL5 hacc5 st5 pv hEm hSk => ?_) (fun L5 acc5 G5 H5 hL5 hacc5 st5 hL5' gL5 pv => ?_)
              · obtain ⟨ks, rfl, hkl, hks⟩ := pv
                walk_at "go"
                refine ⟨rfl, ?_⟩
                walk_at "go"
                refine ifD (fun c => ?_) (fun c => ?_)
                · walk_at "go"
                  refine hEm _ _ _ st5 hL5' gL5 ⟨ks ++ [i5], by rw [List.map_append]; rfl, by rw [List.length_append]; exact Nat.succ_le_succ hkl, fun k hk => ?_⟩
                  rcases List.mem_append.mp hk with hk | hk
                  · exact hks k hk
                  · rw [List.mem_singleton.mp hk]
                    omega
                · exact hSk _ _ st5 hL5' gL5 ⟨ks, rfl, Nat.le_succ_of_le hkl, hks⟩
              · obtain ⟨ks, rfl, hkl, hks⟩ := pv
                have s5 : Stp (M1 p) G H (upd G5 L5 (.lst (ks.map fun k : Nat => V.int (k : Int)))) H5 := (st.trans st5.weak).freeze hL5' (st.free hL5) gL5
                have sg5 : Same G' (upd G5 L5 (.lst (ks.map fun k : Nat => V.int (k : Int)))) := st5.gg.trans (same_new gL5)
                have oz5 : H5 o = some (.lst zs) := st5.up _ _ (fun z => z) hoz
                have noL : o ≠ L5 := ne_of_none hoz hL5
                have goz5 : (upd G5 L5 (.lst (ks.map fun k : Nat => V.int (k : Int)))) o = none := by rw [upd_ne noL]; exact (st5.fr _ _ hoz).trans goz
                have hpz5 : Pen K (upd G5 L5 (.lst (ks.map fun k : Nat => V.int (k : Int)))) p (n + 200) H5 := (hpz.stp0 st5).know (same_new gL5) (by rw [upd_ne (hpz.new hL5).symm]; exact (hpz.stp0 st5).1)
                have gk5 : (upd G5 L5 (.lst (ks.map fun k : Nat => V.int (k : Int)))) L5 = some (.lst (ks.map fun k : Nat => V.int (k : Int))) := upd_same
                generalize upd G5 L5 (.lst (ks.map fun k : Nat => V.int (k : Int))) = G6 at s5 sg5 goz5 hpz5 gk5
                clear st st5 hL5 hL5' gL5 hoz goz hpz
                walk_at "go"
                have hkl' : (ks.map fun k : Nat => V.int (k : Int)).length ≤ 15 := by rw [List.length_map]; omega
                refine lcL (M := M0) (G := G6) (lof gk5) (Nat.lt_of_le_of_lt hkl' (by decide)) s5.gh (fun i acc G' _ => PrP K mm i acc G') (fun _ _ => .nil) (fun L6 i6 v6 acc6 G7' H7 Em Sk hi6 hL6 hL6' gL6 hacc6 st6 pv hv6 hEm hSk => ?_) (fun L6 acc6 G7' H7 hL6 hacc6 st6 hL6' gL6 pv => ?_)
                · obtain ⟨k, hk, rfl⟩ := map_get hv6
                  have hkm := hks k (List.mem_of_getElem? hk)
                  walk_at "go"
                  refine ⟨rfl, ?_⟩
                  walk_at "go"
                  refine ⟨by show 2 ≤ sizeLine; decide, fun t nt => ?_⟩
                  exact pair_em (a := k) (b := k + bit) rfl (by omega) st6 hL6' gL6 pv nt hEm (by omega) hkm
                · obtain ⟨ps6, hps6, hpl6, hpi6⟩ := pv
                  have hacc' : acc6.length ≤ 15 := Nat.le_trans hacc6 hkl'
                  have hp6l : ps6.length ≤ 15 := by rw [← hps6.1]; exact hacc'
                  have oz7 : H7 o = some (.lst zs) := st6.up _ _ (fun z => z) oz5
                  have goz7 : G7' o = none := (st6.fr _ _ oz5).trans goz5
                  have hz48 : ps.length ≤ 48 := Nat.le_trans hzl (by have hi3 : i < 3 := hi; omega)
                  walk_at "go"
                  refine r_extend oz7 hL6' (Nat.le_of_lt (small5 (by rw [hz.1]; omega))) ?_
                  refine ⟨_, _, _, G7', zs ++ acc6, ps ++ ps6, rfl, (s5.trans st6.weak).inner (M' := M1 o) (Stp.mut st6.gh oz7 goz7 rfl) (fun a e => .inr (by rw [e]; exact hoH)), sg.trans (sg5.trans st6.gg), upd_same, goz7, (hz.same (sg5.trans st6.gg)).app hps6, ?_, hzi.app hpi6, (hpz5.stp0 st6).upd ((hpz5.stp0 st6).ne oz7)⟩
                  rw [List.length_append]
                  omega
            · obtain ⟨y8, y9, y10, G', zs, ps, rfl, st, sg, hoz, goz, hz, hzl, hzi, hpz⟩ := pv
              walk_at "go"
              have hzl3 : ps.length ≤ 3 * 16 := hzl
              exact fin o zs ps (upd G' o _) H' _ (st.freeze hoz hoH goz) (sgA.trans (sg.trans (same_new goz))) (hpz.know (same_new goz) (by rw [upd_ne (hpz.ne hoz).symm]; exact hpz.1)) upd_same (hz.same (same_new goz)) hzi (by omega)
          · walk_at "go"
            refine ifD (fun c6 => ?_) (fun c6 => ?_)
            · walk_at "go"
              refine lcR1t (M := M0) (n := half) (by omega) (by omega) (by omega) s9.gh (fun i acc G' _ => PrP K mm i acc G') (fun _ _ => .nil) (fun L i acc G' H' Em Sk hi hL hL' gL hacc st pv hEm hSk => ?_) (fun L acc G' H' hL hacc st hL' gL pv => ?_)
              · walk_at "go"
                refine ⟨rfl, ?_⟩
                walk_at "go"
                obtain ⟨dd, ed, hdd⟩ := mod_nat (i := (i : Int) + 1) hh1
                refine ⟨by show 2 ≤ sizeLine; decide, fun t nt => ?_⟩
                exact pair_em (a := i) (b := dd) (by rfl) (by exact ed) st hL' gL pv nt hEm (by omega) (by omega)
              obtain ⟨psA, hpsA, hplA, hpiA⟩ := pv
              have sA : Stp (M1 p) G H (upd G' L (.lst acc)) H' := (s9.trans st.weak).freeze hL' (s9.free hL) gL
              have sgA : Same G7 (upd G' L (.lst acc)) := st.gg.trans (same_new gL)
              have hpA : Pen K (upd G' L (.lst acc)) p _ H' := (hp9.stp0 st).know (same_new gL) (by rw [upd_ne (hp9.new hL).symm]; exact (hp9.stp0 st).1)
              have grA : (upd G' L (.lst acc)) L = some (.lst acc) := upd_same
              replace hpsA : PrAll K (upd G' L (.lst acc)) acc psA := hpsA.same (same_new gL)
              generalize upd G' L (.lst acc) = GA at sA sgA hpA grA hpsA
              walk_at "go"
              refine lcR2 (M := M0) (n := mm - 1 - half) (by omega) (by omega) (by omega) sA.gh (fun i acc G' _ => PrP K mm i acc G') (fun _ _ => .nil) (fun L5 i acc5 G' H' Em Sk hi hL5 hL5' gL5 hacc5 st pv hEm hSk => ?_) (fun L5 acc5 G' H' hL5 hacc5 st hL5' gL5 pv => ?_)
              · walk_at "go"
                refine ⟨rfl, ?_⟩
                walk_at "go"
                refine ⟨by show 2 ≤ sizeLine; decide, fun t nt => ?_⟩
                exact pair_em (a := half + i) (b := half + i + 1) (by omega) (by omega) st hL5' gL5 pv nt hEm (by omega) (by omega)
              obtain ⟨psB, hpsB, hplB, hpiB⟩ := pv
              have sB : Stp (M1 p) G H (upd G' L5 (.lst acc5)) H' := (sA.trans st.weak).freeze hL5' (sA.free hL5) gL5
              have sgB : Same GA (upd G' L5 (.lst acc5)) := st.gg.trans (same_new gL5)
              have hpB : Pen K (upd G' L5 (.lst acc5)) p _ H' := (hpA.stp0 st).know (same_new gL5) (by rw [upd_ne (hpA.new hL5).symm]; exact (hpA.stp0 st).1)
              have grB : (upd G' L5 (.lst acc5)) L5 = some (.lst acc5) := upd_same
              replace hpsB : PrAll K (upd G' L5 (.lst acc5)) acc5 psB := hpsB.same (same_new gL5)
              generalize upd G' L5 (.lst acc5) = GB at sB sgB hpB grB hpsB
              walk_at "go"
              refine r_cat (sB.gh _ _ (sgB _ _ grA)) (sB.gh _ _ grB) (Nat.le_of_lt (small5 (by rw [hpsA.1, hpsB.1]; omega))) (fun lc nlc => ?_)
              walk_at "go"
              exact fin2 L L5 lc _ _ psA psB GB _ _ sB (sgA.trans sgB) (hpB.mono (by omega)) (hpsA.same sgB) hpsB hpiA hpiB (by omega) nlc
            · walk_at "go"
              obtain ⟨cc, ecc, hcc⟩ : ∃ cc : Nat, (if 2 * (mm : Int) < 28 then 2 * (mm : Int) else 28) = (cc : Int) ∧ cc ≤ 28 := ⟨Int.toNat _, (Int.toNat_of_nonneg (by split <;> omega)).symm, by split <;> omega⟩
              rw [ecc]
              refine ⟨p, _, _, mm, cc, _, G7, rfl, s9.gh, hp9, by omega, rfl, by omega, by omega, rfl, by omega, fun l2 xs2 ps2 G11 H11 sB hpB hl2 hps2 hpl2 hpi2 => ?_⟩
              walk_at "go"
              exact fin l2 xs2 ps2 G11 H11 _ (s9.trans sB) sB.gg (hpB.mono (by omega)) hl2 hps2 hpi2 (by omega)
end
abbrev sStrolled : Stmt := topS 25
theorem scStrolled : FnScope ["_law_pen_here", "_law_yard_here", "_law_begin", "_law_steps", "_law_found", "_law_k", "_law_some"] ["_law_pen_here", "_law_yard_here", "_law_begin", "_law_steps"] (defScope sStrolled) := ⟨rfl, rfl, rfl, by decide +kernel, rfl, by decide +kernel, by decide +kernel⟩
section
variable {P : Program} {w : World} {K : PySem.W.Frag} {mg : Str → Option Value} {base : Heap}
/-- each next one is beside the one ahead -/
def Road (ds : List Dr) (ws : List Str) : Prop := ∀ (i : Nat) (a b : Str), ws[i]? = some a → ws[i + 1]? = some b → b ∈ nb ds a
theorem road_snoc {ds : List Dr} {l : List Str} {a c : Str} (h : Road ds l) (hl : l[l.length - 1]? = some a) (hc : c ∈ nb ds a) : Road ds (l ++ [c]) := by
  intro i x y hx hy
  by_cases h1 : i + 1 < l.length
  · rw [List.getElem?_append_left (by omega)] at hx
    rw [List.getElem?_append_left h1] at hy
    exact h i x y hx hy
  · have h2 : i + 1 < (l ++ [c]).length := by
      rcases Nat.lt_or_ge (i + 1) (l ++ [c]).length with z | z
      · exact z
      · rw [List.getElem?_eq_none z] at hy; cases hy
    rw [List.length_append] at h2
    have h3 : i + 1 = l.length := by simp at h2; omega
    rw [List.getElem?_append_right (by omega), h3, Nat.sub_self] at hy
    rw [List.getElem?_append_left (by omega), show i = l.length - 1 by omega, hl] at hx
    rw [← Option.some.inj hx, ← Option.some.inj hy]
    exact hc
theorem at_end {l : List Str} {a : Str} (h : l[l.length - 1]? = some a) : atI (l.map V.str) (-1) = some (.str a) := by
  have hn : 0 < l.length := by
    cases l with
    | nil => simp at h
    | cons x r => simp
  unfold atI ixN
  rw [if_neg (by omega), if_pos (by rw [List.length_map]; omega)]
  show (l.map V.str)[(((l.map V.str).length : Int) + -1).toNat]? = _
  rw [List.length_map, show ((l.length : Int) + -1).toNat = l.length - 1 by omega, List.getElem?_map, h]
  rfl
def spStrolled (K : PySem.W.Frag) : Sp := fun vs H Q _ => ∃ (p y : Addr) (b : Str) (j : Int) (c n : Nat) (rs : List Str) (ds : List Dr) (G : Hp), vs = [.ref p, .ref y, .str b, .int j] ∧ Same G H ∧ Pen K G p n H ∧ n + c < 2 ^ 40 ∧ Yard K G y rs ds ∧ ds.length < 64 ∧ DsOk ds ∧ j = (c : Int) ∧ c < 1000 ∧
  ∀ r (ws : List Str) G' H', Stp (M1 p) G H G' H' → Pen K G' p (n + c) H' → SqT K G' r ((b :: ws).map V.str) → ws.length ≤ c → Road ds (b :: ws) → Q (.ref r) H'
abbrev DStrolled (P : Program) (w : World) (K : PySem.W.Frag) (mg : Str → Option Value) (base : Heap) : Prop := Df P w K mg base CX0 3 "_law_strolled" ["_law_pen_here", "_law_yard_here", "_law_begin", "_law_steps"] (spStrolled K)
theorem ok_Strolled {f : Addr} {fd : FuncData} (F : Fun K "_law_strolled" "_law_strolled" sStrolled f fd) (M : Mgs mg) (D_near : DNear P w K mg base) (D_pick : DPick P w K mg base) : FnOk P w K mg base CX0 3 f fd ["_law_pen_here", "_law_yard_here", "_law_begin", "_law_steps"] (spStrolled K) := by
  refine F.ok scStrolled (fun vs H Q E h => ?_) (fun cdv A outer s H vs Q E hr h => ?_)
  · obtain ⟨p, y, b, j, c, n, rs, ds, G, rfl, _⟩ := h
    rfl
  · obtain ⟨p, y, b, j, c, n, rs, ds, G, rfl, g0, hp, hn, hy, hl, hok, rfl, hc, q⟩ := h
    have hu64 := hu64_of hr
    refine ⟨_, ((pss_cons (ps_set (i := 4) scStrolled.nd rfl (Or.inl rfl) (pe_lst (pa_cons (pv 2) pa_nil)))
    (pss_cons (ps_for PassesOwn.never rfl (pi_range1 (by rfl) M.range (pa_cons (pv 3) pa_nil)) (pg_name (i := 5) scStrolled.nd rfl (Or.inl rfl))
    (pss_cons (ps_set (i := 6) scStrolled.nd rfl (Or.inl rfl) (pe_df D_near hr (by rfl) pass0 (pa_cons (pv 1) (pa_cons (pe_ix (k_ix_list (K := K) rfl) (pv 4) (pe_un un_neg pe_int) (fun _ _ => rfl)) pa_nil))))
    (pss_one (ps_if (pt_cmpR (k_op_neD (K := K) rfl hu64) (pv 6) (pe_lst pa_nil) (nomark _))
    (pss_one (ps_expr (k_bm (K := K) rfl PySem.F.plainAttrs_list PySem.F.slot_list_append PySem.F.type_list_append mt_append (pv 4) (pa_cons (pe_df D_pick hr (by rfl) pass0 (pa_cons (pv 0) (pa_cons (pv 6) pa_nil))) pa_nil))))
    pss_nil))))
    (pss_one (ps_ret (pe_callTy (k_tuple (K := K) rfl) (by rfl) M.tuple_ (by decide +kernel) (pa_cons (pv 4) pa_nil))))))), ?_⟩
    walk_at "go0"
    refine ⟨by show 1 ≤ sizeLine; decide, fun o no => ?_⟩
    have s1 : Stp (M1 p) G H G (upd H o (.lst [.str b])) := Stp.newM g0 no
    have ho1 : (upd H o (.lst [.str b])) o = some (.lst (([b] : List Str).map V.str)) := upd_same
    have hp1 := hp.upd (x := .lst [.str b]) (hp.new no)
    have go1 : G o = none := none_of g0 no
    generalize upd H o (.lst [.str b]) = H1 at s1 ho1 hp1 ⊢
    walk_at "go"
    refine loopR1 (n := c) rfl (by omega) (fun i σ H' => ∃ y5 y6, ∃ (G' : Hp) (ws : List Str), σ = [some (.ref p), some (.ref y), some (.str b), some (.int (c : Int)), some (.ref o), y5, y6] ∧
      Stp (M1 p) G H G' H' ∧ H' o = some (.lst ((b :: ws).map V.str)) ∧ G' o = none ∧ ws.length ≤ i ∧ Road ds (b :: ws) ∧ Pen K G' p (n + i) H')
      ⟨none, none, G, [], rfl, s1, ho1, go1, Nat.le_refl 0, (fun i a b h h2 => by simp at h2), hp1⟩ (fun i σ H' hi pv => ?_) (fun σ H' pv => ?_)
    · obtain ⟨y5, y6, G', ws, rfl, st, hoz, goz, hwl, hrd, hpz⟩ := pv
      walk_at "go"
      obtain ⟨la, hla⟩ : ∃ la, (b :: ws)[(b :: ws).length - 1]? = some la := ⟨_, List.getElem?_eq_getElem (by simp)⟩
      refine r_ixL (lof hoz) (at_end hla) ?_
      walk_at "go"
      refine use_near st.gh (hy.same st.gg) hl (fun r2 ys G2 H2 s2 h2 p2 _ => ?_)
      walk_at "go"
      refine ⟨Nat.zero_le _, fun z nz => ?_⟩
      have oz2 : H2 o = some (.lst ((b :: ws).map V.str)) := s2.up _ _ (fun z => z) hoz
      have goz2 : G2 o = none := (s2.fr _ _ hoz).trans goz
      have hpz2 := hpz.stp0 s2
      have s3 : Stp (M1 p) G H G2 (upd H2 z (.lst [])) := (st.trans s2.weak).trans (Stp.newM s2.gh nz)
      have hz3 : (upd H2 z (.lst [])) z = some (.lst (([] : List Str).map V.str)) := upd_same
      have oz3 : (upd H2 z (.lst [])) o = some (.lst ((b :: ws).map V.str)) := by rw [upd_ne (ne_of_none oz2 nz)]; exact oz2
      have hpz3 := hpz2.upd (x := .lst []) (hpz2.new nz)
      generalize upd H2 z (.lst []) = H3 at s3 hz3 oz3 hpz3 ⊢
      have hys : ∀ e ∈ ys, SOk e := fun e he => nb_ok hok (p2.mem_iff.mp he)
      refine r_neLL (s3.gh.seq h2) (lof hz3) hys (fun _ h => by cases h) ?_
      walk_at "go"
      refine ifND (fun c1 => ?_) (fun c1 => ?_)
      · have hpos : 1 ≤ (ys.map V.str).length := by
          cases ys with
          | nil => exact absurd rfl c1
          | cons x r => simp
        have hlt : (ys.map V.str).length < 2 ^ 30 := by
          rw [List.length_map, p2.length_eq]
          unfold nb
          rw [List.length_map]
          exact Nat.lt_of_le_of_lt (List.length_filter_le _ _) (by omega)
        walk_at "go"
        refine use_pick s3.gh hpz3 (by omega) (.inl ⟨r2, rfl, h2⟩) hpos hlt (fun d x H4 hx s4 hp4 => ?_)
        obtain ⟨e, he, rfl⟩ := map_get hx
        have oz4 : H4 o = some (.lst ((b :: ws).map V.str)) := s4.up _ _ (hpz3.ne oz3) oz3
        walk_at "go"
        refine c_append oz4 (small5 (by rw [List.length_map, List.length_cons]; omega)) ?_
        refine ⟨_, _, G2, ws ++ [e], rfl, (s3.trans s4).inner (M' := M1 o) (Stp.mut s4.gh oz4 goz2 rfl) (fun a e => .inr (by rw [e]; exact no)), ?_, goz2, by rw [List.length_append]; exact Nat.succ_le_succ hwl, ?_, (hp4.upd (hp4.ne oz4)).mono (by omega)⟩
        · rw [upd_same, ← List.cons_append, List.map_append]
          rfl
        · rw [← List.cons_append]
          exact road_snoc hrd hla (p2.mem_iff.mp (List.mem_of_getElem? he))
      · walk_at "go"
        exact ⟨_, _, G2, ws, rfl, s3, oz3, goz2, Nat.le_succ_of_le hwl, hrd, hpz3.mono (by omega)⟩
    · obtain ⟨y5, y6, G', ws, rfl, st, hoz, goz, hwl, hrd, hpz⟩ := pv
      walk_at "go"
      refine c_tupleL (lof hoz) (fun r nr => ?_)
      have hne := hpz.new nr
      exact q r ws (upd G' r _) _ (st.trans (Stp.new st.gh nr)) (hpz.stp (Stp.new (M := M0) st.gh nr) (fun z => z)) (tof upd_same) hwl hrd
end
local macro_rules | `(tactic| walk_at "u1") => `(tactic| first
  | with_reducible refine r_din ?_ | with_reducible refine r_dnotin ?_)
/-! doors between unlike rooms, roads along them -/
theorem withD_ne {rs : List Str} (ps : List (Nat × Nat)) : ∀ d ∈ withD rs ps, d.1 ≠ d.2 := by
  suffices h : ∀ (ps : List (Nat × Nat)) (ds : List Dr), (∀ d ∈ ds, d.1 ≠ d.2) → ∀ d ∈ ps.foldl (stepD rs) ds, d.1 ≠ d.2 from h ps [] (fun _ h => by cases h)
  intro ps
  induction ps with
  | nil => intro ds h; exact h
  | cons q ps ih =>
    intro ds h
    rw [List.foldl_cons]
    refine ih _ fun d hd => ?_
    unfold stepD at hd
    split at hd
    · rename_i c
      rcases List.mem_append.mp hd with hd | hd
      · exact h d hd
      · rw [List.mem_singleton.mp hd]
        unfold mayD at c
        rw [Bool.and_eq_true, Bool.and_eq_true] at c
        exact of_decide_eq_true c.1.1
    · exact h d hd
def DsNe (ds : List Dr) : Prop := ∀ d ∈ ds, d.1 ≠ d.2
theorem nb_iff {ds : List Dr} {x z : Str} (hn : DsNe ds) : z ∈ nb ds x ↔ ∃ d ∈ ds, (d.1 = x ∧ d.2 = z) ∨ (d.1 = z ∧ d.2 = x) := by
  unfold nb
  rw [List.mem_map]
  constructor
  · rintro ⟨d, hd, rfl⟩
    obtain ⟨hm, hh⟩ := List.mem_filter.mp hd
    refine ⟨d, hm, ?_⟩
    unfold hasD at hh
    unfold oth
    by_cases e : d.1 = x
    · rw [if_pos e]; exact .inl ⟨e, rfl⟩
    · rw [if_neg e]
      rw [decide_eq_false e, Bool.false_or] at hh
      exact .inr ⟨rfl, of_decide_eq_true hh⟩
  · rintro ⟨d, hm, h⟩
    refine ⟨d, List.mem_filter.mpr ⟨hm, ?_⟩, ?_⟩
    · unfold hasD
      rcases h with ⟨e, _⟩ | ⟨_, e⟩
      · rw [decide_eq_true e, Bool.true_or]
      · rw [decide_eq_true e, Bool.or_true]
    · unfold oth
      rcases h with ⟨e, e2⟩ | ⟨e, e2⟩
      · rw [if_pos e, e2]
      · rw [if_neg (fun q => hn d hm (by rw [q, e2])), e]
theorem nb_symm {ds : List Dr} {x z : Str} (hn : DsNe ds) (h : z ∈ nb ds x) : x ∈ nb ds z := by
  obtain ⟨d, hm, h⟩ := (nb_iff hn).mp h
  exact (nb_iff hn).mpr ⟨d, hm, h.elim (fun q => .inr ⟨q.1, q.2⟩) (fun q => .inl ⟨q.1, q.2⟩)⟩
theorem nb_ne {ds : List Dr} {x z : Str} (hn : DsNe ds) (h : z ∈ nb ds x) : x ≠ z := by
  obtain ⟨d, hm, h⟩ := (nb_iff hn).mp h
  rcases h with ⟨e, e2⟩ | ⟨e, e2⟩
  · rw [← e, ← e2]; exact hn d hm
  · rw [← e, ← e2]; exact fun q => hn d hm q.symm
theorem road_one (ds : List Dr) (b : Str) : Road ds [b] := fun i x y hx hy => by
  rw [List.getElem?_eq_none (by simp)] at hy
  cases hy
theorem road_nil (ds : List Dr) : Road ds [] := fun i x y hx hy => by
  rw [List.getElem?_eq_none (by simp)] at hy
  cases hy
theorem road_drop {ds : List Dr} {l : List Str} (h : Road ds l) (n : Nat) : Road ds (l.drop n) := fun i x y hx hy => by
  rw [List.getElem?_drop] at hx hy
  exact h (n + i) x y hx (by rw [show n + i + 1 = n + (i + 1) by omega]; exact hy)
theorem road_take {ds : List Dr} {l : List Str} (h : Road ds l) (n : Nat) : Road ds (l.take n) := fun i x y hx hy => by
  rw [List.getElem?_take] at hx hy
  split at hy
  · split at hx
    · exact h i x y hx hy
    · cases hx
  · cases hy
theorem road_app {ds : List Dr} {l m : List Str} {a b : Str} (h : Road ds l) (h' : Road ds m) (hl : lst l = some a) (hm : fst0 m = some b) (hb : b ∈ nb ds a) : Road ds (l ++ m) := fun i x y hx hy => by
  have hn : l.length ≠ 0 := fun e => by unfold lst at hl; rw [List.getElem?_eq_none (by omega)] at hl; cases hl
  rcases Nat.lt_or_ge (i + 1) l.length with c | c
  · rw [List.getElem?_append_left (by omega)] at hx
    rw [List.getElem?_append_left c] at hy
    exact h i x y hx hy
  · rw [List.getElem?_append_right c] at hy
    by_cases e : i + 1 = l.length
    · rw [e, Nat.sub_self] at hy
      rw [List.getElem?_append_left (by omega)] at hx
      unfold lst at hl
      unfold fst0 at hm
      rw [show l.length - 1 = i by omega, hx] at hl
      rw [hy] at hm
      rw [Option.some.inj hl, Option.some.inj hm]
      exact hb
    · rw [List.getElem?_append_right (by omega)] at hx
      exact h' (i - l.length) x y hx (by rw [show i - l.length + 1 = i + 1 - l.length by omega]; exact hy)
theorem road_glue {ds : List Dr} {l m : List Str} {a : Str} (h : Road ds l) (h' : Road ds m) (hl : lst l = some a) (hm : fst0 m = some a) : Road ds (l ++ m.tail) := by
  have e := fst_tl hm
  cases q : m.tail with
  | nil => rw [List.append_nil]; exact h
  | cons b r =>
    rw [q] at e
    have h2 : Road ds (b :: r) := by
      have h3 := road_drop h' 1
      rw [List.drop_one, q] at h3
      exact h3
    exact road_app h h2 hl rfl (h' 0 a b hm (by rw [← e]; rfl))
theorem road_rev {ds : List Dr} {l : List Str} (hn : DsNe ds) (h : Road ds l) : Road ds l.reverse := fun i x y hx hy => by
  have hl : i + 1 < l.length := by
    rcases Nat.lt_or_ge (i + 1) l.reverse.length with z | z
    · rwa [List.length_reverse] at z
    · rw [List.getElem?_eq_none z] at hy; cases hy
  rw [List.getElem?_reverse (by omega)] at hx hy
  exact nb_symm hn (h (l.length - 1 - (i + 1)) y x hy (by rw [show l.length - 1 - (i + 1) + 1 = l.length - 1 - i by omega]; exact hx))
abbrev sReach : Stmt := topS 26
theorem scReach : FnScope ["_law_yard_here", "_law_begin", "_law_found", "_law_line", "_law_at", "_law_room"] ["_law_yard_here", "_law_begin"] (defScope sReach) := ⟨rfl, rfl, rfl, by decide +kernel, rfl, by decide +kernel, by decide +kernel⟩
/-- unlike ones of a list are no more than it has -/
theorem nd_le : ∀ {xs L : List Str}, xs.Nodup → (∀ z ∈ xs, z ∈ L) → xs.length ≤ L.length
  | [], _, _, _ => Nat.zero_le _
  | x :: xs, L, h, s => by
    have hx := s x List.mem_cons_self
    have h1 := List.nodup_cons.mp h
    have h2 : xs.length ≤ (L.erase x).length := nd_le h1.2 (fun z hz => by
      have hne : z ≠ x := fun e => h1.1 (by rw [← e]; exact hz)
      exact (List.mem_erase_of_ne hne).mpr (s z (List.mem_cons_of_mem _ hz)))
    have h3 := List.length_erase_of_mem hx
    have h4 := List.length_pos_of_mem hx
    rw [List.length_cons]
    omega
def ends (ds : List Dr) : List Str := ds.map (·.1) ++ ds.map (·.2)
theorem nb_ends {ds : List Dr} {x z : Str} (h : z ∈ nb ds x) : z ∈ ends ds := by
  obtain ⟨d, hd, rfl⟩ := List.mem_map.mp h
  have hm := (List.mem_filter.mp hd).1
  unfold oth ends
  split
  · exact List.mem_append.mpr (.inr (List.mem_map.mpr ⟨d, hm, rfl⟩))
  · exact List.mem_append.mpr (.inl (List.mem_map.mpr ⟨d, hm, rfl⟩))
/-- a walk in a heap, from b to z -/
def Wk (K : PySem.W.Frag) (G : Hp) (ds : List Dr) (b z : Str) (v : V) (n : Nat) : Prop := ∃ t ws, v = V.ref t ∧ SqT K G t (ws.map V.str) ∧ fst0 ws = some b ∧ lst ws = some z ∧ (∀ x ∈ ws, SOk x) ∧ ws.length ≤ n ∧ Road ds ws
theorem Wk.same {K : PySem.W.Frag} {G G' : Hp} {ds : List Dr} {b z : Str} {v : V} {n : Nat} (e : Same G G') (h : Wk K G ds b z v n) : Wk K G' ds b z v n := by
  obtain ⟨t, ws, h1, h2, h3⟩ := h
  exact ⟨t, ws, h1, Same.sqt e h2, h3⟩
/-- of each room that was come to its walk -/
structure Rch (K : PySem.W.Frag) (G : Hp) (ds : List Dr) (b : Str) (kvs : List (Key × V)) (xs : List Str) : Prop where
  ks : kvs.map (·.1) = xs.map Sum.inr
  nd : xs.Nodup
  sub : ∀ z ∈ xs, z = b ∨ z ∈ ends ds
  wk : ∀ z v, valV kvs (Sum.inr z) = some v → Wk K G ds b z v xs.length
theorem val_none {kvs : List (Key × V)} {xs : List Str} {z : Str} (h : kvs.map (·.1) = xs.map Sum.inr) : (valV kvs (Sum.inr z)).isSome = decide (z ∈ xs) := by
  rw [← valV_any]
  by_cases hz : z ∈ xs
  · rw [decide_eq_true hz, List.any_eq_true]
    have h1 : (Sum.inr z : Key) ∈ kvs.map (·.1) := by rw [h]; exact List.mem_map.mpr ⟨z, hz, rfl⟩
    obtain ⟨kv, hk, e⟩ := List.mem_map.mp h1
    exact ⟨kv, hk, decide_eq_true e⟩
  · rw [decide_eq_false hz, List.any_eq_false]
    intro kv hk
    rw [decide_eq_true_eq]
    intro e
    have h1 : kv.1 ∈ kvs.map (·.1) := List.mem_map.mpr ⟨kv, hk, rfl⟩
    rw [h, e] at h1
    obtain ⟨x, hx, e2⟩ := List.mem_map.mp h1
    exact hz (by rw [← Sum.inr.inj e2]; exact hx)
theorem Rch.same {K : PySem.W.Frag} {G G' : Hp} {ds : List Dr} {b : Str} {kvs : List (Key × V)} {xs : List Str} (e : Same G G') (h : Rch K G ds b kvs xs) : Rch K G' ds b kvs xs :=
  ⟨h.ks, h.nd, h.sub, fun z v hz => (h.wk z v hz).same e⟩
theorem Rch.len {K : PySem.W.Frag} {G : Hp} {ds : List Dr} {b : Str} {kvs : List (Key × V)} {xs : List Str} (h : Rch K G ds b kvs xs) (hl : ds.length < 64) : xs.length ≤ 127 := by
  have h1 := nd_le (L := b :: ends ds) h.nd (fun z hz => by
    rcases h.sub z hz with e | e
    · rw [e]; exact List.mem_cons_self
    · exact List.mem_cons_of_mem _ e)
  unfold ends at h1
  rw [List.length_cons, List.length_append, List.length_map, List.length_map] at h1
  omega
theorem Rch.klen {K : PySem.W.Frag} {G : Hp} {ds : List Dr} {b : Str} {kvs : List (Key × V)} {xs : List Str} (h : Rch K G ds b kvs xs) : kvs.length = xs.length := by
  have e := congrArg List.length h.ks
  rwa [List.length_map, List.length_map] at e
theorem Rch.snoc {K : PySem.W.Frag} {G : Hp} {ds : List Dr} {b z : Str} {v : V} {kvs : List (Key × V)} {xs : List Str} (h : Rch K G ds b kvs xs) (hz : ¬ z ∈ xs) (he : z ∈ ends ds) (hw : Wk K G ds b z v (xs.length + 1)) :
    Rch K G ds b (putK kvs (Sum.inr z) v) (xs ++ [z]) := by
  have hn : valV kvs (Sum.inr z) = none := by
    have e := val_none (z := z) h.ks
    rw [decide_eq_false hz] at e
    cases q : valV kvs (Sum.inr z) with
    | none => rfl
    | some _ => rw [q] at e; cases e
  rw [L2.putK_new v hn]
  refine ⟨?_, ?_, ?_, ?_⟩
  · rw [List.map_append, h.ks, List.map_append]
    rfl
  · rw [List.nodup_append]
    refine ⟨h.nd, by simp, fun a ha c hc e => ?_⟩
    rw [List.mem_singleton] at hc
    exact hz (by rw [← hc, ← e]; exact ha)
  · intro x hx
    rcases List.mem_append.mp hx with hx | hx
    · exact h.sub x hx
    · rw [List.mem_singleton.mp hx]; exact .inr he
  · intro x u hx
    rw [valV_snoc _ _ _ _ hn] at hx
    rw [List.length_append]
    split at hx
    · rename_i e
      rw [Sum.inr.inj e, ← Option.some.inj hx]
      exact hw
    · obtain ⟨t, ws, h1, h2, h3, h4, h5, h6, h7⟩ := h.wk x u hx
      exact ⟨t, ws, h1, h2, h3, h4, h5, Nat.le_succ_of_le h6, h7⟩
def spReach (K : PySem.W.Frag) : Sp := fun vs H Q _ => ∃ (y : Addr) (b : Str) (rs : List Str) (ds : List Dr) (G : Hp), vs = [.ref y, .str b] ∧ Same G H ∧ Yard K G y rs ds ∧ ds.length < 64 ∧ DsOk ds ∧ SOk b ∧
  ∀ r kvs xs G' H', Stp M0 G H G' H' → G' r = some (.dK kvs) → Rch K G' ds b kvs xs → Q (.ref r) H'
abbrev DReach (P : Program) (w : World) (K : PySem.W.Frag) (mg : Str → Option Value) (base : Heap) : Prop := Df P w K mg base CX0 2 "_law_reach" ["_law_yard_here", "_law_begin"] (spReach K)
section
variable {P : Program} {w : World} {K : PySem.W.Frag} {mg : Str → Option Value} {base : Heap}
theorem ok_Reach {f : Addr} {fd : FuncData} (F : Fun K "_law_reach" "_law_reach" sReach f fd) (M : Mgs mg) (D_near : DNear P w K mg base) : FnOk P w K mg base CX0 2 f fd ["_law_yard_here", "_law_begin"] (spReach K) := by
  refine F.ok scReach (fun vs H Q E h => ?_) (fun cdv A outer s H vs Q E hr h => ?_)
  · obtain ⟨y, b, rs, ds, G, rfl, _⟩ := h
    rfl
  · obtain ⟨y, b, rs, ds, G, rfl, g0, hy, hl, hok, hb, q⟩ := h
    have hu := hu_of hr
    refine ⟨_, ((pss_cons (ps_par3 (i := 2) (j := 3) (l := 4) (by rfl) scReach.nd rfl rfl rfl (by decide) (by decide) (by decide) rfl rfl rfl (pa_cons (pe_disp (pps_cons (pv 1) (pe_tup (pa_cons (pv 1) pa_nil)) pps_nil) (by rfl) (by rfl) (fun z => by cases z) (by decide)) (pa_cons (pe_lst (pa_cons (pv 1) pa_nil)) (pa_cons pe_int pa_nil))) (by rfl))
    (pss_cons (ps_while PassesOwn.never (pt_cmpR op_lt (pv 4) (pe_callB (k_len (K := K) rfl) (by rfl) M.len PySem.boot_len (pa_cons (pv 3) pa_nil)) (nomark _))
    (pss_cons (ps_for PassesOwn.never rfl (k_pi_list (K := K) rfl (pe_df D_near hr (by rfl) pass0 (pa_cons (pv 0) (pa_cons (pe_ix (k_ix_list (K := K) rfl) (pv 3) (pv 4) (fun _ _ => rfl)) pa_nil)))) (pg_name (i := 5) scReach.nd rfl (Or.inl rfl))
    (pss_one (ps_if (pt_cmp (pc_dnotin hu (pv 5) (pv 2)))
    (pss_cons (ps_dput hu (pv 2) (pv 5) (pe_op (k_op_catA (K := K) rfl) (pe_dget hu (pv 2) (pe_ix (k_ix_list (K := K) rfl) (pv 3) (pv 4) (fun _ _ => rfl)) (fun _ _ => rfl)) (pe_tup (pa_cons (pv 5) pa_nil))) rfl)
    (pss_one (ps_expr (k_bm (K := K) rfl PySem.F.plainAttrs_list PySem.F.slot_list_append PySem.F.type_list_append mt_append (pv 3) (pa_cons (pv 5) pa_nil)))))
    pss_nil)))
    (pss_one (ps_set (i := 4) scReach.nd rfl (Or.inl rfl) (pe_op op_add (pv 4) pe_int)))))
    (pss_one (ps_ret (pv 2)))))), ?_⟩
    walk_at "go0"
    intro d nd
    walk_at "go"
    refine ⟨by show 1 ≤ sizeLine; decide, fun t nt => ?_⟩
    walk_at "go"
    have s1 : Stp M0 G H G (upd H d (.dK [])) := Stp.newM g0 nd
    have hd1 : (upd H d (.dK [])) d = some (.dK []) := upd_same
    have gd1 : G d = none := none_of g0 nd
    have s2 := s1.trans (Stp.new (M := M0) (x := .tup ([b].map V.str)) s1.gh nt)
    have hd2 : (upd (upd H d (.dK [])) t (.tup ([b].map V.str))) d = some (.dK []) := by rw [upd_ne (ne_of_none hd1 nt)]; exact hd1
    have gd2 : (upd G t (.tup ([b].map V.str))) d = none := by rw [upd_ne (ne_of_none hd1 nt)]; exact gd1
    have ht2 : (upd G t (.tup ([b].map V.str))) t = some (.tup ([b].map V.str)) := upd_same
    refine ⟨hd2, [(Sum.inr b, .ref t)], rfl, by show 1 ≤ 15; decide, ?_⟩
    have em : mergeK [] [((Sum.inr b : Key), V.ref t)] = [(Sum.inr b, V.ref t)] := rfl
    rw [em]
    have s3 := s2.inner (M' := M1 d) (Stp.mut (x := .dK [(Sum.inr b, V.ref t)]) s2.gh hd2 gd2 rfl) (fun a e => .inr (by rw [e]; exact nd))
    have hd3 : (upd (upd (upd H d (.dK [])) t (.tup ([b].map V.str))) d (.dK [(Sum.inr b, V.ref t)])) d = some (.dK [(Sum.inr b, V.ref t)]) := upd_same
    show tCons _ _ _ (upd (upd (upd H d (.dK [])) t (.tup ([b].map V.str))) d (.dK [(Sum.inr b, V.ref t)])) _
    generalize upd (upd (upd H d (.dK [])) t (.tup ([b].map V.str))) d (.dK [(Sum.inr b, V.ref t)]) = H3 at s3 hd3 ⊢
    generalize upd G t (.tup ([b].map V.str)) = G3 at s3 gd2 ht2
    clear s1 s2 hd1 hd2
    walk_at "go"
    refine ⟨by show 1 ≤ sizeLine; decide, fun l nl => ?_⟩
    have s4 := s3.trans (Stp.newM (M := M0) (x := .lst ([b].map V.str)) s3.gh nl)
    have hd4 : (upd H3 l (.lst ([b].map V.str))) d = some (.dK [(Sum.inr b, V.ref t)]) := by rw [upd_ne (ne_of_none hd3 nl)]; exact hd3
    have hl4 : (upd H3 l (.lst ([b].map V.str))) l = some (.lst ([b].map V.str)) := upd_same
    have gl4 : G3 l = none := none_of s3.gh nl
    have nl0 : H l = none := s3.free nl
    have hdl : d ≠ l := ne_of_none hd3 nl
    show tCons _ _ _ (upd H3 l (.lst ([b].map V.str))) _
    generalize upd H3 l (.lst ([b].map V.str)) = H4 at s4 hd4 hl4 ⊢
    have hR : Rch K G3 ds b [(Sum.inr b, V.ref t)] [b] := by
      refine ⟨rfl, by simp, fun z hz => .inl (List.mem_singleton.mp hz), fun z v hz => ?_⟩
      by_cases e : z = b
      · subst e
        rw [valV_pos rfl] at hz
        rw [← Option.some.inj hz]
        exact ⟨t, [z], rfl, tof ht2, rfl, rfl, (fun x hx => by rw [List.mem_singleton.mp hx]; exact hb), by simp, road_one _ _⟩
      · rw [valV_neg (fun q => e (Sum.inr.inj q).symm), valV_nil] at hz
        cases hz
    walk_at "go"
    refine while_k (fun m σ H' => ∃ (at_ : Nat), ∃ kvs xs G' y5, σ = [some (.ref y), some (.str b), some (.ref d), some (.ref l), some (.int (at_ : Int)), y5] ∧ Stp M0 G H G' H' ∧ H' d = some (.dK kvs) ∧ H' l = some (.lst (xs.map V.str)) ∧ G' d = none ∧ G' l = none ∧ Rch K G' ds b kvs xs ∧ at_ ≤ xs.length ∧ m + at_ = 200)
      200 ⟨0, _, [b], G3, none, rfl, s4, hd4, hl4, gd2, gl4, hR, Nat.zero_le _, rfl⟩ (fun m σ H' pv Ct hT hF => ?_)
    obtain ⟨at_, kvs, xs, G', y5, rfl, st, hd', hl', gd', gl', hR', hat, hm⟩ := pv
    have hxl := hR'.len hl
    clear s3 s4 hd3 hd4 hl4 hR
    walk_at "go"
    by_cases hc : at_ < xs.length
    · rw [decide_eq_true (by rw [List.length_map]; omega)]
      refine hT H' ?_
      obtain ⟨x, hx⟩ : ∃ x, xs[at_]? = some x := ⟨_, List.getElem?_eq_getElem hc⟩
      walk_at "go"
      refine r_ixL' (n := at_) (lof hl') rfl (by rw [List.getElem?_map, hx]; rfl) ?_
      walk_at "go"
      refine use_near st.gh (hy.same st.gg) hl (fun r2 ys G2 H2 s2 h2 p2 _ => ?_)
      walk_at "go"
      refine loopL (s2.gh.seq h2) (fun i σ H'' => ∃ kvs xs G'' y5, σ = [some (.ref y), some (.str b), some (.ref d), some (.ref l), some (.int (at_ : Int)), y5] ∧ Stp M0 G H G'' H'' ∧ H'' d = some (.dK kvs) ∧ H'' l = some (.lst (xs.map V.str)) ∧ G'' d = none ∧ G'' l = none ∧ Rch K G'' ds b kvs xs ∧ xs[at_]? = some x ∧ SqL K G'' r2 (ys.map V.str))
        ⟨kvs, xs, G2, y5, rfl, st.trans s2, s2.up _ _ (fun z => z) hd', s2.up _ _ (fun z => z) hl', (s2.fr _ _ hd').trans gd', (s2.fr _ _ hl').trans gl', hR'.same s2.gg, hx, h2⟩ (fun i σ H'' _ pv => ?_) (fun i v σ H'' hi hv pv => ?_) (fun σ H'' pv => ?_)
      · obtain ⟨_, _, _, _, _, s5, _, _, _, _, _, _, hs⟩ := pv
        exact s5.gh.seq hs
      · obtain ⟨kvs, xs, G'', y5, rfl, s5, hd5, hl5, gd5, gl5, hR5, hx5, hs5⟩ := pv
        obtain ⟨e, he, rfl⟩ := map_get hv
        have hen : e ∈ nb ds x := p2.mem_iff.mp (List.mem_of_getElem? he)
        have heok : SOk e := nb_ok hok hen
        have hxl5 := hR5.len hl
        walk_at "go"
        refine ⟨d, _, rfl, dg_str hd5, ?_⟩
        walk_at "go"
        rw [val_none hR5.ks]
        by_cases hin : e ∈ xs
        · rw [decide_eq_true hin]
          walk_at "go"
          exact ⟨kvs, xs, G'', _, rfl, s5, hd5, hl5, gd5, gl5, hR5, hx5, hs5⟩
        · rw [decide_eq_false hin]
          walk_at "go"
          refine r_ixL' (n := at_) (lof hl5) rfl (by rw [List.getElem?_map, hx5]; rfl) ?_
          have hxin : x ∈ xs := List.mem_of_getElem? hx5
          obtain ⟨v, hv2⟩ : ∃ v, valV kvs (Sum.inr x) = some v := by
            have e2 := val_none (z := x) hR5.ks
            rw [decide_eq_true hxin] at e2
            exact Option.isSome_iff_exists.mp e2
          obtain ⟨t6, ws, rfl, ht6, hf6, hl6, ho6, hn6, hr6⟩ := hR5.wk x v hv2
          refine ⟨d, _, rfl, by rw [← hv2]; exact dg_str hd5, ?_⟩
          walk_at "go"
          refine ⟨by show 1 ≤ sizeLine; decide, fun t7 nt7 => ?_⟩
          have s7 := Stp.new (M := M0) (x := .tup ([e].map V.str)) s5.gh nt7
          have ht7 : SqT K (upd G'' t7 (.tup ([e].map V.str))) t7 ([e].map V.str) := tof upd_same
          have ht6' := Same.sqt s7.gg ht6
          show rCatA K _ _ (upd H'' t7 (.tup ([e].map V.str))) _
          generalize upd G'' t7 (.tup ([e].map V.str)) = G7 at s7 ht7 ht6'
          generalize upd H'' t7 (.tup ([e].map V.str)) = H7 at s7 ⊢
          refine kn_cat s7.gh ht6' ht7 (Nat.le_of_lt (small5 (by rw [List.length_map, List.length_map]; show ws.length + 1 ≤ _; omega))) (fun r8 G8 H8 s8 h8 => ?_)
          rw [← List.map_append] at h8
          have s8' := s7.trans s8
          have hd8 := s8'.up _ _ (fun z => z) hd5
          have hl8 := s8'.up _ _ (fun z => z) hl5
          have gd8 : G8 d = none := (s8'.fr _ _ hd5).trans gd5
          have gl8 : G8 l = none := (s8'.fr _ _ hl5).trans gl5
          have hR8 := (hR5.same s8'.gg).snoc (z := e) (v := .ref r8) hin (nb_ends hen) ⟨r8, ws ++ [e], rfl, h8, fst_app hf6, by unfold lst; rw [List.length_append]; show (ws ++ [e])[ws.length + 1 - 1]? = _; rw [Nat.add_sub_cancel, List.getElem?_append_right (Nat.le_refl _), Nat.sub_self]; rfl, fun z hz => by
            rcases List.mem_append.mp hz with h | h
            · exact ho6 z h
            · rw [List.mem_singleton.mp h]; exact heok, by rw [List.length_append]; exact Nat.succ_le_succ hn6, road_snoc hr6 hl6 hen⟩
          have s9 := (s5.trans s8').inner (M' := M1 d) (Stp.mut (x := .dK (putK kvs (Sum.inr e) (.ref r8))) s8'.gh hd8 gd8 rfl) (fun a e => .inr (by rw [e]; exact nd))
          walk_at "go"
          refine ⟨d, _, rfl, dp_str hd8 (small5 (by rw [hR5.klen]; omega)), ?_⟩
          have hl9 : (upd H8 d (.dK (putK kvs (Sum.inr e) (.ref r8)))) l = some (.lst (xs.map V.str)) := by rw [upd_ne (Ne.symm hdl)]; exact hl8
          have hd9 : (upd H8 d (.dK (putK kvs (Sum.inr e) (.ref r8)))) d = some (.dK (putK kvs (Sum.inr e) (.ref r8))) := upd_same
          generalize upd H8 d (.dK (putK kvs (Sum.inr e) (.ref r8))) = H9 at s9 hl9 hd9 ⊢
          walk_at "go"
          refine c_append hl9 (small5 (by rw [List.length_map]; omega)) ?_
          have s10 := s9.inner (M' := M1 l) (Stp.mut (x := .lst ((xs ++ [e]).map V.str)) s9.gh hl9 gl8 rfl) (fun a e => .inr (by rw [e]; exact nl0))
          rw [List.map_append] at s10
          refine ⟨_, xs ++ [e], G8, _, rfl, s10, by rw [upd_ne hdl]; exact hd9, by rw [upd_same, List.map_append]; rfl, gd8, gl8, hR8, by rw [List.getElem?_append_left (by rcases Nat.lt_or_ge at_ xs.length with h | h; exact h; rw [List.getElem?_eq_none h] at hx5; cases hx5)]; exact hx5, s8'.gg.seq hs5⟩
      · obtain ⟨kvs, xs, G'', y5, rfl, s5, hd5, hl5, gd5, gl5, hR5, hx5, hs5⟩ := pv
        walk_at "go"
        have hat5 : at_ < xs.length := by rcases Nat.lt_or_ge at_ xs.length with h | h; exact h; rw [List.getElem?_eq_none h] at hx5; cases hx5
        exact ⟨m - 1, by omega, at_ + 1, kvs, xs, G'', y5, rfl, s5, hd5, hl5, gd5, gl5, hR5, hat5, by omega⟩
    · rw [decide_eq_false (by rw [List.length_map]; omega)]
      refine hF H' ?_
      walk_at "go"
      exact q d kvs xs (upd G' d (.dK kvs)) H' (st.freeze hd' nd gd') upd_same (hR'.same (same_new gd'))
end
local macro_rules | `(tactic| walk_at "u1") => `(tactic| first
  | with_reducible refine r_din ?_ | with_reducible refine r_dnotin ?_)
abbrev sRinged : Stmt := topS 27
theorem scRinged : FnScope ["_law_pen_here", "_law_yard_here", "_law_road", "_law_some", "_law_room"] ["_law_pen_here", "_law_yard_here"] (defScope sRinged) := ⟨rfl, rfl, rfl, by decide +kernel, rfl, by decide +kernel, by decide +kernel⟩
theorem first_at {z : Str} : ∀ {l : List Str}, z ∈ l → ∃ j, l[j]? = some z ∧ ∀ (m : Nat) (x : Str), m < j → l[m]? = some x → x ≠ z
  | [], h => by cases h
  | y :: l, h => by
    by_cases e : y = z
    · exact ⟨0, by rw [e]; rfl, fun m x hm => absurd hm (Nat.not_lt_zero _)⟩
    · rcases List.mem_cons.mp h with h | h
      · exact absurd h.symm e
      · obtain ⟨j, hj, hn⟩ := first_at h
        refine ⟨j + 1, hj, fun m x hm hx => ?_⟩
        cases m with
        | zero => rw [← Option.some.inj hx]; exact e
        | succ m => exact hn m x (by omega) hx
theorem eqV_str (a b : Str) : eqV (.str a) (.str b) = decide (a = b) := by
  show (a == b) = decide (a = b)
  by_cases e : a = b
  · subst e; simp
  · rw [decide_eq_false e]; exact beq_eq_false_iff_ne.mpr e
theorem r_indexS {K : PySem.W.Frag} {H : Hp} {Q : VK} {p : Addr} {zs : List Str} {z : Str} {j : Nat} (h : SqL K H p (zs.map V.str)) (e : zs[j]? = some z) (hn : ∀ (m : Nat) (x : Str), m < j → zs[m]? = some x → x ≠ z) (q : Q (.int (j : Nat)) H) : rIndex K (.ref p) [.str z] H Q :=
  ⟨p, _, _, j, .str z, rfl, rfl, h, rfl, flat_strs _, by rw [List.getElem?_map, e]; rfl, by rw [eqV_str]; exact decide_eq_true rfl, fun m z' hm hz => by
    obtain ⟨x, hx, rfl⟩ := map_get hz
    rw [eqV_str]
    exact decide_eq_false (hn m x hm hx), q⟩
def spRinged (K : PySem.W.Frag) : Sp := fun vs H Q _ => ∃ (p y : Addr) (n : Nat) (rs : List Str) (ds : List Dr) (G : Hp), vs = [.ref p, .ref y] ∧ Same G H ∧ Pen K G p n H ∧ n + 200 < 2 ^ 40 ∧ Yard K G y rs ds ∧ 1 ≤ rs.length ∧ rs.length < 2 ^ 30 ∧ ds.length < 64 ∧ DsOk ds ∧ (∀ z ∈ rs, SOk z) ∧
  ∀ r (ws : List Str) G' H', Stp (M1 p) G H G' H' → Pen K G' p (n + 200) H' → SqT K G' r (ws.map V.str) → (ws = [] ∨ ∃ c, fst0 ws = some c ∧ lst ws = some c ∧ 2 ≤ ws.length) → (∀ z ∈ ws, SOk z) → ws.length ≤ 200 → Road ds ws → Q (.ref r) H'
abbrev DRinged (P : Program) (w : World) (K : PySem.W.Frag) (mg : Str → Option Value) (base : Heap) : Prop := Df P w K mg base CX0 3 "_law_ringed" ["_law_pen_here", "_law_yard_here"] (spRinged K)
section
variable {P : Program} {w : World} {K : PySem.W.Frag} {mg : Str → Option Value} {base : Heap}
theorem ok_Ringed {f : Addr} {fd : FuncData} (F : Fun K "_law_ringed" "_law_ringed" sRinged f fd) (M : Mgs mg) (D_near : DNear P w K mg base) (D_pick : DPick P w K mg base) : FnOk P w K mg base CX0 3 f fd ["_law_pen_here", "_law_yard_here"] (spRinged K) := by
  refine F.ok scRinged (fun vs H Q E h => ?_) (fun cdv A outer s H vs Q E hr h => ?_)
  · obtain ⟨p, y, n, rs, ds, G, rfl, _⟩ := h
    rfl
  · obtain ⟨p, y, n, rs, ds, G, rfl, g0, hp, hn, hy, hr1, hr2, hl, hok, hro, q⟩ := h
    have hu := hu_of hr
    have hu64 := hu64_of hr
    refine ⟨_, ((pss_cons (ps_set (i := 2) scRinged.nd rfl (Or.inr rfl) (pe_lst (pa_cons (pe_df D_pick hr (by rfl) pass0 (pa_cons (pv 0) (pa_cons (pe_dget hu (pv 1) pe_str (fun _ _ => rfl)) pa_nil))) pa_nil)))
    (pss_cons (ps_while PassesOwn.never (pt_cmpR op_lt (pe_callB (k_len (K := K) rfl) (by rfl) M.len PySem.boot_len (pa_cons (pv 2) pa_nil)) pe_int (nomark _))
    (pss_cons (ps_setLc (i := 3) (own := [("_law_room", 4)]) rfl scRinged.nd rfl rfl (sw_true rfl rfl rfl (by decide +kernel)) (k_pi_list (K := K) rfl (pe_df D_near hr (by rfl) pass0 (pa_cons (pv 1) (pa_cons (pe_ix (k_ix_list (K := K) rfl) (pv 2) (pe_un un_neg pe_int) (fun _ _ => rfl)) pa_nil)))) (blkOk_by (N := ["_law_pen_here", "_law_yard_here", "_law_road", "_law_some", "_law_room"]) (sc := defScope sRinged) (by decide +kernel)) (fun _ _ _ _ _ => (pg_name (i := 4) scRinged.nd rfl (Or.inl rfl))) (fun _ _ _ _ _ => (pts_one (pt_cmpR (k_op_notIn (K := K) rfl) (pv 4) (pe_slice (k_sl_list (K := K) rfl) (pv 2) (po_some (pe_un un_neg pe_int)) (po_some (pe_un un_neg pe_int))) (by rfl)))) (fun _ _ _ _ _ => (pv 4)))
    (pss_cons (ps_if (pt_cmpR (k_op_eqD (K := K) rfl hu64) (pv 3) (pe_lst pa_nil) (nomark _))
    (pss_one (ps_ret (pe_tup pa_nil)))
    pss_nil)
    (pss_cons (ps_set (i := 4) scRinged.nd rfl (Or.inl rfl) (pe_df D_pick hr (by rfl) pass0 (pa_cons (pv 0) (pa_cons (pv 3) pa_nil))))
    (pss_cons (ps_if (pt_cmpR (k_op_in (K := K) rfl) (pv 4) (pv 2) (by rfl))
    (pss_one (ps_ret (pe_callTy (k_tuple (K := K) rfl) (by rfl) M.tuple_ (by decide +kernel) (pa_cons (pe_op op_cat (pe_slice (k_sl_list (K := K) rfl) (pv 2) (po_some (k_bm (K := K) rfl PySem.F.plainAttrs_list PySem.F.slot_list_index PySem.F.type_list_index (k_index (K := K) rfl) (pv 2) (pa_cons (pv 4) pa_nil))) po_none) (pe_lst (pa_cons (pv 4) pa_nil))) pa_nil))))
    pss_nil)
    (pss_one (ps_expr (k_bm (K := K) rfl PySem.F.plainAttrs_list PySem.F.slot_list_append PySem.F.type_list_append mt_append (pv 2) (pa_cons (pv 4) pa_nil)))))))))
    (pss_one (ps_ret (pe_tup pa_nil)))))), ?_⟩
    walk_at "go0"
    have hy' := hy
    obtain ⟨dd, xs, ⟨rr, e1, e2⟩, _⟩ := hy'
    refine r_dget' (dk (g0 _ _ e1) vv0) ?_
    walk_at "go"
    refine use_pick g0 hp (by omega) (.inl ⟨rr, rfl, e2⟩) (by rw [List.length_map]; exact hr1) (by rw [List.length_map]; exact hr2) (fun d1 x H1 hx s1 hp1 => ?_)
    obtain ⟨b, hb, rfl⟩ := map_get hx
    have hbok : SOk b := hro b (List.mem_of_getElem? hb)
    walk_at "go"
    refine ⟨by show 1 ≤ sizeLine; decide, fun o no => ?_⟩
    have s2 := s1.trans (Stp.newM (M := M1 p) (x := .lst ([b].map V.str)) s1.gh no)
    have ho2 : (upd H1 o (.lst ([b].map V.str))) o = some (.lst ([b].map V.str)) := upd_same
    have go2 : G o = none := none_of s1.gh no
    have no0 : H o = none := s1.free no
    have hp2 := hp1.upd (x := .lst ([b].map V.str)) (hp1.new no)
    show gName _ _ _ (upd H1 o (.lst ([b].map V.str))) _
    generalize upd H1 o (.lst ([b].map V.str)) = H2 at s2 ho2 hp2 ⊢
    walk_at "go"
    refine while_k (fun m σ H' => ∃ ws G' y3 y4, σ = [some (.ref p), some (.ref y), some (.ref o), y3, y4] ∧ Stp (M1 p) G H G' H' ∧ H' o = some (.lst (ws.map V.str)) ∧ G' o = none ∧ 1 ≤ ws.length ∧ (∀ z ∈ ws, SOk z) ∧ Road ds ws ∧ Pen K G' p (n + ws.length) H' ∧ m + ws.length = 100)
      99 ⟨[b], G, none, none, rfl, s2, ho2, go2, Nat.le_refl _, (fun z hz => by rw [List.mem_singleton.mp hz]; exact hbok), road_one _ _, hp2, rfl⟩ (fun m σ H' pv Ct hT hF => ?_)
    obtain ⟨ws, G', y3, y4, rfl, st, hoz, goz, hw1, hwo, hrd, hpz, hm⟩ := pv
    clear s1 s2 ho2 hp1 hp2
    walk_at "go"
    by_cases hc : ws.length < 99
    · rw [decide_eq_true (by rw [List.length_map]; omega)]
      refine hT H' ?_
      obtain ⟨la, hla⟩ : ∃ la, ws[ws.length - 1]? = some la := ⟨_, List.getElem?_eq_getElem (by omega)⟩
      walk_at "go"
      refine r_ixL (lof hoz) (at_end hla) ?_
      walk_at "go"
      refine use_near st.gh (hy.same st.gg) hl (fun r2 ys G2 H2 s2 h2 p2 _ => ?_)
      walk_at "go"
      have oz2 : H2 o = some (.lst (ws.map V.str)) := s2.up _ _ (fun z => z) hoz
      have goz2 : G2 o = none := (s2.fr _ _ hoz).trans goz
      have hpz2 := hpz.stp0 s2
      have hyo : ∀ e ∈ ys, SOk e := fun e he => nb_ok hok (p2.mem_iff.mp he)
      have hyn : ys.length < 64 := by
        rw [p2.length_eq]
        unfold nb
        rw [List.length_map]
        exact Nat.lt_of_le_of_lt (List.length_filter_le _ _) hl
      refine lcL (M := M0) h2 (by rw [List.length_map]; omega) s2.gh (fun i acc G' H' => ∃ zs : List Str, acc = zs.map V.str ∧ (∀ z ∈ zs, SOk z) ∧ ∀ z ∈ zs, z ∈ nb ds la) (fun L hL => ⟨[], rfl, (fun z hz => by cases hz), fun z hz => by cases hz⟩)
        (fun L i v acc G3 H3 Em Sk hi hL hL' gL hacc s3 pv hv hEm hSk => ?_) (fun L acc G3 H3 hL hacc s3 hL' gL pv => ?_)
      · obtain ⟨zs, rfl, hzs, hzn⟩ := pv
        obtain ⟨e, he, rfl⟩ := map_get hv
        have oz3 : H3 o = some (.lst (ws.map V.str)) := s3.up _ _ (fun z => z) oz2
        walk_at "go"
        refine ⟨rfl, ?_⟩
        walk_at "go"
        refine r_slL (lof oz3) (fun c nc => ?_)
        obtain ⟨cs, ecs⟩ : ∃ cs : List Str, cutV (ws.map V.str) (some (-2)) (some (-1)) = cs.map V.str := ⟨_, by unfold cutV; rw [← List.map_drop, ← List.map_take]⟩
        have s4 := s3.trans (Stp.newM (M := M0) (x := .lst (cs.map V.str)) s3.gh nc)
        show rIn _ _ _ _ (upd H3 c (.lst (cutV (ws.map V.str) (some (-2)) (some (-1))))) _
        rw [ecs]
        have hc4 : (upd H3 c (.lst (cs.map V.str))) c = some (.lst (cs.map V.str)) := upd_same
        have hL4 : (upd H3 c (.lst (cs.map V.str))) L = some (.lst (zs.map V.str)) := by rw [upd_ne (ne_of_none hL' nc)]; exact hL'
        generalize upd H3 c (.lst (cs.map V.str)) = H4 at s4 hc4 hL4 ⊢
        refine r_ninL (lof hc4) ?_
        walk_at "go"
        refine ifND (fun c3 => ?_) (fun c3 => ?_)
        · walk_at "go"
          exact hEm _ G3 H4 s4 hL4 gL ⟨zs ++ [e], by rw [List.map_append]; rfl, (fun z hz => by
            rcases List.mem_append.mp hz with h | h
            · exact hzs z h
            · rw [List.mem_singleton.mp h]; exact hyo e (List.mem_of_getElem? he)), fun z hz => by
            rcases List.mem_append.mp hz with h | h
            · exact hzn z h
            · rw [List.mem_singleton.mp h]; exact p2.mem_iff.mp (List.mem_of_getElem? he)⟩
        · exact hSk G3 H4 s4 hL4 gL ⟨zs, rfl, hzs, hzn⟩
      · obtain ⟨zs, rfl, hzs, hzn⟩ := pv
        rw [List.length_map, List.length_map] at hacc
        have s4 := s3.freeze hL' hL gL
        have hL4 : (upd G3 L (.lst (zs.map V.str))) L = some (.lst (zs.map V.str)) := upd_same
        generalize upd G3 L (.lst (zs.map V.str)) = G4 at s4 hL4
        have oz3 : H3 o = some (.lst (ws.map V.str)) := s4.up _ _ (fun z => z) oz2
        have goz3 : G4 o = none := (s4.fr _ _ oz2).trans goz2
        have hpz3 := hpz2.stp0 s4
        have s4' := (st.trans s2.weak).trans s4.weak
        walk_at "go"
        refine ⟨Nat.zero_le _, fun z nz => ?_⟩
        have s5 := s4'.trans (Stp.newM (M := M1 p) (x := .lst []) s4'.gh nz)
        have hz5 : (upd H3 z (.lst [])) z = some (.lst (([] : List Str).map V.str)) := upd_same
        have oz5 : (upd H3 z (.lst [])) o = some (.lst (ws.map V.str)) := by rw [upd_ne (ne_of_none oz3 nz)]; exact oz3
        have hp5 := hpz3.upd (x := .lst []) (hpz3.new nz)
        generalize upd H3 z (.lst []) = H5 at s5 hz5 oz5 hp5 ⊢
        refine r_eqLL (s5.gh.seq (lof hL4)) (lof hz5) hzs (fun _ h => by cases h) ?_
        walk_at "go"
        refine ifD (fun c1 => ?_) (fun c1 => ?_)
        · walk_at "go"
          refine ⟨Nat.zero_le _, fun r nr => ?_⟩
          have s6 := s5.trans (Stp.new (M := M1 p) (x := .tup (([] : List Str).map V.str)) s5.gh nr)
          exact q r [] _ _ s6 ((hp5.stp0 (Stp.new s5.gh nr)).mono (by omega)) (tof upd_same) (.inl rfl) (fun z hz => by cases hz) (by simp) (road_nil _)
        · have hpos : 1 ≤ zs.length := by
            cases zs with
            | nil => exact absurd rfl c1
            | cons x r => simp
          walk_at "go"
          refine use_pick s5.gh hp5 (by omega) (.inl ⟨L, rfl, lof hL4⟩) (by rw [List.length_map]; exact hpos) (by rw [List.length_map]; omega) (fun d x H6 hx s6 hp6 => ?_)
          obtain ⟨e, he, rfl⟩ := map_get hx
          have heo : SOk e := hzs e (List.mem_of_getElem? he)
          have oz6 : H6 o = some (.lst (ws.map V.str)) := s6.up _ _ (hp5.ne oz5) oz5
          have s6' := s5.trans s6
          walk_at "go"
          refine r_inL (lof oz6) ?_
          walk_at "go"
          refine ifD (fun c2 => ?_) (fun c2 => ?_)
          · obtain ⟨j, hj, hjn⟩ := first_at c2
            walk_at "go"
            refine r_indexS (lof oz6) hj hjn ?_
            walk_at "go"
            refine r_slL (lof oz6) (fun c nc => ?_)
            rw [cut_from]
            have s7 := s6'.trans (Stp.newM (M := M1 p) (x := .lst ((ws.drop j).map V.str)) s6'.gh nc)
            have hc7 : (upd H6 c (.lst ((ws.drop j).map V.str))) c = some (.lst ((ws.drop j).map V.str)) := upd_same
            have hp7 := hp6.upd (x := .lst ((ws.drop j).map V.str)) (hp6.new nc)
            generalize upd H6 c (.lst ((ws.drop j).map V.str)) = H7 at s7 hc7 hp7 ⊢
            walk_at "go"
            refine ⟨by show 1 ≤ sizeLine; decide, fun c8 nc8 => ?_⟩
            have s8 := s7.trans (Stp.newM (M := M1 p) (x := .lst ([e].map V.str)) s7.gh nc8)
            have hc8 : (upd H7 c8 (.lst ([e].map V.str))) c8 = some (.lst ([e].map V.str)) := upd_same
            have hc78 : (upd H7 c8 (.lst ([e].map V.str))) c = some (.lst ((ws.drop j).map V.str)) := by rw [upd_ne (ne_of_none hc7 nc8)]; exact hc7
            have hp8 := hp7.upd (x := .lst ([e].map V.str)) (hp7.new nc8)
            show rCat _ _ (upd H7 c8 (.lst ([e].map V.str))) _
            generalize upd H7 c8 (.lst ([e].map V.str)) = H8 at s8 hc8 hc78 hp8 ⊢
            have hdl : (ws.drop j).length ≤ ws.length := by rw [List.length_drop]; omega
            refine r_cat hc78 hc8 (Nat.le_of_lt (small5 (by rw [List.length_map, List.length_map]; show _ + 1 ≤ _; omega))) (fun c9 nc9 => ?_)
            rw [← List.map_append]
            have s9 := s8.trans (Stp.newM (M := M1 p) (x := .lst ((ws.drop j ++ [e]).map V.str)) s8.gh nc9)
            have hc9 : (upd H8 c9 (.lst ((ws.drop j ++ [e]).map V.str))) c9 = some (.lst ((ws.drop j ++ [e]).map V.str)) := upd_same
            have hp9 := hp8.upd (x := .lst ((ws.drop j ++ [e]).map V.str)) (hp8.new nc9)
            generalize upd H8 c9 (.lst ((ws.drop j ++ [e]).map V.str)) = H9 at s9 hc9 hp9 ⊢
            walk_at "go"
            refine c_tupleL (lof hc9) (fun r nr => ?_)
            have s10 := s9.trans (Stp.new (M := M1 p) (x := .tup ((ws.drop j ++ [e]).map V.str)) s9.gh nr)
            have hjl : j < ws.length := by rcases Nat.lt_or_ge j ws.length with h | h; exact h; rw [List.getElem?_eq_none h] at hj; cases hj
            have e0 : ws.drop j = e :: ws.drop (j + 1) := by
              rw [List.drop_eq_getElem_cons hjl]
              rw [List.getElem?_eq_getElem hjl] at hj
              rw [Option.some.inj hj]
            refine q r (ws.drop j ++ [e]) _ _ s10 ((hp9.stp0 (Stp.new s9.gh nr)).mono (by omega)) (tof upd_same) (.inr ⟨e, by rw [e0]; rfl, ?_, by rw [List.length_append, List.length_drop]; show 2 ≤ _ + 1; omega⟩) (fun z hz => ?_) (by rw [List.length_append]; show _ + 1 ≤ _; omega) ?_
            · unfold lst
              rw [List.length_append]
              show (ws.drop j ++ [e])[(ws.drop j).length + 1 - 1]? = _
              rw [Nat.add_sub_cancel, List.getElem?_append_right (Nat.le_refl _), Nat.sub_self]
              rfl
            · rcases List.mem_append.mp hz with h | h
              · exact hwo z (List.mem_of_mem_drop h)
              · rw [List.mem_singleton.mp h]; exact heo
            · exact road_snoc (a := la) (road_drop hrd j) (by rw [List.getElem?_drop, List.length_drop, show j + (ws.length - j - 1) = ws.length - 1 by omega]; exact hla) (hzn e (List.mem_of_getElem? he))
          · walk_at "go"
            refine c_append oz6 (small5 (by rw [List.length_map]; omega)) ?_
            have s7 := s6'.inner (M' := M1 o) (Stp.mut (x := .lst (ws.map V.str ++ [.str e])) s6'.gh oz6 goz3 rfl) (fun a e => .inr (by rw [e]; exact no0))
            exact ⟨m - 1, by omega, ws ++ [e], G4, _, _, rfl, s7, by rw [upd_same, List.map_append]; rfl, goz3, by rw [List.length_append]; omega, (fun z hz => by
              rcases List.mem_append.mp hz with h | h
              · exact hwo z h
              · rw [List.mem_singleton.mp h]; exact heo), road_snoc hrd hla (hzn e (List.mem_of_getElem? he)), (hp6.upd (hp6.ne oz6)).mono (by rw [List.length_append]; show _ ≤ n + (ws.length + 1); omega), by rw [List.length_append]; show m - 1 + (ws.length + 1) = 100; omega⟩
    · rw [decide_eq_false (by rw [List.length_map]; omega)]
      refine hF H' ?_
      walk_at "go"
      refine ⟨Nat.zero_le _, fun r nr => ?_⟩
      have s6 := st.trans (Stp.new (M := M1 p) (x := .tup (([] : List Str).map V.str)) st.gh nr)
      exact q r [] _ _ s6 ((hpz.stp0 (Stp.new st.gh nr)).mono (by omega)) (tof upd_same) (.inl rfl) (fun z hz => by cases hz) (by simp) (road_nil _)
end
local macro_rules | `(tactic| walk_at "u1") => `(tactic| first
  | with_reducible refine r_din ?_ | with_reducible refine r_dnotin ?_)
abbrev sClosed : Stmt := topS 28
theorem scClosed : FnScope ["_law_pen_here", "_law_yard_here", "_law_begin", "_law_found", "_law_reach_here", "_law_k", "_law_road", "_law_out"] ["_law_pen_here", "_law_yard_here", "_law_begin"] (defScope sClosed) := ⟨rfl, rfl, rfl, by decide +kernel, rfl, by decide +kernel, by decide +kernel⟩
theorem if_joinS {b : Bool} {t u : TS} {D : Ends} {σ : L2.St} {H : Hp} (R : L2.St → Hp → Prop) (h1 : b = true → ∀ N : L2.St → Hp → Prop, (∀ σ' H', R σ' H' → N σ' H') → t { D with nx := N } σ H) (h2 : b = false → ∀ N : L2.St → Hp → Prop, (∀ σ' H', R σ' H' → N σ' H') → u { D with nx := N } σ H) (q : ∀ σ' H', R σ' H' → D.nx σ' H') :
    if b = true then t D σ H else u D σ H := by
  cases b with
  | true => exact h1 rfl D.nx q
  | false => exact h2 rfl D.nx q
theorem if_join2 {c : Bool} {tb : TT} {t u : TS} {D : Ends} {σ : L2.St} {H : Hp} (R : L2.St → Hp → Prop)
    (h1 : c = true → ∀ N : L2.St → Hp → Prop, (∀ σ' H', R σ' H' → N σ' H') → tb σ H fun b H1 => if b = true then t { D with nx := N } σ H1 else u { D with nx := N } σ H1)
    (h2 : c = false → ∀ N : L2.St → Hp → Prop, (∀ σ' H', R σ' H' → N σ' H') → u { D with nx := N } σ H) (q : ∀ σ' H', R σ' H' → D.nx σ' H') :
    if c = true then tb σ H fun b H1 => if b = true then t D σ H1 else u D σ H1 else u D σ H := by
  cases c with
  | true => exact h1 rfl D.nx q
  | false => exact h2 rfl D.nx q
theorem lst_ne {l : List Str} {x : Str} (h : lst l = some x) : l.length ≠ 0 := fun e => by unfold lst at h; rw [List.getElem?_eq_none (by omega)] at h; cases h
theorem cut_last {l : List Str} {x : Str} {i : Int} (e : i = -1) (h : lst l = some x) : cutV (l.map V.str) (some i) none = [x].map V.str := by
  have hl := lst_ne h
  have e2 : l.drop (l.length - 1) = [x] := by
    conv => lhs; rw [← lst_dl h]
    rw [List.length_append]
    show List.drop (l.dropLast.length + 1 - 1) (l.dropLast ++ [x]) = [x]
    rw [Nat.add_sub_cancel, List.drop_left]
  subst e
  have e1 : HT.sIx l.length 0 (some (-1)) = l.length - 1 := by
    show (if (-1 : Int) < 0 then ((-1 : Int) + (l.length : Int)).toNat else min (-1 : Int).toNat l.length) = _
    rw [if_pos (by decide)]
    omega
  unfold cutV
  rw [List.length_map, e1, HT.sIx_none, ← List.map_drop, e2]
  exact List.take_of_length_le (by simp; omega)
theorem cut_dl {l : List Str} {i : Int} (e : i = -1) : cutV (l.map V.str) none (some i) = l.dropLast.map V.str := by
  subst e
  have e1 : HT.sIx l.length l.length (some (-1)) = l.length - 1 := by
    show (if (-1 : Int) < 0 then ((-1 : Int) + (l.length : Int)).toNat else min (-1 : Int).toNat l.length) = _
    rw [if_pos (by decide)]
    omega
  unfold cutV
  rw [List.length_map, e1, HT.sIx_none, List.drop_zero, Nat.sub_zero, ← List.map_take, List.dropLast_eq_take]
theorem rep_map (m : Nat) (l : List Str) : (List.replicate m (l.map V.str)).flatten = (List.replicate m l).flatten.map V.str := by
  induction m with
  | zero => rfl
  | succ m ih => rw [List.replicate_succ, List.replicate_succ, List.flatten_cons, List.flatten_cons, List.map_append, ih]
theorem rep_len (m : Nat) (l : List Str) : (List.replicate m l).flatten.length = m * l.length := by
  induction m with
  | zero => simp
  | succ m ih => rw [List.replicate_succ, List.flatten_cons, List.length_append, ih, Nat.succ_mul, Nat.add_comm]
theorem rep_mem {m : Nat} {l : List Str} {z : Str} (h : z ∈ (List.replicate m l).flatten) : z ∈ l := by
  obtain ⟨a, ha, hz⟩ := List.mem_flatten.mp h
  rw [(List.mem_replicate.mp ha).2] at hz
  exact hz
theorem lst_snoc (l : List Str) (x : Str) : lst (l ++ [x]) = some x := by
  unfold lst
  rw [List.length_append]
  show (l ++ [x])[l.length + 1 - 1]? = some x
  rw [Nat.add_sub_cancel, List.getElem?_append_right (Nat.le_refl _), Nat.sub_self]
  rfl
/-- so many times round -/
def rnd (m : Nat) (l : List Str) (c : Str) : List Str := (List.replicate m l.dropLast).flatten ++ [c]
theorem fst_rnd {m : Nat} {l : List Str} {c : Str} (h : fst0 l = some c) (h2 : 2 ≤ l.length) (hm : 1 ≤ m) : fst0 (rnd m l c) = some c := by
  obtain ⟨k, rfl⟩ : ∃ k, m = k + 1 := ⟨m - 1, by omega⟩
  unfold rnd
  rw [List.replicate_succ, List.flatten_cons]
  have e : fst0 l.dropLast = some c := by
    unfold fst0 at h ⊢
    rw [List.getElem?_dropLast, if_pos (by omega)]
    exact h
  exact fst_app (fst_app e)
theorem lst_rnd (m : Nat) (l : List Str) (c : Str) : lst (rnd m l c) = some c := lst_snoc _ _
/-- what a closed walk is made of -/
structure Ok2 (ds : List Dr) (b : Str) (W1 W2 : List Str) : Prop where
  f2 : fst0 W2 = some b
  c1 : ∃ c, lst W2 = some c ∧ (W1 = [] ∨ (fst0 W1 = some c ∧ lst W1 = some c))
  o1 : ∀ z ∈ W1, SOk z
  o2 : ∀ z ∈ W2, SOk z
  l1 : W1.length ≤ 600
  l2 : W2.length ≤ 130
  r1 : Road ds W1
  r2 : Road ds W2
theorem Ok2.ends {ds : List Dr} {b : Str} {F W1 W2 : List Str} (h : Ok2 ds b W1 W2) (hF : fst0 F = some b) (hL : lst F = some b) :
    fst0 (F ++ W2.tail ++ W1.tail ++ W2.reverse.tail) = some b ∧ lst (F ++ W2.tail ++ W1.tail ++ W2.reverse.tail) = some b := by
  obtain ⟨c, hc, h1⟩ := h.c1
  have e1 := lst_app hL h.f2 hc
  have e2 : lst (F ++ W2.tail ++ W1.tail) = some c := by
    rcases h1 with e | ⟨h2, h3⟩
    · rw [e]; simpa using e1
    · exact lst_app e1 h2 h3
  exact ⟨fst_app (fst_app (fst_app hF)), lst_app e2 (fst_rev hc) (lst_rev h.f2)⟩
theorem Ok2.ok {ds : List Dr} {b : Str} {F W1 W2 : List Str} (h : Ok2 ds b W1 W2) (hF : ∀ z ∈ F, SOk z) : ∀ z ∈ F ++ W2.tail ++ W1.tail ++ W2.reverse.tail, SOk z := fun z hz => by
  rcases List.mem_append.mp hz with hz | hz
  · rcases List.mem_append.mp hz with hz | hz
    · rcases List.mem_append.mp hz with hz | hz
      · exact hF z hz
      · exact h.o2 z (List.mem_of_mem_tail hz)
    · exact h.o1 z (List.mem_of_mem_tail hz)
  · exact h.o2 z (List.mem_reverse.mp (List.mem_of_mem_tail hz))
theorem Ok2.len {ds : List Dr} {b : Str} {F W1 W2 : List Str} (h : Ok2 ds b W1 W2) : (F ++ W2.tail ++ W1.tail ++ W2.reverse.tail).length ≤ F.length + 900 := by
  have h1 := h.l1
  have h2 := h.l2
  simp only [List.length_append, List.length_tail, List.length_reverse]
  omega
theorem Ok2.road {ds : List Dr} {b : Str} {F W1 W2 : List Str} (h : Ok2 ds b W1 W2) (hn : DsNe ds) (hr : Road ds F) (hF : fst0 F = some b) (hL : lst F = some b) : Road ds (F ++ W2.tail ++ W1.tail ++ W2.reverse.tail) := by
  obtain ⟨c, hc, h1⟩ := h.c1
  have e1 := lst_app hL h.f2 hc
  have r1 := road_glue hr h.r2 hL h.f2
  have e2 : lst (F ++ W2.tail ++ W1.tail) = some c ∧ Road ds (F ++ W2.tail ++ W1.tail) := by
    rcases h1 with e | ⟨h2, h3⟩
    · rw [e]; exact ⟨by simpa using e1, by simpa using r1⟩
    · exact ⟨lst_app e1 h2 h3, road_glue r1 h.r1 e1 h2⟩
  exact road_glue e2.2 (road_rev hn h.r2) e2.1 (fst_rev hc)
theorem road_rnd {ds : List Dr} {l : List Str} {c : Str} (h : Road ds l) (hf : fst0 l = some c) (hl : lst l = some c) (h2 : 2 ≤ l.length) : ∀ m, Road ds (rnd m l c)
  | 0 => road_one _ _
  | m + 1 => by
    have e : rnd (m + 1) l c = l ++ (rnd m l c).tail := by
      have hf2 : fst0 (rnd m l c) = some c := by
        cases m with
        | zero => rfl
        | succ m => exact fst_rnd hf h2 (by omega)
      rw [glue hl hf2]
      unfold rnd
      rw [List.replicate_succ, List.flatten_cons, List.append_assoc]
    rw [e]
    have hf2 : fst0 (rnd m l c) = some c := by
      cases m with
      | zero => rfl
      | succ m => exact fst_rnd hf h2 (by omega)
    exact road_glue h (road_rnd h hf hl h2 m) hl hf2
def spClosed (K : PySem.W.Frag) : Sp := fun vs H Q _ => ∃ (p y : Addr) (b : Str) (n : Nat) (rs : List Str) (ds : List Dr) (G : Hp), vs = [.ref p, .ref y, .str b] ∧ Same G H ∧ Pen K G p n H ∧ n + 1000 < 2 ^ 40 ∧ Yard K G y rs ds ∧ 1 ≤ rs.length ∧ rs.length < 2 ^ 30 ∧ ds.length < 64 ∧ DsOk ds ∧ DsNe ds ∧ (∀ z ∈ rs, SOk z) ∧ SOk b ∧
  ∀ r (ws : List Str) G' H', Stp (M1 p) G H G' H' → Pen K G' p (n + 700) H' → SqT K G' r (ws.map V.str) → fst0 ws = some b → lst ws = some b → (∀ z ∈ ws, SOk z) → ws.length ≤ 2000 → Road ds ws → Q (.ref r) H'
abbrev DClosed (P : Program) (w : World) (K : PySem.W.Frag) (mg : Str → Option Value) (base : Heap) : Prop := Df P w K mg base CX0 4 "_law_closed" ["_law_pen_here", "_law_yard_here", "_law_begin"] (spClosed K)
section
variable {P : Program} {w : World} {K : PySem.W.Frag} {mg : Str → Option Value} {base : Heap}
theorem ok_Closed {f : Addr} {fd : FuncData} (F : Fun K "_law_closed" "_law_closed" sClosed f fd) (M : Mgs mg) (D_draw : DDraw P w K mg base) (D_strolled : DStrolled P w K mg base) (D_reach : DReach P w K mg base) (D_ringed : DRinged P w K mg base) : FnOk P w K mg base CX0 4 f fd ["_law_pen_here", "_law_yard_here", "_law_begin"] (spClosed K) := by
  refine F.ok scClosed (fun vs H Q E h => ?_) (fun cdv A outer s H vs Q E hr h => ?_)
  · obtain ⟨p, y, b, n, rs, ds, G, rfl, _⟩ := h
    rfl
  · obtain ⟨p, y, b, n, rs, ds, G, rfl, g0, hp, hn, hy, hr1, hr2, hl, hok, hdn, hro, hb, q⟩ := h
    have hu := hu_of hr
    have hu64 := hu64_of hr
    refine ⟨_, ((pss_cons (ps_par (i := 3) (j := 4) (by rfl) scClosed.nd rfl rfl (by decide) rfl rfl (pa_cons (pe_tup (pa_cons (pv 2) pa_nil)) (pa_cons (pe_df D_reach hr (by rfl) pass0 (pa_cons (pv 1) (pa_cons (pv 2) pa_nil))) pa_nil)) (by rfl))
    (pss_cons (ps_for PassesOwn.never rfl (pi_range1 (by rfl) M.range (pa_cons (pe_df D_draw hr (by rfl) pass0 (pa_cons (pv 0) (pa_cons pe_int pa_nil))) pa_nil)) (pg_name (i := 5) scClosed.nd rfl (Or.inl rfl))
    (pss_cons (ps_par (i := 6) (j := 7) (by rfl) scClosed.nd rfl rfl (by decide) rfl rfl (pa_cons (pe_df D_ringed hr (by rfl) pass0 (pa_cons (pv 0) (pa_cons (pv 1) pa_nil))) (pa_cons (pe_df D_strolled hr (by rfl) pass0 (pa_cons (pv 0) (pa_cons (pv 1) (pa_cons (pv 2) (pa_cons (pe_df D_draw hr (by rfl) pass0 (pa_cons (pv 0) (pa_cons pe_int pa_nil))) pa_nil))))) pa_nil)) (by rfl))
    (pss_cons (ps_if (PW.pt (pw_and (pt_cmpR (k_op_neD (K := K) rfl hu64) (pv 6) (pe_tup pa_nil) (nomark _)) (pw_and1 (pt_cmp (pc_din hu (pe_ix (k_ix_tup (K := K) rfl) (pv 6) pe_int (fun _ _ => rfl)) (pv 4))))))
    (pss_cons (ps_par (i := 7) (j := 6) (by rfl) scClosed.nd rfl rfl (by decide) rfl rfl (pa_cons (pe_dget hu (pv 4) (pe_ix (k_ix_tup (K := K) rfl) (pv 6) pe_int (fun _ _ => rfl)) (fun _ _ => rfl)) (pa_cons (pe_op (k_op_catA (K := K) rfl) (pe_op (k_op_repA (K := K) rfl) (pe_slice (k_sl_tupA (K := K) rfl) (pv 6) po_none (po_some (pe_un un_neg pe_int))) (pe_op op_add pe_int (pe_df D_draw hr (by rfl) pass0 (pa_cons (pv 0) (pa_cons pe_int pa_nil))))) (pe_slice (k_sl_tupA (K := K) rfl) (pv 6) (po_some (pe_un un_neg pe_int)) po_none)) pa_nil)) (by rfl))
    (pss_one (ps_set (i := 6) scClosed.nd rfl (Or.inl rfl) (pe_ix (k_ix_list (K := K) rfl) (pe_lst (pa_cons (pv 6) (pa_cons (k_revT (K := K) rfl (pv 6)) pa_nil))) (pe_df D_draw hr (by rfl) pass0 (pa_cons (pv 0) (pa_cons pe_int pa_nil))) (fun _ _ => rfl)))))
    (pss_one (ps_set (i := 6) scClosed.nd rfl (Or.inl rfl) (pe_tup pa_nil))))
    (pss_one (ps_set (i := 3) scClosed.nd rfl (Or.inl rfl) (pe_op (k_op_catA (K := K) rfl) (pe_op (k_op_catA (K := K) rfl) (pe_op (k_op_catA (K := K) rfl) (pv 3) (pe_slice (k_sl_tupA (K := K) rfl) (pv 7) (po_some pe_int) po_none)) (pe_slice (k_sl_tupA (K := K) rfl) (pv 6) (po_some pe_int) po_none)) (pe_slice (k_sl_tupA (K := K) rfl) (k_revT (K := K) rfl (pv 7)) (po_some pe_int) po_none)))))))
    (pss_one (ps_ret (pv 3)))))), ?_⟩
    walk_at "go0"
    refine ⟨by show 1 ≤ sizeLine; decide, fun t nt => ?_⟩
    have s1 := Stp.new (M := M0) (x := .tup ([b].map V.str)) g0 nt
    have ht1 : SqT K (upd G t (.tup ([b].map V.str))) t ([b].map V.str) := tof upd_same
    have hp1 := hp.stp0 s1
    show tCons _ _ _ (upd H t (.tup ([b].map V.str))) _
    generalize upd H t (.tup ([b].map V.str)) = H1 at s1 hp1 ⊢
    generalize upd G t (.tup ([b].map V.str)) = G1 at s1 hp1 ht1
    walk_at "go"
    refine ⟨y, b, rs, ds, G1, rfl, s1.gh, hy.same s1.gg, hl, hok, hb, fun d kvs xs G2 H2 s2 hd2 hR2 => ?_⟩
    have ht2 := Same.sqt s2.gg ht1
    have hp2 := hp1.stp0 s2
    have s2' := s1.trans s2
    have hy2 := hy.same s2'.gg
    walk_at "go"
    refine use_draw (m := 3) s2'.gh hp2 (by omega) rfl (by omega) (by omega) (fun c3 H3 hc3 s3 hp3 => ?_)
    walk_at "go"
    refine loopR1 (n := c3) rfl (by omega) (fun i σ H' => ∃ y5 y6 y7, ∃ (rF : Addr) (F : List Str) (G' : Hp), σ = [some (.ref p), some (.ref y), some (.str b), some (.ref rF), some (.ref d), y5, y6, y7] ∧ Stp (M1 p) G H G' H' ∧ SqT K G' rF (F.map V.str) ∧ fst0 F = some b ∧ lst F = some b ∧ (∀ z ∈ F, SOk z) ∧ F.length ≤ 1 + i * 900 ∧ Road ds F ∧ G' d = some (.dK kvs) ∧ Rch K G' ds b kvs xs ∧ Yard K G' y rs ds ∧ Pen K G' p (n + 1 + i * 300) H')
      ⟨none, none, none, t, [b], G2, rfl, s2'.weak.trans s3, ht2, rfl, rfl, (fun z hz => by rw [List.mem_singleton.mp hz]; exact hb), by simp, road_one _ _, hd2, hR2, hy2, hp3.mono (by omega)⟩ (fun i σ H' hi pv => ?_) (fun σ H' pv => ?_)
    · obtain ⟨y5, y6, y7, rF, F, G', rfl, st, hF, fF, lF, oF, nF, rF', hd, hR, hyy, hpp⟩ := pv
      clear s1 s2 s2' s3 hp1 hp2 hp3 ht1 ht2 hR2 hd2 hy2
      have hxl := hR.len hl
      walk_at "go"
      refine ⟨p, y, _, rs, ds, G', rfl, st.gh, hpp, by omega, hyy, hr1, hr2, hl, hok, hro, fun r5 W1 G5 H5 s5 hp5 h5 hE5 ho5 hl5 hrd5 => ?_⟩
      walk_at "go"
      refine use_draw (m := 6) s5.gh hp5 (by omega) rfl (by omega) (by omega) (fun c6 H6 hc6 s6 hp6 => ?_)
      walk_at "go"
      have hy5 := hyy.same s5.gg
      refine ⟨p, y, b, _, c6, _, rs, ds, G5, rfl, s6.gh, hp6, by omega, hy5, hl, hok, rfl, by omega, fun r7 w7 G7 H7 s7 hp7 h7 hw7 hroad7 => ?_⟩
      have ho7 : ∀ z ∈ b :: w7, SOk z := fun z hz => by
        obtain ⟨i, hi, e⟩ := List.getElem_of_mem hz
        cases i with
        | zero => rw [← e]; exact hb
        | succ i => exact nb_ok hok (hroad7 i ((b :: w7)[i]'(by omega)) z (List.getElem?_eq_getElem (by omega)) (by rw [List.getElem?_eq_getElem hi, e]))
      obtain ⟨l7, hl7⟩ : ∃ x, lst (b :: w7) = some x := ⟨_, List.getElem?_eq_getElem (by simp)⟩
      have f7 : fst0 (b :: w7) = some b := rfl
      have n7 : (b :: w7).length ≤ 130 := by rw [List.length_cons]; omega
      generalize b :: w7 = W2 at h7 ho7 hl7 f7 n7 hroad7
      have st7 := ((st.trans s5).trans s6).trans s7
      have h57 := Same.sqt s7.gg h5
      have hF7 := Same.sqt (s5.gg.trans s7.gg) hF
      have hd7 := (s5.gg.trans s7.gg) _ _ hd
      have hR7 := hR.same (s5.gg.trans s7.gg)
      have hy7 := hyy.same (s5.gg.trans s7.gg)
      clear s5 s6 s7 st hp5 hp6 hpp h5 hF hd hR hyy hy5
      walk_at "go"
      refine ⟨Nat.zero_le _, fun z nz => ?_⟩
      have s8 := Stp.new (M := M0) (x := .tup (([] : List Str).map V.str)) st7.gh nz
      have hz8 : SqT K (upd G7 z (.tup (([] : List Str).map V.str))) z (([] : List Str).map V.str) := tof upd_same
      show rNeD _ _ _ (upd H7 z (.tup (([] : List Str).map V.str))) _
      generalize upd H7 z (.tup (([] : List Str).map V.str)) = H8 at s8 ⊢
      generalize upd G7 z (.tup (([] : List Str).map V.str)) = G8 at s8 hz8
      have st8 := st7.trans s8.weak
      have hp8 := hp7.stp0 s8
      have h58 := Same.sqt s8.gg h57
      have h78 := Same.sqt s8.gg h7
      have hF8 := Same.sqt s8.gg hF7
      have hd8 := s8.gg _ _ hd7
      have hR8 := hR7.same s8.gg
      have hy8 := hy7.same s8.gg
      clear s8 st7 hp7 h57 h7 hF7 hd7 hR7 hy7
      refine r_neTT (Same.sqt st8.gh h58) (Same.sqt st8.gh hz8) ho5 (fun _ h => by cases h) ?_
      walk_at "go"
      refine if_join2 (fun σ' H' => ∃ (r6 : Addr) (V1 : List Str) (r7 : Addr) (V2 : List Str) (G9 : Hp), σ' = [some (.ref p), some (.ref y), some (.str b), some (.ref rF), some (.ref d), some (.int (i : Int)), some (.ref r6), some (.ref r7)] ∧
        Stp (M1 p) G8 H8 G9 H' ∧ SqT K G9 r6 (V1.map V.str) ∧ SqT K G9 r7 (V2.map V.str) ∧ Ok2 ds b V1 V2 ∧ Pen K G9 p (n + 1 + i * 300 + 250) H') (fun c N hN => ?_) (fun c N hN => ?_) (fun σ' H' hj => ?_)
      · have hne : W1 ≠ [] := by
          intro e
          rw [decide_eq_true e] at c
          cases c
        obtain ⟨cc, hfc, hlc, h2c⟩ : ∃ c, fst0 W1 = some c ∧ lst W1 = some c ∧ 2 ≤ W1.length := by
          rcases hE5 with e | e
          · exact absurd e hne
          · exact e
        have hcok : SOk cc := ho5 cc (List.mem_of_getElem? hlc)
        walk_at "go"
        refine r_ixT' (n := 0) (v := .str cc) (Same.sqt st8.gh h58) rfl (by rw [List.getElem?_map, show W1[0]? = some cc from hfc]; rfl) ?_
        walk_at "go"
        refine ⟨d, _, rfl, dg_str (st8.gh _ _ hd8), ?_⟩
        walk_at "go"
        rw [val_none hR8.ks]
        refine ifD (fun hin => ?_) (fun hin => ?_)
        · obtain ⟨v, hv2⟩ : ∃ v, valV kvs (Sum.inr cc) = some v := by
            have e2 := val_none (z := cc) hR8.ks
            rw [decide_eq_true hin] at e2
            exact Option.isSome_iff_exists.mp e2
          obtain ⟨t9, ws9, rfl, ht9, hf9, hl9, ho9, hn9, hr9⟩ := hR8.wk cc v hv2
          walk_at "go"
          refine r_ixT' (n := 0) (v := .str cc) (Same.sqt st8.gh h58) rfl (by rw [List.getElem?_map, show W1[0]? = some cc from hfc]; rfl) ?_
          walk_at "go"
          refine ⟨d, _, rfl, by rw [← hv2]; exact dg_str (st8.gh _ _ hd8), ?_⟩
          walk_at "go"
          refine kn_slT st8.gh h58 (fun r10 G10 H10 s10 h10 => ?_)
          rw [cut_dl rfl] at h10
          have hp10 := hp8.stp0 s10
          walk_at "go"
          refine use_draw (m := 3) s10.gh hp10 (by omega) rfl (by omega) (by omega) (fun c11 H11 hc11 s11 hp11 => ?_)
          walk_at "go"
          have hdlne : W1.dropLast.length ≠ 0 := by rw [List.length_dropLast]; omega
          refine kn_rep (m := 1 + c11) s11.gh h10 (fun e => hdlne (by rw [← List.length_map (f := V.str), e]; rfl)) (by omega) (by omega) (by omega) (by rw [List.length_map, List.length_dropLast]; omega) (fun r12 G12 H12 s12 h12 => ?_)
          rw [rep_map] at h12
          have hp12 := hp11.stp0 s12
          walk_at "go"
          refine kn_slT s12.gh (Same.sqt (s10.gg.trans s12.gg) h58) (fun r13 G13 H13 s13 h13 => ?_)
          rw [cut_last rfl hlc] at h13
          have hp13 := hp12.stp0 s13
          have hrl : (List.replicate (1 + c11) W1.dropLast).flatten.length ≤ 597 := by
            rw [rep_len, List.length_dropLast]
            have e1 : (1 + c11) * (W1.length - 1) ≤ 3 * 199 := Nat.mul_le_mul (by omega) (by omega)
            omega
          walk_at "go"
          refine kn_cat s13.gh (Same.sqt s13.gg h12) h13 (Nat.le_of_lt (small5 (by rw [List.length_map, List.length_map]; show _ + 1 ≤ _; omega))) (fun r14 G14 H14 s14 h14 => ?_)
          rw [← List.map_append] at h14
          have hp14 := hp13.stp0 s14
          have st14 := ((((s10.weak (M := M1 p)).trans s11).trans s12.weak).trans s13.weak).trans s14.weak
          have ef := fst_rnd (m := 1 + c11) hfc h2c (by omega)
          have el := lst_rnd (1 + c11) W1 cc
          have eo : ∀ z ∈ rnd (1 + c11) W1 cc, SOk z := fun z hz => by
            rcases List.mem_append.mp hz with h | h
            · exact ho5 z (List.mem_of_mem_dropLast' (rep_mem h))
            · rw [List.mem_singleton.mp h]; exact hcok
          have er := road_rnd hrd5 hfc hlc h2c (1 + c11)
          have en : (rnd (1 + c11) W1 cc).length ≤ 598 := by
            unfold rnd
            rw [List.length_append]
            show _ + 1 ≤ 598
            omega
          change SqT K G14 r14 ((rnd (1 + c11) W1 cc).map V.str) at h14
          generalize rnd (1 + c11) W1 cc = V1 at h14 ef el eo en er
          have ht14 := Same.sqt st14.gg ht9
          walk_at "go"
          refine kn_rev s14.gh h14 (fun r15 G15 H15 s15 h15 => ?_)
          rw [← List.map_reverse] at h15
          have hp15 := hp14.stp0 s15
          walk_at "go"
          refine ⟨by show 2 ≤ sizeLine; decide, fun l16 nl16 => ?_⟩
          have st16 := (st14.trans s15.weak).trans (Stp.newM (M := M1 p) (x := .lst [.ref r14, .ref r15]) s15.gh nl16)
          have hl16 : (upd H15 l16 (.lst [.ref r14, .ref r15])) l16 = some (.lst [.ref r14, .ref r15]) := upd_same
          have hp16 := hp15.upd (x := .lst [.ref r14, .ref r15]) (hp15.new nl16)
          generalize upd H15 l16 (.lst [.ref r14, .ref r15]) = H16 at st16 hl16 hp16 ⊢
          walk_at "go"
          refine use_draw (m := 2) st16.gh hp16 (by omega) rfl (by omega) (by omega) (fun c17 H17 hc17 s17 hp17 => ?_)
          have hl17 : H17 l16 = some (.lst [.ref r14, .ref r15]) := s17.up _ _ (hp16.ne hl16) hl16
          have h14' := Same.sqt s15.gg h14
          have ht15 := Same.sqt s15.gg ht14
          have st17 := st16.trans s17
          walk_at "go"
          have hcc : c17 = 0 ∨ c17 = 1 := by omega
          rcases hcc with rfl | rfl
          · refine r_ixL' (n := 0) (v := .ref r14) (lof hl17) rfl rfl ?_
            walk_at "go"
            exact hN _ _ ⟨r14, V1, t9, ws9, G15, rfl, st17, h14', ht15, ⟨hf9, ⟨cc, hl9, .inr ⟨ef, el⟩⟩, eo, ho9, by omega, by omega, er, hr9⟩, hp17.mono (by omega)⟩
          · refine r_ixL' (n := 1) (v := .ref r15) (lof hl17) rfl rfl ?_
            walk_at "go"
            exact hN _ _ ⟨r15, V1.reverse, t9, ws9, G15, rfl, st17, h15, ht15, ⟨hf9, ⟨cc, hl9, .inr ⟨fst_rev el, lst_rev ef⟩⟩, (fun z hz => eo z (List.mem_reverse.mp hz)), ho9, by rw [List.length_reverse]; omega, by omega, road_rev hdn er, hr9⟩, hp17.mono (by omega)⟩
        · walk_at "go"
          refine ⟨Nat.zero_le _, fun z nz => ?_⟩
          have s9 := Stp.new (M := M1 p) (x := .tup (([] : List Str).map V.str)) st8.gh nz
          refine hN _ _ ⟨z, [], r7, W2, _, rfl, s9, tof upd_same, Same.sqt s9.gg h78, ⟨f7, ⟨l7, hl7, .inl rfl⟩, (fun z hz => by cases hz), ho7, by simp, n7, road_nil _, hroad7⟩, (hp8.stp0 (Stp.new st8.gh nz)).mono (by omega)⟩
      · walk_at "go"
        refine ⟨Nat.zero_le _, fun z nz => ?_⟩
        have s9 := Stp.new (M := M1 p) (x := .tup (([] : List Str).map V.str)) st8.gh nz
        refine hN _ _ ⟨z, [], r7, W2, _, rfl, s9, tof upd_same, Same.sqt s9.gg h78, ⟨f7, ⟨l7, hl7, .inl rfl⟩, (fun z hz => by cases hz), ho7, by simp, n7, road_nil _, hroad7⟩, (hp8.stp0 (Stp.new st8.gh nz)).mono (by omega)⟩
      · obtain ⟨r6, V1, r7', V2, G9, rfl, s9, h6, h7, hO, hp9⟩ := hj
        have hV1 := hO.l1
        have hV2 := hO.l2
        have hF9 := Same.sqt s9.gg hF8
        walk_at "go"
        refine kn_slT s9.gh h7 (fun r10 G10 H10 s10 h10 => ?_)
        rw [cut_from' (i := (1 : Int)) _ 1 rfl, List.drop_one] at h10
        walk_at "go"
        refine kn_cat s10.gh (Same.sqt s10.gg hF9) h10 (Nat.le_of_lt (small5 (by rw [List.length_map, List.length_map, List.length_tail]; omega))) (fun r11 G11 H11 s11 h11 => ?_)
        rw [← List.map_append] at h11
        have sA := s10.trans s11
        walk_at "go"
        refine kn_slT sA.gh (Same.sqt sA.gg h6) (fun r12 G12 H12 s12 h12 => ?_)
        rw [cut_from' (i := (1 : Int)) _ 1 rfl, List.drop_one] at h12
        walk_at "go"
        refine kn_cat s12.gh (Same.sqt s12.gg h11) h12 (Nat.le_of_lt (small5 (by simp only [List.length_map, List.length_append, List.length_tail]; omega))) (fun r13 G13 H13 s13 h13 => ?_)
        rw [← List.map_append] at h13
        have sB := (sA.trans s12).trans s13
        walk_at "go"
        refine kn_rev sB.gh (Same.sqt sB.gg h7) (fun r14 G14 H14 s14 h14 => ?_)
        rw [← List.map_reverse] at h14
        walk_at "go"
        refine kn_slT s14.gh h14 (fun r15 G15 H15 s15 h15 => ?_)
        rw [cut_from' (i := (1 : Int)) _ 1 rfl, List.drop_one] at h15
        walk_at "go"
        refine kn_cat s15.gh (Same.sqt (s14.gg.trans s15.gg) h13) h15 (Nat.le_of_lt (small5 (by simp only [List.length_map, List.length_append, List.length_tail, List.length_reverse]; omega))) (fun r16 G16 H16 s16 h16 => ?_)
        rw [← List.map_append] at h16
        have sC := ((sB.trans s14).trans s15).trans s16
        have sg := s9.gg.trans sC.gg
        walk_at "go"
        have hee := hO.ends fF lF
        have hlen := hO.len (F := F)
        exact ⟨_, _, _, r16, _, G16, rfl, (st8.trans s9).trans sC.weak, h16, hee.1, hee.2, hO.ok oF, by omega, hO.road hdn rF' fF lF, sg _ _ hd8, hR8.same sg, hy8.same sg, (hp9.stp0 sC).mono (by omega)⟩
    · obtain ⟨y5, y6, y7, rF, F, G', rfl, st, hF, fF, lF, oF, nF, rF', hd, hR, hyy, hpp⟩ := pv
      walk_at "go"
      exact q rF F G' H' st (hpp.mono (by omega)) hF fF lF oF (by omega) rF'
end
abbrev sShrunk : Stmt := topS 5
theorem scShrunk : FnScope ["walk", "kept", "room"] ["walk"] (defScope sShrunk) := ⟨rfl, rfl, rfl, by decide +kernel, rfl, by decide +kernel, by decide +kernel⟩
section
variable {P : Program} {w : World} {K : PySem.W.Frag} {mg : Str → Option Value} {base : Heap}
def spShrunk (K : PySem.W.Frag) : Sp := fun vs H Q _ => ∃ (a : Addr) (ws : List Str) (G : Hp), vs = [.ref a] ∧ Same G H ∧ SqT K G a (ws.map V.str) ∧ ws.length ≤ 100000 ∧
  ∀ r G' H', Stp M0 G H G' H' → SqT K G' r ((shr ws).map V.str) → Q (.ref r) H'
abbrev DShrunk (P : Program) (w : World) (K : PySem.W.Frag) (mg : Str → Option Value) (base : Heap) : Prop := Df P w K mg base CX0 1 "shrunk" ["walk"] (spShrunk K)
theorem use_Shrunk {G H : Hp} {a : Addr} {ws : List Str} {Q : VK} {E : XK} (g0 : Same G H) (h : SqT K G a (ws.map V.str)) (hl : ws.length ≤ 100000)
    (q : ∀ r G' H', Stp M0 G H G' H' → SqT K G' r ((shr ws).map V.str) → Q (.ref r) H') : spShrunk K [.ref a] H Q E := ⟨a, ws, G, rfl, g0, h, hl, q⟩
theorem ok_Shrunk {f : Addr} {fd : FuncData} (F : Fun K "shrunk" "shrunk" sShrunk f fd) (M : Mgs mg) : FnOk P w K mg base CX0 1 f fd ["walk"] (spShrunk K) := by
  refine F.ok scShrunk (fun vs H Q E h => ?_) (fun cdv A outer s H vs Q E hr h => ?_)
  · obtain ⟨a, ws, G, rfl, _⟩ := h
    rfl
  · obtain ⟨a, ws, G, rfl, g0, hS, hlen, q⟩ := h
    refine ⟨_, ((pss_cons (ps_set (i := 1) scShrunk.nd rfl (Or.inl rfl) (pe_lst pa_nil))
    (pss_cons (ps_for PassesOwn.never rfl (k_pi_tup (K := K) rfl (pv 0)) (pg_name (i := 2) scShrunk.nd rfl (Or.inl rfl))
    (pss_one (ps_if (PW.pt (pw_and (pt_cmpR op_gt (pe_callB (k_len (K := K) rfl) (by rfl) M.len PySem.boot_len (pa_cons (pv 1) pa_nil)) pe_int (nomark _)) (pw_and1 (pt_cmpR op_eq (pe_ix (k_ix_list (K := K) rfl) (pv 1) (pe_un un_neg pe_int) (fun _ _ => rfl)) (pv 2) (nomark _)))))
    (pss_one (ps_expr (k_bm0 (K := K) rfl PySem.F.plainAttrs_list PySem.F.slot_list_pop PySem.F.type_list_pop mt_pop (pv 1))))
    (pss_one (ps_expr (k_bm (K := K) rfl PySem.F.plainAttrs_list PySem.F.slot_list_append PySem.F.type_list_append mt_append (pv 1) (pa_cons (pv 2) pa_nil)))))))
    (pss_one (ps_ret (pe_callTy (k_tuple (K := K) rfl) (by rfl) M.tuple_ (by decide +kernel) (pa_cons (pv 1) pa_nil))))))), ?_⟩
    walk_at "go0"
    refine ⟨Nat.zero_le _, fun o no => ?_⟩
    walk_at "go"
    have s1 : Stp M0 G H G (upd H o (.lst [])) := Stp.newM g0 no
    have go : G o = none := none_of g0 no
    refine loopT (xs := ws.map V.str) (Same.sqt s1.gh hS) (fun i σ H' => ∃ y2, σ = [some (.ref a), some (.ref o), y2] ∧ Stp M0 G H G H' ∧ H' o = some (.lst ((shr (ws.take i)).map V.str))) ⟨none, rfl, s1, upd_same⟩ (fun i σ H' _ hp => ?_) (fun i x σ H' hi hx hp => ?_) (fun σ H' hp => ?_)
    · obtain ⟨_, _, s2, _⟩ := hp
      exact Same.sqt s2.gh hS
    · obtain ⟨y2, rfl, s2, ho⟩ := hp
      obtain ⟨r, hr, rfl⟩ := map_get hx
      have hl : (shr (ws.take i)).length ≤ 100000 := Nat.le_trans (shr_len _) (by rw [List.length_take]; omega)
      have e1 : shr (ws.take (i + 1)) = stepS (shr (ws.take i)) r := by rw [take_succ_get hr, shr_snoc]
      walk_at "go"
      refine ifD (fun c => ?_) (fun c => ?_)
      · rw [List.length_map] at c
        have c' : 1 < (shr (ws.take i)).length := by omega
        obtain ⟨z, hz⟩ : ∃ z, (shr (ws.take i))[(shr (ws.take i)).length - 2]? = some z := ⟨_, List.getElem?_eq_getElem (by omega)⟩
        walk_at "go"
        refine r_ixL (by walk_at "sq") (at_last2 (by rw [List.length_map]; exact c') (by rw [List.length_map, List.getElem?_map, hz]; rfl)) ?_
        walk_at "go"
        refine ifD (fun d => ?_) (fun d => ?_)
        · have d' : z = r := V.str.inj d
          subst d'
          walk_at "go"
          have e2 : ((shr (ws.take i)).map V.str)[((shr (ws.take i)).map V.str).length - 1]? = some (.str ((shr (ws.take i))[(shr (ws.take i)).length - 1]'(by omega))) := by
            rw [List.length_map, List.getElem?_map, List.getElem?_eq_getElem (by omega)]
            rfl
          refine c_pop ho e2 ?_
          refine ⟨_, rfl, s2.inner (M' := M1 o) (Stp.mut s2.gh ho go rfl) (fun a e => .inr (by rw [e]; exact no)), ?_⟩
          rw [upd_same, e1, stepS, if_pos ⟨c', hz⟩, List.map_dropLast]
        · walk_at "go"
          refine c_append ho (small5 (by rw [List.length_map]; omega)) ?_
          refine ⟨_, rfl, s2.inner (M' := M1 o) (Stp.mut s2.gh ho go rfl) (fun a e => .inr (by rw [e]; exact no)), ?_⟩
          rw [upd_same, e1, stepS, if_neg (fun q => d (by rw [hz] at q; rw [Option.some.inj q.2])), List.map_append]
          rfl
      · walk_at "go"
        refine c_append ho (small5 (by rw [List.length_map]; omega)) ?_
        refine ⟨_, rfl, s2.inner (M' := M1 o) (Stp.mut s2.gh ho go rfl) (fun a e => .inr (by rw [e]; exact no)), ?_⟩
        rw [upd_same, e1, stepS, if_neg (fun q => c (by rw [List.length_map]; omega)), List.map_append]
        rfl
    · obtain ⟨y2, rfl, s2, ho⟩ := hp
      rw [List.take_of_length_le (by rw [List.length_map]; exact Nat.le_refl _)] at ho
      walk_at "go"
      refine c_tupleL (lof ho) (fun r nr => ?_)
      exact q r (upd G r _) _ (s2.trans (Stp.new s2.gh nr)) (tof upd_same)
theorem at_end' {l : List Str} {a : Str} (h : lst l = some a) : atI (l.map V.str) (-1) = some (.str a) := at_end h
end
abbrev sNeedClosed : Stmt := topS 8
theorem scNeedClosed : FnScope ["walk"] ["walk"] (defScope sNeedClosed) := ⟨rfl, rfl, rfl, by decide +kernel, rfl, by decide +kernel, by decide +kernel⟩
section
variable {P : Program} {w : World} {K : PySem.W.Frag} {mg : Str → Option Value} {base : Heap}
def spNeedClosed (K : PySem.W.Frag) (cN : Addr) : Sp := fun vs H Q E => ∃ (a : Addr) (ws : List Str) (x y : Str), vs = [.ref a] ∧ SqT K H a (ws.map V.str) ∧ fst0 ws = some x ∧ lst ws = some y ∧ (x = y → Q .non H) ∧ (x ≠ y → E (.ref cN) none H)
abbrev DNeedClosed (P : Program) (w : World) (K : PySem.W.Frag) (mg : Str → Option Value) (base : Heap) (c_NotClosed : Addr) : Prop := Df P w K mg base (L2.CX P w) 1 "need_closed" ["walk"] (spNeedClosed K c_NotClosed)
theorem ok_NeedClosed {f : Addr} {fd : FuncData} (F : Fun K "need_closed" "need_closed" sNeedClosed f fd) (M : Mgs mg) {c_NotClosed : Addr} (Z_NotClosed : ErrC K mg "NotClosed" c_NotClosed) : FnOk P w K mg base (L2.CX P w) 1 f fd ["walk"] (spNeedClosed K c_NotClosed) := by
  refine F.okX scNeedClosed (fun vs H Q E h => ?_) (fun cdv A outer s H vs Q E hr h => ?_)
  · obtain ⟨a, ws, x, y, rfl, _⟩ := h
    rfl
  · obtain ⟨a, ws, x, y, rfl, hS, hx, hy, q1, q2⟩ := h
    refine ⟨_, ((pss_one (ps_if (pt_cmpR op_ne (pe_ix (k_ix_tup (K := K) rfl) (pv 0) pe_int (fun _ _ => rfl)) (pe_ix (k_ix_tup (K := K) rfl) (pv 0) (pe_un un_neg pe_int) (fun _ _ => rfl)) (nomark _))
    (pss_one (ps_raise rfl (takes_of rfl rfl rfl rfl) (pmk_none Z_NotClosed (by rfl))))
    pss_nil))), ?_⟩
    walk_at "go0"
    refine r_ixT' (n := 0) (v := .str x) hS rfl (by rw [List.getElem?_map, show ws[0]? = some x from hx]; rfl) ?_
    walk_at "go"
    refine r_ixT hS (at_end' hy) ?_
    walk_at "go"
    refine ifND (fun c => ?_) (fun c => ?_)
    · exact q2 (fun e => c (by rw [e]))
    · walk_at "go"
      exact q1 (V.str.inj c)
end
abbrev sBehind : Stmt := topS 7
theorem scBehind : FnScope ["one", "other"] ["one", "other"] (defScope sBehind) := ⟨rfl, rfl, rfl, by decide +kernel, rfl, by decide +kernel, by decide +kernel⟩
section
variable {P : Program} {w : World} {K : PySem.W.Frag} {mg : Str → Option Value} {base : Heap}
def spBehind (K : PySem.W.Frag) (cA : Addr) : Sp := fun vs H Q E => ∃ (a b : Addr) (ws zs : List Str) (x y : Str) (G : Hp), vs = [.ref a, .ref b] ∧ Same G H ∧ SqT K G a (ws.map V.str) ∧ SqT K G b (zs.map V.str) ∧ lst ws = some x ∧ fst0 zs = some y ∧ ws.length ≤ 10000 ∧ zs.length ≤ 10000 ∧
  (x = y → ∀ r G' H', Stp M0 G H G' H' → SqT K G' r ((beh ws zs).map V.str) → Q (.ref r) H') ∧ (x ≠ y → E (.ref cA) none H)
abbrev DBehind (P : Program) (w : World) (K : PySem.W.Frag) (mg : Str → Option Value) (base : Heap) (c_Apart : Addr) : Prop := Df P w K mg base (L2.CX P w) 2 "behind" ["one", "other"] (spBehind K c_Apart)
theorem use_Behind {G H : Hp} {a b cA : Addr} {ws zs : List Str} {x : Str} {Q : VK} {E : XK} (g0 : Same G H) (h : SqT K G a (ws.map V.str)) (h' : SqT K G b (zs.map V.str)) (hl : lst ws = some x) (hf : fst0 zs = some x) (hw : ws.length ≤ 10000) (hz : zs.length ≤ 10000)
    (q : ∀ r G' H', Stp M0 G H G' H' → SqT K G' r ((beh ws zs).map V.str) → Q (.ref r) H') : spBehind K cA [.ref a, .ref b] H Q E := ⟨a, b, ws, zs, x, x, G, rfl, g0, h, h', hl, hf, hw, hz, fun _ => q, fun e => absurd rfl e⟩
theorem ok_Behind {f : Addr} {fd : FuncData} (F : Fun K "behind" "behind" sBehind f fd) (M : Mgs mg) {c_Apart : Addr} (Z_Apart : ErrC K mg "Apart" c_Apart) (D_shrunk : DShrunk P w K mg base) : FnOk P w K mg base (L2.CX P w) 2 f fd ["one", "other"] (spBehind K c_Apart) := by
  refine F.okX scBehind (fun vs H Q E h => ?_) (fun cdv A outer s H vs Q E hr h => ?_)
  · obtain ⟨a, b, ws, zs, x, y, G, rfl, _⟩ := h
    rfl
  · obtain ⟨a, b, ws, zs, x, y, G, rfl, g0, hA, hB, hx, hy, hw, hz, q1, q2⟩ := h
    refine ⟨_, ((pss_cons (ps_if (pt_cmpR op_ne (pe_ix (k_ix_tup (K := K) rfl) (pv 0) (pe_un un_neg pe_int) (fun _ _ => rfl)) (pe_ix (k_ix_tup (K := K) rfl) (pv 1) pe_int (fun _ _ => rfl)) (nomark _))
    (pss_one (ps_raise rfl (takes_of rfl rfl rfl rfl) (pmk_none Z_Apart (by rfl))))
    pss_nil)
    (pss_one (ps_ret (pe_df D_shrunk hr (by rfl) pass0 (pa_cons (pe_op (k_op_catA (K := K) rfl) (pv 0) (pe_slice (k_sl_tupA (K := K) rfl) (pv 1) (po_some pe_int) po_none)) pa_nil)))))), ?_⟩
    walk_at "go0"
    refine r_ixT (Same.sqt g0 hA) (at_end' hx) ?_
    walk_at "go"
    refine r_ixT' (n := 0) (v := .str y) (Same.sqt g0 hB) rfl (by rw [List.getElem?_map, show zs[0]? = some y from hy]; rfl) ?_
    walk_at "go"
    refine ifND (fun c => ?_) (fun c => ?_)
    · exact q2 (fun e => c (by rw [e]))
    · have e := V.str.inj c
      walk_at "go"
      refine kn_slT g0 hB (fun r G1 H1 s1 h1 => ?_)
      rw [cut_from' (i := (1 : Int)) _ 1 rfl, List.drop_one] at h1
      walk_at "go"
      refine kn_cat s1.gh (Same.sqt s1.gg hA) h1 (Nat.le_of_lt (small5 (by rw [List.length_map, List.length_map, List.length_tail]; omega))) (fun r2 G2 H2 s2 h2 => ?_)
      rw [← List.map_append] at h2
      walk_at "go"
      refine use_Shrunk s2.gh h2 (by rw [List.length_append, List.length_tail]; omega) (fun r3 G3 H3 s3 h3 => ?_)
      exact q1 e r3 G3 H3 ((s1.trans s2).trans s3) h3
end
abbrev sTurned : Stmt := topS 6
theorem scTurned : FnScope ["walk"] ["walk"] (defScope sTurned) := ⟨rfl, rfl, rfl, by decide +kernel, rfl, by decide +kernel, by decide +kernel⟩
section
variable {P : Program} {w : World} {K : PySem.W.Frag} {mg : Str → Option Value} {base : Heap}
def spTurned (K : PySem.W.Frag) : Sp := fun vs H Q _ => ∃ (a : Addr) (ws : List Str) (G : Hp), vs = [.ref a] ∧ Same G H ∧ SqT K G a (ws.map V.str) ∧
  ∀ r G' H', Stp M0 G H G' H' → SqT K G' r (ws.reverse.map V.str) → Q (.ref r) H'
abbrev DTurned (P : Program) (w : World) (K : PySem.W.Frag) (mg : Str → Option Value) (base : Heap) : Prop := Df P w K mg base CX0 1 "turned" ["walk"] (spTurned K)
theorem use_Turned {G H : Hp} {a : Addr} {ws : List Str} {Q : VK} {E : XK} (g0 : Same G H) (h : SqT K G a (ws.map V.str))
    (q : ∀ r G' H', Stp M0 G H G' H' → SqT K G' r (ws.reverse.map V.str) → Q (.ref r) H') : spTurned K [.ref a] H Q E := ⟨a, ws, G, rfl, g0, h, q⟩
theorem ok_Turned {f : Addr} {fd : FuncData} (F : Fun K "turned" "turned" sTurned f fd) (M : Mgs mg) : FnOk P w K mg base CX0 1 f fd ["walk"] (spTurned K) := by
  refine F.ok scTurned (fun vs H Q E h => ?_) (fun cdv A outer s H vs Q E hr h => ?_)
  · obtain ⟨a, ws, G, rfl, _⟩ := h
    rfl
  · obtain ⟨a, ws, G, rfl, g0, hS, q⟩ := h
    refine ⟨_, ((pss_one (ps_ret (pe_callTy (k_tuple (K := K) rfl) (by rfl) M.tuple_ (by decide +kernel) (pa_cons (k_revT (K := K) rfl (pv 0)) pa_nil))))), ?_⟩
    walk_at "go0"
    refine kn_rev g0 hS (fun r G1 H1 s1 h1 => ?_)
    rw [← List.map_reverse] at h1
    walk_at "go"
    exact c_tupleT (Same.sqt s1.gh h1) (q r G1 H1 s1 h1)
end
abbrev sCore : Stmt := topS 10
theorem scCore : FnScope ["walk", "ring", "stem"] ["walk"] (defScope sCore) := ⟨rfl, rfl, rfl, by decide +kernel, rfl, by decide +kernel, by decide +kernel⟩
section
variable {P : Program} {w : World} {K : PySem.W.Frag} {mg : Str → Option Value} {base : Heap}
def spCore (K : PySem.W.Frag) (cN : Addr) : Sp := fun vs H Q E => ∃ (a : Addr) (ws : List Str) (x y : Str) (G : Hp), vs = [.ref a] ∧ Same G H ∧ SqT K G a (ws.map V.str) ∧ fst0 ws = some x ∧ lst ws = some y ∧ Gd (shr ws) ∧ ws.length ≤ 10000 ∧
  (x ≠ y → E (.ref cN) none H) ∧ (x = y → ∀ c s g t G' H', Stp M0 G H G' H' → SqT K G' c [.ref s, .ref g] → SqT K G' s ((sm (shr ws) t).map V.str) → SqT K G' g ((rg (shr ws) t).map V.str) → CoreAt (shr ws) t → Q (.ref c) H')
abbrev DCore (P : Program) (w : World) (K : PySem.W.Frag) (mg : Str → Option Value) (base : Heap) (c_NotClosed : Addr) : Prop := Df P w K mg base (L2.CX P w) 2 "core" ["walk"] (spCore K c_NotClosed)
theorem ok_Core {f : Addr} {fd : FuncData} (F : Fun K "core" "core" sCore f fd) (M : Mgs mg) {c_NotClosed : Addr} (Z_NotClosed : ErrC K mg "NotClosed" c_NotClosed) (D_need_closed : DNeedClosed P w K mg base c_NotClosed) (D_shrunk : DShrunk P w K mg base) : FnOk P w K mg base (L2.CX P w) 2 f fd ["walk"] (spCore K c_NotClosed) := by
  refine F.okX scCore (fun vs H Q E h => ?_) (fun cdv A outer s H vs Q E hr h => ?_)
  · obtain ⟨a, ws, x, y, G, rfl, _⟩ := h
    rfl
  · obtain ⟨a, ws, x, y, G, rfl, g0, hA, hx, hy, hg, hlen, q1, q2⟩ := h
    refine ⟨_, ((pss_cons (ps_expr (pe_df D_need_closed hr (by rfl) (passes_call (takes_of rfl rfl rfl rfl) (fun _ _ _ _ h => h)) (pa_cons (pv 0) pa_nil)))
    (pss_cons (ps_set (i := 1) scCore.nd rfl (Or.inl rfl) (pe_df D_shrunk hr (by rfl) pass0 (pa_cons (pv 0) pa_nil)))
    (pss_cons (ps_set (i := 2) scCore.nd rfl (Or.inl rfl) (pe_slice (k_sl_tupA (K := K) rfl) (pv 1) po_none (po_some pe_int)))
    (pss_cons (ps_while (passes_of rfl) (PW.pt (pw_and (pt_cmpR op_gt (pe_callB (k_len (K := K) rfl) (by rfl) M.len PySem.boot_len (pa_cons (pv 1) pa_nil)) pe_int (nomark _)) (pw_and1 (pt_cmpR op_eq (pe_ix (k_ix_tup (K := K) rfl) (pv 1) pe_int (fun _ _ => rfl)) (pe_ix (k_ix_tup (K := K) rfl) (pv 1) (pe_un un_neg pe_int) (fun _ _ => rfl)) (nomark _)))))
    (pss_cons (ps_set (i := 1) scCore.nd rfl (Or.inl rfl) (pe_slice (k_sl_tupA (K := K) rfl) (pv 1) (po_some pe_int) (po_some (pe_un un_neg pe_int))))
    (pss_one (ps_set (i := 2) scCore.nd rfl (Or.inl rfl) (pe_op (k_op_catA (K := K) rfl) (pv 2) (pe_slice (k_sl_tupA (K := K) rfl) (pv 1) po_none (po_some pe_int)))))))
    (pss_one (ps_ret (pe_tup (pa_cons (pv 2) (pa_cons (pv 1) pa_nil)))))))))), ?_⟩
    walk_at "go0"
    refine ⟨a, ws, x, y, rfl, Same.sqt g0 hA, hx, hy, fun e => ?_, fun e => q1 e⟩
    have q3 := q2 e
    walk_at "go"
    refine use_Shrunk g0 hA (by omega) (fun r1 G1 H1 s1 h1 => ?_)
    have hwl : (shr ws).length ≤ 10000 := Nat.le_trans (shr_len _) hlen
    have hfW : fst0 (shr ws) = some x := fst_shr hx
    have hlW : lst (shr ws) = some x := by rw [e]; exact lst_shr hy
    generalize shr ws = W at q3 h1 hwl hfW hlW hg
    walk_at "go"
    refine kn_slT s1.gh h1 (fun r2 G2 H2 s2 h2 => ?_)
    rw [cut_to' (i := (1 : Int)) _ 1 rfl, ← sm_zero] at h2
    have hW0 : 0 < W.length := by
      cases W with
      | nil => cases hfW
      | cons z r => simp
    walk_at "go"
    refine while_k (fun m σ H' => ∃ t rs rr G', σ = [some (.ref a), some (.ref rr), some (.ref rs)] ∧ Stp M0 G H G' H' ∧ SqT K G' rs ((sm W t).map V.str) ∧ SqT K G' rr ((rg W t).map V.str) ∧ 2 * t < W.length ∧ Pal W t ∧ m + t = 20000)
      20000 ⟨0, r2, r1, G2, rfl, s1.trans s2, h2, by rw [rg_zero]; exact Same.sqt s2.gg h1, by omega, fun i hi => by
        have e : i = 0 := by omega
        subst e
        rw [Nat.sub_zero]
        exact (show W[0]? = some x from hfW).trans (show W[W.length - 1]? = some x from hlW).symm, rfl⟩ (fun m σ H' pv Ct hT hF => ?_)
    obtain ⟨t, rs, rr, G', rfl, st, hs, hr', ht, hp, hm⟩ := pv
    clear s1 s2 h1 h2
    have done : (W.length = 1 ∨ (2 * t + 4 ≤ W.length ∧ W[t + 1]? ≠ W[W.length - 2 - t]?)) → tRet (tTup (tCons (tVar 2) (tCons (tVar 1) tNil))) { nx := fun _ H' => Q .non H', rt := Q } [some (.ref a), some (.ref rr), some (.ref rs)] H' := by
      intro fin
      walk_at "go"
      refine ⟨by show 2 ≤ sizeLine; decide, fun c nc => ?_⟩
      have s3 := Stp.new (M := M0) (x := .tup [.ref rs, .ref rr]) st.gh nc
      exact q3 c rs rr t _ _ (st.trans s3) (tof upd_same) (Same.sqt s3.gg hs) (Same.sqt s3.gg hr') ⟨ht, hp, fin⟩
    walk_at "go"
    refine ifD (fun c => ?_) (fun c => ?_)
    · have c' : 2 * t + 1 < W.length := by
        rw [List.length_map, rg_len] at c
        omega
      have h4 := pal_room hg hp c'
      walk_at "go"
      refine r_ixT' (n := 1) (v := .str W[t + 1]) (Same.sqt st.gh hr') rfl (by rw [List.getElem?_map, rg_get (by omega), List.getElem?_eq_getElem (by omega)]; rfl) ?_
      walk_at "go"
      refine r_ixT (v := .str W[W.length - 2 - t]) (Same.sqt st.gh hr') (at_last2 (by rw [List.length_map, rg_len]; omega) (by rw [List.length_map, List.getElem?_map, rg_len, rg_get (by omega), show t + (W.length - 2 * t - 2) = W.length - 2 - t by omega, List.getElem?_eq_getElem (by omega)]; rfl)) ?_
      walk_at "go"
      by_cases d : W[t + 1] = W[W.length - 2 - t]
      · rw [decide_eq_true (by rw [d])]
        refine hT H' ?_
        walk_at "go"
        refine kn_slT st.gh hr' (fun r3 G3 H3 s3 h3 => ?_)
        rw [cut_in rfl rfl (by rw [rg_len]; omega), rg_next] at h3
        walk_at "go"
        refine kn_slT s3.gh h3 (fun r4 G4 H4 s4 h4' => ?_)
        rw [cut_to' (i := (1 : Int)) _ 1 rfl] at h4'
        walk_at "go"
        refine kn_cat s4.gh (Same.sqt (s3.gg.trans s4.gg) hs) h4' (Nat.le_of_lt (small5 (by rw [List.length_map, List.length_map, List.length_take]; unfold sm; rw [List.length_take]; omega))) (fun r5 G5 H5 s5 h5 => ?_)
        rw [← List.map_append] at h5
        have e5 : sm W t ++ (rg W (t + 1)).take 1 = sm W (t + 1) := (sm_next (by omega)).resolve_right (by omega)
        rw [e5] at h5
        walk_at "go"
        refine ⟨m - 1, by omega, t + 1, r5, r3, G5, rfl, ((st.trans s3).trans s4).trans s5, h5, Same.sqt (s4.gg.trans s5.gg) h3, by omega, fun i hi => ?_, by omega⟩
        by_cases hi2 : i ≤ t
        · exact hp i hi2
        · have e6 : i = t + 1 := by omega
          subst e6
          rw [show W.length - 1 - (t + 1) = W.length - 2 - t by omega, List.getElem?_eq_getElem (by omega), List.getElem?_eq_getElem (by omega), d]
      · rw [decide_eq_false (fun q => d (V.str.inj q))]
        refine hF H' ?_
        exact done (.inr ⟨h4, fun q => d (by
          rw [List.getElem?_eq_getElem (by omega), List.getElem?_eq_getElem (by omega)] at q
          exact Option.some.inj q)⟩)
    · refine hF H' ?_
      rw [List.length_map, rg_len] at c
      exact done (.inl (pal_end hg hp ht (by omega)).1)
end
abbrev sRounds : Stmt := topS 11
theorem scRounds : FnScope ["ring", "place"] ["ring"] (defScope sRounds) := ⟨rfl, rfl, rfl, by decide +kernel, rfl, by decide +kernel, by decide +kernel⟩
theorem cut_kd {l : List Str} {i j : Int} (k : Nat) (ei : i = (k : Int)) (ej : j = -1) (h : k + 1 ≤ l.length) : cutV (l.map V.str) (some i) (some j) = (l.drop k).dropLast.map V.str := by
  subst ei ej
  have e1 : HT.sIx l.length l.length (some (-1)) = l.length - 1 := by
    show (if (-1 : Int) < 0 then ((-1 : Int) + (l.length : Int)).toNat else min (-1 : Int).toNat l.length) = _
    rw [if_pos (by decide)]
    omega
  unfold cutV
  rw [List.length_map, HT.sIx_nat, e1, Nat.min_eq_left (by omega), ← List.map_drop, ← List.map_take, List.dropLast_eq_take, List.length_drop]
  congr 2
  omega
theorem tn_mem {R : List Str} {k : Nat} {z : Str} (h : z ∈ tn R k) : z ∈ R := by
  rcases List.mem_append.mp h with h | h
  · exact List.mem_of_mem_drop (List.mem_of_mem_dropLast' h)
  · exact List.mem_of_mem_take h
theorem rds_in {R m : List Str} (h : m ∈ rds R) : ∀ z ∈ m, z ∈ R := by
  obtain ⟨k, _, rfl⟩ := List.mem_map.mp h
  exact fun z hz => tn_mem hz
theorem nmR_in {R : List Str} : ∀ z ∈ nmR R, z ∈ R := by
  unfold nmR
  cases e : rds R with
  | nil => intro z hz; cases hz
  | cons x xs => exact rds_in (by rw [e]; exact minW_mem xs x)
theorem tn_len {R : List Str} {k : Nat} : (tn R k).length ≤ 2 * R.length := by
  unfold tn
  rw [List.length_append, List.length_dropLast, List.length_drop, List.length_take]
  omega
theorem nmR_len {R : List Str} : (nmR R).length ≤ 2 * R.length := by
  unfold nmR
  cases e : rds R with
  | nil => simp
  | cons x xs =>
    have h : minW x xs ∈ rds R := by rw [e]; exact minW_mem xs x
    obtain ⟨k, _, h2⟩ := List.mem_map.mp h
    show (minW x xs).length ≤ _
    rw [← h2]
    exact tn_len
section
variable {P : Program} {w : World} {K : PySem.W.Frag} {mg : Str → Option Value} {base : Heap}
def spRounds (K : PySem.W.Frag) : Sp := fun vs H Q _ => ∃ (a : Addr) (R : List Str) (G : Hp), vs = [.ref a] ∧ Same G H ∧ SqT K G a (R.map V.str) ∧ 1 ≤ R.length ∧ R.length ≤ 10000 ∧
  ∀ l xs G' H', Stp M0 G H G' H' → SqL K G' l xs → Rws K G' xs (rds R) → Q (.ref l) H'
abbrev DRounds (P : Program) (w : World) (K : PySem.W.Frag) (mg : Str → Option Value) (base : Heap) : Prop := Df P w K mg base CX0 1 "_rounds" ["ring"] (spRounds K)
theorem ok_Rounds {f : Addr} {fd : FuncData} (F : Fun K "_rounds" "_rounds" sRounds f fd) (M : Mgs mg) : FnOk P w K mg base CX0 1 f fd ["ring"] (spRounds K) := by
  refine F.ok scRounds (fun vs H Q E h => ?_) (fun cdv A outer s H vs Q E hr h => ?_)
  · obtain ⟨a, R, G, rfl, _⟩ := h
    rfl
  · obtain ⟨a, R, G, rfl, g0, hA, h1, hl, q⟩ := h
    refine ⟨_, ((pss_one (ps_ret (pe_lc (own := [("place", 1)]) rfl scRounds.nd (pi_range1 (by rfl) M.range (pa_cons (pe_op op_sub (pe_callB (k_len (K := K) rfl) (by rfl) M.len PySem.boot_len (pa_cons (pv 0) pa_nil)) pe_int) pa_nil)) (blkOk_by (N := ["ring", "place"]) (sc := defScope sRounds) (by decide +kernel)) (fun _ _ _ _ _ => (pg_name (i := 1) scRounds.nd rfl (Or.inl rfl))) (fun _ _ _ _ _ => pts_nil) (fun _ _ _ _ _ => (pe_op (k_op_catA (K := K) rfl) (pe_slice (k_sl_tupA (K := K) rfl) (pv 0) (po_some (pv 1)) (po_some (pe_un un_neg pe_int))) (pe_slice (k_sl_tupA (K := K) rfl) (pv 0) po_none (po_some (pe_op op_add (pv 1) pe_int))))))))), ?_⟩
    have hA0 := Same.sqt g0 hA
    walk_at "go0"
    refine lcR1 (M := M0) (n := R.length - 1) (j := ((R.map V.str).length : Int) - 1) (by rw [List.length_map]; omega) (by omega) g0 (fun i acc G' _ => Rws K G' acc ((List.range i).map (tn R))) (fun _ _ => ⟨rfl, fun i d h => by simp at h⟩) (fun L i acc G5 H5 Em Sk hi hL hL' gL hacc st5 pv hEm hSk => ?_) (fun L acc G5 H5 hL hacc st5 hL' gL pv => ?_)
    · have hA5 := Same.sqt st5.gg hA
      walk_at "go"
      refine ⟨rfl, ?_⟩
      walk_at "go"
      refine kn_slT st5.gh hA5 (fun r6 G6 H6 s6 h6 => ?_)
      rw [cut_kd i rfl rfl (by omega)] at h6
      walk_at "go"
      refine kn_slT s6.gh (Same.sqt s6.gg hA5) (fun r7 G7 H7 s7 h7 => ?_)
      rw [cut_to' (i := (i : Int) + 1) _ (i + 1) (by omega)] at h7
      walk_at "go"
      refine kn_cat s7.gh (Same.sqt s7.gg h6) h7 (Nat.le_of_lt (small5 (by simp only [List.length_map, List.length_dropLast, List.length_drop, List.length_take]; omega))) (fun r8 G8 H8 s8 h8 => ?_)
      rw [← List.map_append] at h8
      have s68 := (s6.trans s7).trans s8
      refine hEm _ G8 H8 (st5.trans s68) (s68.up _ _ (fun z => z) hL') ((s68.fr _ _ hL').trans gL) ?_
      rw [List.range_succ, List.map_append]
      exact (pv.same s68.gg).snoc h8
    · walk_at "go"
      exact q L acc (upd G5 L _) H5 (st5.freeze hL' hL gL) (lof upd_same) (pv.same (same_new gL))
end
abbrev sNamed : Stmt := topS 12
theorem scNamed : FnScope ["walk", "_", "ring"] ["walk"] (defScope sNamed) := ⟨rfl, rfl, rfl, by decide +kernel, rfl, by decide +kernel, by decide +kernel⟩
section
variable {P : Program} {w : World} {K : PySem.W.Frag} {mg : Str → Option Value} {base : Heap}
/-- the least of the rows that _rounds told -/
theorem min_rds {G H : Hp} {Q : VK} {l : Addr} {xs : List V} {R : List Str} (g : Same G H) (hl : SqL K G l xs) (hR : Rws K G xs (rds R)) (h2 : 2 ≤ R.length) (hok : ∀ z ∈ R, SOk z) (q : ∀ t, SqT K G t ((nmR R).map V.str) → Q (.ref t) H) : rMinT K [.ref l] H Q := by
  have hlen := rds_len R
  unfold nmR at q
  have hmem : ∀ m ∈ rds R, ∀ z ∈ m, SOk z := fun m hm z hz => hok z (rds_in hm z hz)
  cases e : rds R with
  | nil => rw [e, List.length_nil] at hlen; omega
  | cons m0 ms =>
    rw [e] at q hR hmem
    refine ⟨l, xs, m0, ms, rfl, g.seq hl, hR.same g, hmem, fun t _ hi => ?_⟩
    obtain ⟨i, h3, h4⟩ := hi
    obtain ⟨t', h5, h6⟩ := hR.2 i _ h3
    rw [h4] at h5
    cases Option.some.inj h5
    exact q t h6
theorem nmR_one {R : List Str} (h : R.length = 1) : nmR R = [] := by
  have hl := rds_len R
  unfold nmR
  cases e : rds R with
  | nil => rfl
  | cons x xs => rw [e, List.length_cons] at hl; omega
def spNamed (K : PySem.W.Frag) (cN : Addr) : Sp := fun vs H Q E => ∃ (a : Addr) (ws : List Str) (x y : Str) (G : Hp), vs = [.ref a] ∧ Same G H ∧ SqT K G a (ws.map V.str) ∧ fst0 ws = some x ∧ lst ws = some y ∧ Gd (shr ws) ∧ ws.length ≤ 10000 ∧ (∀ z ∈ ws, SOk z) ∧
  (x ≠ y → E (.ref cN) none H) ∧ (x = y → ∀ r R G' H', Stp M0 G H G' H' → HasR ws R → SqT K G' r ((nmR R).map V.str) → Q (.ref r) H')
abbrev DNamed (P : Program) (w : World) (K : PySem.W.Frag) (mg : Str → Option Value) (base : Heap) (c_NotClosed : Addr) : Prop := Df P w K mg base (L2.CX P w) 3 "named" ["walk"] (spNamed K c_NotClosed)
theorem ok_Named {f : Addr} {fd : FuncData} (F : Fun K "named" "named" sNamed f fd) (M : Mgs mg) {c_NotClosed : Addr} (Z_NotClosed : ErrC K mg "NotClosed" c_NotClosed) (D_core : DCore P w K mg base c_NotClosed) (D_rounds : DRounds P w K mg base) : FnOk P w K mg base (L2.CX P w) 3 f fd ["walk"] (spNamed K c_NotClosed) := by
  refine F.okX scNamed (fun vs H Q E h => ?_) (fun cdv A outer s H vs Q E hr h => ?_)
  · obtain ⟨a, ws, x, y, G, rfl, _⟩ := h
    rfl
  · obtain ⟨a, ws, x, y, G, rfl, g0, hA, hx, hy, hg, hlen, hok, q1, q2⟩ := h
    have hu64 := hu64_of hr
    refine ⟨_, ((pss_cons (ps_asg (pe_df D_core hr (by rfl) (passes_call (takes_of rfl rfl rfl rfl) (fun _ _ _ _ h => h)) (pa_cons (pv 0) pa_nil)) (k_pg_tup (K := K) rfl rfl (pgs_cons (pg_name (i := 1) scNamed.nd rfl (Or.inl rfl)) (pgs_cons (pg_name (i := 2) scNamed.nd rfl (Or.inl rfl)) pgs_nil))))
    (pss_cons (ps_if (pt_cmpR op_eq (pe_callB (k_len (K := K) rfl) (by rfl) M.len PySem.boot_len (pa_cons (pv 2) pa_nil)) pe_int (nomark _))
    (pss_one (ps_ret (pe_tup pa_nil)))
    pss_nil)
    (pss_one (ps_ret (pe_callB (k_minT (K := K) rfl rfl hu64) (by rfl) M.min (by decide +kernel) (pa_cons (pe_df D_rounds hr (by rfl) pass0 (pa_cons (pv 2) pa_nil)) pa_nil))))))), ?_⟩
    walk_at "go0"
    refine ⟨a, ws, x, y, G, rfl, g0, hA, hx, hy, hg, hlen, fun e => q1 e, fun e c s g t G1 H1 s1 k1 k2 k3 hC => ?_⟩
    have q3 := q2 e
    have hlt := hC.lt
    have hwl := Nat.le_trans (shr_len ws) hlen
    have hro : ∀ z ∈ rg (shr ws) t, SOk z := fun z hz => hok z (shr_mem (List.mem_of_mem_drop (List.mem_of_mem_take hz)))
    have hrl : (rg (shr ws) t).length = (shr ws).length - 2 * t := rg_len
    have hH : HasR ws (rg (shr ws) t) := ⟨t, hC, rfl⟩
    generalize rg (shr ws) t = R at k3 hro hrl hH
    walk_at "go"
    refine r_gtup (Same.sqt s1.gh k1) rfl ?_
    walk_at "go"
    refine ifD (fun c1 => ?_) (fun c1 => ?_)
    · have h1 : R.length = 1 := by
        have := V.int.inj c1
        rw [List.length_map] at this
        omega
      walk_at "go"
      refine ⟨Nat.zero_le _, fun r nr => ?_⟩
      refine q3 r R _ _ (s1.trans (Stp.new (x := .tup (([] : List Str).map V.str)) s1.gh nr)) hH ?_
      rw [nmR_one h1]
      exact tof upd_same
    · have h1 : R.length ≠ 1 := fun e => c1 (by rw [List.length_map, e]; rfl)
      walk_at "go"
      refine ⟨g, R, G1, rfl, s1.gh, k3, by omega, by omega, fun l xs G2 H2 s2 hl2 hR2 => ?_⟩
      walk_at "go"
      refine min_rds s2.gh hl2 hR2 (by omega) hro (fun r hr => ?_)
      exact q3 r R G2 H2 (s1.trans s2) hH hr
end
abbrev sRoot : Stmt := topS 13
theorem scRoot : FnScope ["walk", "stem", "ring", "fewest"] ["walk"] (defScope sRoot) := ⟨rfl, rfl, rfl, by decide +kernel, rfl, by decide +kernel, by decide +kernel⟩
theorem cutV_from (xs : List V) (n : Nat) : cutV xs (some (n : Int)) none = xs.drop n := by
  unfold cutV
  rw [HT.sIx_nat, HT.sIx_none]
  rcases Nat.le_total n xs.length with h | h
  · rw [Nat.min_eq_left h, List.take_of_length_le (by rw [List.length_drop]; exact Nat.le_refl _)]
  · rw [Nat.min_eq_right h, Nat.sub_self, List.take_zero, List.drop_of_length_le h]
theorem eqv_dT (a b : List Str) : PyData.eqv (dT a) (dT b) = decide (a = b) := by simp only [dT, PyData.eqv, eqv_strs]
theorem Rws.drop1 {K : PySem.W.Frag} {G : Hp} {xs : List V} {ds : List (List Str)} (h : Rws K G xs ds) : Rws K G (xs.drop 1) (ds.drop 1) := by
  refine ⟨by rw [List.length_drop, List.length_drop, h.1], fun i d e => ?_⟩
  rw [List.getElem?_drop] at e
  rw [List.getElem?_drop]
  exact h.2 _ d e
theorem rds_get {R : List Str} {n k : Nat} (hl : R.length = n + 1) (hk : k < n) : (rds R)[k]? = some (tn R k) := by
  unfold rds
  rw [List.getElem?_map, List.getElem?_range (by omega)]
  rfl
/-- where the ring comes again first -/
theorem first_again {R : List Str} {n d : Nat} (hl : R.length = n + 1) (hc : R[0]? = R[n]?) (h : Few (fun i => R[i]?) n d) :
    ((rds R).drop 1 ++ [R])[d - 1]? = some R ∧ ∀ (m : Nat) (z : List Str), m < d - 1 → ((rds R).drop 1 ++ [R])[m]? = some z → z ≠ R := by
  have h1 := h.one
  have h2 := h.le
  have hn : (rds R).length = n := by rw [rds_len]; omega
  have get : ∀ m, m + 1 < n → ((rds R).drop 1 ++ [R])[m]? = some (tn R (m + 1)) := fun m hm => by
    rw [List.getElem?_append_left (by rw [List.length_drop]; omega), List.getElem?_drop, Nat.add_comm, rds_get hl hm]
  refine ⟨?_, fun m z hm e q => ?_⟩
  · by_cases c : d < n
    · rw [get _ (by omega), show d - 1 + 1 = d by omega, (tn_per hl hc c).mpr h.per]
    · rw [List.getElem?_append_right (by rw [List.length_drop]; omega), List.length_drop, hn, show d - 1 - (n - 1) = 0 by omega]
      rfl
  · rw [get m (by omega)] at e
    refine h.least (m + 1) (by omega) (by omega) ((tn_per hl hc (by omega)).mp ?_)
    rw [Option.some.inj e, q]
theorem dpL_rows {K : PySem.W.Frag} {H : Hp} {z : Addr} {xs : List V} {ds : List (List Str)} (h : SqL K H z xs) (hR : Rws K H xs ds) : Dp K H (.ref z) (.list (ds.map dT)) := .lst h hR.dps
theorem shL_rows : ∀ ds : List (List Str), (∀ m ∈ ds, ∀ z ∈ m, SOk z) → PyData.canLayAll0 (ds.map dT) = true
  | [], _ => rfl
  | d :: r, h => by
    have h1 := lay_dT (h d List.mem_cons_self)
    have h2 := shL_rows r fun m hm => h m (List.mem_cons_of_mem _ hm)
    simp only [List.map_cons, PyData.canLayAll0, h1, h2, Bool.and_true]
theorem shapedL {ds : List (List Str)} (h : ∀ m ∈ ds, ∀ z ∈ m, SOk z) : SeqAt.shaped (.list (ds.map dT)) = true := by
  have h1 := deep_dT ds
  simp only [SeqAt.shaped, PyData.canLay0, PyData.depth, shL_rows ds h, Bool.true_and]
  exact decide_eq_true (by omega)
theorem shapedT {d : List Str} (h : ∀ z ∈ d, SOk z) : SeqAt.shaped (dT d) = true := by
  have h1 := deep_strs d
  simp only [SeqAt.shaped, lay_dT h, Bool.true_and]
  simp only [dT, PyData.depth, h1]
  decide
section
variable {P : Program} {w : World} {K : PySem.W.Frag} {mg : Str → Option Value} {base : Heap}
/-- list.index of a row of texts in a list of such -/
theorem c_indexR {H : Hp} {Q : VK} {z t : Addr} {xs : List V} {ds : List (List Str)} {R : List Str} {j : Nat} (h : SqL K H z xs) (hR : Rws K H xs ds) (ht : SqT K H t (R.map V.str)) (o1 : ∀ m ∈ ds, ∀ z ∈ m, SOk z) (o2 : ∀ z ∈ R, SOk z)
    (e : ds[j]? = some R) (n : ∀ (m : Nat) (z : List Str), m < j → ds[m]? = some z → z ≠ R) (q : Q (.int (j : Nat)) H) : rIndexD K (.ref z) [.ref t] H Q := by
  refine ⟨z, .ref t, dT R, ds.map dT, j, dT R, rfl, rfl, dpL_rows h hR, .tup ht (dp_strs _), shapedL o1, shapedT o2, ?_, ?_, fun m z' hm e' => ?_, q⟩
  · rw [List.getElem?_map, e]
    rfl
  · rw [eqv_dT]
    exact decide_eq_true rfl
  · rw [List.getElem?_map] at e'
    cases hz : ds[m]? with
    | none => rw [hz] at e'; cases e'
    | some y =>
      rw [hz] at e'
      rw [← Option.some.inj e', eqv_dT]
      exact decide_eq_false (n m y hm hz)
def spRoot (K : PySem.W.Frag) (cN cO : Addr) : Sp := fun vs H Q E => ∃ (a : Addr) (ws : List Str) (x y : Str) (G : Hp), vs = [.ref a] ∧ Same G H ∧ SqT K G a (ws.map V.str) ∧ fst0 ws = some x ∧ lst ws = some y ∧ Gd (shr ws) ∧ ws.length ≤ 10000 ∧ (∀ z ∈ ws, SOk z) ∧
  (x ≠ y → E (.ref cN) none H) ∧
  (x = y → ∀ t n, CoreAt (shr ws) t → (shr ws).length = 2 * t + n + 1 →
    (n = 0 → ∀ G' H', Stp M0 G H G' H' → E (.ref cO) none H') ∧
    (∀ d, 1 ≤ n → Few (fun i => (rg (shr ws) t)[i]?) n d → ∀ c s G' H', Stp M0 G H G' H' → SqT K G' c [.ref s, .int ((n / d : Nat) : Int)] → SqT K G' s ((rtW (shr ws) t d).map V.str) → Q (.ref c) H'))
abbrev DRoot (P : Program) (w : World) (K : PySem.W.Frag) (mg : Str → Option Value) (base : Heap) (c_NotClosed : Addr) (c_Nothing : Addr) : Prop := Df P w K mg base (L2.CX P w) 3 "root" ["walk"] (spRoot K c_NotClosed c_Nothing)
theorem ok_Root {f : Addr} {fd : FuncData} (F : Fun K "root" "root" sRoot f fd) (M : Mgs mg) {c_NotClosed : Addr} (Z_NotClosed : ErrC K mg "NotClosed" c_NotClosed) {c_Nothing : Addr} (Z_Nothing : ErrC K mg "Nothing" c_Nothing) (D_core : DCore P w K mg base c_NotClosed) (D_rounds : DRounds P w K mg base) (D_turned : DTurned P w K mg base) : FnOk P w K mg base (L2.CX P w) 3 f fd ["walk"] (spRoot K c_NotClosed c_Nothing) := by
  refine F.okX scRoot (fun vs H Q E h => ?_) (fun cdv A outer s H vs Q E hr h => ?_)
  · obtain ⟨a, ws, x, y, G, rfl, _⟩ := h
    rfl
  · obtain ⟨a, ws, x, y, G, rfl, g0, hA, hx, hy, hg, hlen, hok, q1, q2⟩ := h
    have hu64 := hu64_of hr
    have hu65 := hu65_of hr
    refine ⟨_, ((pss_cons (ps_asg (pe_df D_core hr (by rfl) (passes_call (takes_of rfl rfl rfl rfl) (fun _ _ _ _ h => h)) (pa_cons (pv 0) pa_nil)) (k_pg_tup (K := K) rfl rfl (pgs_cons (pg_name (i := 1) scRoot.nd rfl (Or.inl rfl)) (pgs_cons (pg_name (i := 2) scRoot.nd rfl (Or.inl rfl)) pgs_nil))))
    (pss_cons (ps_if (pt_cmpR op_eq (pe_callB (k_len (K := K) rfl) (by rfl) M.len PySem.boot_len (pa_cons (pv 2) pa_nil)) pe_int (nomark _))
    (pss_one (ps_raise rfl (takes_of rfl rfl rfl rfl) (pmk_none Z_Nothing (by rfl))))
    pss_nil)
    (pss_cons (ps_set (i := 3) scRoot.nd rfl (Or.inl rfl) (pe_op op_add (k_bm (K := K) rfl PySem.F.plainAttrs_list PySem.F.slot_list_index PySem.F.type_list_index (k_indexD (K := K) rfl hu65) (pe_op op_cat (pe_slice (k_sl_list (K := K) rfl) (pe_df D_rounds hr (by rfl) pass0 (pa_cons (pv 2) pa_nil)) (po_some pe_int) po_none) (pe_lst (pa_cons (pv 2) pa_nil))) (pa_cons (pv 2) pa_nil)) pe_int))
    (pss_one (ps_ret (pe_tup (pa_cons (pe_op (k_op_catA (K := K) rfl) (pe_op (k_op_catA (K := K) rfl) (pv 1) (pe_slice (k_sl_tupA (K := K) rfl) (pv 2) (po_some pe_int) (po_some (pe_op op_add (pv 3) pe_int)))) (pe_slice (k_sl_tupA (K := K) rfl) (pe_df D_turned hr (by rfl) pass0 (pa_cons (pv 1) pa_nil)) (po_some pe_int) po_none)) (pa_cons (pe_op op_fdiv (pe_op op_sub (pe_callB (k_len (K := K) rfl) (by rfl) M.len PySem.boot_len (pa_cons (pv 2) pa_nil)) pe_int) (pv 3)) pa_nil))))))))), ?_⟩
    walk_at "go0"
    refine ⟨a, ws, x, y, G, rfl, g0, hA, hx, hy, hg, hlen, fun e => q1 e, fun e c s g t G1 H1 s1 k1 k2 k3 hC => ?_⟩
    have hlt := hC.lt
    obtain ⟨n, hn⟩ : ∃ n, (shr ws).length = 2 * t + n + 1 := ⟨(shr ws).length - 2 * t - 1, by omega⟩
    obtain ⟨q3, q4⟩ := q2 e t n hC hn
    have hwl := Nat.le_trans (shr_len ws) hlen
    have hwo : ∀ z ∈ shr ws, SOk z := fun z hz => hok z (shr_mem hz)
    generalize shr ws = W at q3 q4 k2 k3 hC hn hlt hwl hwo hg
    have hro : ∀ z ∈ rg W t, SOk z := fun z hz => hwo z (List.mem_of_mem_drop (List.mem_of_mem_take hz))
    have hrl : (rg W t).length = n + 1 := by rw [rg_len]; omega
    walk_at "go"
    refine r_gtup (Same.sqt s1.gh k1) rfl ?_
    walk_at "go"
    refine ifD (fun c1 => ?_) (fun c1 => ?_)
    · have h0 : n = 0 := by
        have := V.int.inj c1
        rw [List.length_map] at this
        omega
      exact q3 h0 G1 H1 s1
    · have hn1 : 1 ≤ n := by
        rcases Nat.lt_or_ge 0 n with z | z
        · exact z
        · exact absurd (by rw [List.length_map, hrl, show n = 0 by omega]; rfl) c1
      obtain ⟨d, hF⟩ := few_ex (f := fun i => (rg W t)[i]?) hn1
      have hd1 := hF.one
      have hd2 := hF.le
      obtain ⟨f1, f2⟩ := first_again hrl (rg_closed hC hn) hF
      walk_at "go"
      refine ⟨g, rg W t, G1, rfl, s1.gh, k3, by omega, by omega, fun l xs G2 H2 s2 hl2 hR2 => ?_⟩
      walk_at "go"
      refine ⟨l, xs, rfl, s2.gh.seq hl2, fun p np => ?_⟩
      have s3 := Stp.new (M := M0) (x := .lst (cutV xs (some 1) none)) s2.gh np
      walk_at "go"
      refine ⟨by show 1 ≤ sizeLine; decide, fun r nr => ?_⟩
      have s4 := Stp.new (M := M0) (x := .lst [.ref g]) s3.gh nr
      walk_at "go"
      have es : cutV xs (some 1) none = xs.drop 1 := cutV_from xs 1
      rw [es] at s3 s4 ⊢
      have hxl : xs.length = n := by rw [hR2.1, rds_len]; omega
      refine ⟨p, r, _, _, rfl, rfl, s4.up _ _ (fun z => z) upd_same, upd_same, Nat.le_of_lt (small5 (by rw [List.length_drop]; simp; omega)), fun z nz => ?_⟩
      have s5 := Stp.new (M := M0) (x := .lst (xs.drop 1 ++ [.ref g])) s4.gh nz
      have hz5 : (upd (upd (upd H2 p (.lst (xs.drop 1))) r (.lst [.ref g])) z (.lst (xs.drop 1 ++ [.ref g]))) z = some (.lst (xs.drop 1 ++ [.ref g])) := upd_same
      have s25 := (s3.trans s4).trans s5
      have s15 := s2.trans s25
      generalize upd (upd (upd H2 p (.lst (xs.drop 1))) r (.lst [.ref g])) z (.lst (xs.drop 1 ++ [.ref g])) = H5 at s5 hz5 s25 s15 ⊢
      generalize upd (upd (upd G2 p (.lst (xs.drop 1))) r (.lst [.ref g])) z (.lst (xs.drop 1 ++ [.ref g])) = G5 at s5 s25 s15
      have hR5 : Rws K H5 (xs.drop 1 ++ [.ref g]) ((rds (rg W t)).drop 1 ++ [rg W t]) := ((hR2.same s25.gg).same s25.gh).drop1.snoc (Same.sqt s15.gh (Same.sqt s15.gg k3))
      have k2' := Same.sqt s15.gg k2
      have k3' := Same.sqt s15.gg k3
      have k3h := Same.sqt s15.gh k3'
      have sT := s1.trans s15
      clear s2 s3 s4 s5 s25 hR2 hl2
      walk_at "go"
      refine c_indexR (lof hz5) hR5 k3h (fun m hm => ?_) hro f1 f2 ?_
      · rcases List.mem_append.mp hm with h | h
        · exact fun z hz => hro z (rds_in (List.mem_of_mem_drop h) z hz)
        · rw [List.mem_singleton.mp h]
          exact hro
      walk_at "go"
      refine kn_slT s15.gh k3' (fun r6 G6 H6 s6 h6 => ?_)
      rw [cut_mid (i := (1 : Int)) (j := ((d - 1 : Nat) : Int) + 1 + 1) 1 (d + 1) rfl (by omega) (by omega) (by omega), Nat.add_sub_cancel] at h6
      walk_at "go"
      refine kn_cat s6.gh (Same.sqt s6.gg k2') h6 (Nat.le_of_lt (small5 (by rw [List.length_map, List.length_map, sm_len (by omega), List.length_take]; omega))) (fun r7 G7 H7 s7 h7 => ?_)
      rw [← List.map_append] at h7
      have k2a := Same.sqt (s6.trans s7).gg k2'
      walk_at "go"
      refine use_Turned s7.gh k2a (fun r8 G8 H8 s8 h8 => ?_)
      walk_at "go"
      refine kn_slT s8.gh h8 (fun r9 G9 H9 s9 h9 => ?_)
      rw [cut_from' (i := (1 : Int)) _ 1 rfl, List.drop_one] at h9
      walk_at "go"
      refine kn_cat s9.gh (Same.sqt (s8.trans s9).gg h7) h9 (Nat.le_of_lt (small5 (by rw [List.length_map, List.length_map, List.length_append, sm_len (by omega), List.length_take, List.length_tail, List.length_reverse, sm_len (by omega)]; omega))) (fun r10 G10 H10 s10 h10 => ?_)
      rw [← List.map_append] at h10
      have sU := ((((s6.trans s7).trans s8).trans s9).trans s10)
      have k3u := Same.sqt sU.gg k3'
      walk_at "go"
      refine ⟨by show 2 ≤ sizeLine; decide, fun c2 nc => ?_⟩
      have s11 := Stp.new (M := M0) (x := .tup [.ref r10, .int ((((((rg W t).map V.str).length : Nat) : Int) - 1) / (((d - 1 : Nat) : Int) + 1))]) s10.gh nc
      refine q4 d hn1 hF c2 r10 _ _ ((sT.trans sU).trans s11) ?_ (Same.sqt s11.gg h10)
      have e2 : ((((rg W t).map V.str).length : Nat) : Int) - 1 = ((n : Nat) : Int) := by
        rw [List.length_map, hrl]
        omega
      rw [e2, show ((d - 1 : Nat) : Int) + 1 = ((d : Nat) : Int) by omega]
      exact tof upd_same
end
abbrev sLedBy : Stmt := topS 14
theorem scLedBy : FnScope ["walk", "lead"] ["walk", "lead"] (defScope sLedBy) := ⟨rfl, rfl, rfl, by decide +kernel, rfl, by decide +kernel, by decide +kernel⟩
section
variable {P : Program} {w : World} {K : PySem.W.Frag} {mg : Str → Option Value} {base : Heap}
def spLedBy (K : PySem.W.Frag) (cN cA : Addr) : Sp := fun vs H Q E => ∃ (a b : Addr) (ws o : List Str) (x y u v : Str) (G : Hp), vs = [.ref a, .ref b] ∧ Same G H ∧ SqT K G a (ws.map V.str) ∧ SqT K G b (o.map V.str) ∧ fst0 ws = some x ∧ lst ws = some y ∧ fst0 o = some u ∧ lst o = some v ∧ ws.length ≤ 5000 ∧ o.length ≤ 2000 ∧
  (x ≠ y → E (.ref cN) none H) ∧ (x = y → u ≠ x → ∀ G' H', Stp M0 G H G' H' → E (.ref cA) none H') ∧
  (x = y → u = x → ∀ r G' H', Stp M0 G H G' H' → SqT K G' r ((cj o ws).map V.str) → Q (.ref r) H')
abbrev DLedBy (P : Program) (w : World) (K : PySem.W.Frag) (mg : Str → Option Value) (base : Heap) (c_NotClosed : Addr) (c_Apart : Addr) : Prop := Df P w K mg base (L2.CX P w) 3 "led_by" ["walk", "lead"] (spLedBy K c_NotClosed c_Apart)
theorem use_LedBy {cN cA : Addr} {G H : Hp} {a b : Addr} {ws o : List Str} {x v : Str} {Q : VK} {E : XK} (g0 : Same G H) (h : SqT K G a (ws.map V.str)) (h' : SqT K G b (o.map V.str)) (hf : fst0 ws = some x) (hl : lst ws = some x) (of : fst0 o = some x) (ol : lst o = some v) (n1 : ws.length ≤ 5000) (n2 : o.length ≤ 2000)
    (q : ∀ r G' H', Stp M0 G H G' H' → SqT K G' r ((cj o ws).map V.str) → Q (.ref r) H') : spLedBy K cN cA [.ref a, .ref b] H Q E :=
  ⟨a, b, ws, o, x, x, x, v, G, rfl, g0, h, h', hf, hl, of, ol, n1, n2, fun e => absurd rfl e, fun _ e => absurd rfl e, fun _ _ => q⟩
theorem ok_LedBy {f : Addr} {fd : FuncData} (F : Fun K "led_by" "led_by" sLedBy f fd) (M : Mgs mg) {c_NotClosed : Addr} (Z_NotClosed : ErrC K mg "NotClosed" c_NotClosed) {c_Apart : Addr} (Z_Apart : ErrC K mg "Apart" c_Apart) (D_need_closed : DNeedClosed P w K mg base c_NotClosed) (D_behind : DBehind P w K mg base c_Apart) (D_turned : DTurned P w K mg base) : FnOk P w K mg base (L2.CX P w) 3 f fd ["walk", "lead"] (spLedBy K c_NotClosed c_Apart) := by
  refine F.okX scLedBy (fun vs H Q E h => ?_) (fun cdv A outer s H vs Q E hr h => ?_)
  · obtain ⟨a, b, ws, o, x, y, u, v, G, rfl, _⟩ := h
    rfl
  · obtain ⟨a, b, ws, o, x, y, u, v, G, rfl, g0, hA, hB, hx, hy, hu1, hv1, lA, lB, q1, q2, q3⟩ := h
    refine ⟨_, ((pss_cons (ps_expr (pe_df D_need_closed hr (by rfl) (passes_call (takes_of rfl rfl rfl rfl) (fun _ _ _ _ h => h)) (pa_cons (pv 0) pa_nil)))
    (pss_one (ps_ret (pe_df D_behind hr (by rfl) (passes_call (takes_of rfl rfl rfl rfl) (fun _ _ _ _ h => h)) (pa_cons (pe_df D_behind hr (by rfl) (passes_call (takes_of rfl rfl rfl rfl) (fun _ _ _ _ h => h)) (pa_cons (pe_df D_turned hr (by rfl) pass0 (pa_cons (pv 1) pa_nil)) (pa_cons (pv 0) pa_nil))) (pa_cons (pv 1) pa_nil))))))), ?_⟩
    walk_at "go0"
    refine ⟨a, ws, x, y, rfl, Same.sqt g0 hA, hx, hy, fun e1 => ?_, fun e1 => q1 e1⟩
    walk_at "go"
    refine use_Turned g0 hB (fun r1 G1 H1 s1 h1 => ?_)
    walk_at "go"
    refine ⟨r1, a, o.reverse, ws, u, x, G1, rfl, s1.gh, h1, Same.sqt s1.gg hA, lst_rev hu1, hx, by rw [List.length_reverse]; omega, by omega, fun e2 r2 G2 H2 s2 h2 => ?_, fun e2 => q2 e1 e2 G1 H1 s1⟩
    walk_at "go"
    have hbl := beh_len o.reverse ws
    rw [List.length_reverse] at hbl
    refine use_Behind s2.gh h2 (Same.sqt (s1.trans s2).gg hB) (lst_beh (lst_rev hu1) (by rw [e2]; exact hx) hy) (by rw [hu1, e2, e1]) (by omega) (by omega) (fun r3 G3 H3 s3 h3 => ?_)
    exact q3 e1 e2 r3 G3 H3 ((s1.trans s2).trans s3) h3
end
abbrev sLaw : Stmt := topS 29
theorem scLaw : FnScope ["_law_script", "_law_pen_here", "_law_turn", "_law_yard_here", "_law_begin", "_law_one", "_law_other", "_law_part", "_law_times", "_law_found", "_law_many", "_law_out", "_law_parts", "_law_left", "_law_right", "_law_k", "_law_is_small", "_law_is_one"] ["_law_script"] (defScope sLaw) := ⟨rfl, rfl, rfl, by decide +kernel, rfl, by decide +kernel, by decide +kernel⟩
theorem pow_next {W A F : List Str} {x : Str} {m : Nat} (hF : shr F = powW W m) (hW : shr A = W) (hl : lst F = some x) (hf : fst0 A = some x) : beh F A = powW W (m + 1) := by
  show _ = beh (powW W m) W
  rw [← hF, ← hW, beh_shr hl hf]
theorem one_iff {W0 W1 L R : List Str} {t0 n0 d0 t1 n1 d1 e f : Nat} {b : Str} (g0 : Gd W0) (g1 : Gd W1) (h0 : RD W0 t0 n0 d0) (h1 : RD W1 t1 n1 d1) (f0 : fst0 W0 = some b) (f1 : fst0 W1 = some b) (hL : shr L = powW W0 e) (hR : shr R = powW W1 f) (he : e = n1 / d1) (hf : f = n0 / d0)
    (lL : lst L = some b) (fR : fst0 R = some b) (lR : lst R = some b) : beh L R.reverse = [b] ↔ rtW W0 t0 d0 = rtW W1 t1 d1 := by
  have e1 : beh L R.reverse = [b] ↔ shr L = shr R := by
    constructor
    · intro h
      have h2 := beh_assoc lL (fst_rev lR) (lst_rev fR) fR
      rw [h, beh_one fR, beh_back' lR, beh_end] at h2
      exact h2.symm
    · intro h
      rw [← beh_shr lL (fst_rev lR), shr_rev, h]
      exact beh_back (fst_shr fR)
  have he1 : 1 ≤ e := by rw [he]; exact Nat.div_pos h1.few.le h1.few.one
  have hf1 : 1 ≤ f := by rw [hf]; exact Nat.div_pos h0.few.le h0.few.one
  rw [e1, hL, hR]
  constructor
  · intro h
    obtain ⟨_, p1, q1⟩ := pow_rd g0 h0 he1
    obtain ⟨_, p2, q2⟩ := pow_rd g1 h1 hf1
    rw [h] at p1 q1
    obtain ⟨e2, _, e3⟩ := RD.uniq p1 p2
    rw [← q1, ← q2, e2, e3]
  · intro h
    have w0 := pow_root g0 h0.co h0.len h0.pos h0.few
    have w1 := pow_root g1 h1.co h1.len h1.pos h1.few
    obtain ⟨_, r0, _⟩ := h0.root g0
    have ff := rt_fst h0 f0
    have ll := fst_of_rd r0 ff
    rw [← w0, ← w1, ← h, ← hf, ← he, pow_mul ff ll, pow_mul ff ll, Nat.mul_comm]
theorem nm_iff {A R : List Str} {x : Str} (hg : Gd (shr A)) (hf : fst0 A = some x) (hl : lst A = some x) (h : HasR A R) : nmR R = [] ↔ shr A = [x] := by
  rcases rd_ex hg (fst_shr hf) (lst_shr hl) with e | ⟨t, n, d, hR⟩
  · obtain ⟨t, hC, rfl⟩ := h
    have hlt := hC.lt
    rw [e] at hlt ⊢
    simp at hlt
    exact ⟨fun _ => rfl, fun _ => nmR_one (by rw [rg_len]; simp; omega)⟩
  · obtain ⟨t', hC, rfl⟩ := h
    obtain rfl := core_uniq hC hR.co
    have hl := hR.len
    have hp := hR.pos
    constructor
    · intro e
      exfalso
      have h1 := rds_len (rg (shr A) t')
      rw [rg_len] at h1
      unfold nmR at e
      cases e2 : rds (rg (shr A) t') with
      | nil => rw [e2, List.length_nil] at h1; omega
      | cons y ys =>
        rw [e2] at e
        have hm : minW y ys ∈ rds (rg (shr A) t') := by rw [e2]; exact minW_mem ys y
        obtain ⟨k, hk, h3⟩ := List.mem_map.mp hm
        rw [List.mem_range, rg_len] at hk
        have h4 := tn_len' (R := rg (shr A) t') (n := n) (k := k) (by rw [rg_len]; omega) (by omega)
        rw [h3, show minW y ys = [] from e] at h4
        simp at h4
    · intro e
      rw [e] at hl
      simp at hl
      omega
theorem road_ok {ds : List Dr} {l : List Str} (h : Road ds l) (hok : DsOk ds) (h0 : ∀ b, l[0]? = some b → SOk b) : ∀ z ∈ l, SOk z := by
  intro z hz
  obtain ⟨i, hi, e⟩ := List.getElem_of_mem hz
  cases i with
  | zero => exact h0 z (by rw [List.getElem?_eq_getElem hi, e])
  | succ i => exact nb_ok hok (h i (l[i]'(by omega)) z (List.getElem?_eq_getElem (by omega)) (by rw [List.getElem?_eq_getElem hi, e]))
theorem wlk_ok {b : Str} {ds : List Dr} {ws : List Str} (hr : Road ds (b :: ws)) (hok : DsOk ds) (hb : SOk b) : ∀ z ∈ b :: ws, SOk z := road_ok hr hok (fun z hz => by rw [← Option.some.inj hz]; exact hb)
theorem lst_cons (b : Str) (ws : List Str) : ∃ x, lst (b :: ws) = some x := ⟨_, List.getElem?_eq_getElem (by simp)⟩
def dTI (xs : List Str) (k : Int) : PyData := .tuple [.tuple (xs.map .str), .int k]
section
variable {K : PySem.W.Frag} {H : Hp} {c s c' s' : Addr} {xs ys : List Str} {k : Int} {Q : VK}
theorem dp_TI (h : SqT K H c [.ref s, .int k]) (h1 : SqT K H s (xs.map V.str)) : Dp K H (.ref c) (dTI xs k) := .tup h (.cons (.tup h1 (dp_strs _)) (.cons (.int k) .nil))
theorem sh_TI (a : ∀ z ∈ xs, SOk z) : SeqAt.shaped (dTI xs k) = true := by
  simp [dTI, SeqAt.shaped, PyData.canLay0, PyData.canLayAll0, PyData.depth, PyData.depthAll, lay_strs xs a, deep_strs]
theorem eqv_TI : PyData.eqv (dTI xs k) (dTI xs k) = true := by
  have h1 : PyData.eqvAll (xs.map PyData.str) (xs.map PyData.str) = true := by rw [eqv_strs]; exact decide_eq_true rfl
  simp [dTI, PyData.eqv, PyData.eqvAll, h1]
theorem r_neTI {k' : Int} (h : SqT K H c [.ref s, .int k]) (h1 : SqT K H s (xs.map V.str)) (h' : SqT K H c' [.ref s', .int k']) (h1' : SqT K H s' (ys.map V.str)) (e : xs = ys) (e2 : k = k') (a : ∀ z ∈ xs, SOk z) (q : Q (.bl false) H) : rNeD K (.ref c) (.ref c') H Q := by
  subst e e2
  exact ⟨_, _, dp_TI h h1, dp_TI h' h1', sh_TI a, sh_TI a, by rw [eqv_TI]; exact q⟩
theorem r_neT0e {H : Hp} {p q : Addr} {ns : List Str} {Q : VK} {B : Prop} [Decidable B] (h : SqT K H p (ns.map V.str)) (h' : SqT K H q (([] : List Str).map V.str)) (a : ∀ z ∈ ns, SOk z) (e : ns = [] ↔ B) (k : Q (.bl (!decide B)) H) : rNeD K (.ref p) (.ref q) H Q :=
  r_neTT h h' a (fun z hz => by cases hz) (by rw [decide_eq_decide.mpr e]; exact k)
end
theorem rt_mem {W : List Str} {t d : Nat} : ∀ z ∈ rtW W t d, z ∈ W := fun z hz => by
  unfold rtW at hz
  rcases List.mem_append.mp hz with h | h
  · rcases List.mem_append.mp h with h | h
    · exact List.mem_of_mem_take h
    · exact List.mem_of_mem_drop (List.mem_of_mem_take (List.mem_of_mem_drop (List.mem_of_mem_take h)))
  · exact List.mem_of_mem_take (List.mem_reverse.mp (List.mem_of_mem_tail h))
section
variable {P : Program} {w : World} {K : PySem.W.Frag} {mg : Str → Option Value} {base : Heap}
theorem use_Root {cN cO : Addr} {G H : Hp} {a : Addr} {ws : List Str} {x : Str} {t n d : Nat} {Q : VK} {E : XK} (g0 : Same G H) (h : SqT K G a (ws.map V.str)) (hf : fst0 ws = some x) (hl : lst ws = some x) (hg : Gd (shr ws)) (hn : ws.length ≤ 10000) (ho : ∀ z ∈ ws, SOk z) (hR : RD (shr ws) t n d)
    (q : ∀ c s G' H', Stp M0 G H G' H' → SqT K G' c [.ref s, .int ((n / d : Nat) : Int)] → SqT K G' s ((rtW (shr ws) t d).map V.str) → Q (.ref c) H') : spRoot K cN cO [.ref a] H Q E := by
  refine ⟨a, ws, x, x, G, rfl, g0, h, hf, hl, hg, hn, ho, fun e => absurd rfl e, fun _ t' n' hC hn' => ?_⟩
  obtain rfl := core_uniq hC hR.co
  obtain rfl : n' = n := by have := hR.len; omega
  refine ⟨fun h0 => absurd h0 (by have := hR.pos; omega), fun d' _ hF c s G' H' st hc hs => ?_⟩
  obtain rfl := few_uniq hF hR.few
  exact q c s G' H' st hc hs
theorem use_Named {cN : Addr} {G H : Hp} {a : Addr} {ws : List Str} {x : Str} {Q : VK} {E : XK} (g0 : Same G H) (h : SqT K G a (ws.map V.str)) (hf : fst0 ws = some x) (hl : lst ws = some x) (hg : Gd (shr ws)) (hn : ws.length ≤ 10000) (ho : ∀ z ∈ ws, SOk z)
    (q : ∀ r N G' H', Stp M0 G H G' H' → (N = [] ↔ shr ws = [x]) → (∀ z ∈ N, SOk z) → SqT K G' r (N.map V.str) → Q (.ref r) H') : spNamed K cN [.ref a] H Q E :=
  ⟨a, ws, x, x, G, rfl, g0, h, hf, hl, hg, hn, ho, fun e => absurd rfl e, fun _ r R G' H' st hR hr => q r _ G' H' st (nm_iff hg hf hl hR) (fun z hz => ho z (by
    obtain ⟨t, _, rfl⟩ := hR
    exact shr_mem (List.mem_of_mem_drop (List.mem_of_mem_take (nmR_in z hz))))) hr⟩
def spLaw (K : PySem.W.Frag) : Sp := fun vs H Q _ => ∃ (a : Addr) (ns : List Int), vs = [.ref a] ∧ SqL K H a (ns.map V.int) ∧ ns.length ≤ 63 ∧ ∀ H', Q (.bl true) H'
abbrev DLaw (P : Program) (w : World) (K : PySem.W.Frag) (mg : Str → Option Value) (base : Heap) : Prop := Df P w K mg base CX0 6 "law" ["_law_script"] (spLaw K)
theorem ok_Law {f : Addr} {fd : FuncData} (F : Fun K "law" "law" sLaw f fd) (M : Mgs mg) {c_Apart : Addr} (Z_Apart : ErrC K mg "Apart" c_Apart) {c_NotClosed : Addr} (Z_NotClosed : ErrC K mg "NotClosed" c_NotClosed) {c_Nothing : Addr} (Z_Nothing : ErrC K mg "Nothing" c_Nothing) (D_pen : DPen P w K mg base) (D_draw : DDraw P w K mg base) (D_pick : DPick P w K mg base) (D_yard : DYard P w K mg base) (D_strolled : DStrolled P w K mg base) (D_closed : DClosed P w K mg base) (D_turned : DTurned P w K mg base) (D_behind : DBehind P w K mg base c_Apart) (D_named : DNamed P w K mg base c_NotClosed) (D_root : DRoot P w K mg base c_NotClosed c_Nothing) (D_led_by : DLedBy P w K mg base c_NotClosed c_Apart) : FnOk P w K mg base CX0 6 f fd ["_law_script"] (spLaw K) := by
  refine F.ok scLaw (fun vs H Q E h => ?_) (fun cdv A outer s H vs Q E hr h => ?_)
  · obtain ⟨a, ns, rfl, _⟩ := h
    rfl
  · obtain ⟨a, ns, rfl, hS, hl, q⟩ := h
    have hu := hu_of hr
    have hu64 := hu64_of hr
    refine ⟨_, ((pss_cons (ps_set (i := 1) scLaw.nd rfl (Or.inl rfl) (pe_df D_pen hr (by rfl) pass0 (pa_cons (pv 0) pa_nil)))
    (pss_cons (ps_for PassesOwn.never rfl (pi_range1 (by rfl) M.range (pa_cons pe_int pa_nil)) (pg_name (i := 2) scLaw.nd rfl (Or.inl rfl))
    (pss_cons (ps_set (i := 3) scLaw.nd rfl (Or.inl rfl) (pe_df D_yard hr (by rfl) pass0 (pa_cons (pv 1) (pa_cons (pe_ix (k_ix_list (K := K) rfl) (pe_lst (pa_cons pe_int (pa_cons pe_int (pa_cons pe_int pa_nil)))) (pe_op op_mod (pv 2) pe_int) (fun _ _ => rfl)) pa_nil))))
    (pss_cons (ps_set (i := 4) scLaw.nd rfl (Or.inl rfl) (pe_df D_pick hr (by rfl) pass0 (pa_cons (pv 1) (pa_cons (pe_dget hu (pv 3) pe_str (fun _ _ => rfl)) pa_nil))))
    (pss_cons (ps_par (i := 5) (j := 6) (by rfl) scLaw.nd rfl rfl (by decide) rfl rfl (pa_cons (pe_df D_closed hr (by rfl) pass0 (pa_cons (pv 1) (pa_cons (pv 3) (pa_cons (pv 4) pa_nil)))) (pa_cons (pe_df D_closed hr (by rfl) pass0 (pa_cons (pv 1) (pa_cons (pv 3) (pa_cons (pv 4) pa_nil)))) pa_nil)) (by rfl))
    (pss_cons (ps_if (pt_cmpR (k_op_neD (K := K) rfl hu64) (pe_df D_named hr (by rfl) passL (pa_cons (pv 5) pa_nil)) (pe_tup pa_nil) (nomark _))
    (pss_cons (ps_asg (pe_df D_root hr (by rfl) passL (pa_cons (pv 5) pa_nil)) (k_pg_tup (K := K) rfl rfl (pgs_cons (pg_name (i := 7) scLaw.nd rfl (Or.inl rfl)) (pgs_cons (pg_name (i := 8) scLaw.nd rfl (Or.inl rfl)) pgs_nil))))
    (pss_cons (ps_set (i := 9) scLaw.nd rfl (Or.inl rfl) (pv 5))
    (pss_cons (ps_for PassesOwn.never rfl (pi_range2 (by rfl) M.range (pa_cons pe_int (pa_cons pe_int pa_nil))) (pg_name (i := 10) scLaw.nd rfl (Or.inl rfl))
    (pss_cons (ps_set (i := 9) scLaw.nd rfl (Or.inl rfl) (pe_df D_behind hr (by rfl) passL (pa_cons (pv 9) (pa_cons (pv 5) pa_nil))))
    (pss_cons (ps_if (pt_cmpR (k_op_neD (K := K) rfl hu64) (pe_df D_root hr (by rfl) passL (pa_cons (pv 9) pa_nil)) (pe_tup (pa_cons (pv 7) (pa_cons (pe_op op_mul (pv 10) (pv 8)) pa_nil))) (nomark _))
    (pss_one (ps_ret pe_bl))
    pss_nil)
    (pss_one (ps_if (pt_cmpR (k_op_neD (K := K) rfl hu64) (pe_df D_root hr (by rfl) passL (pa_cons (pe_df D_turned hr (by rfl) pass0 (pa_cons (pv 9) pa_nil)) pa_nil)) (pe_tup (pa_cons (pe_df D_turned hr (by rfl) pass0 (pa_cons (pv 7) pa_nil)) (pa_cons (pe_op op_mul (pv 10) (pv 8)) pa_nil))) (nomark _))
    (pss_one (ps_ret pe_bl))
    pss_nil)))))
    (pss_cons (ps_set (i := 11) scLaw.nd rfl (Or.inl rfl) (pe_df D_strolled hr (by rfl) pass0 (pa_cons (pv 1) (pa_cons (pv 3) (pa_cons (pv 4) (pa_cons (pe_df D_draw hr (by rfl) pass0 (pa_cons (pv 1) (pa_cons pe_int pa_nil))) pa_nil))))))
    (pss_one (ps_if (pt_cmpR (k_op_neD (K := K) rfl hu64) (pe_df D_root hr (by rfl) passL (pa_cons (pe_df D_led_by hr (by rfl) passL (pa_cons (pv 5) (pa_cons (pv 11) pa_nil))) pa_nil)) (pe_tup (pa_cons (pe_df D_led_by hr (by rfl) passL (pa_cons (pv 7) (pa_cons (pv 11) pa_nil))) (pa_cons (pv 8) pa_nil))) (nomark _))
    (pss_one (ps_ret pe_bl))
    pss_nil))))))
    pss_nil)
    (pss_one (ps_if (PW.pt (pw_and (pt_cmpR (k_op_neD (K := K) rfl hu64) (pe_df D_named hr (by rfl) passL (pa_cons (pv 5) pa_nil)) (pe_tup pa_nil) (nomark _)) (pw_and1 (pt_cmpR (k_op_neD (K := K) rfl hu64) (pe_df D_named hr (by rfl) passL (pa_cons (pv 6) pa_nil)) (pe_tup pa_nil) (nomark _)))))
    (pss_cons (ps_set (i := 12) scLaw.nd rfl (Or.inl rfl) (pe_lst (pa_cons (pe_df D_root hr (by rfl) passL (pa_cons (pv 5) pa_nil)) (pa_cons (pe_df D_root hr (by rfl) passL (pa_cons (pv 6) pa_nil)) pa_nil))))
    (pss_cons (ps_par (i := 13) (j := 14) (by rfl) scLaw.nd rfl rfl (by decide) rfl rfl (pa_cons (pv 5) (pa_cons (pv 6) pa_nil)) (by rfl))
    (pss_cons (ps_for PassesOwn.never rfl (pi_range2 (by rfl) M.range (pa_cons pe_int (pa_cons (pe_callB (call_minK rfl) (by rfl) M.min (by decide +kernel) (pa_cons pe_int (pa_cons (pe_ix (k_ix_tup (K := K) rfl) (pe_ix (k_ix_list (K := K) rfl) (pv 12) pe_int (fun _ _ => rfl)) pe_int (fun _ _ => rfl)) pa_nil))) pa_nil))) (pg_name (i := 15) scLaw.nd rfl (Or.inl rfl))
    (pss_one (ps_set (i := 13) scLaw.nd rfl (Or.inl rfl) (pe_df D_behind hr (by rfl) passL (pa_cons (pv 13) (pa_cons (pv 5) pa_nil))))))
    (pss_cons (ps_for PassesOwn.never rfl (pi_range2 (by rfl) M.range (pa_cons pe_int (pa_cons (pe_callB (call_minK rfl) (by rfl) M.min (by decide +kernel) (pa_cons pe_int (pa_cons (pe_ix (k_ix_tup (K := K) rfl) (pe_ix (k_ix_list (K := K) rfl) (pv 12) pe_int (fun _ _ => rfl)) pe_int (fun _ _ => rfl)) pa_nil))) pa_nil))) (pg_name (i := 15) scLaw.nd rfl (Or.inl rfl))
    (pss_one (ps_set (i := 14) scLaw.nd rfl (Or.inl rfl) (pe_df D_behind hr (by rfl) passL (pa_cons (pv 14) (pa_cons (pv 6) pa_nil))))))
    (pss_cons (ps_set (i := 16) scLaw.nd rfl (Or.inl rfl) (pe_cmpR op_lt (pe_callB (call_maxK rfl) (by rfl) M.max (by decide +kernel) (pa_cons (pe_ix (k_ix_tup (K := K) rfl) (pe_ix (k_ix_list (K := K) rfl) (pv 12) pe_int (fun _ _ => rfl)) pe_int (fun _ _ => rfl)) (pa_cons (pe_ix (k_ix_tup (K := K) rfl) (pe_ix (k_ix_list (K := K) rfl) (pv 12) pe_int (fun _ _ => rfl)) pe_int (fun _ _ => rfl)) pa_nil))) pe_int (nomark _)))
    (pss_cons (ps_set (i := 17) scLaw.nd rfl (Or.inl rfl) (pe_cmpR (k_op_eqD (K := K) rfl hu64) (pe_df D_behind hr (by rfl) passL (pa_cons (pv 13) (pa_cons (pe_df D_turned hr (by rfl) pass0 (pa_cons (pv 14) pa_nil)) pa_nil))) (pe_tup (pa_cons (pv 4) pa_nil)) (nomark _)))
    (pss_one (ps_if (PW.pt (pw_and (pt_val (pv 16)) (pw_and1 (pt_cmpR op_ne (pv 17) (pe_cmpR (k_op_eqD (K := K) rfl hu64) (pe_ix (k_ix_tup (K := K) rfl) (pe_ix (k_ix_list (K := K) rfl) (pv 12) pe_int (fun _ _ => rfl)) pe_int (fun _ _ => rfl)) (pe_ix (k_ix_tup (K := K) rfl) (pe_ix (k_ix_list (K := K) rfl) (pv 12) pe_int (fun _ _ => rfl)) pe_int (fun _ _ => rfl)) (nomark _)) (nomark _)))))
    (pss_one (ps_ret pe_bl))
    pss_nil))))))))
    pss_nil)))))))
    (pss_one (ps_ret pe_bl))))), ?_⟩
    walk_at "go0"
    refine ⟨a, ns, H, rfl, Same.refl H, hS, hl, fun p G1 H1 s1 hp1 => ?_⟩
    walk_at "go"
    refine loopR1 (n := 6) rfl (by omega) (fun i σ H' => ∃ y2 y3 y4 y5 y6 y7 y8 y9 y10 y11 y12 y13 y14 y15 y16 y17, ∃ (G' : Hp), σ = [some (.ref a), some (.ref p), y2, y3, y4, y5, y6, y7, y8, y9, y10, y11, y12, y13, y14, y15, y16, y17] ∧ Same G' H' ∧ Pen K G' p (i * 5000) H')
      ⟨none, none, none, none, none, none, none, none, none, none, none, none, none, none, none, none, G1, rfl, s1.gh, hp1⟩ (fun i σ H' hi pv => ?_) (fun σ H' pv => ?_)
    · obtain ⟨y2, y3, y4, y5, y6, y7, y8, y9, y10, y11, y12, y13, y14, y15, y16, y17, G, rfl, g0, hp⟩ := pv
      clear s1 hp1 hS
      walk_at "go"
      refine ⟨by show 3 ≤ sizeLine; decide, fun l nl => ?_⟩
      have g1 : Same G (upd H' l (.lst [.int 8, .int 7, .int 5])) := g0.trans (same_new nl)
      have hl1 : (upd H' l (.lst [.int 8, .int 7, .int 5])) l = some (.lst [.int 8, .int 7, .int 5]) := upd_same
      have hp1 := hp.upd (x := .lst [.int 8, .int 7, .int 5]) (hp.new nl)
      generalize upd H' l (.lst [.int 8, .int 7, .int 5]) = H2 at g1 hl1 hp1 ⊢
      walk_at "go"
      obtain ⟨mo, hmo, hm1, hm2⟩ : ∃ mo : Nat, ([.int 8, .int 7, .int 5] : List V)[i % 3]? = some (.int (mo : Int)) ∧ 1 ≤ mo ∧ mo ≤ 16 := by
        have h : i % 3 = 0 ∨ i % 3 = 1 ∨ i % 3 = 2 := by omega
        rcases h with h | h | h <;> rw [h]
        · exact ⟨8, rfl, by omega, by omega⟩
        · exact ⟨7, rfl, by omega, by omega⟩
        · exact ⟨5, rfl, by omega, by omega⟩
      refine r_ixL' (n := i % 3) (lof hl1) (by omega) hmo ?_
      walk_at "go"
      refine ⟨p, _, mo, _, G, rfl, g1, hp1, by omega, rfl, hm1, hm2, fun y rs ps G3 H3 s3 hp3 hY hr1 hr2 hrn hpi hpl => ?_⟩
      walk_at "go"
      have hY' := hY
      obtain ⟨dd, xs, ⟨rr, e1, e2⟩, _⟩ := hY'
      have hdl : (withD rs ps).length < 64 := Nat.lt_of_le_of_lt (withD_len _ _) hpl
      have hok : DsOk (withD rs ps) := fun e he => ⟨(hrn _ (withD_in hrn hpi e he).1).sok, (hrn _ (withD_in hrn hpi e he).2).sok⟩
      have hro : ∀ z ∈ rs, SOk z := fun z hz => (hrn z hz).sok
      have hdn : DsNe (withD rs ps) := withD_ne ps
      generalize withD rs ps = ds at hY hdl hok hdn
      refine r_dget' (dk (s3.gh _ _ e1) vv0) ?_
      walk_at "go"
      refine use_pick s3.gh hp3 (by omega) (.inl ⟨rr, rfl, e2⟩) (by rw [List.length_map]; exact hr1) (by rw [List.length_map]; omega) (fun d4 x H4 hx s4 hp4 => ?_)
      obtain ⟨b, hb, rfl⟩ := map_get hx
      have hbok : SOk b := hro b (List.mem_of_getElem? hb)
      walk_at "go"
      refine ⟨p, y, b, _, rs, ds, G3, rfl, s4.gh, hp4, by omega, hY, hr1, by omega, hdl, hok, hdn, hro, hbok, fun r5 A G5 H5 s5 hp5 h5 hfA hlA oA nA rA => ?_⟩
      have hY5 := hY.same s5.gg
      walk_at "go"
      refine ⟨p, y, b, _, rs, ds, G5, rfl, s5.gh, hp5, by omega, hY5, hr1, by omega, hdl, hok, hdn, hro, hbok, fun r6 B G6 H6 s6 hp6 h6 hfB hlB oB nB rB => ?_⟩
      have hY6 := hY5.same s6.gg
      have h56 := Same.sqt s6.gg h5
      have uA : Unl A := fun i a b ha hb => nb_ne hdn (rA i a b ha hb)
      have uB : Unl B := fun i a b ha hb => nb_ne hdn (rB i a b ha hb)
      have gA : Gd (shr A) := shr_gd uA
      have gB : Gd (shr B) := shr_gd uB
      have dA := rd_ex gA (fst_shr hfA) (lst_shr hlA)
      have dB := rd_ex gB (fst_shr hfB) (lst_shr hlB)
      have wA := shr_len A
      have wB := shr_len B
      have hfW := fst_shr hfA
      have hlW := lst_shr hlA
      clear s3 s4 s5 hp hp1 hp3 hp4 hp5 hY hY5 h5
      have g6 := s6.gh
      clear s6
      walk_at "go"
      refine use_Named g6 h56 hfA hlA gA (by omega) oA (fun r7 N7 G7 H7 s7 hN7 oN7 h7 => ?_)
      walk_at "go"
      refine ⟨Nat.zero_le _, fun z8 nz8 => ?_⟩
      have s8 := Stp.new (M := M0) (x := .tup []) s7.gh nz8
      have h8 : SqT K (upd H7 z8 (.tup [])) z8 (([] : List Str).map V.str) := tof upd_same
      generalize upd H7 z8 (.tup []) = H8 at s8 h8 ⊢
      generalize upd G7 z8 (.tup []) = G8 at s8
      refine r_neT0e (B := shr A = [b]) (Same.sqt s8.gh (Same.sqt s8.gg h7)) h8 oN7 hN7 ?_
      have s78 := s7.trans s8
      have h5a := Same.sqt s78.gg h56
      have h6a := Same.sqt s78.gg h6
      have hYa := hY6.same s78.gg
      have hpa := hp6.stp0 s78
      have ga := s8.gh
      clear s7 s8 s78 h56 h6 hY6 hp6 g6 h7 h8
      walk_at "go"
      refine if_joinS (fun σ' H' => ∃ y7 y8 y9 y10 y11, ∃ (G' : Hp), σ' = [some (.ref a), some (.ref p), some (.int (i : Int)), some (.ref y), some (.str b), some (.ref r5), some (.ref r6), y7, y8, y9, y10, y11, y12, y13, y14, y15, y16, y17] ∧ Stp (M1 p) G8 H8 G' H' ∧ Pen K G' p (i * 5000 + 3000) H') (fun c N hN => ?_) (fun c N hN => ?_) (fun σ' H' hj => ?_)
      · have cA : ¬ shr A = [b] := by simpa using c
        obtain ⟨t, n, d, hR⟩ := dA.resolve_left cA
        have hTl := rt_len hR.co hR.len hR.few.le
        have hRl := hR.len
        have hRd := hR.few.le
        have oT : ∀ z ∈ rtW (shr A) t d, SOk z := fun z hz => oA z (shr_mem (rt_mem z hz))
        obtain ⟨gT, hT, sT⟩ := hR.root gA
        have hTf := rt_fst hR hfW
        have hTlst := fst_of_rd hT hTf
        walk_at "go"
        refine use_Root ga h5a hfA hlA gA (by omega) oA hR (fun c9 s9 G9 H9 st9 hc9 hs9 => ?_)
        walk_at "go"
        refine r_gtup (Same.sqt st9.gh hc9) rfl ?_
        walk_at "go"
        refine loopR2 (n := 3) (by omega) (by omega) (fun j σ H' => ∃ (y10 : Option V) (rF : Addr) (F : List Str) (G' : Hp), σ = [some (.ref a), some (.ref p), some (.int (i : Int)), some (.ref y), some (.str b), some (.ref r5), some (.ref r6), some (.ref s9), some (.int ((n / d : Nat) : Int)), some (.ref rF), y10, y11, y12, y13, y14, y15, y16, y17] ∧ Stp M0 G8 H8 G' H' ∧ SqT K G' s9 ((rtW (shr A) t d).map V.str) ∧
          SqT K G' rF (F.map V.str) ∧ shr F = powW (shr A) (j + 1) ∧ fst0 F = some b ∧ lst F = some b ∧ F.length ≤ (j + 1) * 2000)
          ⟨y10, r5, A, G9, rfl, st9, hs9, Same.sqt st9.gg h5a, by rw [pow_1 hfW, shr_shr], hfA, hlA, by omega⟩ (fun j σ H' hj pv => ?_) (fun σ H' pv => ?_)
        · obtain ⟨y10', rF, F, G', rfl, st, hs, hF, eF, fF, lF, nF⟩ := pv
          clear st9 hc9 hs9
          have hnx := pow_next eF rfl lF hfA
          obtain ⟨gP, hP, rP⟩ := pow_rd gA hR (show 1 ≤ j + 1 + 1 by omega)
          have oP : ∀ z ∈ beh F A, SOk z := fun z hz => by
            rw [hnx] at hz
            exact oA z (shr_mem (pow_mem _ z hz))
          have lP := beh_len F A
          have fP := fst_beh (b := A) fF
          have l2 := lst_beh lF hfA hlA
          rw [← hnx] at gP hP rP
          have sP := shr_of_gd gP
          have ek : (((j + 1 + 1) * n / d : Nat) : Int) = ((2 : Int) + (j : Int)) * ((n / d : Nat) : Int) := by
            rw [Nat.mul_div_assoc _ (Nat.dvd_of_mod_eq_zero (few_dvd hR.few)), Int.natCast_mul]
            congr 1
            omega
          walk_at "go"
          refine use_Behind st.gh hF (Same.sqt st.gg h5a) lF hfA (by omega) (by omega) (fun r10 G10 H10 s10 h10 => ?_)
          walk_at "go"
          refine use_Root s10.gh h10 fP l2 (by rw [sP]; exact gP) (by omega) oP (by rw [sP]; exact hP) (fun c11 s11 G11 H11 st11 hc11 hs11 => ?_)
          rw [sP, rP] at hs11
          walk_at "go"
          refine ⟨by show 2 ≤ sizeLine; decide, fun c12 nc => ?_⟩
          have st12 := Stp.new (M := M0) (x := .tup [.ref s9, .int (((2 : Int) + (j : Int)) * ((n / d : Nat) : Int))]) st11.gh nc
          have hc12 : SqT K (upd H11 c12 (.tup [.ref s9, .int (((2 : Int) + (j : Int)) * ((n / d : Nat) : Int))])) c12 [.ref s9, .int (((2 : Int) + (j : Int)) * ((n / d : Nat) : Int))] := tof upd_same
          have sA := (s10.trans st11).trans st12
          refine r_neTI (Same.sqt st12.gh (Same.sqt st12.gg hc11)) (Same.sqt st12.gh (Same.sqt st12.gg hs11)) hc12 (Same.sqt sA.gh (Same.sqt sA.gg hs)) rfl ek oT ?_
          have h10a := Same.sqt (st11.trans st12).gg h10
          have hsa := Same.sqt sA.gg hs
          generalize upd H11 c12 (.tup [.ref s9, .int (((2 : Int) + (j : Int)) * ((n / d : Nat) : Int))]) = H12 at sA
          generalize upd G11 c12 (.tup [.ref s9, .int (((2 : Int) + (j : Int)) * ((n / d : Nat) : Int))]) = G12 at sA h10a hsa
          clear s10 st11 st12 hc11 hs11 hc12
          obtain ⟨hV, rV⟩ := rev_rd hP
          have sV : shr (beh F A).reverse = (beh F A).reverse := shr_of_gd (gd_rev gP)
          walk_at "go"
          refine use_Turned sA.gh h10a (fun r13 G13 H13 s13 h13 => ?_)
          walk_at "go"
          refine use_Root s13.gh h13 (fst_rev l2) (lst_rev fP) (by rw [sV]; exact gd_rev gP) (by rw [List.length_reverse]; omega) (rev_ok oP) (by rw [sV]; exact hV) (fun c14 s14 G14 H14 st14 hc14 hs14 => ?_)
          rw [sV, rV, rP] at hs14
          have s1314 := s13.trans st14
          walk_at "go"
          refine use_Turned st14.gh (Same.sqt s1314.gg hsa) (fun r15 G15 H15 s15 h15 => ?_)
          walk_at "go"
          refine ⟨by show 2 ≤ sizeLine; decide, fun c16 nc2 => ?_⟩
          have st16 := Stp.new (M := M0) (x := .tup [.ref r15, .int (((2 : Int) + (j : Int)) * ((n / d : Nat) : Int))]) s15.gh nc2
          have sB := s15.trans st16
          refine r_neTI (Same.sqt sB.gh (Same.sqt sB.gg hc14)) (Same.sqt sB.gh (Same.sqt sB.gg hs14)) (tof upd_same) (Same.sqt st16.gh (Same.sqt st16.gg h15)) rfl ek (rev_ok oT) ?_
          have sC := s1314.trans sB
          walk_at "go"
          refine ⟨_, r10, beh F A, _, rfl, (st.trans sA).trans sC, Same.sqt sC.gg hsa, Same.sqt sC.gg h10a, by rw [sP]; exact hnx, fP, l2, ?_⟩
          have := Nat.succ_mul (j + 1) 2000
          omega
        · obtain ⟨y10', rF, F, G', rfl, st, hs, hF, eF, fF, lF, nF⟩ := pv
          clear st9 hc9 hs9 hF eF fF lF nF
          have hpb := hpa.stp0 st
          have hYb := hYa.same st.gg
          have h5b := Same.sqt st.gg h5a
          walk_at "go"
          refine use_draw (m := 8) st.gh hpb (by omega) rfl (by omega) (by omega) (fun c19 H19 hc19 s19 hp19 => ?_)
          walk_at "go"
          refine ⟨p, y, b, _, c19, _, rs, ds, G', rfl, s19.gh, hp19, by omega, hYb, hdl, hok, rfl, by omega, fun r20 o G20 H20 s20 hp20 h20 hw20 hroad20 => ?_⟩
          obtain ⟨lz, hlz⟩ := lst_cons b o
          have hfZ : fst0 (b :: o) = some b := rfl
          have nZ : (b :: o).length ≤ 31 := by rw [List.length_cons]; omega
          have oZ : ∀ z ∈ b :: o, SOk z := wlk_ok hroad20 hok hbok
          have uZ : Unl (b :: o) := fun i a b ha hb => nb_ne hdn (hroad20 i a b ha hb)
          obtain ⟨t1, n1, d1, hR1, e1r, e1k, gC⟩ := cj_rd gA hR hfW hfZ hlz uZ
          have eC : cj (b :: o) (shr A) = cj (b :: o) A := cj_shr hfZ hlz hfA
          rw [eC] at hR1 e1r gC
          have sCj := shr_of_gd gC
          have oCj : ∀ z ∈ cj (b :: o) A, SOk z := fun z hz => by
            rcases beh_mem hz with h | h
            · rcases beh_mem h with h | h
              · exact oZ z (List.mem_reverse.mp h)
              · exact oA z h
            · exact oZ z h
          have nCj : (cj (b :: o) A).length ≤ 3000 := by
            have h1 := beh_len (beh (b :: o).reverse A) (b :: o)
            have h2 := beh_len (b :: o).reverse A
            rw [List.length_reverse] at h2
            show (beh (beh (b :: o).reverse A) (b :: o)).length ≤ _
            omega
          have s1920 := s19.trans s20
          walk_at "go"
          refine use_LedBy s20.gh (Same.sqt s20.gg h5b) h20 hfA hlA hfZ hlz (by omega) (by omega) (fun r21 G21 H21 s21 h21 => ?_)
          walk_at "go"
          refine use_Root s21.gh h21 (cj_fst hfZ hlz) (cj_lst hfZ hlz hfA hlA) (by rw [sCj]; exact gC) (by omega) oCj (by rw [sCj]; exact hR1) (fun c22 s22 G22 H22 st22 hc22 hs22 => ?_)
          rw [sCj, e1r] at hs22
          rw [e1k] at hc22
          have sD := s21.trans st22
          walk_at "go"
          refine use_LedBy st22.gh (Same.sqt (s20.gg.trans sD.gg) hs) (Same.sqt sD.gg h20) hTf hTlst hfZ hlz (by omega) (by omega) (fun r23 G23 H23 s23 h23 => ?_)
          walk_at "go"
          refine ⟨by show 2 ≤ sizeLine; decide, fun c24 nc24 => ?_⟩
          have st24 := Stp.new (M := M0) (x := .tup [.ref r23, .int ((n / d : Nat) : Int)]) s23.gh nc24
          have sE := s23.trans st24
          refine r_neTI (Same.sqt sE.gh (Same.sqt sE.gg hc22)) (Same.sqt sE.gh (Same.sqt sE.gg hs22)) (tof upd_same) (Same.sqt st24.gh (Same.sqt st24.gg h23)) rfl rfl (fun z hz => ?_) ?_
          · rcases beh_mem hz with h | h
            · rcases beh_mem h with h | h
              · exact oZ z (List.mem_reverse.mp h)
              · exact oT z h
            · exact oZ z h
          have sF := sD.trans sE
          walk_at "go"
          exact hN _ _ ⟨_, _, _, _, _, _, rfl, (st.weak.trans s1920).trans sF.weak, (hp20.stp0 sF).mono (by omega)⟩
      · walk_at "go"
        exact hN _ _ ⟨_, _, _, _, _, G8, rfl, Stp.refl ga, hpa.mono (by omega)⟩
      · obtain ⟨z7, z8, z9, z10, z11, G9, rfl, s9, hp9⟩ := hj
        have h5b := Same.sqt s9.gg h5a
        have h6b := Same.sqt s9.gg h6a
        have g9 := s9.gh
        clear s9 h5a h6a hYa hpa ga
        walk_at "go"
        refine use_Named g9 h5b hfA hlA gA (by omega) oA (fun r12 N12 G12 H12 s12 hN12 oN12 h12 => ?_)
        walk_at "go"
        refine ⟨Nat.zero_le _, fun z13 nz13 => ?_⟩
        have s13 := Stp.new (M := M0) (x := .tup []) s12.gh nz13
        have h13 : SqT K (upd H12 z13 (.tup [])) z13 (([] : List Str).map V.str) := tof upd_same
        generalize upd H12 z13 (.tup []) = H13 at s13 h13 ⊢
        generalize upd G12 z13 (.tup []) = G13 at s13
        refine r_neT0e (B := shr A = [b]) (Same.sqt s13.gh (Same.sqt s13.gg h12)) h13 oN12 hN12 ?_
        have s1213 := s12.trans s13
        have h5c := Same.sqt s1213.gg h5b
        have h6c := Same.sqt s1213.gg h6b
        have hpc := hp9.stp0 s1213
        have gc := s13.gh
        clear s12 s13 s1213 h5b h6b hp9 g9 h12 h13
        walk_at "go"
        by_cases cA : shr A = [b]
        · rw [decide_eq_true cA]
          walk_at "go"
          exact ⟨_, _, _, _, _, _, _, _, _, _, _, _, _, _, _, _, G13, rfl, gc, hpc.mono (by omega)⟩
        rw [decide_eq_false cA]
        walk_at "go"
        refine use_Named gc h6c hfB hlB gB (by omega) oB (fun r14 N14 G14 H14 s14 hN14 oN14 h14 => ?_)
        walk_at "go"
        refine ⟨Nat.zero_le _, fun z15 nz15 => ?_⟩
        have s15 := Stp.new (M := M0) (x := .tup []) s14.gh nz15
        have h15 : SqT K (upd H14 z15 (.tup [])) z15 (([] : List Str).map V.str) := tof upd_same
        generalize upd H14 z15 (.tup []) = H15 at s15 h15 ⊢
        generalize upd G14 z15 (.tup []) = G15 at s15
        refine r_neT0e (B := shr B = [b]) (Same.sqt s15.gh (Same.sqt s15.gg h14)) h15 oN14 hN14 ?_
        have s1415 := s14.trans s15
        have h5d := Same.sqt s1415.gg h5c
        have h6d := Same.sqt s1415.gg h6c
        have hpd := hpc.stp0 s1415
        have gd := s15.gh
        clear s14 s15 s1415 h5c h6c hpc gc h14 h15
        walk_at "go"
        by_cases cB : shr B = [b]
        · rw [decide_eq_true cB]
          walk_at "go"
          exact ⟨_, _, _, _, _, _, _, _, _, _, _, _, _, _, _, _, G15, rfl, gd, hpd.mono (by omega)⟩
        rw [decide_eq_false cB]
        obtain ⟨t0, n0, d0, hR0⟩ := dA.resolve_left cA
        obtain ⟨t1, n1, d1, hR1⟩ := dB.resolve_left cB
        have hfV := fst_shr hfB
        have oT0 : ∀ z ∈ rtW (shr A) t0 d0, SOk z := fun z hz => oA z (shr_mem (rt_mem z hz))
        have oT1 : ∀ z ∈ rtW (shr B) t1 d1, SOk z := fun z hz => oB z (shr_mem (rt_mem z hz))
        have k0 : 1 ≤ n0 / d0 := Nat.div_pos hR0.few.le hR0.few.one
        have k1 : 1 ≤ n1 / d1 := Nat.div_pos hR1.few.le hR1.few.one
        walk_at "go"
        refine use_Root gd h5d hfA hlA gA (by omega) oA hR0 (fun c16 s16 G16 H16 st16 hc16 hs16 => ?_)
        walk_at "go"
        refine use_Root st16.gh (Same.sqt st16.gg h6d) hfB hlB gB (by omega) oB hR1 (fun c17 s17 G17 H17 st17 hc17 hs17 => ?_)
        walk_at "go"
        refine ⟨by show 2 ≤ sizeLine; decide, fun l18 nl18 => ?_⟩
        have st18 := Stp.new (M := M0) (x := .lst [.ref c16, .ref c17]) st17.gh nl18
        have hl18 : SqL K (upd G17 l18 (.lst [.ref c16, .ref c17])) l18 [.ref c16, .ref c17] := lof upd_same
        have sA := (st16.trans st17).trans st18
        have h5e := Same.sqt sA.gg h5d
        have h6e := Same.sqt sA.gg h6d
        have hpe := hpd.stp0 sA
        have hc16a := Same.sqt (st17.trans st18).gg hc16
        have hs16a := Same.sqt (st17.trans st18).gg hs16
        have hc17a := Same.sqt st18.gg hc17
        have hs17a := Same.sqt st18.gg hs17
        have ge := st18.gh
        generalize upd H17 l18 (.lst [.ref c16, .ref c17]) = H18 at sA ge st18 hpe ⊢
        generalize upd G17 l18 (.lst [.ref c16, .ref c17]) = G18 at sA ge h5e h6e hpe hc16a hs16a hc17a hs17a hl18 st18
        clear sA st16 st17 st18 h5d h6d hpd gd hc16 hs16 hc17 hs17
        obtain ⟨e, he, he1, he4⟩ : ∃ e : Nat, (if ((n1 / d1 : Nat) : Int) < 4 then ((n1 / d1 : Nat) : Int) else 4) = (e : Int) ∧ 1 ≤ e ∧ e ≤ 4 ∧ (n1 / d1 < 5 → e = n1 / d1) := by
          by_cases c : n1 / d1 < 4
          · exact ⟨n1 / d1, by rw [if_pos (by omega)], k1, by omega, fun _ => rfl⟩
          · exact ⟨4, by rw [if_neg (by omega)]; rfl, by omega, by omega, fun h => by omega⟩
        obtain ⟨f, hf, hf1, hf4⟩ : ∃ f : Nat, (if ((n0 / d0 : Nat) : Int) < 4 then ((n0 / d0 : Nat) : Int) else 4) = (f : Int) ∧ 1 ≤ f ∧ f ≤ 4 ∧ (n0 / d0 < 5 → f = n0 / d0) := by
          by_cases c : n0 / d0 < 4
          · exact ⟨n0 / d0, by rw [if_pos (by omega)], k0, by omega, fun _ => rfl⟩
          · exact ⟨4, by rw [if_neg (by omega)]; rfl, by omega, by omega, fun h => by omega⟩
        walk_at "go"
        refine r_ixL' (n := 1) (v := .ref c17) (ge.seq hl18) rfl rfl ?_
        walk_at "go"
        refine r_ixT' (n := 1) (v := .int ((n1 / d1 : Nat) : Int)) (Same.sqt ge hc17a) rfl rfl ?_
        walk_at "go"
        rw [he]
        refine loopR2 (n := e - 1) (by omega) (by omega) (fun j σ H' => ∃ (y15 : Option V) (rF : Addr) (F : List Str) (G' : Hp), σ = [some (.ref a), some (.ref p), some (.int (i : Int)), some (.ref y), some (.str b), some (.ref r5), some (.ref r6), z7, z8, z9, z10, z11, some (.ref l18), some (.ref rF), some (.ref r6), y15, y16, y17] ∧ Stp M0 G18 H18 G' H' ∧
          SqT K G' rF (F.map V.str) ∧ shr F = powW (shr A) (j + 1) ∧ fst0 F = some b ∧ lst F = some b ∧ F.length ≤ (j + 1) * 2000 ∧ ∀ z ∈ F, SOk z)
          ⟨_, r5, A, G18, rfl, Stp.refl ge, h5e, by rw [pow_1 hfW, shr_shr], hfA, hlA, by omega, oA⟩ (fun j σ H' hj pv => ?_) (fun σ H' pv => ?_)
        · obtain ⟨y15', rF, F, G', rfl, st, hF, eF, fF, lF, nF, oF⟩ := pv
          have lP := beh_len F A
          walk_at "go"
          refine use_Behind st.gh hF (Same.sqt st.gg h5e) lF hfA (by omega) (by omega) (fun r10 G10 H10 s10 h10 => ?_)
          walk_at "go"
          refine ⟨_, r10, beh F A, G10, rfl, st.trans s10, h10, ?_, fst_beh fF, lst_beh lF hfA hlA, ?_, beh_ok oF oA⟩
          · rw [← pow_next eF rfl lF hfA]
            exact shr_shr _
          · have := Nat.succ_mul (j + 1) 2000
            omega
        obtain ⟨y15', rL, L, G19, rfl, st19, hL, eL, fL, lL, nL, oL⟩ := pv
        rw [show e - 1 + 1 = e by omega] at eL nL
        have nL2 : L.length ≤ 8000 := Nat.le_trans nL (Nat.le_trans (Nat.mul_le_mul_right 2000 he4.1) (by decide))
        walk_at "go"
        refine r_ixL' (n := 0) (v := .ref c16) (st19.gh.seq (st19.gg.seq hl18)) rfl rfl ?_
        walk_at "go"
        refine r_ixT' (n := 1) (v := .int ((n0 / d0 : Nat) : Int)) (Same.sqt st19.gh (Same.sqt st19.gg hc16a)) rfl rfl ?_
        walk_at "go"
        rw [hf]
        refine loopR2 (n := f - 1) (by omega) (by omega) (fun j σ H' => ∃ (y15 : Option V) (rF : Addr) (F : List Str) (G' : Hp), σ = [some (.ref a), some (.ref p), some (.int (i : Int)), some (.ref y), some (.str b), some (.ref r5), some (.ref r6), z7, z8, z9, z10, z11, some (.ref l18), some (.ref rL), some (.ref rF), y15, y16, y17] ∧ Stp M0 G18 H18 G' H' ∧ SqT K G' rL (L.map V.str) ∧
          SqT K G' rF (F.map V.str) ∧ shr F = powW (shr B) (j + 1) ∧ fst0 F = some b ∧ lst F = some b ∧ F.length ≤ (j + 1) * 2000 ∧ ∀ z ∈ F, SOk z)
          ⟨_, r6, B, G19, rfl, st19, hL, Same.sqt st19.gg h6e, by rw [pow_1 hfV, shr_shr], hfB, hlB, by omega, oB⟩ (fun j σ H' hj pv => ?_) (fun σ H' pv => ?_)
        · obtain ⟨y15', rF, F, G', rfl, st, hL', hF, eF, fF, lF, nF, oF⟩ := pv
          have lP := beh_len F B
          walk_at "go"
          refine use_Behind st.gh hF (Same.sqt st.gg h6e) lF hfB (by omega) (by omega) (fun r10 G10 H10 s10 h10 => ?_)
          walk_at "go"
          refine ⟨_, r10, beh F B, G10, rfl, st.trans s10, Same.sqt s10.gg hL', h10, ?_, fst_beh fF, lst_beh lF hfB hlB, ?_, beh_ok oF oB⟩
          · rw [← pow_next eF rfl lF hfB]
            exact shr_shr _
          · have := Nat.succ_mul (j + 1) 2000
            omega
        obtain ⟨y15'', rM, M', G20, rfl, st20, hL20, hM, eM, fM, lM, nM, oM⟩ := pv
        rw [show f - 1 + 1 = f by omega] at eM nM
        have nM2 : M'.length ≤ 8000 := Nat.le_trans nM (Nat.le_trans (Nat.mul_le_mul_right 2000 hf4.1) (by decide))
        have iff := one_iff gA gB hR0 hR1 hfW hfV eL eM
        have hl20 := st20.gh.seq (st20.gg.seq hl18)
        have hc16b := Same.sqt st20.gh (Same.sqt st20.gg hc16a)
        have hc17b := Same.sqt st20.gh (Same.sqt st20.gg hc17a)
        walk_at "go"
        refine r_ixL' (n := 0) (v := .ref c16) hl20 rfl rfl ?_
        walk_at "go"
        refine r_ixT' (n := 1) (v := .int ((n0 / d0 : Nat) : Int)) hc16b rfl rfl ?_
        walk_at "go"
        refine r_ixL' (n := 1) (v := .ref c17) hl20 rfl rfl ?_
        walk_at "go"
        refine r_ixT' (n := 1) (v := .int ((n1 / d1 : Nat) : Int)) hc17b rfl rfl ?_
        walk_at "go"
        refine use_Turned st20.gh hM (fun r21 G21 H21 s21 h21 => ?_)
        walk_at "go"
        refine use_Behind s21.gh (Same.sqt s21.gg hL20) h21 lL (fst_rev lM) (by omega) (by rw [List.length_reverse]; omega) (fun r22 G22 H22 s22 h22 => ?_)
        walk_at "go"
        refine ⟨by show 1 ≤ sizeLine; decide, fun c23 nc23 => ?_⟩
        have s23 := Stp.new (M := M0) (x := .tup [V.str b]) s22.gh nc23
        have h23 : SqT K (upd H22 c23 (.tup [V.str b])) c23 ([b].map V.str) := tof upd_same
        have sB := (s21.trans s22).trans s23
        refine r_eqTT (Same.sqt s23.gh (Same.sqt s23.gg h22)) h23 (beh_ok oL (rev_ok oM)) (one_ok hbok) ?_
        have hl23 := sB.gh.seq (sB.gg.seq (st20.gg.seq hl18))
        have hc16c := Same.sqt sB.gh (Same.sqt sB.gg (Same.sqt st20.gg hc16a))
        have hc17c := Same.sqt sB.gh (Same.sqt sB.gg (Same.sqt st20.gg hc17a))
        have hs16c := Same.sqt sB.gh (Same.sqt sB.gg (Same.sqt st20.gg hs16a))
        have hs17c := Same.sqt sB.gh (Same.sqt sB.gg (Same.sqt st20.gg hs17a))
        have hpz := (hpe.stp0 st20).stp0 sB
        have gz := sB.gh
        generalize upd H22 c23 (.tup [V.str b]) = H23 at gz hl23 hc16c hc17c hs16c hs17c hpz ⊢
        generalize upd G22 c23 (.tup [V.str b]) = G23 at gz hpz
        walk_at "go"
        refine ifD (fun c => ?_) (fun c => ?_)
        · have c0 : n0 / d0 < 5 ∧ n1 / d1 < 5 := by
            split at c <;> omega
          have iff2 := iff (he4.2 c0.2) (hf4.2 c0.1) lL fM lM
          walk_at "go"
          refine r_ixL' (n := 0) (v := .ref c16) hl23 rfl rfl ?_
          walk_at "go"
          refine r_ixT' (n := 0) (v := .ref s16) hc16c rfl rfl ?_
          walk_at "go"
          refine r_ixL' (n := 1) (v := .ref c17) hl23 rfl rfl ?_
          walk_at "go"
          refine r_ixT' (n := 0) (v := .ref s17) hc17c rfl rfl ?_
          walk_at "go"
          refine r_eqTT hs16c hs17c oT0 oT1 ?_
          walk_at "go"
          rw [decide_eq_decide.mpr iff2]
          rw [decide_eq_true (p := V.bl (decide (rtW (shr A) t0 d0 = rtW (shr B) t1 d1)) = V.bl (decide (rtW (shr A) t0 d0 = rtW (shr B) t1 d1))) rfl]
          walk_at "go"
          exact ⟨_, _, _, _, _, _, _, _, _, _, _, _, _, _, _, _, G23, rfl, gz, hpz.mono (by omega)⟩
        · walk_at "go"
          exact ⟨_, _, _, _, _, _, _, _, _, _, _, _, _, _, _, _, G23, rfl, gz, hpz.mono (by omega)⟩
    · obtain ⟨y2, y3, y4, y5, y6, y7, y8, y9, y10, y11, y12, y13, y14, y15, y16, y17, G, rfl, g0, hp⟩ := pv
      walk_at "go"
      exact q _
end
/-! ### what the top has written; the head -/
section
theorem df_of {P : Program} {w : World} {K : PySem.W.Frag} {mg : Str → Option Value} {base : Heap} {CX : CXT} {h : Heap} {x : Str} {st : Stmt} {f : Addr} {ps : List Str} {sp : Sp} {k : Nat} {oc kV dc pm cd ct : Value} {od an : Option Addr} {sl : Array (Option Value)} (X : K.In h) (G : h.Ns mainGlobals mg)
    (a : PySem.W.nsIn K mainGlobals x = some (some (.ref f))) (l : K.lookup f = some ⟨oc, od, .func (PySem.W.fnOf x x (defArgs st) (defBody st) (defScope st) .none kV dc pm an cd ct), sl⟩) (c : PySem.W.codeIn K cd x = true) (kk : PySem.W.keepIn K (.ref f) = true)
    (hb : ∀ (kV doc pm : Value) (an : Option Addr) (cdv ct : Value) (us : List Value), us.length = ps.length → bindArgs (PySem.W.fnOf x x (defArgs st) (defBody st) (defScope st) .none kV doc pm an cdv ct) ⟨us, []⟩ = pure (ps.zip us))
    (ok : ∀ {fd : FuncData}, Fun K x x st f fd → FnOk P w K mg base CX k f fd ps sp) : Df P w K mg base CX k x ps sp :=
  ⟨f, _, ok (fun_mk l c kk), PySem.W.mg_of X G a, kk, (fun_mk l c kk).binds hb⟩
theorem exm_self {K : PySem.W.Frag} {S : Addr} (h1 : PySem.W.subIn K (.ref S) (.type "BaseException") = some true) (h2 : PySem.W.isClsIn K S = true) (h3 : PySem.W.typeIn K (.ref S) = some (.type "type")) (h4 : PySem.W.subIn K (.ref S) (.ref S) = some true) :
    PySem.W.exmOne K (.ref S) (.ref S) = some true := by
  have h2' : (PySem.W.clsIn K S).isSome = true := h2
  unfold PySem.W.exmOne PySem.W.kitCls
  rw [h1]
  dsimp only
  rw [if_pos (by rfl), h2', h3, if_pos (by rfl)]
  exact h4
theorem all_mk {l : PySem.W.OpenLaw} {w : World} {K : PySem.W.Frag} {h : Heap} {mg : Str → Option Value} {fa : Addr} (X : K.In h) (G : h.Ns mainGlobals mg) (hfa : mg "law" = some (.ref fa))
    {f0 : Addr} {oc0 kV0 dc0 pm0 cd0 ct0 : Value} {od0 an0 : Option Addr} {sl0 : Array (Option Value)}
    (a0 : PySem.W.nsIn K mainGlobals "_law_draw" = some (some (.ref f0))) (l0 : K.lookup f0 = some ⟨oc0, od0, .func (PySem.W.fnOf "_law_draw" "_law_draw" (defArgs sDraw) (defBody sDraw) (defScope sDraw) .none kV0 dc0 pm0 an0 cd0 ct0), sl0⟩) (c0 : PySem.W.codeIn K cd0 "_law_draw" = true) (k0 : PySem.W.keepIn K (.ref f0) = true)
    {f1 : Addr} {oc1 kV1 dc1 pm1 cd1 ct1 : Value} {od1 an1 : Option Addr} {sl1 : Array (Option Value)}
    (a1 : PySem.W.nsIn K mainGlobals "_law_pick" = some (some (.ref f1))) (l1 : K.lookup f1 = some ⟨oc1, od1, .func (PySem.W.fnOf "_law_pick" "_law_pick" (defArgs sPick) (defBody sPick) (defScope sPick) .none kV1 dc1 pm1 an1 cd1 ct1), sl1⟩) (c1 : PySem.W.codeIn K cd1 "_law_pick" = true) (k1 : PySem.W.keepIn K (.ref f1) = true)
    {f2 : Addr} {oc2 kV2 dc2 pm2 cd2 ct2 : Value} {od2 an2 : Option Addr} {sl2 : Array (Option Value)}
    (a2 : PySem.W.nsIn K mainGlobals "_law_pen" = some (some (.ref f2))) (l2 : K.lookup f2 = some ⟨oc2, od2, .func (PySem.W.fnOf "_law_pen" "_law_pen" (defArgs sPen) (defBody sPen) (defScope sPen) .none kV2 dc2 pm2 an2 cd2 ct2), sl2⟩) (c2 : PySem.W.codeIn K cd2 "_law_pen" = true) (k2 : PySem.W.keepIn K (.ref f2) = true)
    {f3 : Addr} {oc3 kV3 dc3 pm3 cd3 ct3 : Value} {od3 an3 : Option Addr} {sl3 : Array (Option Value)}
    (a3 : PySem.W.nsIn K mainGlobals "_law_names" = some (some (.ref f3))) (l3 : K.lookup f3 = some ⟨oc3, od3, .func (PySem.W.fnOf "_law_names" "_law_names" (defArgs sNames) (defBody sNames) (defScope sNames) .none kV3 dc3 pm3 an3 cd3 ct3), sl3⟩) (c3 : PySem.W.codeIn K cd3 "_law_names" = true) (k3 : PySem.W.keepIn K (.ref f3) = true)
    {f4 : Addr} {oc4 kV4 dc4 pm4 cd4 ct4 : Value} {od4 an4 : Option Addr} {sl4 : Array (Option Value)}
    (a4 : PySem.W.nsIn K mainGlobals "_law_near" = some (some (.ref f4))) (l4 : K.lookup f4 = some ⟨oc4, od4, .func (PySem.W.fnOf "_law_near" "_law_near" (defArgs sNear) (defBody sNear) (defScope sNear) .none kV4 dc4 pm4 an4 cd4 ct4), sl4⟩) (c4 : PySem.W.codeIn K cd4 "_law_near" = true) (k4 : PySem.W.keepIn K (.ref f4) = true)
    {f5 : Addr} {oc5 kV5 dc5 pm5 cd5 ct5 : Value} {od5 an5 : Option Addr} {sl5 : Array (Option Value)}
    (a5 : PySem.W.nsIn K mainGlobals "_law_may_door" = some (some (.ref f5))) (l5 : K.lookup f5 = some ⟨oc5, od5, .func (PySem.W.fnOf "_law_may_door" "_law_may_door" (defArgs sMayDoor) (defBody sMayDoor) (defScope sMayDoor) .none kV5 dc5 pm5 an5 cd5 ct5), sl5⟩) (c5 : PySem.W.codeIn K cd5 "_law_may_door" = true) (k5 : PySem.W.keepIn K (.ref f5) = true)
    {f6 : Addr} {oc6 kV6 dc6 pm6 cd6 ct6 : Value} {od6 an6 : Option Addr} {sl6 : Array (Option Value)}
    (a6 : PySem.W.nsIn K mainGlobals "_law_drawn_pairs" = some (some (.ref f6))) (l6 : K.lookup f6 = some ⟨oc6, od6, .func (PySem.W.fnOf "_law_drawn_pairs" "_law_drawn_pairs" (defArgs sDrawnPairs) (defBody sDrawnPairs) (defScope sDrawnPairs) .none kV6 dc6 pm6 an6 cd6 ct6), sl6⟩) (c6 : PySem.W.codeIn K cd6 "_law_drawn_pairs" = true) (k6 : PySem.W.keepIn K (.ref f6) = true)
    {f7 : Addr} {oc7 kV7 dc7 pm7 cd7 ct7 : Value} {od7 an7 : Option Addr} {sl7 : Array (Option Value)}
    (a7 : PySem.W.nsIn K mainGlobals "_law_with_doors" = some (some (.ref f7))) (l7 : K.lookup f7 = some ⟨oc7, od7, .func (PySem.W.fnOf "_law_with_doors" "_law_with_doors" (defArgs sWithDoors) (defBody sWithDoors) (defScope sWithDoors) .none kV7 dc7 pm7 an7 cd7 ct7), sl7⟩) (c7 : PySem.W.codeIn K cd7 "_law_with_doors" = true) (k7 : PySem.W.keepIn K (.ref f7) = true)
    {f8 : Addr} {oc8 kV8 dc8 pm8 cd8 ct8 : Value} {od8 an8 : Option Addr} {sl8 : Array (Option Value)}
    (a8 : PySem.W.nsIn K mainGlobals "_law_yard" = some (some (.ref f8))) (l8 : K.lookup f8 = some ⟨oc8, od8, .func (PySem.W.fnOf "_law_yard" "_law_yard" (defArgs sYard) (defBody sYard) (defScope sYard) .none kV8 dc8 pm8 an8 cd8 ct8), sl8⟩) (c8 : PySem.W.codeIn K cd8 "_law_yard" = true) (k8 : PySem.W.keepIn K (.ref f8) = true)
    {f9 : Addr} {oc9 kV9 dc9 pm9 cd9 ct9 : Value} {od9 an9 : Option Addr} {sl9 : Array (Option Value)}
    (a9 : PySem.W.nsIn K mainGlobals "_law_strolled" = some (some (.ref f9))) (l9 : K.lookup f9 = some ⟨oc9, od9, .func (PySem.W.fnOf "_law_strolled" "_law_strolled" (defArgs sStrolled) (defBody sStrolled) (defScope sStrolled) .none kV9 dc9 pm9 an9 cd9 ct9), sl9⟩) (c9 : PySem.W.codeIn K cd9 "_law_strolled" = true) (k9 : PySem.W.keepIn K (.ref f9) = true)
    {f10 : Addr} {oc10 kV10 dc10 pm10 cd10 ct10 : Value} {od10 an10 : Option Addr} {sl10 : Array (Option Value)}
    (a10 : PySem.W.nsIn K mainGlobals "_law_reach" = some (some (.ref f10))) (l10 : K.lookup f10 = some ⟨oc10, od10, .func (PySem.W.fnOf "_law_reach" "_law_reach" (defArgs sReach) (defBody sReach) (defScope sReach) .none kV10 dc10 pm10 an10 cd10 ct10), sl10⟩) (c10 : PySem.W.codeIn K cd10 "_law_reach" = true) (k10 : PySem.W.keepIn K (.ref f10) = true)
    {f11 : Addr} {oc11 kV11 dc11 pm11 cd11 ct11 : Value} {od11 an11 : Option Addr} {sl11 : Array (Option Value)}
    (a11 : PySem.W.nsIn K mainGlobals "_law_ringed" = some (some (.ref f11))) (l11 : K.lookup f11 = some ⟨oc11, od11, .func (PySem.W.fnOf "_law_ringed" "_law_ringed" (defArgs sRinged) (defBody sRinged) (defScope sRinged) .none kV11 dc11 pm11 an11 cd11 ct11), sl11⟩) (c11 : PySem.W.codeIn K cd11 "_law_ringed" = true) (k11 : PySem.W.keepIn K (.ref f11) = true)
    {f12 : Addr} {oc12 kV12 dc12 pm12 cd12 ct12 : Value} {od12 an12 : Option Addr} {sl12 : Array (Option Value)}
    (a12 : PySem.W.nsIn K mainGlobals "_law_closed" = some (some (.ref f12))) (l12 : K.lookup f12 = some ⟨oc12, od12, .func (PySem.W.fnOf "_law_closed" "_law_closed" (defArgs sClosed) (defBody sClosed) (defScope sClosed) .none kV12 dc12 pm12 an12 cd12 ct12), sl12⟩) (c12 : PySem.W.codeIn K cd12 "_law_closed" = true) (k12 : PySem.W.keepIn K (.ref f12) = true)
    {f13 : Addr} {oc13 kV13 dc13 pm13 cd13 ct13 : Value} {od13 an13 : Option Addr} {sl13 : Array (Option Value)}
    (a13 : PySem.W.nsIn K mainGlobals "shrunk" = some (some (.ref f13))) (l13 : K.lookup f13 = some ⟨oc13, od13, .func (PySem.W.fnOf "shrunk" "shrunk" (defArgs sShrunk) (defBody sShrunk) (defScope sShrunk) .none kV13 dc13 pm13 an13 cd13 ct13), sl13⟩) (c13 : PySem.W.codeIn K cd13 "shrunk" = true) (k13 : PySem.W.keepIn K (.ref f13) = true)
    {f14 : Addr} {oc14 kV14 dc14 pm14 cd14 ct14 : Value} {od14 an14 : Option Addr} {sl14 : Array (Option Value)}
    (a14 : PySem.W.nsIn K mainGlobals "need_closed" = some (some (.ref f14))) (l14 : K.lookup f14 = some ⟨oc14, od14, .func (PySem.W.fnOf "need_closed" "need_closed" (defArgs sNeedClosed) (defBody sNeedClosed) (defScope sNeedClosed) .none kV14 dc14 pm14 an14 cd14 ct14), sl14⟩) (c14 : PySem.W.codeIn K cd14 "need_closed" = true) (k14 : PySem.W.keepIn K (.ref f14) = true)
    {f15 : Addr} {oc15 kV15 dc15 pm15 cd15 ct15 : Value} {od15 an15 : Option Addr} {sl15 : Array (Option Value)}
    (a15 : PySem.W.nsIn K mainGlobals "behind" = some (some (.ref f15))) (l15 : K.lookup f15 = some ⟨oc15, od15, .func (PySem.W.fnOf "behind" "behind" (defArgs sBehind) (defBody sBehind) (defScope sBehind) .none kV15 dc15 pm15 an15 cd15 ct15), sl15⟩) (c15 : PySem.W.codeIn K cd15 "behind" = true) (k15 : PySem.W.keepIn K (.ref f15) = true)
    {f16 : Addr} {oc16 kV16 dc16 pm16 cd16 ct16 : Value} {od16 an16 : Option Addr} {sl16 : Array (Option Value)}
    (a16 : PySem.W.nsIn K mainGlobals "turned" = some (some (.ref f16))) (l16 : K.lookup f16 = some ⟨oc16, od16, .func (PySem.W.fnOf "turned" "turned" (defArgs sTurned) (defBody sTurned) (defScope sTurned) .none kV16 dc16 pm16 an16 cd16 ct16), sl16⟩) (c16 : PySem.W.codeIn K cd16 "turned" = true) (k16 : PySem.W.keepIn K (.ref f16) = true)
    {f17 : Addr} {oc17 kV17 dc17 pm17 cd17 ct17 : Value} {od17 an17 : Option Addr} {sl17 : Array (Option Value)}
    (a17 : PySem.W.nsIn K mainGlobals "core" = some (some (.ref f17))) (l17 : K.lookup f17 = some ⟨oc17, od17, .func (PySem.W.fnOf "core" "core" (defArgs sCore) (defBody sCore) (defScope sCore) .none kV17 dc17 pm17 an17 cd17 ct17), sl17⟩) (c17 : PySem.W.codeIn K cd17 "core" = true) (k17 : PySem.W.keepIn K (.ref f17) = true)
    {f18 : Addr} {oc18 kV18 dc18 pm18 cd18 ct18 : Value} {od18 an18 : Option Addr} {sl18 : Array (Option Value)}
    (a18 : PySem.W.nsIn K mainGlobals "_rounds" = some (some (.ref f18))) (l18 : K.lookup f18 = some ⟨oc18, od18, .func (PySem.W.fnOf "_rounds" "_rounds" (defArgs sRounds) (defBody sRounds) (defScope sRounds) .none kV18 dc18 pm18 an18 cd18 ct18), sl18⟩) (c18 : PySem.W.codeIn K cd18 "_rounds" = true) (k18 : PySem.W.keepIn K (.ref f18) = true)
    {f19 : Addr} {oc19 kV19 dc19 pm19 cd19 ct19 : Value} {od19 an19 : Option Addr} {sl19 : Array (Option Value)}
    (a19 : PySem.W.nsIn K mainGlobals "named" = some (some (.ref f19))) (l19 : K.lookup f19 = some ⟨oc19, od19, .func (PySem.W.fnOf "named" "named" (defArgs sNamed) (defBody sNamed) (defScope sNamed) .none kV19 dc19 pm19 an19 cd19 ct19), sl19⟩) (c19 : PySem.W.codeIn K cd19 "named" = true) (k19 : PySem.W.keepIn K (.ref f19) = true)
    {f20 : Addr} {oc20 kV20 dc20 pm20 cd20 ct20 : Value} {od20 an20 : Option Addr} {sl20 : Array (Option Value)}
    (a20 : PySem.W.nsIn K mainGlobals "root" = some (some (.ref f20))) (l20 : K.lookup f20 = some ⟨oc20, od20, .func (PySem.W.fnOf "root" "root" (defArgs sRoot) (defBody sRoot) (defScope sRoot) .none kV20 dc20 pm20 an20 cd20 ct20), sl20⟩) (c20 : PySem.W.codeIn K cd20 "root" = true) (k20 : PySem.W.keepIn K (.ref f20) = true)
    {f21 : Addr} {oc21 kV21 dc21 pm21 cd21 ct21 : Value} {od21 an21 : Option Addr} {sl21 : Array (Option Value)}
    (a21 : PySem.W.nsIn K mainGlobals "led_by" = some (some (.ref f21))) (l21 : K.lookup f21 = some ⟨oc21, od21, .func (PySem.W.fnOf "led_by" "led_by" (defArgs sLedBy) (defBody sLedBy) (defScope sLedBy) .none kV21 dc21 pm21 an21 cd21 ct21), sl21⟩) (c21 : PySem.W.codeIn K cd21 "led_by" = true) (k21 : PySem.W.keepIn K (.ref f21) = true)
    {f22 : Addr} {oc22 kV22 dc22 pm22 cd22 ct22 : Value} {od22 an22 : Option Addr} {sl22 : Array (Option Value)}
    (a22 : PySem.W.nsIn K mainGlobals "law" = some (some (.ref f22))) (l22 : K.lookup f22 = some ⟨oc22, od22, .func (PySem.W.fnOf "law" "law" (defArgs sLaw) (defBody sLaw) (defScope sLaw) .none kV22 dc22 pm22 an22 cd22 ct22), sl22⟩) (c22 : PySem.W.codeIn K cd22 "law" = true) (k22 : PySem.W.keepIn K (.ref f22) = true)
    {c_NotClosed : Addr} (g_NotClosed : PySem.W.nsIn K mainGlobals "NotClosed" = some (some (.ref c_NotClosed))) (ex_NotClosed : PySem.W.excIn K c_NotClosed [.type "ValueError", .type "Exception", .type "BaseException", .type "object"] "ValueError.__new__" = true) (kp_NotClosed : PySem.W.keepIn K (.ref c_NotClosed) = true) (sb_NotClosed : PySem.W.subIn K (.ref c_NotClosed) (.type "BaseException") = some true) (ty_NotClosed : PySem.W.typeIn K (.ref c_NotClosed) = some (.type "type")) (ga_NotClosed : PySem.W.findIn K (.ref c_NotClosed) "__getattribute__" = some (some (.builtin "BaseException.__getattribute__"))) (gt_NotClosed : PySem.W.findIn K (.ref c_NotClosed) "__getattr__" = some none) (hd_NotClosed : PySem.W.hasDictIn K c_NotClosed = true) (cl_NotClosed : PySem.W.findIn K (.ref c_NotClosed) "__class__" = some (some (.builtin "object.__class__"))) (gs_NotClosed : PySem.W.specialIn K (.builtin "object.__class__") "__get__" = some (some (.builtin "getset_descriptor.__get__"))) (tk_NotClosed : PySem.W.takesIn K (.builtin "object.__class__") = some true) (mr_NotClosed : PySem.W.mroIn K c_NotClosed (.type "object") = some true)
    {c_Apart : Addr} (g_Apart : PySem.W.nsIn K mainGlobals "Apart" = some (some (.ref c_Apart))) (ex_Apart : PySem.W.excIn K c_Apart [.type "ValueError", .type "Exception", .type "BaseException", .type "object"] "ValueError.__new__" = true) (kp_Apart : PySem.W.keepIn K (.ref c_Apart) = true) (sb_Apart : PySem.W.subIn K (.ref c_Apart) (.type "BaseException") = some true) (ty_Apart : PySem.W.typeIn K (.ref c_Apart) = some (.type "type")) (ga_Apart : PySem.W.findIn K (.ref c_Apart) "__getattribute__" = some (some (.builtin "BaseException.__getattribute__"))) (gt_Apart : PySem.W.findIn K (.ref c_Apart) "__getattr__" = some none) (hd_Apart : PySem.W.hasDictIn K c_Apart = true) (cl_Apart : PySem.W.findIn K (.ref c_Apart) "__class__" = some (some (.builtin "object.__class__"))) (gs_Apart : PySem.W.specialIn K (.builtin "object.__class__") "__get__" = some (some (.builtin "getset_descriptor.__get__"))) (tk_Apart : PySem.W.takesIn K (.builtin "object.__class__") = some true) (mr_Apart : PySem.W.mroIn K c_Apart (.type "object") = some true)
    {c_Nothing : Addr} (g_Nothing : PySem.W.nsIn K mainGlobals "Nothing" = some (some (.ref c_Nothing))) (ex_Nothing : PySem.W.excIn K c_Nothing [.type "ValueError", .type "Exception", .type "BaseException", .type "object"] "ValueError.__new__" = true) (kp_Nothing : PySem.W.keepIn K (.ref c_Nothing) = true) (sb_Nothing : PySem.W.subIn K (.ref c_Nothing) (.type "BaseException") = some true) (ty_Nothing : PySem.W.typeIn K (.ref c_Nothing) = some (.type "type")) (ga_Nothing : PySem.W.findIn K (.ref c_Nothing) "__getattribute__" = some (some (.builtin "BaseException.__getattribute__"))) (gt_Nothing : PySem.W.findIn K (.ref c_Nothing) "__getattr__" = some none) (hd_Nothing : PySem.W.hasDictIn K c_Nothing = true) (cl_Nothing : PySem.W.findIn K (.ref c_Nothing) "__class__" = some (some (.builtin "object.__class__"))) (gs_Nothing : PySem.W.specialIn K (.builtin "object.__class__") "__get__" = some (some (.builtin "getset_descriptor.__get__"))) (tk_Nothing : PySem.W.takesIn K (.builtin "object.__class__") = some true) (mr_Nothing : PySem.W.mroIn K c_Nothing (.type "object") = some true)
    (z_len : PySem.W.nsIn K mainGlobals "len" = some none) (z_range : PySem.W.nsIn K mainGlobals "range" = some none) (z_list_ : PySem.W.nsIn K mainGlobals "list" = some none) (z_tuple_ : PySem.W.nsIn K mainGlobals "tuple" = some none) (z_abs : PySem.W.nsIn K mainGlobals "abs" = some none) (z_max : PySem.W.nsIn K mainGlobals "max" = some none) (z_min : PySem.W.nsIn K mainGlobals "min" = some none) (z_sorted : PySem.W.nsIn K mainGlobals "sorted" = some none) (z_isinstance : PySem.W.nsIn K mainGlobals "isinstance" = some none) (z_int_ : PySem.W.nsIn K mainGlobals "int" = some none) (z_ValueError_ : PySem.W.nsIn K mainGlobals "ValueError" = some none) (z_bool_ : PySem.W.nsIn K mainGlobals "bool" = some none) (z_str_ : PySem.W.nsIn K mainGlobals "str" = some none) (z_dict_ : PySem.W.nsIn K mainGlobals "dict" = some none) (z_repr : PySem.W.nsIn K mainGlobals "repr" = some none) (z_zip : PySem.W.nsIn K mainGlobals "zip" = some none) (z_any : PySem.W.nsIn K mainGlobals "any" = some none) (z_all : PySem.W.nsIn K mainGlobals "all" = some none) (z_sum : PySem.W.nsIn K mainGlobals "sum" = some none) (z_set_ : PySem.W.nsIn K mainGlobals "set" = some none) :
    ∃ fd : FuncData, (∀ (s : Shared) (v : Value), BindsTo s fd ⟨[v], []⟩ [("_law_script", v)]) ∧ ∀ base : Heap, K.In base → base.Ns mainGlobals mg → FnOk l.prog w K mg base CX0 6 fa fd ["_law_script"] (spLaw K) := by
  have e := hfa.symm.trans (PySem.W.mg_of X G a22)
  cases e
  have M : Mgs mg := ⟨PySem.W.mg_none_of X G z_len, PySem.W.mg_none_of X G z_range, PySem.W.mg_none_of X G z_list_, PySem.W.mg_none_of X G z_tuple_, PySem.W.mg_none_of X G z_abs, PySem.W.mg_none_of X G z_max, PySem.W.mg_none_of X G z_min, PySem.W.mg_none_of X G z_sorted, PySem.W.mg_none_of X G z_isinstance, PySem.W.mg_none_of X G z_int_, PySem.W.mg_none_of X G z_ValueError_, PySem.W.mg_none_of X G z_bool_, PySem.W.mg_none_of X G z_str_, PySem.W.mg_none_of X G z_dict_, PySem.W.mg_none_of X G z_repr, PySem.W.mg_none_of X G z_zip, PySem.W.mg_none_of X G z_any, PySem.W.mg_none_of X G z_all, PySem.W.mg_none_of X G z_sum, PySem.W.mg_none_of X G z_set_⟩
  have Z_NotClosed : ErrC K mg "NotClosed" c_NotClosed := ⟨PySem.W.mg_of X G g_NotClosed, ex_NotClosed, kp_NotClosed, sb_NotClosed, ty_NotClosed, ga_NotClosed, gt_NotClosed, hd_NotClosed, cl_NotClosed, gs_NotClosed, tk_NotClosed, mr_NotClosed⟩
  have Z_Apart : ErrC K mg "Apart" c_Apart := ⟨PySem.W.mg_of X G g_Apart, ex_Apart, kp_Apart, sb_Apart, ty_Apart, ga_Apart, gt_Apart, hd_Apart, cl_Apart, gs_Apart, tk_Apart, mr_Apart⟩
  have Z_Nothing : ErrC K mg "Nothing" c_Nothing := ⟨PySem.W.mg_of X G g_Nothing, ex_Nothing, kp_Nothing, sb_Nothing, ty_Nothing, ga_Nothing, gt_Nothing, hd_Nothing, cl_Nothing, gs_Nothing, tk_Nothing, mr_Nothing⟩
  refine ⟨PySem.W.fnOf "law" "law" (defArgs sLaw) (defBody sLaw) (defScope sLaw) .none kV22 dc22 pm22 an22 cd22 ct22, fun s v => .of_eq rfl, fun base _ _ => ?_⟩
  have D_draw : DDraw l.prog w K mg base := df_of X G a0 l0 c0 k0 (fun _ _ _ _ _ _ us hl => match us, hl with | [_, _], _ => rfl) (fun F => ok_Draw F M)
  have D_pick : DPick l.prog w K mg base := df_of X G a1 l1 c1 k1 (fun _ _ _ _ _ _ us hl => match us, hl with | [_, _], _ => rfl) (fun F => ok_Pick F M D_draw)
  have D_pen : DPen l.prog w K mg base := df_of X G a2 l2 c2 k2 (fun _ _ _ _ _ _ us hl => match us, hl with | [_], _ => rfl) (fun F => ok_Pen F M)
  have D_names : DNames l.prog w K mg base := df_of X G a3 l3 c3 k3 (fun _ _ _ _ _ _ us hl => match us, hl with | [_, _], _ => rfl) (fun F => ok_Names F M D_draw D_pick)
  have D_near : DNear l.prog w K mg base := df_of X G a4 l4 c4 k4 (fun _ _ _ _ _ _ us hl => match us, hl with | [_, _], _ => rfl) (fun F => ok_Near F M)
  have D_may_door : DMayDoor l.prog w K mg base := df_of X G a5 l5 c5 k5 (fun _ _ _ _ _ _ us hl => match us, hl with | [_, _, _], _ => rfl) (fun F => ok_MayDoor F M D_near)
  have D_drawn_pairs : DDrawnPairs l.prog w K mg base := df_of X G a6 l6 c6 k6 (fun _ _ _ _ _ _ us hl => match us, hl with | [_, _, _], _ => rfl) (fun F => ok_DrawnPairs F M D_draw)
  have D_with_doors : DWithDoors l.prog w K mg base := df_of X G a7 l7 c7 k7 (fun _ _ _ _ _ _ us hl => match us, hl with | [_, _], _ => rfl) (fun F => ok_WithDoors F M D_may_door)
  have D_yard : DYard l.prog w K mg base := df_of X G a8 l8 c8 k8 (fun _ _ _ _ _ _ us hl => match us, hl with | [_, _], _ => rfl) (fun F => ok_Yard F M D_draw D_names D_drawn_pairs D_with_doors)
  have D_strolled : DStrolled l.prog w K mg base := df_of X G a9 l9 c9 k9 (fun _ _ _ _ _ _ us hl => match us, hl with | [_, _, _, _], _ => rfl) (fun F => ok_Strolled F M D_near D_pick)
  have D_reach : DReach l.prog w K mg base := df_of X G a10 l10 c10 k10 (fun _ _ _ _ _ _ us hl => match us, hl with | [_, _], _ => rfl) (fun F => ok_Reach F M D_near)
  have D_ringed : DRinged l.prog w K mg base := df_of X G a11 l11 c11 k11 (fun _ _ _ _ _ _ us hl => match us, hl with | [_, _], _ => rfl) (fun F => ok_Ringed F M D_near D_pick)
  have D_closed : DClosed l.prog w K mg base := df_of X G a12 l12 c12 k12 (fun _ _ _ _ _ _ us hl => match us, hl with | [_, _, _], _ => rfl) (fun F => ok_Closed F M D_draw D_strolled D_reach D_ringed)
  have D_shrunk : DShrunk l.prog w K mg base := df_of X G a13 l13 c13 k13 (fun _ _ _ _ _ _ us hl => match us, hl with | [_], _ => rfl) (fun F => ok_Shrunk F M)
  have D_need_closed : DNeedClosed l.prog w K mg base c_NotClosed := df_of X G a14 l14 c14 k14 (fun _ _ _ _ _ _ us hl => match us, hl with | [_], _ => rfl) (fun F => ok_NeedClosed F M Z_NotClosed)
  have D_behind : DBehind l.prog w K mg base c_Apart := df_of X G a15 l15 c15 k15 (fun _ _ _ _ _ _ us hl => match us, hl with | [_, _], _ => rfl) (fun F => ok_Behind F M Z_Apart D_shrunk)
  have D_turned : DTurned l.prog w K mg base := df_of X G a16 l16 c16 k16 (fun _ _ _ _ _ _ us hl => match us, hl with | [_], _ => rfl) (fun F => ok_Turned F M)
  have D_core : DCore l.prog w K mg base c_NotClosed := df_of X G a17 l17 c17 k17 (fun _ _ _ _ _ _ us hl => match us, hl with | [_], _ => rfl) (fun F => ok_Core F M Z_NotClosed D_need_closed D_shrunk)
  have D_rounds : DRounds l.prog w K mg base := df_of X G a18 l18 c18 k18 (fun _ _ _ _ _ _ us hl => match us, hl with | [_], _ => rfl) (fun F => ok_Rounds F M)
  have D_named : DNamed l.prog w K mg base c_NotClosed := df_of X G a19 l19 c19 k19 (fun _ _ _ _ _ _ us hl => match us, hl with | [_], _ => rfl) (fun F => ok_Named F M Z_NotClosed D_core D_rounds)
  have D_root : DRoot l.prog w K mg base c_NotClosed c_Nothing := df_of X G a20 l20 c20 k20 (fun _ _ _ _ _ _ us hl => match us, hl with | [_], _ => rfl) (fun F => ok_Root F M Z_NotClosed Z_Nothing D_core D_rounds D_turned)
  have D_led_by : DLedBy l.prog w K mg base c_NotClosed c_Apart := df_of X G a21 l21 c21 k21 (fun _ _ _ _ _ _ us hl => match us, hl with | [_, _], _ => rfl) (fun F => ok_LedBy F M Z_NotClosed Z_Apart D_need_closed D_behind D_turned)
  exact ok_Law (fun_mk l22 c22 k22) M Z_Apart Z_NotClosed Z_Nothing D_pen D_draw D_pick D_yard D_strolled D_closed D_turned D_behind D_named D_root D_led_by
end
end TT
open PySem PySem.W PyProof.Rows
set_option maxHeartbeats 0 in
theorem PySem.Challenge.cw_tautropes_k10_whole_powers_and_roots_holds : PySem.Challenge.rw_tautropes_k10_whole_powers_and_roots.Holds := by
  w_on; o_law; k_head; (case hw => w_witness2)
  k_fill
  refine L2.walk_of (l := PySem.Challenge.rw_tautropes_k10_whole_powers_and_roots) (n := 63) (k := 6) (x := "_law_script") (CX := fun _ => L2.CX0) (sp := fun w => TT.spLaw _) rfl (by decide) rfl ⟨rfl, by decide, by decide⟩ (fun w h Y => PySem.W.kIn_of Y) ?F (fun _ _ a ns hl _ hS => ⟨a, ns, rfl, hS, hl, fun _ => rfl⟩) (fun _ _ _ _ _ h => h)
  case F =>
    intro w mg fa h KX G hmg
    refine' TT.all_mk KX G hmg ?a0 ?l0 ?c0 ?k0 ?a1 ?l1 ?c1 ?k1 ?a2 ?l2 ?c2 ?k2 ?a3 ?l3 ?c3 ?k3 ?a4 ?l4 ?c4 ?k4 ?a5 ?l5 ?c5 ?k5 ?a6 ?l6 ?c6 ?k6 ?a7 ?l7 ?c7 ?k7 ?a8 ?l8 ?c8 ?k8 ?a9 ?l9 ?c9 ?k9 ?a10 ?l10 ?c10 ?k10 ?a11 ?l11 ?c11 ?k11 ?a12 ?l12 ?c12 ?k12 ?a13 ?l13 ?c13 ?k13 ?a14 ?l14 ?c14 ?k14 ?a15 ?l15 ?c15 ?k15 ?a16 ?l16 ?c16 ?k16 ?a17 ?l17 ?c17 ?k17 ?a18 ?l18 ?c18 ?k18 ?a19 ?l19 ?c19 ?k19 ?a20 ?l20 ?c20 ?k20 ?a21 ?l21 ?c21 ?k21 ?a22 ?l22 ?c22 ?k22 ?g_NotClosed ?ex_NotClosed ?kp_NotClosed ?sb_NotClosed ?ty_NotClosed ?ga_NotClosed ?gt_NotClosed ?hd_NotClosed ?cl_NotClosed ?gs_NotClosed ?tk_NotClosed ?mr_NotClosed ?g_Apart ?ex_Apart ?kp_Apart ?sb_Apart ?ty_Apart ?ga_Apart ?gt_Apart ?hd_Apart ?cl_Apart ?gs_Apart ?tk_Apart ?mr_Apart ?g_Nothing ?ex_Nothing ?kp_Nothing ?sb_Nothing ?ty_Nothing ?ga_Nothing ?gt_Nothing ?hd_Nothing ?cl_Nothing ?gs_Nothing ?tk_Nothing ?mr_Nothing ?z_len ?z_range ?z_list_ ?z_tuple_ ?z_abs ?z_max ?z_min ?z_sorted ?z_isinstance ?z_int_ ?z_ValueError_ ?z_bool_ ?z_str_ ?z_dict_ ?z_repr ?z_zip ?z_any ?z_all ?z_sum ?z_set_
    (case a0 => k_is)
    (case l0 => k_is)
    (case c0 => k_is)
    (case k0 => k_is)
    (case a1 => k_is)
    (case l1 => k_is)
    (case c1 => k_is)
    (case k1 => k_is)
    (case a2 => k_is)
    (case l2 => k_is)
    (case c2 => k_is)
    (case k2 => k_is)
    (case a3 => k_is)
    (case l3 => k_is)
    (case c3 => k_is)
    (case k3 => k_is)
    (case a4 => k_is)
    (case l4 => k_is)
    (case c4 => k_is)
    (case k4 => k_is)
    (case a5 => k_is)
    (case l5 => k_is)
    (case c5 => k_is)
    (case k5 => k_is)
    (case a6 => k_is)
    (case l6 => k_is)
    (case c6 => k_is)
    (case k6 => k_is)
    (case a7 => k_is)
    (case l7 => k_is)
    (case c7 => k_is)
    (case k7 => k_is)
    (case a8 => k_is)
    (case l8 => k_is)
    (case c8 => k_is)
    (case k8 => k_is)
    (case a9 => k_is)
    (case l9 => k_is)
    (case c9 => k_is)
    (case k9 => k_is)
    (case a10 => k_is)
    (case l10 => k_is)
    (case c10 => k_is)
    (case k10 => k_is)
    (case a11 => k_is)
    (case l11 => k_is)
    (case c11 => k_is)
    (case k11 => k_is)
    (case a12 => k_is)
    (case l12 => k_is)
    (case c12 => k_is)
    (case k12 => k_is)
    (case a13 => k_is)
    (case l13 => k_is)
    (case c13 => k_is)
    (case k13 => k_is)
    (case a14 => k_is)
    (case l14 => k_is)
    (case c14 => k_is)
    (case k14 => k_is)
    (case a15 => k_is)
    (case l15 => k_is)
    (case c15 => k_is)
    (case k15 => k_is)
    (case a16 => k_is)
    (case l16 => k_is)
    (case c16 => k_is)
    (case k16 => k_is)
    (case a17 => k_is)
    (case l17 => k_is)
    (case c17 => k_is)
    (case k17 => k_is)
    (case a18 => k_is)
    (case l18 => k_is)
    (case c18 => k_is)
    (case k18 => k_is)
    (case a19 => k_is)
    (case l19 => k_is)
    (case c19 => k_is)
    (case k19 => k_is)
    (case a20 => k_is)
    (case l20 => k_is)
    (case c20 => k_is)
    (case k20 => k_is)
    (case a21 => k_is)
    (case l21 => k_is)
    (case c21 => k_is)
    (case k21 => k_is)
    (case a22 => k_is)
    (case l22 => k_is)
    (case c22 => k_is)
    (case k22 => k_is)
    (case g_NotClosed => k_is)
    (case ex_NotClosed => k_exc)
    (case kp_NotClosed => k_is)
    (case sb_NotClosed => k_is)
    (case ty_NotClosed => k_is)
    (case ga_NotClosed => k_is)
    (case gt_NotClosed => k_is)
    (case hd_NotClosed => k_is)
    (case cl_NotClosed => k_is)
    (case gs_NotClosed => k_is)
    (case tk_NotClosed => k_is)
    (case mr_NotClosed => k_is)
    (case g_Apart => k_is)
    (case ex_Apart => k_exc)
    (case kp_Apart => k_is)
    (case sb_Apart => k_is)
    (case ty_Apart => k_is)
    (case ga_Apart => k_is)
    (case gt_Apart => k_is)
    (case hd_Apart => k_is)
    (case cl_Apart => k_is)
    (case gs_Apart => k_is)
    (case tk_Apart => k_is)
    (case mr_Apart => k_is)
    (case g_Nothing => k_is)
    (case ex_Nothing => k_exc)
    (case kp_Nothing => k_is)
    (case sb_Nothing => k_is)
    (case ty_Nothing => k_is)
    (case ga_Nothing => k_is)
    (case gt_Nothing => k_is)
    (case hd_Nothing => k_is)
    (case cl_Nothing => k_is)
    (case gs_Nothing => k_is)
    (case tk_Nothing => k_is)
    (case mr_Nothing => k_is)
    (case z_len => k_is)
    (case z_range => k_is)
    (case z_list_ => k_is)
    (case z_tuple_ => k_is)
    (case z_abs => k_is)
    (case z_max => k_is)
    (case z_min => k_is)
    (case z_sorted => k_is)
    (case z_isinstance => k_is)
    (case z_int_ => k_is)
    (case z_ValueError_ => k_is)
    (case z_bool_ => k_is)
    (case z_str_ => k_is)
    (case z_dict_ => k_is)
    (case z_repr => k_is)
    (case z_zip => k_is)
    (case z_any => k_is)
    (case z_all => k_is)
    (case z_sum => k_is)
    (case z_set_ => k_is)
