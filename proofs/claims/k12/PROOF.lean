import PyProof.Rows.All
import Wide.All
import OpenK.AllK
import Wide.FinOn
import HandS.ForExc
import HandS.Flow
import HandS.ForMost
import HandS.Iter
import HandS.IsInst
import HandS.Deep
import HandS.Strs
import HandS.Conv
import HandS.TupLe
import HandS.SortInts
import HandS.SortRule
import HandS.Star
import HandS.TupAny
import HandS.TupMul
import HandS.Codes
import HandS.Style
import HandS.Walk
import HandS.TupSets
import HandS.Set
import KE.GoesMore
import KE.GoesEnum
import HandS.ExcInit
import HandS.ExcCtx
import HandS.HotCalls
import HandS.SortOrd
import PySem.Challenge.RW_smallwidth_k12_terms_put_together
set_option Elab.async false
set_option linter.all false
set_option maxRecDepth 100000
set_option maxHeartbeats 2000000
namespace Sm
open PySem PySem.Spec PyProof.Rows L2
/-! ### del xs[a:] -/
theorem bounds_from {a n : Nat} (ha : a ≤ n) : sliceBounds (some (a : Int)) none none n = ((a : Int), (n : Int), 1) := by
  simp only [sliceBounds, Option.getD_none]
  have h1 : ¬ ((a : Int) < 0) := by omega
  simp only [h1, if_false, show (1 : Int) > 0 by decide, if_true]
  congr 1
  omega
theorem keep_few {α : Type} {a n : Nat} {f : α × Nat → Option α} (hf : ∀ x k, k < n → f (x, k) = if k < a then some x else none) : ∀ (xs : List α) (i : Nat), i + xs.length ≤ n → (xs.zipIdx i).filterMap f = xs.take (a - i)
  | [], i, _ => by simp
  | x :: xs, i, h => by
    rw [List.length_cons] at h
    rw [List.zipIdx_cons, List.filterMap_cons, hf x i (by omega), keep_few hf xs (i + 1) (by omega)]
    by_cases c : i < a
    · rw [if_pos c, show a - i = (a - (i + 1)) + 1 by omega, List.take_succ_cons]
    · rw [if_neg c, show a - i = 0 by omega, show a - (i + 1) = 0 by omega]
      rfl
section
variable {prog : Program} {w : World} {A : Around} {E : Value → Shared → Prop} {s : Shared}
theorem delItem_from {l sl : Addr} {its : List Value} {n : Nat} {vl : Value} {a : Nat} {Q : Unit → Shared → Prop}
    (e : s.heap.get? l = some { cls := .type "list", data := .seq its.toArray n }) (hs : s.heap.IsSliceOf sl vl .none .none) (pl : IsPart vl (some (a : Int))) (ha : a ≤ its.length) (hsz : its.length ≤ sizeLine)
    (h : ∀ f : Array Value → Array Value, f its.toArray = (its.take a).toArray → Q () { s with heap := s.heap.update l (Obj.mapSeq f) }) :
    wpAny (model prog w) A (delItem (.ref l) (.ref sl)) Q E s := by
  have hl : s.heap.IsList l its.toArray := PySem.IsL.isList e
  obtain ⟨os, hos, hcs, hds⟩ := id hs
  have hTs : s.TypeIs (.ref sl) "slice" := ⟨os, hos, hcs⟩
  have hstep : ¬ ((rawPart none == rawInt 0) = true) := Bool.false_ne_true
  refine wpAny_delItem_slot hl.typeIs (by decide) F.slot_list_delitem (wpAny_call_entry F.slot_list_delitem hl.typeIs F.entry_list_delitem ?_ (F.args_list_delitem_2 _ _))
  show wpAny _ _ (Builtin.List.listSubscript? (.ref sl) >>= _) _ _ s
  refine wpAny_bind ?_
  unfold Builtin.List.listSubscript?
  refine wpAny_bind (wpAny_specialOf hTs slice_no_index ?_)
  simp only [Option.isNone_none, if_true]
  refine wpAny_pure ?_
  show wpAny _ _ (typeOf (.ref sl) >>= _) _ _ s
  refine wpAny_bind (wpAny_typeOf hTs ?_)
  rw [if_neg (by decide)]
  rw [listSliceParts_eq]
  refine wpAny_bind (wpAny_bind (wpAny_field hos hds (x := .none) rfl (wpAny_bind (wpAny_listPart .none ?_))))
  rw [if_neg hstep]
  refine wpAny_bind (wpAny_field hos hds (x := vl) rfl (wpAny_bind (wpAny_listPart pl ?_)))
  refine wpAny_bind (wpAny_field hos hds (x := .none) rfl (wpAny_bind (wpAny_listPart .none (wpAny_pure ?_))))
  unfold Builtin.List.listItems
  refine wpAny_bind (wpAny_bind (wpAny_seqItems e rfl (wpAny_pure ?_)))
  refine wpAny_bind (wpAny_of_eq ((sliceIndices_raw (some (a : Int)) none none its.toArray.size (by simp)).trans (congrArg (pure : Int × Int × Int → Sem (Int × Int × Int)) (bounds_from (n := its.toArray.size) (by rw [List.size_toArray]; exact ha)))) ?_)
  refine wpAny_bind (wpAny_rule ?_)
  unfold Builtin.List.listUpdate
  have hf : ∀ (f : Value × Nat → Option Value), (∀ x k, k < its.length → f (x, k) = if k < a then some x else none) → (its.toArray.toList.zipIdx.filterMap f).toArray = (its.take a).toArray := fun f hf => by
    rw [show its.toArray.toList = its from rfl, keep_few hf its 0 (by omega), Nat.sub_zero]
  have hg : ∀ (x : Value) (k : Nat), k < its.length → (if (if (1 : Int) > 0 then (decide ((a : Int) ≤ (k : Int)) && decide ((k : Int) < (its.toArray.size : Int)) && (((k : Int) - (a : Int)) % 1 == 0)) else (decide ((its.toArray.size : Int) < (k : Int)) && decide ((k : Int) ≤ (a : Int)) && (((a : Int) - (k : Int)) % (-1) == 0))) = true then none else some x) = if k < a then some x else none := fun x k hk => by
    rw [if_pos (by decide : (1 : Int) > 0), List.size_toArray, Int.emod_one]
    by_cases c : k < a
    · rw [if_pos c, decide_eq_false (by omega : ¬ (a : Int) ≤ (k : Int))]
      rfl
    · rw [if_neg c, decide_eq_true (by omega : (a : Int) ≤ (k : Int)), decide_eq_true (by omega : (k : Int) < (its.length : Int))]
      rfl
  refine wpAny_bind (wpAny_updateSeq (hz := by rw [List.size_toArray]; omega) (_hz' := ?_) e rfl ?_)
  · exact wpAny_bind (wpAny_letGo (wpAny_pure ⟨.none, rfl, h _ (hf _ fun x k hk => hg x k hk)⟩))
  · refine Nat.le_trans (Nat.le_of_eq (congrArg Array.size (hf _ ?_))) ?_
    · exact fun x k hk => hg x k hk
    · rw [List.size_toArray, List.length_take]
      omega
end
section
variable {X : Cx}
/-- del xs[e:] of a list that stands in H by itself -/
def tDelFrom (to ti : TE) : TS := fun D σ H => to σ H fun x H1 => ti σ H1 fun y H2 => ∃ (l : Addr) (xs : List V) (i : Nat), x = .ref l ∧ y = .int i ∧ H2 l = some (.lst xs) ∧ i ≤ xs.length ∧ D.nx σ (upd H2 l (.lst (xs.take i)))
theorem ps_delFrom {o i : Expr} {to ti : TE} {tpos p2 pos : Pos} (ho : PE X o to) (hi : PE X i ti) : PS X (.Delete [.Subscript o (.Slice (some i) none none p2) tpos] pos) (tDelFrom to ti) := by
  refine ⟨fun pins s σ H D I h => ?_⟩
  refine wpAny_Delete (wpAny_deleteEach_cons (wpAny_delete_Subscript (thn (ho.run pins s σ H _ I h) fun u s1 ⟨x, H1, I1, rx, q1⟩ => ?_)))
  refine wpAny_Slice (thn (hi.run pins s1 σ H1 _ I1 q1) fun vl s2 ⟨y, H2, I2, ry, q2⟩ => ?_)
  obtain ⟨l, xs, j, ex, ey, hH, hj, q2⟩ := q2
  subst ex
  subst ey
  cases (show u = Value.ref l from rx)
  obtain ⟨t, rfl⟩ := (show ∃ t, vl = Value.int j t from ry)
  rw [evalPart_none]
  refine wpAny_pure (wpAny_pure ?_)
  have I3 : Inv X pins σ H2 { s2 with heap := s2.heap.push { cls := .type "slice", data := .fields #[.int (j : Int) t, .none, .none] } } := I2.kept (t' := s2.toks) fun b ob q => Heap.get?_push_of_some _ q
  obtain ⟨z, its, n, r, hl, e⟩ := I3.lstM hH
  refine delItem_from e (Heap.IsSliceOf.new ..) (.int _ _) (by rw [← hl]; exact hj) (by omega) fun f ef => ?_
  refine wpAny_deleteEach_nil ⟨σ, _, I3.lset (its' := its.take j) (t' := s2.toks) hH e ef (r.take _) ?_, q2⟩
  rw [List.length_take]
  omega
end
end Sm

set_option Elab.async false
set_option linter.all false
set_option maxRecDepth 100000
set_option maxHeartbeats 8000000
namespace Sm
open PySem PySem.Spec PyProof.Rows L2
section
def topS (i : Nat) : Stmt := PySem.Challenge.pw_smallwidth_k12_terms_put_together.main.body.getD i (.Pass ⟨0, 0, 0, 0⟩)
theorem same_sqT {K : PySem.W.Frag} {H H' : Hp} {a : Addr} {xs : List V} (e : Same H H') (h : SqT K H a xs) : SqT K H' a xs := by
  rcases h with (h | ⟨o, h⟩) | h
  · exact .inl (.inl (e _ _ h))
  · exact .inl (.inr ⟨o, e _ _ h⟩)
  · exact .inr h
theorem iteN {c A B : Prop} [Decidable c] (hc : ¬ c) (h : A) : if (!decide c) = true then A else B := by
  rw [decide_eq_false hc]
  exact iteT h
theorem iteY {c A B : Prop} [Decidable c] (hc : c) (h : A) : if decide c = true then A else B := by
  rw [decide_eq_true hc]
  exact iteT h
theorem iteD {c A B : Prop} [Decidable c] (hc : ¬ c) (h : B) : if decide c = true then A else B := by
  rw [decide_eq_false hc]
  exact iteF h
theorem tyx_T {K : PySem.W.Frag} {H : Hp} {a : Addr} {xs : List V} (h : SqT K H a xs) : TyX K H (.ref a) (.type "tuple") := by
  rcases h with (h | ⟨o, h⟩) | ⟨o, its, n, h1, h2, _⟩
  · exact .base (.tup h)
  · exact .fTuple h
  · exact .kTuple h1 h2
structure TxA (mg : Str → Option Value) : Prop where
  isi : mg "isinstance" = none
  int : mg "int" = none
  bool : mg "bool" = none
  tuple : mg "tuple" = none
  len : mg "len" = none
abbrev Pr := Int × Int
abbrev PairsAt (K : PySem.W.Frag) (H : Hp) : List Addr → List Pr → Prop := Paired fun a q => SqT K H a [.int q.1, .int q.2]
theorem PairsAt.get {K : PySem.W.Frag} {H : Hp} : ∀ {as : List Addr} {qs : List Pr} {i : Nat} {a : Addr}, PairsAt K H as qs → as[i]? = some a → ∃ q, qs[i]? = some q ∧ SqT K H a [.int q.1, .int q.2]
  | _, _, _, _, .nil, e => by simp at e
  | _, _, 0, _, .cons h _, e => by simp at e; subst e; exact ⟨_, rfl, h⟩
  | _, _, i + 1, a, .cons _ t, e => by
    obtain ⟨q, h1, h2⟩ := PairsAt.get (i := i) (a := a) t (by simpa using e)
    exact ⟨q, by simpa using h1, h2⟩
theorem same_upd {H : Hp} {p : Addr} {o : HO} (h : H p = none) : Same H (upd H p o) := fun b x e => by
  rw [upd_ne (ne_of_none e h)]
  exact e
theorem same_put {H H' : Hp} {p : Addr} {o : HO} (s : Same H H') (h : H p = none) : Same H (upd H' p o) := fun b x e => by
  rw [upd_ne (ne_of_none e h)]
  exact s _ _ e
abbrev lexlt (p q : Pr) : Prop := SrtO.lexB p q = true
theorem valV_ne {kvs : List (Key × V)} {k : Key} (h : k ∈ kvs.map (·.1)) : valV kvs k ≠ none := fun z => by
  obtain ⟨p, hp, e⟩ := List.mem_map.mp h
  have q := valV_any k kvs
  rw [z] at q
  have r : (kvs.any fun kv => decide (kv.1 = k)) = true := List.any_eq_true.mpr ⟨p, hp, decide_eq_true e⟩
  rw [r] at q
  cases q
theorem u65 {k : Nat} {A : Around} (r : Room k A) : A.units + 65 < cLine := by have := r.un; omega
theorem neD_at {X : Cx} {A : Around} {K : PySem.W.Frag} (hA : X.A = A) (hK : X.K = K) (hu : A.units + 64 < cLine) : OpR X (compareOp .NotEq) (rNeD K) := by
  subst hA
  subst hK
  exact op_neD hu
def pD (q : Pr) : PyData := .tuple [.int q.1, .int q.2]
theorem pD_lay (q : Pr) : (pD q).canLay0 = true := by simp [pD, PyData.canLay0, PyData.canLayAll0]
theorem pD_depth (q : Pr) : (pD q).depth = 1 := by simp [pD, PyData.depth, PyData.depthAll]
theorem pDs_lay : ∀ qs : List Pr, PyData.canLayAll0 (qs.map pD) = true
  | [] => by simp [PyData.canLayAll0]
  | q :: qs => by simp [PyData.canLayAll0, pD_lay q, pDs_lay qs]
theorem pDs_depth : ∀ qs : List Pr, PyData.depthAll (qs.map pD) ≤ 1
  | [] => by simp [PyData.depthAll]
  | q :: qs => by
    have h1 := pDs_depth qs
    have h2 := pD_depth q
    simp only [List.map_cons, PyData.depthAll]
    omega
theorem pD_eqv (p q : Pr) : PyData.eqv (pD p) (pD q) = decide (p = q) := by
  obtain ⟨a, b⟩ := p
  obtain ⟨c, d⟩ := q
  have e : PyData.eqv (pD (a, b)) (pD (c, d)) = ((a == c) && ((b == d) && true)) := by simp only [pD, PyData.eqv, PyData.eqvAll]
  rw [e]
  by_cases h1 : a = c
  · by_cases h2 : b = d
    · simp [h1, h2]
    · simp [h1, h2]
  · simp [h1]
theorem pDs_any (q : Pr) : ∀ qs : List Pr, ((qs.map pD).any fun z => PyData.eqv z (pD q)) = decide (q ∈ qs)
  | [] => by simp
  | p :: qs => by
    rw [List.map_cons, List.any_cons, pDs_any q qs, pD_eqv]
    by_cases c : p = q
    · simp [c]
    · have c' : ¬ q = p := fun z => c z.symm
      simp [c, c']
theorem dp_pair {K : PySem.W.Frag} {H : Hp} {a : Addr} {i j : Int} (h : SqT K H a [.int i, .int j]) : Dp K H (.ref a) (pD (i, j)) := .tup h (.cons (.int i) (.cons (.int j) .nil))
theorem dp_pairs {K : PySem.W.Frag} {H : Hp} : ∀ {as : List Addr} {qs : List Pr}, PairsAt K H as qs → DpAll K H (as.map V.ref) (qs.map pD)
  | _, _, .nil => .nil
  | _, _, .cons h t => .cons (dp_pair h) (dp_pairs t)
end
section
variable {X : Cx}
def rInDT (K : PySem.W.Frag) (neg : Bool) : R2 := fun x y H Q => ∃ d ds, Dp K H x d ∧ Dp K H y (.tuple ds) ∧ SeqAt.shaped d = true ∧ SeqAt.shaped (.tuple ds) = true ∧ Q (.bl (if neg then !(ds.any fun z => PyData.eqv z d) else ds.any fun z => PyData.eqv z d)) H
theorem op_inDT (hu : X.A.units + 65 < cLine) : OpR X (compareOp .In) (rInDT X.K false) := by
  intro pins s σ H x y v u Q I rx ry ⟨d, ds, hd, he, sd, se, q⟩
  obtain ⟨as, r1⟩ := Dp.reads I d x v hd rx
  obtain ⟨bs, r2⟩ := Dp.reads I (.tuple ds) y u he ry
  exact SeqAt.in_tuple_reads r2 r1 (SeqAt.canLay_of_shaped se) (SeqAt.canLay_of_shaped sd) (room_in_shaped sd hu) ⟨.bl _, H, I, rfl, q⟩
theorem op_notInDT (hu : X.A.units + 65 < cLine) : OpR X (compareOp .NotIn) (rInDT X.K true) := by
  intro pins s σ H x y v u Q I rx ry ⟨d, ds, hd, he, sd, se, q⟩
  obtain ⟨as, r1⟩ := Dp.reads I d x v hd rx
  obtain ⟨bs, r2⟩ := Dp.reads I (.tuple ds) y u he ry
  exact SeqAt.notIn_tuple_reads r2 r1 (SeqAt.canLay_of_shaped se) (SeqAt.canLay_of_shaped sd) (room_in_shaped sd hu) ⟨.bl _, H, I, rfl, q⟩
end
section
def Vx (n : Nat) (k : Int) : Prop := 0 ≤ k ∧ k < n
/-- numbers below n, none twice -/
theorem few_vx {n : Nat} {l : List Int} (nd : l.Nodup) (h : ∀ k ∈ l, Vx n k) : l.length ≤ n := by
  have nd2 : (l.map Int.toNat).Nodup := by
    refine List.pairwise_map.mpr (List.Pairwise.imp_of_mem (fun {a b} ha hb ne e => ne ?_) nd)
    have x := h a ha
    have y := h b hb
    unfold Vx at x y
    omega
  have z := nat_nodup_len (l.map Int.toNat) (List.range n) nd2 fun x hx => by
    obtain ⟨k, hk, rfl⟩ := List.mem_map.mp hx
    have y := h k hk
    unfold Vx at y
    exact List.mem_range.mpr (by omega)
  rw [List.length_map, List.length_range] at z
  exact z
theorem sorted_uniq {qs es : List Pr} (h1 : qs.Pairwise lexlt) (h2 : es.Pairwise fun x y => SrtO.lexB y x = false) (pm : es.Perm qs) : es = qs := by
  refine List.Perm.eq_of_pairwise (le := fun x y => SrtO.lexB y x = false) (fun a b _ _ h h' => ?_) h2 (List.Pairwise.imp (fun {a b} h => ?_) h1) pm
  · have x := SrtO.lexB_no.mp h
    have y := SrtO.lexB_no.mp h'
    have e1 : a.1 = b.1 := by omega
    have e2 : a.2 = b.2 := by omega
    exact Prod.ext e1 e2
  · have x := SrtO.lexB_iff.mp h
    refine SrtO.lexB_no.mpr ?_
    omega
theorem dp_ints {K : PySem.W.Frag} {H : Hp} : ∀ l : List Int, DpAll K H (l.map V.int) (l.map PyData.int)
  | [] => .nil
  | i :: l => .cons (.int i) (dp_ints l)
theorem ints_lay : ∀ l : List Int, PyData.canLayAll0 (l.map PyData.int) = true
  | [] => by simp [PyData.canLayAll0]
  | i :: l => by simp only [List.map_cons, PyData.canLayAll0, ints_lay l, PyData.canLay0]; simp
theorem ints_depth : ∀ l : List Int, PyData.depthAll (l.map PyData.int) ≤ 0
  | [] => by simp [PyData.depthAll]
  | i :: l => by
    have z := ints_depth l
    simp only [List.map_cons, PyData.depthAll, PyData.depth]
    omega
theorem lex_le {es : List Pr} (h : es.Pairwise lexlt) : es.Pairwise fun x y => SrtO.lexB y x = false := List.Pairwise.imp (fun {a b} h => by
  have x := SrtO.lexB_iff.mp h
  refine SrtO.lexB_no.mpr ?_
  omega) h
def cellE (i : Addr) : Obj := { cls := .type "enumerate", data := .fields #[.none, .bool false, .ref i, rawInt 0, .none, .none] }
theorem meets_en1 {v : Value} {o : Obj} {G : Heap → Prop} (B : Begins v o G) :
    Meets (Builtin.«enumerate.__new__» ⟨[.type "enumerate", v], []⟩) (fun _ R s => G s.heap ∧ R (.ok (.ret (.ref (s.heap.push o).objs.size))) { s with heap := (s.heap.push o).push (cellE s.heap.objs.size) }) := by
  refine .of_wp ?_
  intro prog w A R s h
  obtain ⟨hp, g, d, tk, os⟩ := s
  obtain ⟨h1, h⟩ := h
  have sube := sub_enumerate
  have go : ∀ {A' : Around} {E : Value → Shared → Prop} {Q : Value → Shared → Prop}, Q (.ref hp.objs.size) ⟨hp.push o, g, d, tk, os⟩ → wpAny (model prog w) A' (pyIter v) Q E ⟨hp, g, d, tk, os⟩ := by
    intro A' E Q q
    exact B.iter prog w _ _ ⟨hp, g, d, tk, os⟩ _ h1 q
  wp_walk using go
  refine wpAny_stack_any ?_
  intro st
  refine wpAny_pure ?_
  split
  · rename_i c _ _ _ _ _
    cases (c == Value.type "enumerate") <;> (wp_walk using go; exact ⟨_, rfl, h⟩)
  · wp_walk using go
    exact ⟨_, rfl, h⟩
end
section
variable {prog : Program} {w : World} {A : Around} {E : Value → Shared → Prop} {s : Shared}
theorem call_en1 {v : Value} {o : Obj} {G : Heap → Prop} {Q : Value → Shared → Prop} (B : Begins v o G) (h1 : G s.heap)
    (h : ∀ hh, IsEnum hh (s.heap.objs.size + 1) s.heap.objs.size 0 .none → hh.get? s.heap.objs.size = some o → (∀ b ob, s.heap.get? b = some ob → hh.get? b = some ob) → Q (.ref (s.heap.objs.size + 1)) { s with heap := hh }) :
    wpAny (model prog w) A (call (.type "enumerate") [v]) Q E s := by
  refine callType_new F.called_enumerate (by decide) (F.typeCall_enumerate_1 _) (F.newCall_enumerate_1 _) (fun obj => F.args_object_init_2 obj _) F.entry_enumerate_new (meets_en1 B) ⟨h1, ?_⟩
  have z1 : (s.heap.push o).objs.size = s.heap.objs.size + 1 := Heap.size_push ..
  show _ ∧ _
  rw [z1]
  have isE : IsEnum ((s.heap.push o).push (cellE s.heap.objs.size)) (s.heap.objs.size + 1) s.heap.objs.size 0 .none := by
    have y := Heap.get?_push_size (s.heap.push o) (o := cellE s.heap.objs.size) rfl
    rw [z1] at y
    exact y
  refine ⟨⟨_, isE, rfl⟩, h _ isE ?_ ?_⟩
  · exact Heap.get?_push_of_some _ (Heap.get?_push_size _ B.free)
  · intro b ob x
    exact Heap.get?_push_of_some _ (Heap.get?_push_of_some _ x)
end
section
/-- the tuple at a, each item in a new pair with its number -/
def IteT (K : PySem.W.Frag) (a : Addr) : It :=
  ⟨fun i H => ∃ (xs : List V) (x : V), SqT K H a xs ∧ xs[i]? = some x,
   fun i H v H' => ∃ T x, v = .ref T ∧ H T = none ∧ H' = upd H T (.tup [.int (i : Nat), x]) ∧ ∀ xs, SqT K H a xs → xs[i]? = some x,
   fun i H => ∃ xs : List V, SqT K H a xs ∧ xs.length ≤ i⟩
def EnT (e it a : Addr) (i : Nat) (h : Heap) : Prop := (∃ old, IsEnum h e it ((i : Nat) : Int) old) ∧ h.IsTupleIter it a i ∧ e ≠ it
theorem turn_enT {P : Program} {w : World} {K : PySem.W.Frag} {elts : List Expr} {kk : Nat} {tpos : Pos} (a e it : Addr) : Turn P w K (.Tuple elts kk tpos) (IteT K a) [e, it] e (EnT e it a) where
  mem := List.mem_cons_self
  obj := by
    rintro i h ⟨⟨old, he⟩, ⟨o, ho, hc, hd⟩, _⟩ b hb
    rcases List.mem_cons.mp hb with z | z
    · rw [z]
      exact ⟨_, he, fun v q => nomatch q⟩
    · rw [List.mem_singleton.mp z]
      exact ⟨o, ho, fun v q => by rw [hd] at q; cases q⟩
  keep := by
    rintro i h h' ⟨⟨old, he⟩, hi, hne⟩ k
    exact ⟨⟨old, k e (by simp) _ he⟩, hi.at fun o q => k it (by simp) o q, hne⟩
  item := by
    intro X hP hw hK hc i pins s σ H E I hf st hg
    subst hP hw hK
    obtain ⟨⟨old, he⟩, hit, hne⟩ := st
    obtain ⟨xs, x, hq, hx⟩ := hg
    obtain ⟨its, rv, p, hz⟩ := I.tuple hq
    obtain ⟨u, hu, ru⟩ := rv.get hx
    have isT : s.heap.IsTuple a its.toArray := p
    have hel : e < s.heap.objs.size := Heap.lt_size he
    have hil : it < s.heap.objs.size := by
      obtain ⟨_, q, _⟩ := hit
      exact Heap.lt_size q
    have ait : a ≠ it := by
      intro z
      obtain ⟨o1, q1, c1, _⟩ := isT
      obtain ⟨o2, q2, c2, _⟩ := hit
      rw [z, q2] at q1
      cases q1
      rw [c2] at c1
      exact absurd (Value.type.inj c1) (by decide)
    have ae : a ≠ e := by
      intro z
      obtain ⟨o1, q1, c1, _⟩ := isT
      have q2 : s.heap.get? e = some _ := he
      rw [z, q2] at q1
      cases q1
      exact absurd (Value.type.inj c1) (by decide)
    have hlt : i < its.toArray.size := by
      have := (List.getElem?_eq_some_iff.mp hu).1
      simpa using this
    refine wpAny_pyNext_enum_itemD (Draws.tuple (A := X.A.in1) (I.ok.hd hc) it a ait its.toArray) he ⟨hit, isT⟩ hlt hne (by simp [hne, Ne.symm ae]) ?_
    intro y h' tk hy ho hst hT hsz hk
    have hy2 : its.toArray[i]? = some y := hy
    have ey : y = u := by
      have : its[i]? = some y := by simpa using hy2
      rw [hu] at this
      exact (Option.some.inj this).symm
    subst ey
    refine ⟨_, rfl, wpAny_letOwnedTupleGo_enum (s := { s with heap := h', toks := tk + 1 }) ho ?_⟩
    intro h'' he' sb
    have hT2 : h''.get? s.heap.objs.size = some { cls := .type "tuple", data := .seq #[.int i tk, y] } := (sb.2 _ (Nat.ne_of_gt hel)).trans hT
    have new : ObjOk X.prog X.w (upd H s.heap.objs.size (.tup [.int (i : Nat), x])) h'' s.heap.objs.size (.tup [.int (i : Nat), x]) := by
      refine ⟨by show 2 ≤ sizeLine; decide, [.int i tk, y], .cons ⟨_, rfl⟩ (.cons ru .nil), ⟨_, hT2, rfl, _, rfl⟩⟩
    have I1 : Inv X pins σ (upd H s.heap.objs.size (.tup [.int (i : Nat), x])) { s with heap := h'', toks := tk + 1 } := by
      refine I.turnedNew (ch := [e, it]) (fun b ob hb q => ?_) hf (Nat.le_refl _) new
      have n1 : b ≠ e := fun z => hb (by simp [z])
      have n2 : b ≠ it := fun z => hb (by simp [z])
      exact (sb.2 b n1).trans (hk b ob n1 n2 q)
    refine ⟨.ref s.heap.objs.size, _, I1, rfl, ⟨_, x, rfl, I.hok.fresh (Nat.le_refl _), rfl, fun ys hy => ?_⟩, ⟨⟨y, ?_⟩, hst.1.at fun o q => (sb.2 it (Ne.symm hne)).trans q, hne⟩, fun b hb => ?_⟩
    · rw [I.tuple_inj hy hq]
      exact hx
    · have e1 : ((i + 1 : Nat) : Int) = (i : Int) + 1 := by omega
      rw [e1]
      exact he'
    · have hb' : b < s.heap.objs.size := by
        rcases List.mem_cons.mp hb with z | z
        · rw [z]
          exact hel
        · rw [List.mem_singleton.mp z]
          exact hil
      rw [upd_ne (Nat.ne_of_lt hb')]
      exact (hf b hb).1
  done := by
    intro X hP hw hK hc i pins s σ H E I hf st hg
    subst hP hw hK
    obtain ⟨⟨old, he⟩, hit, hne⟩ := st
    obtain ⟨xs, hq, hx⟩ := hg
    obtain ⟨its, rv, p, hz⟩ := I.tuple hq
    have isT : s.heap.IsTuple a its.toArray := p
    have hl := rv.length
    have ait : a ≠ it := by
      intro z
      obtain ⟨o1, q1, c1, _⟩ := isT
      obtain ⟨o2, q2, c2, _⟩ := hit
      rw [z, q2] at q1
      cases q1
      rw [c2] at c1
      exact absurd (Value.type.inj c1) (by decide)
    obtain ⟨f0, f1, f2, f3, f4, f5⟩ := hf it (by simp)
    have hend : its.toArray[i]? = none := by simp; omega
    unfold pyNext
    have tE : s.TypeIs (.ref e) "enumerate" := ⟨_, he, rfl⟩
    refine wpAny_bind (wpAny_attempt (wpAny_callSpecial?_slot (name := Str.ofString "__next__") tE F.slot_enumerate_next (wpAny_call_entry F.slot_enumerate_next tE F.entry_enumerate_next ?_ (F.args_enumerate_next_1 _))))
    show wpAny _ _ (field (.ref e) 2 >>= _) _ _ _
    refine wpAny_bind (wpAny_field he rfl (x := .ref it) rfl ?_)
    refine wpAny_bind (wpAny_nextOf_tuple_end (A := X.A.in1) (I.ok.hd hc) hit isT hend ?_)
    rintro h' x he' ⟨o, ho, hcs⟩
    refine wpAny_bind (wpAny_isInstance (T := "StopIteration") (b := true) ⟨o, ho, hcs⟩ isSubtype_stop ?_)
    exact wpAny_pure ⟨rfl, I.turned (t' := s.toks) (fun b o hb q => he' b o hb q) f0 f1 f3 f4 f5⟩
  self := by
    rintro A i s Q E ⟨⟨_, he⟩, _⟩ h
    exact wpAny_pyIter_enum he h
def iEnT (K : PySem.W.Frag) (ta : TA) : TI := fun σ H R => ta σ H fun vs H1 => ∃ a xs, vs = [.ref a] ∧ SqT K H1 a xs ∧ R (IteT K a) H1
theorem pi_enT {X : Cx} {e : Expr} {ta : TA} {p pos tpos : Pos} {elts : List Expr} {kk : Nat} (hg : Gl X "enumerate") (hm : X.mg "enumerate" = none) (ha : PA X [e] ta)
    (hs : starEach [e] X.env = [(false, eval e X.env)] := by rfl) : PI X (.Tuple elts kk tpos) (.Call (.Name "enumerate" p) [e] [] pos) (iEnT X.K ta) := by
  constructor
  intro pins s σ H R I h
  refine Call_ (ld_blt I hg hm boot_enumerate (PyProof.Rows.callWith_type1 (thn (ha.run pos pins s σ H _ I h) ?_) hs rfl))
  rintro us s1 ⟨vs, H1, I1, r1, a, xs, rfl, hq, q⟩
  rw [Vals.ref1 r1]
  obtain ⟨its, rv, p', hz⟩ := I1.tuple hq
  refine call_en1 (begins_tuple a its.toArray) (show s1.heap.IsTuple a its.toArray from p') ?_
  intro h' he hit hk
  refine wpAny_pyIter_enum he ?_
  have I2 : Inv X pins σ H1 { s1 with heap := h' } := I1.kept (t' := s1.toks) hk
  refine ⟨s1.heap.objs.size + 1, [s1.heap.objs.size + 1, s1.heap.objs.size], _, _, H1, rfl, I2, turn_enT a (s1.heap.objs.size + 1) s1.heap.objs.size, ⟨⟨.none, he⟩, ⟨_, hit, rfl, rfl⟩, Nat.succ_ne_self _⟩, fun b hb => ?_, q⟩
  have hle : s1.heap.objs.size ≤ b := by
    rcases List.mem_cons.mp hb with z | z
    · rw [z]
      exact Nat.le_add_right _ _
    · rw [List.mem_singleton.mp z]
      exact Nat.le_refl _
  exact I1.fpOk hle (I1.hok.fresh hle)
theorem walk_enT {K : PySem.W.Frag} {a : Addr} {xs : List V} : Walk (IteT K a) xs.length (fun H => SqT K H a xs) (YPair (fun i => some (.int (i : Nat))) (fun i => xs[i]?)) := by
  refine ⟨?_, ?_, ?_⟩
  · intro i _ hi q
    exact ⟨xs, xs[i], q, by simp [hi]⟩
  · intro _ q
    exact ⟨xs, q, Nat.le_refl _⟩
  · rintro i H v H' _ q ⟨T, x, h1, h2, h3, h4⟩
    exact ⟨T, .int (i : Nat), x, h1, h2, h3, rfl, h4 xs q⟩
theorem at_nat {α : Type} {xs : List α} {k : Nat} {v : α} (h : xs[k]? = some v) : atI xs ((k : Nat) : Int) = some v := by
  have hk := (List.getElem?_eq_some_iff.mp h).1
  unfold atI ixN
  rw [if_pos (by omega), if_pos (by omega)]
  simpa using h
abbrev sCel : Stmt := topS 26
abbrev sMix : Stmt := topS 27
abbrev sDig : Stmt := topS 28
def spCel (K : PySem.W.Frag) : Sp := fun vs H Q _ => ∃ (a : Addr) (ns : List Int) (k : Nat), vs = [.ref a, .int k] ∧ SqL K H a (ns.map V.int) ∧ ∀ x : Int, Q (.int x) H
def spMix : Sp := fun vs H Q _ => ∃ (c : Int) (k : Nat), vs = [.int c, .int k] ∧ ∀ x : Int, Q (.int x) H
def spDig (K : PySem.W.Frag) : Sp := fun vs H Q _ => ∃ (c : Int) (n m : Nat), vs = [.int c, .int n, .int m] ∧ n ≤ 60 ∧ 0 < m ∧ m ≤ 1000 ∧
  ∀ (H' : Hp) (p : Addr) (ds : List Int), Same H H' → H p = none → H' p = some (.lst (ds.map V.int)) → ds.length = n → (∀ d ∈ ds, 0 ≤ d ∧ d < m) → Q (.ref p) H'
end
section
variable {P : Program} {w : World} {K : PySem.W.Frag} {mg : Str → Option Value} {base : Heap}
theorem scCel : FnScope ["script", "k"] ["script", "k"] (defScope sCel) := ⟨rfl, rfl, rfl, by decide +kernel, rfl, by decide +kernel, by decide +kernel⟩
theorem ok_cel {f : Addr} {fd : FuncData} (F : Fun K "_law_cell" "_law_cell" sCel f fd) (ml : mg "len" = none) : FnOk P w K mg base CX0 1 f fd ["script", "k"] (spCel K) := by
  refine F.ok scCel (fun vs H Q E h => ?_) (fun cdv A outer s H vs Q E hr h => ?_)
  · obtain ⟨a, ns, k, rfl, _⟩ := h
    rfl
  · obtain ⟨a, ns, k, rfl, hS, q⟩ := h
    refine ⟨_, pss_cons (ps_if (pt_cmpR op_lt (pv 1) (pe_callB call_len_seq (by rfl) ml PySem.boot_len (pa_cons (pv 0) pa_nil)) (nomark _)) (pss_one (ps_ret (pe_ix ix_list (pv 0) (pv 1) (fun _ _ => rfl)))) pss_nil) (pss_one (ps_ret pe_int)), ?_⟩
    refine ⟨_, rfl, _, rfl, a, _, rfl, .inl hS, _, _, rfl, rfl, _, rfl, ?_⟩
    refine ite2 (fun c => ?_) (fun _ => q 0)
    have hk : k < ns.length := by
      have z := of_decide_eq_true c
      rw [List.length_map] at z
      omega
    exact ⟨_, rfl, _, rfl, a, _, k, _, rfl, rfl, hS, at_nat (v := V.int ns[k]) (by rw [List.getElem?_map, List.getElem?_eq_getElem hk]; rfl), q _⟩
theorem scMix : FnScope ["cell", "k", "first", "second"] ["cell", "k"] (defScope sMix) := ⟨rfl, rfl, rfl, by decide +kernel, rfl, by decide +kernel, by decide +kernel⟩
theorem ok_mix {f : Addr} {fd : FuncData} (F : Fun K "_law_mixed" "_law_mixed" sMix f fd) (mi : mg "int" = none) : FnOk P w K mg base CX0 1 f fd ["cell", "k"] spMix := by
  refine F.ok scMix (fun vs H Q E h => ?_) (fun cdv A outer s H vs Q E hr h => ?_)
  · obtain ⟨c, k, rfl, _⟩ := h
    rfl
  · obtain ⟨c, k, rfl, q⟩ := h
    refine ⟨_, pss_cons (ps_set (i := 2) scMix.nd rfl (.inl rfl) (pe_op op_mod (pe_callTy call_int1 (by rfl) mi (by decide +kernel) (pa_cons (pe_op op_add (pe_op op_add (pe_op op_mul (pe_callTy call_int1 (by rfl) mi (by decide +kernel) (pa_cons (pv 0) pa_nil)) pe_int) (pe_op op_mul (pv 1) pe_int)) pe_int) pa_nil)) pe_int))
      (pss_cons (ps_set (i := 3) scMix.nd rfl (.inl rfl) (pe_op op_mod (pe_callTy call_int1 (by rfl) mi (by decide +kernel) (pa_cons (pe_op op_add (pe_op op_add (pe_op op_mul (pv 2) pe_int) (pe_op op_mul (pe_op op_add (pv 1) pe_int) pe_int)) pe_int) pa_nil)) pe_int))
      (pss_one (ps_ret (pe_op op_fdiv (pv 3) pe_int)))), ?_⟩
    refine ⟨_, rfl, .inl ⟨_, rfl, _, _, rfl, rfl, .inr ⟨by decide, by decide⟩, ?_⟩⟩
    refine ⟨_, rfl, _, _, rfl, rfl, .inr ⟨by decide, by decide⟩, _, _, rfl, rfl, _, _, rfl, rfl, .inl ⟨_, rfl, _, _, rfl, rfl, (by show (0 : Int) < 2147483647; decide), ?_⟩⟩
    refine ⟨_, rfl, _, _, rfl, rfl, .inr ⟨by decide, by decide⟩, ?_⟩
    refine ⟨_, rfl, _, _, rfl, rfl, _, _, rfl, rfl, .inr ⟨by decide, by decide⟩, _, _, rfl, rfl, _, _, rfl, rfl, .inl ⟨_, rfl, _, _, rfl, rfl, (by show (0 : Int) < 2147483563; decide), ?_⟩⟩
    exact ⟨_, rfl, _, _, rfl, rfl, ⟨by decide, by decide⟩, q _⟩
theorem scDig : FnScope ["cell", "count", "many", "digits", "k"] ["cell", "count", "many"] (defScope sDig) := ⟨rfl, rfl, rfl, by decide +kernel, rfl, by decide +kernel, by decide +kernel⟩
theorem ok_dig {f fM : Addr} {fd fdM : FuncData} (F : Fun K "_law_digits" "_law_digits" sDig f fd) (mr : mg "range" = none) (mi : mg "int" = none)
    (GM : FnOk P w K mg base CX0 1 fM fdM ["cell", "k"] spMix) (kM : PySem.W.keepIn K (.ref fM) = true) (bM : Binds K fdM ["cell", "k"] []) (gM : mg "_law_mixed" = some (.ref fM)) :
    FnOk P w K mg base CX0 2 f fd ["cell", "count", "many"] (spDig K) := by
  refine F.ok scDig (fun vs H Q E h => ?_) (fun cdv A outer s H vs Q E hr h => ?_)
  · obtain ⟨c, n, m, rfl, _⟩ := h
    rfl
  · obtain ⟨c, n, m, rfl, hn, m0, m1, q⟩ := h
    have hr1 : Room 1 _ := hr.mono (by decide)
    have toNat : ((n : Nat) : Int).toNat = n := by omega
    refine ⟨_, pss_cons (ps_set (i := 3) scDig.nd rfl (.inl rfl) (pe_lst pa_nil))
      (pss_cons (ps_if (pt_cmpR op_lt (pv 0) (pe_op op_pow pe_int pe_int) (nomark _))
        (pss_cons (ps_for PassesOwn.never rfl (pi_range1 rfl mr (pa_cons (pv 1) pa_nil)) (pg_name (i := 4) scDig.nd rfl (.inl rfl))
          (pss_one (ps_expr (pe_bm PySem.F.plainAttrs_list PySem.F.slot_list_append PySem.F.type_list_append mt_append (pv 3) (pa_cons (pe_op op_mod (pe_callTy call_int1 (by rfl) mi (by decide +kernel) (pa_cons (pe_call GM hr1 (by rfl) gM kM bM .nil pass0 (pa_cons (pv 0) (pa_cons (pv 4) pa_nil))) pa_nil)) (pv 2)) pa_nil)))))
        (pss_one (ps_ret (pv 3)))) pss_nil)
      (pss_cons (ps_for PassesOwn.never rfl (pi_range1 rfl mr (pa_cons (pv 1) pa_nil)) (pg_name (i := 4) scDig.nd rfl (.inl rfl))
        (pss_cons (ps_expr (pe_bm PySem.F.plainAttrs_list PySem.F.slot_list_append PySem.F.type_list_append mt_append (pv 3) (pa_cons (pe_op op_mod (pe_callTy call_int1 (by rfl) mi (by decide +kernel) (pa_cons (pv 0) pa_nil)) (pv 2)) pa_nil)))
        (pss_one (ps_set (i := 0) scDig.nd rfl (.inl rfl) (pe_op op_fdiv (pv 0) (pv 2))))))
      (pss_one (ps_ret (pv 3))))), ?_⟩
    refine ⟨Nat.zero_le _, fun p np => ?_⟩
    have s1 := same_upd (o := .lst []) np
    have md : ∀ x : Int, 0 ≤ x % (m : Int) ∧ x % (m : Int) < m := fun x => ⟨Int.emod_nonneg _ (by omega), Int.emod_lt_of_pos _ (by omega)⟩
    have more : ∀ {ds : List Int} (x : Int), (∀ d ∈ ds, 0 ≤ d ∧ d < (m : Int)) → ∀ d ∈ ds ++ [x % (m : Int)], 0 ≤ d ∧ d < (m : Int) := fun x h d hd => by
      rcases List.mem_append.mp hd with z | z
      · exact h d z
      · rw [List.mem_singleton.mp z]
        exact md x
    refine ⟨_, rfl, _, _, rfl, rfl, ⟨by decide, by decide, by decide⟩, _, _, rfl, rfl, _, rfl, ?_⟩
    refine ite2 (fun _ => ?_) (fun _ => ?_)
    · refine ⟨_, rfl, n, rfl, by omega, by omega, ?_⟩
      rw [toNat]
      refine for_range (lo := 0) (n := n) (fun i σ H' => ∃ (y4 : Option V) (ds : List Int), σ = [some (.int c), some (.int n), some (.int m), some (.ref p), y4] ∧ Same H H' ∧ H' p = some (.lst (ds.map V.int)) ∧ ds.length = i ∧ ∀ d ∈ ds, 0 ≤ d ∧ d < (m : Int))
        ⟨none, [], rfl, s1, upd_same, rfl, fun d hd => by cases hd⟩ ?_ ?_
      · rintro i σ H' hi ⟨y4, ds, rfl, sm, hp, hl, hd⟩
        have e0 : (0 : Int) + (i : Int) = (i : Int) := by omega
        rw [e0]
        refine ⟨_, rfl, .inl ⟨rfl, _, SqL.of hp⟩, _, rfl, _, rfl, c, i, rfl, fun x => ?_⟩
        refine .inl ⟨_, rfl, _, rfl, _, _, rfl, rfl, (by omega : (0 : Int) < (m : Int)), p, _, _, rfl, rfl, hp, by rw [List.length_map]; exact small1000 (by omega), ?_⟩
        exact ⟨_, ds ++ [x % (m : Int)], rfl, same_put sm np, by rw [upd_same, List.map_append]; rfl, by rw [List.length_append, hl]; rfl, more x hd⟩
      · rintro σ H' ⟨y4, ds, rfl, sm, hp, hl, hd⟩
        exact ⟨_, rfl, q H' p ds sm np hp hl hd⟩
    · refine ⟨_, rfl, n, rfl, by omega, by omega, ?_⟩
      rw [toNat]
      refine for_range (lo := 0) (n := n) (fun i σ H' => ∃ (y4 : Option V) (c : Int) (ds : List Int), σ = [some (.int c), some (.int n), some (.int m), some (.ref p), y4] ∧ Same H H' ∧ H' p = some (.lst (ds.map V.int)) ∧ ds.length = i ∧ ∀ d ∈ ds, 0 ≤ d ∧ d < (m : Int))
        ⟨none, c, [], rfl, s1, upd_same, rfl, fun d hd => by cases hd⟩ ?_ ?_
      · rintro i σ H' hi ⟨y4, c, ds, rfl, sm, hp, hl, hd⟩
        refine ⟨_, rfl, .inl ⟨rfl, _, SqL.of hp⟩, _, rfl, .inl ⟨_, rfl, _, rfl, _, _, rfl, rfl, (by omega : (0 : Int) < (m : Int)), p, _, _, rfl, rfl, hp, by rw [List.length_map]; exact small1000 (by omega), ?_⟩⟩
        refine ⟨_, rfl, _, rfl, _, _, rfl, rfl, ⟨by omega, by omega⟩, ?_⟩
        exact ⟨_, c / (m : Int), ds ++ [c % (m : Int)], rfl, same_put sm np, by rw [upd_same, List.map_append]; rfl, by rw [List.length_append, hl]; rfl, more c hd⟩
      · rintro σ H' ⟨y4, c, ds, rfl, sm, hp, hl, hd⟩
        exact ⟨_, rfl, q H' p ds sm np hp hl hd⟩
end
section
mutual
theorem dp_same {K : PySem.W.Frag} {H H' : Hp} (s : Same H H') : ∀ (d : PyData) (v : V), Dp K H v d → Dp K H' v d
  | .none, _, h => by cases h; exact .non
  | .bool _, _, h => by cases h; exact .bl _
  | .int _, _, h => by cases h; exact .int _
  | .str _, _, h => by cases h; exact .str _
  | .list ds, _, h => by cases h with | lst h t => exact .lst (s.seq h) (dpAll_same s ds _ t)
  | .tuple ds, _, h => by cases h with | tup h t => exact .tup (same_sqT s h) (dpAll_same s ds _ t)
  | .dict _, _, h => by cases h
theorem dpAll_same {K : PySem.W.Frag} {H H' : Hp} (s : Same H H') : ∀ (ds : List PyData) (vs : List V), DpAll K H vs ds → DpAll K H' vs ds
  | [], _, h => by cases h; exact .nil
  | d :: ds, _, h => by cases h with | cons h t => exact .cons (dp_same s d _ h) (dpAll_same s ds _ t)
end
theorem cut_ex (ns : List Int) (lo hi : Nat) : ∃ cs : List Int, cutV (ns.map V.int) (some (lo : Int)) (some (hi : Int)) = cs.map V.int ∧ cs.length ≤ hi - lo := by
  refine ⟨(ns.drop (min lo ns.length)).take (min hi ns.length - min lo ns.length), ?_, ?_⟩
  · unfold cutV
    rw [HT.sIx_nat, HT.sIx_nat, List.length_map, List.map_take, List.map_drop]
  · rw [List.length_take, List.length_drop]
    omega
end
end Sm

set_option Elab.async false
set_option linter.all false
set_option maxRecDepth 100000
set_option maxHeartbeats 8000000
namespace Sm
open PySem PySem.Spec PyProof.Rows L2
section
open Classical in
noncomputable def keyP (K : PySem.W.Frag) (H : Hp) (x : V) : Pr := if h : ∃ q : Pr, ∃ a, x = .ref a ∧ SqT K H a [.int q.1, .int q.2] then h.choose else (0, 0)
theorem keyP_spec {K : PySem.W.Frag} {H : Hp} {a : Addr} {q : Pr} (h : SqT K H a [.int q.1, .int q.2]) : SqT K H a [.int (keyP K H (.ref a)).1, .int (keyP K H (.ref a)).2] := by
  have ex : ∃ q : Pr, ∃ b, V.ref a = .ref b ∧ SqT K H b [.int q.1, .int q.2] := ⟨q, a, rfl, h⟩
  unfold keyP
  rw [dif_pos ex]
  obtain ⟨b, e, z⟩ := ex.choose_spec
  cases e
  exact z
/-- sorted(xs), xs a list of pairs -/
def rSortedPE (K : PySem.W.Frag) : List V → Hp → VK → Prop := fun vs H Q => ∃ (a : Addr) (as : List Addr) (es : List Pr), vs = [V.ref a] ∧ SqL K H a (as.map V.ref) ∧ PairsAt K H as es ∧
  ∀ (as' : List Addr) (es' : List Pr) (p : Addr), PairsAt K H as' es' → es'.Perm es → (es'.Pairwise fun x y => SrtO.lexB y x = false) → H p = none → Q (.ref p) (upd H p (.lst (as'.map V.ref)))
theorem pairs_keys {K : PySem.W.Frag} {H : Hp} : ∀ {ys : List V}, (∀ y ∈ ys, ∃ t, y = V.ref t ∧ SqT K H t [.int (keyP K H y).1, .int (keyP K H y).2]) → ∃ as', ys = as'.map V.ref ∧ PairsAt K H as' (ys.map (keyP K H))
  | [], _ => ⟨[], rfl, .nil⟩
  | y :: ys, h => by
    obtain ⟨t, rfl, ht⟩ := h y List.mem_cons_self
    obtain ⟨as', e, hp⟩ := pairs_keys fun z hz => h z (List.mem_cons_of_mem _ hz)
    exact ⟨t :: as', by rw [e]; rfl, .cons ht hp⟩
end
section
variable {X : Cx}
theorem keys_eq {pins : List (Addr × Obj)} {s : Shared} {σ : L2.St} {H : Hp} (I : Inv X pins σ H s) : ∀ {as : List Addr} {es : List Pr}, PairsAt X.K H as es → (as.map V.ref).map (keyP X.K H) = es
  | _, _, .nil => rfl
  | a :: _, q :: _, .cons h t => by
    have z := I.tuple_inj (keyP_spec h) h
    have e1 := (List.cons.inj z).1
    have e2 := (List.cons.inj (List.cons.inj z).2).1
    injection e1 with e1
    injection e2 with e2
    have r := keys_eq I t
    show keyP X.K H (.ref a) :: _ = _
    rw [r]
    congr 1
    exact Prod.ext e1 e2
theorem cr_sortedPE : CallR X (.builtin "sorted") (rSortedPE X.K) := by
  intro pins s σ H vs us Q I r h
  obtain ⟨a, as, es, rfl, hs, hP, q⟩ := h
  obtain ⟨its, rv, hl, hz⟩ := I.list hs
  obtain ⟨u, rfl, ru⟩ := vals1 r
  obtain rfl : u = Value.ref a := ru
  have hx : ∀ x ∈ as.map V.ref, ∃ t, x = V.ref t ∧ SqT X.K H t [.int (keyP X.K H x).1, .int (keyP X.K H x).2] := fun x hx => by
    obtain ⟨t, ht, rfl⟩ := List.mem_map.mp hx
    obtain ⟨i, hi⟩ := List.getElem?_of_mem ht
    obtain ⟨q, _, hq⟩ := hP.get hi
    exact ⟨t, rfl, keyP_spec hq⟩
  obtain ⟨e1, e2⟩ := refs_back rv fun x m => by
    obtain ⟨t, e, _⟩ := hx x m
    exact ⟨t, e⟩
  refine SrtO.sorted_pairsO (k := fun u => keyP X.K H (backV u)) hl.isList (by rw [← rv.length]; exact hz) (fun v hv => ?_) fun h' d out h1 h2 kp hd hn => ?_
  · obtain ⟨t, rfl⟩ := e2 v hv
    have hm : V.ref t ∈ as.map V.ref := by rw [e1]; exact List.mem_map.mpr ⟨_, hv, rfl⟩
    obtain ⟨t', e, ht⟩ := hx _ hm
    cases e
    obtain ⟨its2, r2, ⟨o, ho, hc, n, hd⟩, _⟩ := I.tuple ht
    obtain ⟨u1, u2, rfl, ri, rj⟩ := vals2 r2
    obtain ⟨t1, rfl⟩ := ri
    obtain ⟨t2, rfl⟩ := rj
    exact ⟨t, o, t1, t2, n, rfl, ho, hc, hd⟩
  · have h3 : ∀ u ∈ out, ∃ a, u = Value.ref a := fun u hu => e2 u (h2.perm.mem_iff.mp hu)
    obtain ⟨n, hn⟩ := hn
    have hb : SrtO.Stb (ltP (keyP X.K H)) (out.map backV) (as.map V.ref) := by
      rw [e1]
      exact SrtO.Stb.map (ltP_swo (keyP X.K H)) backV h2
    obtain ⟨as', ea, pa⟩ := pairs_keys (K := X.K) (H := H) (ys := out.map backV) fun y hy => hx y (hb.perm.mem_iff.mp hy)
    have pm : ((out.map backV).map (keyP X.K H)).Perm es := by
      have z := hb.perm.map (keyP X.K H)
      rw [keys_eq I hP] at z
      exact z
    have sr : ((out.map backV).map (keyP X.K H)).Pairwise fun x y => SrtO.lexB y x = false := List.pairwise_map.mpr (SrtO.srtd_map h1)
    refine ⟨.ref d, upd H d (.lst (out.map backV)), I.laid (t' := s.toks) kp hd ⟨?_, out, n, vals_back h3, hn⟩, rfl, ?_⟩
    · rw [hb.len]
      exact hz
    · have z := q as' _ d pa pm sr (I.hok.fresh hd)
      rw [← ea] at z
      exact z
end
end Sm

set_option Elab.async false
set_option linter.all false
set_option maxRecDepth 100000
set_option maxHeartbeats 8000000
namespace Sm
open PySem PySem.Spec PyProof.Rows L2
abbrev sNum : Stmt := topS 4
abbrev sVtx : Stmt := topS 5
abbrev sEdg : Stmt := topS 6
abbrev sStp : Stmt := topS 8
abbrev sGtk : Stmt := topS 9
/-! ### values of every sort -/
inductive Flat : V → Prop where
  | int (i : Int) : Flat (.int i)
  | bl (b : Bool) : Flat (.bl b)
  | str (s : Str) (h : (PyData.str s).canLay0 = true) : Flat (.str s)
def intOf : V → Option Int
  | .int i => some i
  | _ => none
def vtxB (n : Int) : Option Int → Bool
  | some i => decide (0 ≤ i) && decide (i < n)
  | none => false
inductive AV where
  | tup (xs : List V)
  | other
inductive AnyV (K : PySem.W.Frag) (H : Hp) : V → AV → Prop where
  | tup {a : Addr} {xs : List V} (h : SqT K H a xs) (fl : ∀ x ∈ xs, Flat x) (few : xs.length ≤ 100) : AnyV K H (.ref a) (.tup xs)
  | lst {a : Addr} {xs : List V} (h : H a = some (.lst xs)) : AnyV K H (.ref a) .other
  | non : AnyV K H .non .other
  | str (s : Str) : AnyV K H (.str s) .other
theorem AnyV.same {K : PySem.W.Frag} {H H' : Hp} {v : V} {x : AV} (s : Same H H') (h : AnyV K H v x) : AnyV K H' v x := by
  cases h with
  | tup h fl few => exact .tup (same_sqT s h) fl few
  | lst h => exact .lst (s _ _ h)
  | non => exact .non
  | str z => exact .str z
def edgV (n : Int) : AV → Bool
  | .tup [x, y] => vtxB n (intOf x) && (vtxB n (intOf y) && decide ((intOf x).getD 0 < (intOf y).getD 0))
  | _ => false
def spNum : Sp := fun vs H Q _ => ∃ v, vs = [v] ∧ Flat v ∧ Q (.bl (intOf v).isSome) H
def spVtx : Sp := fun vs H Q _ => ∃ v n, vs = [v, .int n] ∧ Flat v ∧ Q (.bl (vtxB n (intOf v))) H
def spEdg (K : PySem.W.Frag) : Sp := fun vs H Q _ => ∃ v x n, vs = [v, .int n] ∧ AnyV K H v x ∧ Q (.bl (edgV n x)) H
section
variable {P : Program} {w : World} {K : PySem.W.Frag} {mg : Str → Option Value} {base : Heap}
theorem scNum : FnScope ["value"] ["value"] (defScope sNum) := ⟨rfl, rfl, rfl, by decide +kernel, rfl, by decide +kernel, by decide +kernel⟩
theorem ok_num {f : Addr} {fd : FuncData} (F : Fun K "is_number" "is_number" sNum f fd) (T : TxA mg) : FnOk P w K mg base CX0 1 f fd ["value"] spNum := by
  refine F.ok scNum (fun vs H Q E h => ?_) (fun cdv A outer s H vs Q E hr h => ?_)
  · obtain ⟨v, rfl, _⟩ := h
    rfl
  · obtain ⟨v, rfl, hv, q⟩ := h
    refine ⟨_, pss_one (ps_ret (pe_and (pe_callB call_isi (by rfl) T.isi (by decide +kernel) (pa_cons (pv 0) (pa_cons (pe_bltn (v := .ty "int") (by rfl) T.int (by decide +kernel) rfl) pa_nil)))
      (pe_one (pe_not (pe_callB call_isi (by rfl) T.isi (by decide +kernel) (pa_cons (pv 0) (pa_cons (pe_bltn (v := .ty "bool") (by rfl) T.bool (by decide +kernel) rfl) pa_nil))))))), ?_⟩
    cases hv with
    | int i =>
      refine ⟨_, rfl, .int i, .ty "int", .type "int", .type "int", true, rfl, .ty "int", .base (.int i), kit_ty (by decide +kernel), true, rfl, iteT ?_⟩
      exact ⟨_, rfl, .int i, .ty "bool", .type "int", .type "bool", false, rfl, .ty "bool", .base (.int i), kit_ty (by decide +kernel), false, rfl, q⟩
    | bl b =>
      refine ⟨_, rfl, .bl b, .ty "int", .type "bool", .type "int", true, rfl, .ty "int", .base (.bl b), kit_ty (by decide +kernel), true, rfl, iteT ?_⟩
      exact ⟨_, rfl, .bl b, .ty "bool", .type "bool", .type "bool", true, rfl, .ty "bool", .base (.bl b), kit_ty (by decide +kernel), true, rfl, q⟩
    | str z =>
      exact ⟨_, rfl, .str z, .ty "int", .type "str", .type "int", false, rfl, .ty "int", .base (.str z), kit_ty (by decide +kernel), false, rfl, iteF q⟩
theorem scVtx : FnScope ["value", "size"] ["value", "size"] (defScope sVtx) := ⟨rfl, rfl, rfl, by decide +kernel, rfl, by decide +kernel, by decide +kernel⟩
theorem ok_vtx {f fN : Addr} {fd fdN : FuncData} (F : Fun K "is_vertex" "is_vertex" sVtx f fd)
    (GN : FnOk P w K mg base CX0 1 fN fdN ["value"] spNum) (kN : PySem.W.keepIn K (.ref fN) = true) (bN : Binds K fdN ["value"] []) (gN : mg "is_number" = some (.ref fN)) :
    FnOk P w K mg base CX0 2 f fd ["value", "size"] spVtx := by
  refine F.ok scVtx (fun vs H Q E h => ?_) (fun cdv A outer s H vs Q E hr h => ?_)
  · obtain ⟨v, n, rfl, _⟩ := h
    rfl
  · obtain ⟨v, n, rfl, hv, q⟩ := h
    refine ⟨_, pss_one (ps_ret (pe_and (pe_call GN hr (by rfl) gN kN bN .nil pass0 (pa_cons (pv 0) pa_nil)) (pe_one (pe_chain op_le op_lt pe_int (pv 0) (pv 1))))), ?_⟩
    refine ⟨v, rfl, v, rfl, hv, (intOf v).isSome, rfl, ?_⟩
    cases hv with
    | int i =>
      refine iteT ⟨_, rfl, _, _, rfl, rfl, _, rfl, ?_⟩
      by_cases c : 0 ≤ i
      · rw [decide_eq_true c]
        refine iteT ⟨_, rfl, _, _, rfl, rfl, ?_⟩
        have e : vtxB n (intOf (.int i)) = decide (i < n) := by simp [vtxB, intOf, c]
        rw [e] at q
        exact q
      · rw [decide_eq_false c]
        refine iteF ?_
        have e : vtxB n (intOf (.int i)) = false := by simp only [vtxB, intOf, decide_eq_false c, Bool.false_and]
        rw [e] at q
        exact q
    | bl b => exact iteF q
    | str z => exact iteF q
theorem scEdg : FnScope ["value", "size", "u", "v"] ["value", "size"] (defScope sEdg) := ⟨rfl, rfl, rfl, by decide +kernel, rfl, by decide +kernel, by decide +kernel⟩
theorem edgV_no {n : Int} {xs : List V} (h : xs.length ≠ 2) : edgV n (.tup xs) = false := by
  match xs, h with
  | [], _ => rfl
  | [_], _ => rfl
  | [_, _], h => exact absurd rfl h
  | _ :: _ :: _ :: _, _ => rfl
theorem ok_edg {f fV : Addr} {fd fdV : FuncData} (F : Fun K "is_edge" "is_edge" sEdg f fd) (GV : FnOk P w K mg base CX0 2 fV fdV ["value", "size"] spVtx) (kV : PySem.W.keepIn K (.ref fV) = true) (bV : Binds K fdV ["value", "size"] []) (gV : mg "is_vertex" = some (.ref fV)) (T : TxA mg) :
    FnOk P w K mg base CX0 3 f fd ["value", "size"] (spEdg K) := by
  refine F.ok scEdg (fun vs H Q E h => ?_) (fun cdv A outer s H vs Q E hr h => ?_)
  · obtain ⟨v, e, n, rfl, _⟩ := h
    rfl
  · obtain ⟨v, e, n, rfl, hv, q⟩ := h
    refine ⟨_, pss_cons (ps_if (PW.pt (pw_or (pt_not (pt_val (pe_callB call_isi (by rfl) T.isi (by decide +kernel) (pa_cons (pv 0) (pa_cons (pe_bltn (v := .ty "tuple") (by rfl) T.tuple (by decide +kernel) rfl) pa_nil)))))
        (pw_or1 (pt_cmpR op_ne (pe_callB call_len_seq (by rfl) T.len PySem.boot_len (pa_cons (pv 0) pa_nil)) pe_int (nomark _))))) (pss_one (ps_ret pe_bl)) pss_nil)
      (pss_cons (ps_asg (pv 0) (pg_tup (by rfl) (pgs_cons (pg_name (i := 2) scEdg.nd rfl (.inl rfl)) (pgs_cons (pg_name (i := 3) scEdg.nd rfl (.inl rfl)) pgs_nil))))
      (pss_one (ps_ret (pe_and (pe_call GV hr (by rfl) gV kV bV .nil pass0 (pa_cons (pv 2) (pa_cons (pv 1) pa_nil)))
        (pe_and (pe_call GV hr (by rfl) gV kV bV .nil pass0 (pa_cons (pv 3) (pa_cons (pv 1) pa_nil))) (pe_one (pe_cmpR op_lt (pv 2) (pv 3) (nomark _)))))))), ?_⟩
    cases hv with
    | non =>
      refine ⟨_, rfl, .non, .ty "tuple", .type "NoneType", .type "tuple", false, rfl, .ty "tuple", .base .non, kit_ty (by decide +kernel), false, rfl, iteT ?_⟩
      exact iteT q
    | str z =>
      refine ⟨_, rfl, .str z, .ty "tuple", .type "str", .type "tuple", false, rfl, .ty "tuple", .base (.str z), kit_ty (by decide +kernel), false, rfl, iteT ?_⟩
      exact iteT q
    | lst h =>
      refine ⟨_, rfl, _, .ty "tuple", .type "list", .type "tuple", false, rfl, .ty "tuple", .base (.lst h), kit_ty (by decide +kernel), false, rfl, iteT ?_⟩
      exact iteT q
    | @tup a xs h fl few =>
      refine ⟨_, rfl, _, .ty "tuple", .type "tuple", .type "tuple", true, rfl, .ty "tuple", tyx_T h, kit_ty (by decide +kernel), true, rfl, iteF ?_⟩
      refine ⟨_, rfl, _, _, rfl, .inr h, rfl, _, rfl, ?_⟩
      by_cases c : xs.length = 2
      · match xs, c with
        | [x, y], _ =>
          have hx := fl x (by simp)
          have hy := fl y (by simp)
          refine iteNS rfl ?_
          refine ⟨_, rfl, a, [x, y], rfl, h, rfl, x, [y], rfl, y, [], rfl, rfl, ?_⟩
          refine ⟨x, rfl, .int n, rfl, x, n, rfl, hx, vtxB n (intOf x), rfl, ?_⟩
          have ev : edgV n (.tup [x, y]) = (vtxB n (intOf x) && (vtxB n (intOf y) && decide ((intOf x).getD 0 < (intOf y).getD 0))) := rfl
          rw [ev] at q
          cases ci : vtxB n (intOf x) with
          | false =>
            rw [ci] at q
            exact iteF q
          | true =>
            rw [ci] at q
            refine iteT ⟨y, rfl, .int n, rfl, y, n, rfl, hy, vtxB n (intOf y), rfl, ?_⟩
            cases cj : vtxB n (intOf y) with
            | false =>
              rw [cj] at q
              exact iteF q
            | true =>
              rw [cj] at q
              refine iteT ?_
              cases hx with
              | bl b => cases ci
              | str z => cases ci
              | int i =>
                cases hy with
                | bl b => cases cj
                | str z => cases cj
                | int j => exact ⟨_, rfl, _, rfl, i, j, rfl, rfl, q⟩
      · rw [edgV_no c] at q
        exact iteN (fun e => c (Int.ofNat.inj (V.int.inj e))) q
end
end Sm

set_option Elab.async false
set_option linter.all false
set_option maxRecDepth 100000
set_option maxHeartbeats 8000000
namespace Sm
open PySem PySem.Spec PyProof.Rows L2
/-! ### steps -/
inductive Stp where
  | emp
  | new (i : Int)
  | edge (i j : Int)
  | fgt (i : Int)
  | join
deriving DecidableEq
def Stp.vals : Stp → List V
  | .emp => [.str "empty"]
  | .new i => [.str "new", .int i]
  | .edge i j => [.str "edge", .int i, .int j]
  | .fgt i => [.str "forget", .int i]
  | .join => [.str "join"]
def Stp.many : Stp → Nat
  | .emp => 0
  | .join => 2
  | _ => 1
def StV (K : PySem.W.Frag) (H : Hp) (v : V) (s : Stp) : Prop := ∃ a, v = .ref a ∧ SqT K H a s.vals
theorem StV.same {K : PySem.W.Frag} {H H' : Hp} {v : V} {x : Stp} (s : Same H H') (h : StV K H v x) : StV K H' v x := by
  obtain ⟨a, e, h⟩ := h
  exact ⟨a, e, same_sqT s h⟩
def inR (k i : Int) : Bool := decide (0 ≤ i) && decide (i < k + 1)
def edgeOf (k : Int) : List V → Option Stp
  | [.int i, .int j] => if (inR k i && (inR k j && decide (i < j))) = true then some (.edge i j) else none
  | _ => none
def newOf (k : Int) : List V → Option Stp
  | [.int i] => if inR k i = true then some (.new i) else none
  | _ => none
def fgtOf (k : Int) : List V → Option Stp
  | [.int i] => if inR k i = true then some (.fgt i) else none
  | _ => none
def zeroOf (s : Stp) : List V → Option Stp
  | [] => some s
  | _ => none
def stepOf (k : Int) : AV → Option Stp
  | .tup (.str w :: l) => if w = "edge" then edgeOf k l else if w = "new" then newOf k l else if w = "forget" then fgtOf k l else if w = "empty" then zeroOf .emp l else if w = "join" then zeroOf .join l else none
  | _ => none
theorem isSome_ite {α : Type} {c : Bool} {a : α} : (if c = true then some a else none).isSome = c := by cases c <;> rfl
theorem edge_some {k : Int} {l : List V} : (edgeOf k l).isSome = edgV (k + 1) (.tup l) := by
  match l with
  | [] => rfl
  | [x] => cases x <;> rfl
  | [x, y] => 
    cases x with
    | int i => 
      cases y with
      | int j => exact isSome_ite
      | _ => 
        show false = (inR k i && (false && _))
        cases inR k i <;> rfl
    | _ => cases y <;> rfl
  | x :: y :: z :: t => cases x <;> cases y <;> rfl
def oneV (n : Int) : List V → Bool
  | [x] => vtxB n (intOf x)
  | _ => false
theorem new_some {k : Int} {l : List V} : (newOf k l).isSome = oneV (k + 1) l := by
  match l with
  | [] => rfl
  | [x] => 
    cases x with
    | int i => exact isSome_ite
    | _ => rfl
  | x :: y :: t => cases x <;> rfl
theorem fgt_some {k : Int} {l : List V} : (fgtOf k l).isSome = oneV (k + 1) l := by
  match l with
  | [] => rfl
  | [x] => 
    cases x with
    | int i => exact isSome_ite
    | _ => rfl
  | x :: y :: t => cases x <;> rfl
theorem zero_some {s : Stp} {l : List V} : (zeroOf s l).isSome = decide (l = []) := by
  match l with
  | [] => rfl
  | x :: t => rfl
theorem oneV_no {n : Int} {l : List V} (h : l.length ≠ 1) : oneV n l = false := by
  match l, h with
  | [], _ => rfl
  | [_], h => exact absurd rfl h
  | _ :: _ :: _, _ => rfl
theorem cut_tail (x : V) (l : List V) : cutV (x :: l) (some 1) none = l := by
  unfold cutV
  rw [HT.sIx_none, show (1 : Int) = ((1 : Nat) : Int) from rfl, HT.sIx_nat]
  rw [List.length_cons, Nat.min_eq_left (by omega), List.drop_succ_cons, List.drop_zero]
  exact List.take_of_length_le (by omega)
theorem eq_emp {K : PySem.W.Frag} {H : Hp} {l : List V} (fl : ∀ x ∈ l, Flat x) : ∃ ds : List PyData, DpAll K H l ds ∧ PyData.canLayAll0 ds = true ∧ PyData.depthAll ds = 0 ∧ ds.length = l.length := by
  induction l with
  | nil => exact ⟨[], .nil, by simp [PyData.canLayAll0], by simp [PyData.depthAll], rfl⟩
  | cons x l ih =>
    obtain ⟨ds, h1, h2, h3, h4⟩ := ih fun y hy => fl y (List.mem_cons_of_mem _ hy)
    cases fl x List.mem_cons_self with
    | int i => exact ⟨.int i :: ds, .cons (.int i) h1, by simp [PyData.canLayAll0, PyData.canLay0, h2], by simp [PyData.depthAll, PyData.depth, h3], by rw [List.length_cons, List.length_cons, h4]⟩
    | bl b => exact ⟨.bool b :: ds, .cons (.bl b) h1, by simp [PyData.canLayAll0, PyData.canLay0, h2], by simp [PyData.depthAll, PyData.depth, h3], by rw [List.length_cons, List.length_cons, h4]⟩
    | str z hz => exact ⟨.str z :: ds, .cons (.str z) h1, by simp [PyData.canLayAll0, h2, hz], by simp [PyData.depthAll, PyData.depth, h3], by rw [List.length_cons, List.length_cons, h4]⟩
theorem shaped_T {ds : List PyData} (h1 : PyData.canLayAll0 ds = true) (h2 : PyData.depthAll ds ≤ 8) : SeqAt.shaped (.tuple ds) = true := by
  unfold SeqAt.shaped
  rw [Bool.and_eq_true]
  refine ⟨by simp only [PyData.canLay0]; exact h1, decide_eq_true ?_⟩
  simp only [PyData.depth]
  omega
theorem in_no2 {z a b : Str} (h1 : z ≠ a) (h2 : z ≠ b) : inV (V.str z) [V.str a, V.str b] = false := by
  have e1 : (a == z) = false := beq_eq_false_iff_ne.mpr fun e => h1 e.symm
  have e2 : (b == z) = false := beq_eq_false_iff_ne.mpr fun e => h2 e.symm
  simp [inV, eqV, e1, e2]
def spStp (K : PySem.W.Frag) : Sp := fun vs H Q _ => ∃ v x k, vs = [v, .int k] ∧ AnyV K H v x ∧ ∀ H', Same H H' → Q (.bl (stepOf k x).isSome) H'
def spGtk (K : PySem.W.Frag) : Sp := fun vs H Q _ => ∃ v s, vs = [v] ∧ StV K H v s ∧ Q (.int s.many) H
section
variable {P : Program} {w : World} {K : PySem.W.Frag} {mg : Str → Option Value} {base : Heap}
abbrev stpN : List Str := ["value", "k", "word", "labels"]
theorem scStp : FnScope stpN ["value", "k"] (defScope sStp) := ⟨rfl, rfl, rfl, by decide +kernel, rfl, by decide +kernel, by decide +kernel⟩
theorem ok_stp {f fV fE : Addr} {fd fdV fdE : FuncData} (F : Fun K "is_step" "is_step" sStp f fd) (T : TxA mg) (ms : mg "str" = none)
    (GV : FnOk P w K mg base CX0 2 fV fdV ["value", "size"] spVtx) (kV : PySem.W.keepIn K (.ref fV) = true) (bV : Binds K fdV ["value", "size"] []) (gV : mg "is_vertex" = some (.ref fV))
    (GE : FnOk P w K mg base CX0 3 fE fdE ["value", "size"] (spEdg K)) (kE : PySem.W.keepIn K (.ref fE) = true) (bE : Binds K fdE ["value", "size"] []) (gE : mg "is_edge" = some (.ref fE)) :
    FnOk P w K mg base CX0 4 f fd ["value", "k"] (spStp K) := by
  refine F.ok scStp (fun vs H Q E h => ?_) (fun cdv A outer s H vs Q E hr h => ?_)
  · obtain ⟨v, x, k, rfl, _⟩ := h
    rfl
  · obtain ⟨v, x, k, rfl, hv, q⟩ := h
    have hr2 : Room 2 _ := hr.mono (by decide)
    have hu : _ + 64 < cLine := hr.units
    refine ⟨_, pss_cons (ps_if (PW.pt (pw_or (pt_not (pt_val (pe_callB call_isi (by rfl) T.isi (by decide +kernel) (pa_cons (pv 0) (pa_cons (pe_bltn (v := .ty "tuple") (by rfl) T.tuple (by decide +kernel) rfl) pa_nil)))))
        (pw_or (pt_cmpR op_eq (pe_callB call_len_seq (by rfl) T.len PySem.boot_len (pa_cons (pv 0) pa_nil)) pe_int (nomark _))
        (pw_or1 (pt_not (pt_val (pe_callB call_isi (by rfl) T.isi (by decide +kernel) (pa_cons (pe_ix ix_tup (pv 0) pe_int (fun _ _ => rfl)) (pa_cons (pe_bltn (v := .ty "str") (by rfl) ms (by decide +kernel) rfl) pa_nil))))))))) (pss_one (ps_ret pe_bl)) pss_nil)
      (pss_cons (ps_set (i := 2) scStp.nd rfl (.inl rfl) (pe_ix ix_tup (pv 0) pe_int (fun _ _ => rfl)))
      (pss_cons (ps_set (i := 3) scStp.nd rfl (.inl rfl) (pe_slice sl_tupA (pv 0) (po_some pe_int) po_none))
      (pss_cons (ps_if (pt_cmpR op_eq (pv 2) pe_str (nomark _)) (pss_one (ps_ret (pe_call GE hr (by rfl) gE kE bE .nil pass0 (pa_cons (pv 3) (pa_cons (pe_op op_add (pv 1) pe_int) pa_nil))))) pss_nil)
      (pss_cons (ps_if (pt_cmpR op_in_seq (pv 2) (pe_tup (pa_cons pe_str (pa_cons pe_str pa_nil))) (by rfl)) (pss_one (ps_ret (pe_and (pe_cmpR op_eq (pe_callB call_len_seq (by rfl) T.len PySem.boot_len (pa_cons (pv 3) pa_nil)) pe_int (nomark _)) (pe_one (pe_call GV hr2 (by rfl) gV kV bV .nil pass0 (pa_cons (pe_ix ix_tup (pv 3) pe_int (fun _ _ => rfl)) (pa_cons (pe_op op_add (pv 1) pe_int) pa_nil))))))) pss_nil)
      (pss_one (ps_ret (pe_and (pe_cmpR op_in_seq (pv 2) (pe_tup (pa_cons pe_str (pa_cons pe_str pa_nil))) (by rfl)) (pe_one (pe_cmpR (op_eqD hu) (pv 3) (pe_tup pa_nil) (nomark _)))))))))), ?_⟩
    cases hv with
    | non => exact ⟨_, rfl, .non, .ty "tuple", .type "NoneType", .type "tuple", false, rfl, .ty "tuple", .base .non, kit_ty (by decide +kernel), false, rfl, iteT (iteT (q H (Same.refl _)))⟩
    | str z => exact ⟨_, rfl, .str z, .ty "tuple", .type "str", .type "tuple", false, rfl, .ty "tuple", .base (.str z), kit_ty (by decide +kernel), false, rfl, iteT (iteT (q H (Same.refl _)))⟩
    | lst h => exact ⟨_, rfl, _, .ty "tuple", .type "list", .type "tuple", false, rfl, .ty "tuple", .base (.lst h), kit_ty (by decide +kernel), false, rfl, iteT (iteT (q H (Same.refl _)))⟩
    | @tup a xs h fl few =>
      refine ⟨_, rfl, _, .ty "tuple", .type "tuple", .type "tuple", true, rfl, .ty "tuple", tyx_T h, kit_ty (by decide +kernel), true, rfl, iteF ?_⟩
      refine ⟨_, rfl, _, _, rfl, .inr h, rfl, _, rfl, ?_⟩
      match xs, h, fl, few with
      | [], h, fl, few => exact iteT (iteT (q H (Same.refl _)))
      | x :: l, h, fl, few =>
        refine iteD (fun e => by have := V.int.inj e; simp at this; omega) ?_
        have hx := fl x List.mem_cons_self
        refine ⟨_, rfl, a, _, 0, x, rfl, rfl, h, atI_nat (j := 0) rfl, ?_⟩
        cases hx with
        | int i => exact ⟨.int i, .ty "str", .type "int", .type "str", false, rfl, .ty "str", .base (.int i), kit_ty (by decide +kernel), false, rfl, iteT (q H (Same.refl _))⟩
        | bl b => exact ⟨.bl b, .ty "str", .type "bool", .type "str", false, rfl, .ty "str", .base (.bl b), kit_ty (by decide +kernel), false, rfl, iteT (q H (Same.refl _))⟩
        | str z hz =>
          refine ⟨.str z, .ty "str", .type "str", .type "str", true, rfl, .ty "str", .base (.str z), kit_ty (by decide +kernel), true, rfl, iteF ?_⟩
          refine ⟨_, rfl, a, _, 0, .str z, rfl, rfl, h, atI_nat (j := 0) rfl, ?_⟩
          refine ⟨_, rfl, 1, rfl, a, _, rfl, h, (fun e => by have e1 := e.1; rw [show (1 : Int) = ((1 : Nat) : Int) from rfl, HT.sIx_nat, List.length_cons] at e1; omega), fun _ p np => ?_⟩
          rw [cut_tail]
          have s1 := same_upd (o := .tup l) np
          have hl : SqT K (upd H p (.tup l)) p l := SqT.of upd_same
          have fl' : ∀ x ∈ l, Flat x := fun y hy => fl y (List.mem_cons_of_mem _ hy)
          have few' : l.length ≤ 100 := by rw [List.length_cons] at few; omega
          generalize (upd H p (.tup l)) = H1 at s1 hl ⊢
          refine ⟨_, rfl, rfl, _, rfl, ?_⟩
          have eS : stepOf k (.tup (.str z :: l)) = if z = "edge" then edgeOf k l else if z = "new" then newOf k l else if z = "forget" then fgtOf k l else if z = "empty" then zeroOf .emp l else if z = "join" then zeroOf .join l else none := rfl
          rw [eS] at q
          by_cases c1 : z = "edge"
          · rw [if_pos c1, edge_some] at q
            refine iteY (congrArg V.str c1) ?_
            exact ⟨_, rfl, _, rfl, _, _, rfl, rfl, .ref p, .tup l, k + 1, rfl, .tup hl fl' few', q _ s1⟩
          rw [if_neg c1] at q
          refine iteD (fun e => c1 (V.str.inj e)) ?_
          refine ⟨_, rfl, (by show 2 ≤ sizeLine; decide), fun p2 np2 => ⟨p2, _, rfl, .inr (SqT.of upd_same), rfl, rfl, _, rfl, ?_⟩⟩
          have s2 := same_upd (o := .tup [V.str "new", V.str "forget"]) np2
          generalize (upd H1 p2 (.tup [V.str "new", V.str "forget"])) = H2 at s2 ⊢
          have hl2 := same_sqT s2 hl
          by_cases c2 : z = "new" ∨ z = "forget"
          · have ei : inV (V.str z) [V.str "new", V.str "forget"] = true := by
              rcases c2 with rfl | rfl <;> decide +kernel
            show (if inV (V.str z) [V.str "new", V.str "forget"] = true then _ else _)
            rw [ei]
            refine iteT ?_
            have q2 : ∀ H', Same H H' → Q (.bl (oneV (k + 1) l)) H' := by
              rcases c2 with rfl | rfl
              · rw [if_pos rfl, new_some] at q
                exact q
              · rw [if_neg (by decide +kernel), if_pos rfl, fgt_some] at q
                exact q
            have s12 := s1.trans s2
            refine ⟨_, rfl, p, l, rfl, .inr hl2, rfl, _, rfl, ?_⟩
            by_cases c4 : l.length = 1
            · obtain ⟨x, rfl⟩ := List.length_eq_one_iff.mp c4
              exact iteY rfl ⟨_, rfl, p, _, 0, x, rfl, rfl, hl2, atI_nat (j := 0) rfl, _, rfl, _, _, rfl, rfl, x, k + 1, rfl, fl' x (by simp), q2 _ s12⟩
            · rw [oneV_no c4] at q2
              exact iteD (fun e => c4 (Int.ofNat.inj (V.int.inj e))) (q2 _ s12)
          · have c2a : z ≠ "new" := fun e => c2 (.inl e)
            have c2b : z ≠ "forget" := fun e => c2 (.inr e)
            have ei : inV (V.str z) [V.str "new", V.str "forget"] = false := in_no2 c2a c2b
            show (if inV (V.str z) [V.str "new", V.str "forget"] = true then _ else _)
            rw [ei]
            refine iteF ?_
            rw [if_neg c2a, if_neg c2b] at q
            refine ⟨_, rfl, (by show 2 ≤ sizeLine; decide), fun p3 np3 => ⟨p3, _, rfl, .inr (SqT.of upd_same), rfl, rfl, _, rfl, ?_⟩⟩
            have s3 := same_upd (o := .tup [V.str "empty", V.str "join"]) np3
            generalize (upd H2 p3 (.tup [V.str "empty", V.str "join"])) = H3 at s3 ⊢
            have hl3 := same_sqT s3 hl2
            have s13 := s1.trans (s2.trans s3)
            by_cases c5 : z = "empty" ∨ z = "join"
            · have ei : inV (V.str z) [V.str "empty", V.str "join"] = true := by
                rcases c5 with rfl | rfl <;> decide +kernel
              show (if inV (V.str z) [V.str "empty", V.str "join"] = true then _ else _)
              rw [ei]
              refine iteT ?_
              have q2 : ∀ H', Same H H' → Q (.bl (decide (l = []))) H' := by
                rcases c5 with rfl | rfl
                · rw [if_pos rfl, zero_some] at q
                  exact q
                · rw [if_neg (by decide +kernel), if_pos rfl, zero_some] at q
                  exact q
              refine ⟨_, rfl, (by show 0 ≤ sizeLine; decide), fun p4 np4 => ?_⟩
              have s4 := same_upd (o := .tup []) np4
              obtain ⟨ds, d1, d2, d3, d4⟩ := eq_emp (K := K) (H := upd H3 p4 (.tup [])) fl'
              refine ⟨.tuple ds, .tuple [], .tup (same_sqT s4 hl3) d1, .tup (SqT.of upd_same) .nil, shaped_T d2 (by omega), shaped_T (by simp [PyData.canLayAll0]) (by simp [PyData.depthAll]), ?_⟩
              have e : PyData.eqv (.tuple ds) (.tuple []) = decide (l = []) := by
                cases l with
                | nil =>
                  cases ds with
                  | nil => simp [PyData.eqv, PyData.eqvAll]
                  | cons _ _ => cases d4
                | cons _ _ =>
                  cases ds with
                  | nil => cases d4
                  | cons _ _ => simp [PyData.eqv, PyData.eqvAll]
              rw [e]
              exact q2 _ (s13.trans s4)
            · have c5a : z ≠ "empty" := fun e => c5 (.inl e)
              have c5b : z ≠ "join" := fun e => c5 (.inr e)
              rw [if_neg c5a, if_neg c5b] at q
              have ei : inV (V.str z) [V.str "empty", V.str "join"] = false := in_no2 c5a c5b
              show (if inV (V.str z) [V.str "empty", V.str "join"] = true then _ else _)
              rw [ei]
              exact iteF (q _ s13)
theorem scGtk : FnScope ["step"] ["step"] (defScope sGtk) := ⟨rfl, rfl, rfl, by decide +kernel, rfl, by decide +kernel, by decide +kernel⟩
theorem ok_gtk {f : Addr} {fd : FuncData} (F : Fun K "graphs_taken" "graphs_taken" sGtk f fd) : FnOk P w K mg base CX0 1 f fd ["step"] (spGtk K) := by
  refine F.ok scGtk (fun vs H Q E h => ?_) (fun cdv A outer s H vs Q E hr h => ?_)
  · obtain ⟨v, x, rfl, _⟩ := h
    rfl
  · obtain ⟨v, x, rfl, ⟨a, rfl, hv⟩, q⟩ := h
    refine ⟨_, pss_cons (ps_if (pt_cmpR op_eq (pe_ix ix_tup (pv 0) pe_int (fun _ _ => rfl)) pe_str (nomark _)) (pss_one (ps_ret pe_int)) pss_nil)
      (pss_one (ps_ret (pe_ifExp (pt_cmpR op_eq (pe_ix ix_tup (pv 0) pe_int (fun _ _ => rfl)) pe_str (nomark _)) pe_int pe_int))), ?_⟩
    cases x with
    | emp => exact ⟨_, rfl, a, _, 0, _, rfl, rfl, hv, atI_nat (j := 0) rfl, rfl, _, rfl, iteY rfl q⟩
    | join => exact ⟨_, rfl, a, _, 0, _, rfl, rfl, hv, atI_nat (j := 0) rfl, rfl, _, rfl, iteD (by decide +kernel) ⟨_, rfl, a, _, 0, _, rfl, rfl, hv, atI_nat (j := 0) rfl, rfl, _, rfl, iteY rfl q⟩⟩
    | _ => exact ⟨_, rfl, a, _, 0, _, rfl, rfl, hv, atI_nat (j := 0) rfl, rfl, _, rfl, iteD (by decide +kernel) ⟨_, rfl, a, _, 0, _, rfl, rfl, hv, atI_nat (j := 0) rfl, rfl, _, rfl, iteD (by decide +kernel) q⟩⟩
end
end Sm

set_option Elab.async false
set_option linter.all false
set_option maxRecDepth 100000
set_option maxHeartbeats 8000000
namespace Sm
open PySem PySem.Spec PyProof.Rows L2
/-! ### frames -/
abbrev Fr := List Int × List Pr
def FrV (K : PySem.W.Frag) (H : Hp) (v : V) (f : Fr) : Prop := ∃ (a t p : Addr) (ps : List Addr), v = .ref a ∧ SqT K H a [.ref t, .ref p] ∧ SqT K H t (f.1.map V.int) ∧ SqT K H p (ps.map V.ref) ∧ PairsAt K H ps f.2
theorem pairs_same {K : PySem.W.Frag} {H H' : Hp} (s : Same H H') : ∀ {ps : List Addr} {qs : List Pr}, PairsAt K H ps qs → PairsAt K H' ps qs
  | _, _, .nil => .nil
  | _, _, .cons h t => .cons (same_sqT s h) (pairs_same s t)
theorem FrV.same {K : PySem.W.Frag} {H H' : Hp} {v : V} {f : Fr} (s : Same H H') (h : FrV K H v f) : FrV K H' v f := by
  obtain ⟨a, t, p, ps, e, h1, h2, h3, h4⟩ := h
  exact ⟨a, t, p, ps, e, same_sqT s h1, same_sqT s h2, same_sqT s h3, pairs_same s h4⟩
def OptFr (K : PySem.W.Frag) (H : Hp) (v : V) : Option Fr → Prop
  | none => v = .non
  | some f => FrV K H v f
structure FrOk (f : Fr) : Prop where
  lab : f.1.Pairwise (· < ·)
  vx : ∀ x ∈ f.1, Vx 13 x
  prs : f.2.Pairwise lexlt
  pin : ∀ q ∈ f.2, q.1 ∈ f.1 ∧ q.2 ∈ f.1
theorem lex_nodup {es : List Pr} (h : es.Pairwise lexlt) : es.Nodup := List.Pairwise.imp (fun {p q} h e9 => by
  subst e9
  have z := h
  unfold lexlt at z
  unfold SrtO.lexB at z
  simp at z) h
theorem FrOk.len1 {f : Fr} (h : FrOk f) : f.1.length ≤ 13 := few_vx (List.Pairwise.imp (fun {a b} h => by omega) h.lab) h.vx
theorem FrOk.len2 {f : Fr} (h : FrOk f) : f.2.length ≤ 169 := by
  have z : (f.2.map fun q => 13 * q.1 + q.2).Nodup := by
    refine List.pairwise_map.mpr (List.Pairwise.imp_of_mem (fun {p q} hp hq ne e => ne ?_) (lex_nodup h.prs))
    have h1 := h.vx _ (h.pin p hp).1
    have h2 := h.vx _ (h.pin p hp).2
    have h3 := h.vx _ (h.pin q hq).1
    have h4 := h.vx _ (h.pin q hq).2
    unfold Vx at h1 h2 h3 h4
    exact Prod.ext (by omega) (by omega)
  have y := few_vx (n := 169) z fun k hk => by
    obtain ⟨q, hq, rfl⟩ := List.mem_map.mp hk
    have h1 := h.vx _ (h.pin q hq).1
    have h2 := h.vx _ (h.pin q hq).2
    unfold Vx at h1 h2 ⊢
    omega
  rw [List.length_map] at y
  exact y
def sI (l : List Int) : List Int := l.mergeSort fun a b => decide (a ≤ b)
theorem sI_eq {l l' : List Int} (pm : l'.Perm l) (h : l'.Pairwise (· ≤ ·)) : l' = sI l := by
  have z : (sI l).Pairwise fun a b => decide (a ≤ b) = true := List.pairwise_mergeSort (fun a b c h1 h2 => decide_eq_true (by have := of_decide_eq_true h1; have := of_decide_eq_true h2; omega)) (fun a b => by rw [Bool.or_eq_true, decide_eq_true_eq, decide_eq_true_eq]; omega) l
  exact List.Perm.eq_of_pairwise (le := (· ≤ ·)) (fun a b _ _ h1 h2 => by omega) h (List.Pairwise.imp (fun {a b} h => of_decide_eq_true h) z) (pm.trans (List.mergeSort_perm l _).symm)
theorem sI_perm (l : List Int) : (sI l).Perm l := List.mergeSort_perm l _
theorem sI_lt {l : List Int} (nd : l.Nodup) : (sI l).Pairwise (· < ·) := by
  have z : (sI l).Pairwise fun a b => decide (a ≤ b) = true := List.pairwise_mergeSort (fun a b c h1 h2 => decide_eq_true (by have := of_decide_eq_true h1; have := of_decide_eq_true h2; omega)) (fun a b => by rw [Bool.or_eq_true, decide_eq_true_eq, decide_eq_true_eq]; omega) l
  have y : (sI l).Nodup := (sI_perm l).symm.nodup nd
  exact List.Pairwise.imp (fun {a b} h => by have h1 := of_decide_eq_true h.1; have h2 := h.2; omega) (List.Pairwise.and z y)
def sP (l : List Pr) : List Pr := l.mergeSort fun p q => !(SrtO.lexB q p)
theorem sP_srt (l : List Pr) : (sP l).Pairwise fun x y => SrtO.lexB y x = false := by
  have z : (sP l).Pairwise fun p q => (!(SrtO.lexB q p)) = true := List.pairwise_mergeSort (fun a b c h1 h2 => by
    rw [Bool.not_eq_true'] at h1 h2 ⊢
    have x := SrtO.lexB_no.mp h1
    have y := SrtO.lexB_no.mp h2
    refine SrtO.lexB_no.mpr ?_
    omega) (fun a b => by
    cases e : SrtO.lexB b a with
    | false => rfl
    | true =>
      have x := SrtO.lexB_iff.mp e
      have y : SrtO.lexB a b = false := SrtO.lexB_no.mpr (by omega)
      rw [y]
      rfl) l
  exact List.Pairwise.imp (fun {a b} h => by rw [Bool.not_eq_true'] at h; exact h) z
theorem sP_perm (l : List Pr) : (sP l).Perm l := List.mergeSort_perm l _
theorem sP_eq {l l' : List Pr} (pm : l'.Perm l) (h : l'.Pairwise fun x y => SrtO.lexB y x = false) : l' = sP l := by
  refine List.Perm.eq_of_pairwise (le := fun x y => SrtO.lexB y x = false) (fun a b _ _ h h' => ?_) h (sP_srt l) (pm.trans (sP_perm l).symm)
  have x := SrtO.lexB_no.mp h
  have y := SrtO.lexB_no.mp h'
  exact Prod.ext (by omega) (by omega)
theorem sP_lt {l : List Pr} (nd : l.Nodup) : (sP l).Pairwise lexlt := by
  have y : (sP l).Nodup := (sP_perm l).symm.nodup nd
  refine List.Pairwise.imp (fun {a b} h => ?_) (List.Pairwise.and (sP_srt l) y)
  have x := SrtO.lexB_no.mp h.1
  refine SrtO.lexB_iff.mpr ?_
  have ne : ¬ (a.1 = b.1 ∧ a.2 = b.2) := fun e => h.2 (Prod.ext e.1 e.2)
  omega
def newF (i : Int) (f : Fr) : Option Fr := if i ∈ f.1 then none else some (sI (f.1 ++ [i]), f.2)
def fgtF (i : Int) (f : Fr) : Option Fr := if i ∈ f.1 then some (f.1.filter fun x => decide (x ≠ i), f.2.filter fun q => decide (i ≠ q.1 ∧ i ≠ q.2)) else none
def edgeF (i j : Int) (f : Fr) : Option Fr := if i ∈ f.1 ∧ j ∈ f.1 ∧ (i, j) ∉ f.2 then some (f.1, sP (f.2 ++ [(i, j)])) else none
def joinF (f g : Fr) : Option Fr := if f.1 = g.1 ∧ ∀ q ∈ g.2, q ∉ f.2 then some (f.1, sP (f.2 ++ g.2)) else none
def frameAfter : Stp → List Fr → Option Fr
  | .emp, _ => some ([], [])
  | .new i, [f] => newF i f
  | .fgt i, [f] => fgtF i f
  | .edge i j, [f] => edgeF i j f
  | .join, [f, g] => joinF f g
  | _, _ => none
def Stp.okk : Stp → Prop
  | .new i => Vx 13 i
  | .fgt i => Vx 13 i
  | .edge i j => Vx 13 i ∧ Vx 13 j
  | _ => True
theorem newF_ok {i : Int} {f g : Fr} (hi : Vx 13 i) (h : FrOk f) (e : newF i f = some g) : FrOk g := by
  unfold newF at e
  by_cases c : i ∈ f.1
  · rw [if_pos c] at e; cases e
  · rw [if_neg c] at e
    cases e
    have nd : (f.1 ++ [i]).Nodup := List.nodup_append.mpr ⟨List.Pairwise.imp (fun {a b} h => by omega) h.lab, List.nodup_cons.mpr ⟨(by simp), List.nodup_nil⟩, fun a ha b hb e => by rw [List.mem_singleton.mp hb] at e; exact c (e ▸ ha)⟩
    refine ⟨sI_lt nd, fun x hx => ?_, h.prs, fun q hq => ?_⟩
    · rcases List.mem_append.mp ((sI_perm _).mem_iff.mp hx) with z | z
      · exact h.vx x z
      · rw [List.mem_singleton.mp z]; exact hi
    · exact ⟨(sI_perm _).mem_iff.mpr (List.mem_append_left _ (h.pin q hq).1), (sI_perm _).mem_iff.mpr (List.mem_append_left _ (h.pin q hq).2)⟩
theorem fgtF_ok {i : Int} {f g : Fr} (h : FrOk f) (e : fgtF i f = some g) : FrOk g := by
  unfold fgtF at e
  by_cases c : i ∈ f.1
  · rw [if_pos c] at e
    cases e
    refine ⟨h.lab.filter _, fun x hx => h.vx x ((List.mem_filter.mp hx).1), h.prs.filter _, fun q hq => ?_⟩
    obtain ⟨h1, h2⟩ := List.mem_filter.mp hq
    have h2 := of_decide_eq_true h2
    have z := h.pin q h1
    exact ⟨List.mem_filter.mpr ⟨z.1, decide_eq_true (Ne.symm h2.1)⟩, List.mem_filter.mpr ⟨z.2, decide_eq_true (Ne.symm h2.2)⟩⟩
  · rw [if_neg c] at e; cases e
theorem edgeF_ok {i j : Int} {f g : Fr} (h : FrOk f) (e : edgeF i j f = some g) : FrOk g := by
  unfold edgeF at e
  by_cases c : i ∈ f.1 ∧ j ∈ f.1 ∧ (i, j) ∉ f.2
  · rw [if_pos c] at e
    cases e
    have nd : (f.2 ++ [(i, j)]).Nodup := List.nodup_append.mpr ⟨lex_nodup h.prs, List.nodup_cons.mpr ⟨(by simp), List.nodup_nil⟩, fun a ha b hb e => by rw [List.mem_singleton.mp hb] at e; exact c.2.2 (e ▸ ha)⟩
    refine ⟨h.lab, h.vx, sP_lt nd, fun q hq => ?_⟩
    rcases List.mem_append.mp ((sP_perm _).mem_iff.mp hq) with z | z
    · exact h.pin q z
    · rw [List.mem_singleton.mp z]; exact ⟨c.1, c.2.1⟩
  · rw [if_neg c] at e; cases e
theorem joinF_ok {f f' g : Fr} (h : FrOk f) (h' : FrOk f') (e : joinF f f' = some g) : FrOk g := by
  unfold joinF at e
  by_cases c : f.1 = f'.1 ∧ ∀ q ∈ f'.2, q ∉ f.2
  · rw [if_pos c] at e
    cases e
    have nd : (f.2 ++ f'.2).Nodup := List.nodup_append.mpr ⟨lex_nodup h.prs, lex_nodup h'.prs, fun a ha b hb e => c.2 b hb (e ▸ ha)⟩
    refine ⟨h.lab, h.vx, sP_lt nd, fun q hq => ?_⟩
    rcases List.mem_append.mp ((sP_perm _).mem_iff.mp hq) with z | z
    · exact h.pin q z
    · show q.1 ∈ f.1 ∧ q.2 ∈ f.1
      rw [c.1]
      exact h'.pin q z
  · rw [if_neg c] at e; cases e
theorem emp_ok : FrOk ([], []) := ⟨.nil, (fun x hx => by cases hx), .nil, fun q hq => by cases hq⟩
theorem after_ok {s : Stp} {fs : List Fr} {g : Fr} (hs : s.okk) (h : ∀ f ∈ fs, FrOk f) (e : frameAfter s fs = some g) : FrOk g := by
  match s, fs, e with
  | .emp, _, e => cases e; exact emp_ok
  | .new i, [f], e => exact newF_ok hs (h f (by simp)) e
  | .fgt i, [f], e => exact fgtF_ok (h f (by simp)) e
  | .edge i j, [f], e => exact edgeF_ok (h f (by simp)) e
  | .join, [f, f'], e => exact joinF_ok (h f (by simp)) (h f' (by simp)) e
theorem inDT_at {X : Cx} {A : Around} {K : PySem.W.Frag} (hA : X.A = A) (hK : X.K = K) (hu : A.units + 65 < cLine) : OpR X (compareOp .In) (rInDT K false) := by
  subst hA
  subst hK
  exact op_inDT hu
theorem ints_shaped (l : List Int) : SeqAt.shaped (.tuple (l.map PyData.int)) = true := shaped_T (ints_lay l) (by have := ints_depth l; omega)
theorem ints_eqv : ∀ x y : List Int, PyData.eqvAll (x.map PyData.int) (y.map PyData.int) = decide (x = y)
  | [], [] => by simp [PyData.eqvAll]
  | [], _ :: _ => by simp [PyData.eqvAll]
  | _ :: _, [] => by simp [PyData.eqvAll]
  | a :: x, b :: y => by
    rw [List.map_cons, List.map_cons]
    simp only [PyData.eqvAll, PyData.eqv]
    rw [ints_eqv x y]
    by_cases c : a = b
    · simp [c]
    · simp [c]
theorem intsT_eqv (x y : List Int) : PyData.eqv (.tuple (x.map PyData.int)) (.tuple (y.map PyData.int)) = decide (x = y) := by
  simp only [PyData.eqv]
  exact ints_eqv x y
end Sm

set_option Elab.async false
set_option linter.all false
set_option maxRecDepth 100000
set_option maxHeartbeats 8000000
namespace Sm
open PySem PySem.Spec PyProof.Rows L2
abbrev sFaf : Stmt := topS 10
abbrev sJf : Stmt := topS 11
abbrev sFwl : Stmt := topS 12
abbrev sFol : Stmt := topS 13
abbrev sFwp : Stmt := topS 14
theorem notInS_at {X : Cx} {K : PySem.W.Frag} (hK : X.K = K) : OpR X (compareOp .NotIn) (rIn K true) := by
  subst hK
  exact op_notIn_seq
theorem pDs_shapedT (qs : List Pr) : SeqAt.shaped (.tuple (qs.map pD)) = true := shaped_T (pDs_lay qs) (by have := pDs_depth qs; omega)
theorem pD_shaped (q : Pr) : SeqAt.shaped (pD q) = true := by
  have h := pD_depth q
  unfold SeqAt.shaped
  rw [Bool.and_eq_true]
  exact ⟨pD_lay q, decide_eq_true (by omega)⟩
theorem sqT_put {K : PySem.W.Frag} {H : Hp} {D a : Addr} {zs ws xs : List V} (hD : H D = some (.lst zs)) (h : SqT K H a xs) : SqT K (upd H D (.lst ws)) a xs := by
  rcases h with (h | ⟨o, h⟩) | h
  · exact .inl (.inl (by rw [upd_ne (ne_of h hD (by intro z; cases z))]; exact h))
  · exact .inl (.inr ⟨o, by rw [upd_ne (ne_of h hD (by intro z; cases z))]; exact h⟩)
  · exact .inr h
theorem pairs_map {K : PySem.W.Frag} {H H' : Hp} (m : ∀ (a : Addr) (xs : List V), SqT K H a xs → SqT K H' a xs) : ∀ {as : List Addr} {qs : List Pr}, PairsAt K H as qs → PairsAt K H' as qs
  | _, _, .nil => .nil
  | _, _, .cons h t => .cons (m _ _ h) (pairs_map m t)
theorem pairs_snoc {K : PySem.W.Frag} {H : Hp} {b : Addr} {q : Pr} (hb : SqT K H b [.int q.1, .int q.2]) : ∀ {as : List Addr} {qs : List Pr}, PairsAt K H as qs → PairsAt K H (as ++ [b]) (qs ++ [q])
  | _, _, .nil => .cons hb .nil
  | _, _, .cons h t => .cons h (pairs_snoc hb t)
theorem pairs_app {K : PySem.W.Frag} {H : Hp} : ∀ {as bs : List Addr} {qs rs : List Pr}, PairsAt K H as qs → PairsAt K H bs rs → PairsAt K H (as ++ bs) (qs ++ rs)
  | _, _, _, _, .nil, h => h
  | _, _, _, _, .cons h t, g => .cons h (pairs_app t g)
def spJf (K : PySem.W.Frag) : Sp := fun vs H Q _ => ∃ v1 v2 f g, vs = [v1, v2] ∧ FrV K H v1 f ∧ FrV K H v2 g ∧ FrOk f ∧ FrOk g ∧ ∀ H' v, Same H H' → OptFr K H' v (joinF f g) → Q v H'
def spFwl (K : PySem.W.Frag) : Sp := fun vs H Q _ => ∃ v1 f i, vs = [v1, .int i] ∧ FrV K H v1 f ∧ FrOk f ∧ ∀ H' v, Same H H' → OptFr K H' v (newF i f) → Q v H'
def spFol (K : PySem.W.Frag) : Sp := fun vs H Q _ => ∃ v1 f i, vs = [v1, .int i] ∧ FrV K H v1 f ∧ FrOk f ∧ ∀ H' v, Same H H' → OptFr K H' v (fgtF i f) → Q v H'
def spFwp (K : PySem.W.Frag) : Sp := fun vs H Q _ => ∃ v1 f i j p, vs = [v1, .ref p] ∧ FrV K H v1 f ∧ FrOk f ∧ SqT K H p [.int i, .int j] ∧ ∀ H' v, Same H H' → OptFr K H' v (edgeF i j f) → Q v H'
theorem flat_ints (l : List Int) : (l.map V.int).all flatV = true := by
  rw [List.all_eq_true]
  intro x hx
  obtain ⟨i, _, rfl⟩ := List.mem_map.mp hx
  rfl
theorem inV_ints (i : Int) (l : List Int) : inV (.int i) (l.map V.int) = decide (i ∈ l) := by
  unfold inV
  rw [List.any_map]
  induction l with
  | nil => simp
  | cons a l ih =>
    rw [List.any_cons, ih]
    by_cases c : a = i
    · simp [eqV, c]
    · have c' : ¬ i = a := fun z => c z.symm
      simp [eqV, c, c']
section
variable {P : Program} {w : World} {K : PySem.W.Frag} {mg : Str → Option Value} {base : Heap}
abbrev fwlN : List Str := ["frame", "label", "labels", "pairs"]
theorem scFwl : FnScope fwlN ["frame", "label"] (defScope sFwl) := ⟨rfl, rfl, rfl, by decide +kernel, rfl, by decide +kernel, by decide +kernel⟩
theorem ok_fwl {f : Addr} {fd : FuncData} (F : Fun K "frame_with_label" "frame_with_label" sFwl f fd) (mt : mg "tuple" = none) (ms : mg "sorted" = none) : FnOk P w K mg base CX0 1 f fd ["frame", "label"] (spFwl K) := by
  refine F.ok scFwl (fun vs H Q E h => ?_) (fun cdv A outer s H vs Q E hr h => ?_)
  · obtain ⟨v1, f, i, rfl, _⟩ := h
    rfl
  · obtain ⟨v1, f, i, rfl, ⟨a, t, p, ps, rfl, h1, h2, h3, h4⟩, ok, q⟩ := h
    refine ⟨_, pss_cons (ps_asg (pv 0) (pg_tup (by rfl) (pgs_cons (pg_name (i := 2) scFwl.nd rfl (.inl rfl)) (pgs_cons (pg_name (i := 3) scFwl.nd rfl (.inl rfl)) pgs_nil))))
      (pss_cons (ps_if (pt_cmpR op_in_seq (pv 1) (pv 2) (by rfl)) (pss_one (ps_ret pe_non)) pss_nil)
      (pss_one (ps_ret (pe_tup (pa_cons (pe_callTy call_tuple_of (by rfl) mt (by decide +kernel) (pa_cons (pe_callB cr_sortedI (by rfl) ms (by decide +kernel) (pa_cons (pe_lst (StX.pa_star (pv 2) (pa_cons (pv 1) pa_nil))) pa_nil)) pa_nil)) (pa_cons (pv 3) pa_nil)))))), ?_⟩
    refine ⟨_, rfl, a, _, rfl, h1, rfl, _, _, rfl, _, _, rfl, rfl, ?_⟩
    refine ⟨_, rfl, _, rfl, t, _, rfl, .inr h2, rfl, flat_ints _, _, rfl, ?_⟩
    show (if inV (.int i) (f.1.map V.int) = true then _ else _)
    rw [inV_ints]
    by_cases c : i ∈ f.1
    · refine iteY c ?_
      have e : newF i f = none := if_pos c
      rw [e] at q
      exact q H .non (Same.refl _) rfl
    · refine iteD c ?_
      have e : newF i f = some (sI (f.1 ++ [i]), f.2) := if_neg c
      rw [e] at q
      have l1 := ok.len1
      refine ⟨_, rfl, t, _, rfl, .inl h2, _, rfl, ?_⟩
      refine ⟨by rw [List.length_append, List.length_map]; exact Nat.le_of_lt (small1000 (by simp; omega)), fun l nl => ?_⟩
      have e1 : f.1.map V.int ++ [V.int i] = (f.1 ++ [i]).map V.int := by rw [List.map_append]; rfl
      rw [e1]
      have s1 := same_upd (o := .lst ((f.1 ++ [i]).map V.int)) nl
      refine ⟨l, f.1 ++ [i], rfl, SqL.of upd_same, fun ns' l2 pm srt nl2 => ?_⟩
      rw [sI_eq pm srt]
      have s2 := same_upd (o := .lst ((sI (f.1 ++ [i])).map V.int)) nl2
      refine ⟨l2, _, rfl, .inl ⟨SqL.of upd_same, fun t2 nt2 => ?_⟩⟩
      have s3 := same_upd (o := .tup ((sI (f.1 ++ [i])).map V.int)) nt2
      refine ⟨_, rfl, (by show 2 ≤ sizeLine; decide), fun r nr => ?_⟩
      have s4 := same_upd (o := .tup [V.ref t2, V.ref p]) nr
      have s14 := s1.trans (s2.trans (s3.trans s4))
      exact q _ _ s14 ⟨r, t2, p, ps, rfl, SqT.of upd_same, SqT.of (s4 _ _ upd_same), same_sqT s14 h3, pairs_same s14 h4⟩
abbrev folN : List Str := ["frame", "label", "labels", "pairs", "other", "pair"]
theorem scFol : FnScope folN ["frame", "label"] (defScope sFol) := ⟨rfl, rfl, rfl, by decide +kernel, rfl, by decide +kernel, by decide +kernel⟩
theorem ok_fol {f : Addr} {fd : FuncData} (F : Fun K "frame_without_label" "frame_without_label" sFol f fd) (mt : mg "tuple" = none) : FnOk P w K mg base CX0 1 f fd ["frame", "label"] (spFol K) := by
  refine F.ok scFol (fun vs H Q E h => ?_) (fun cdv A outer s H vs Q E hr h => ?_)
  · obtain ⟨v1, f, i, rfl, _⟩ := h
    rfl
  · obtain ⟨v1, f, i, rfl, ⟨a, t, p, ps, rfl, h1, h2, h3, h4⟩, ok, q⟩ := h
    have hu := u65 hr
    refine ⟨_, pss_cons (ps_asg (pv 0) (pg_tup (by rfl) (pgs_cons (pg_name (i := 2) scFol.nd rfl (.inl rfl)) (pgs_cons (pg_name (i := 3) scFol.nd rfl (.inl rfl)) pgs_nil))))
      (pss_cons (ps_if (pt_cmpR op_notIn_seq (pv 1) (pv 2) (by rfl)) (pss_one (ps_ret pe_non)) pss_nil)
      (pss_one (ps_ret (pe_tup (pa_cons (pe_callTy call_tuple_of (by rfl) mt (by decide +kernel) (pa_cons (pe_lc (own := [("other", 4)]) (g := gName 4) (by rfl) scFol.nd (pi_tup (pv 2)) (blkOk_by (own := [("other", 4)]) (N := folN) (sc := defScope sFol) (by decide +kernel))
          (fun _ _ _ _ _ => pg_name (i := 4) scFol.nd rfl (Or.inl rfl)) (fun _ _ _ _ _ => pts_one (pt_cmpR op_ne (pv 4) (pv 1) (nomark _))) (fun _ _ _ _ _ => pv 4)) pa_nil))
        (pa_cons (pe_callTy call_tuple_of (by rfl) mt (by decide +kernel) (pa_cons (pe_lc (own := [("pair", 5)]) (g := gName 5) (by rfl) scFol.nd (pi_tup (pv 3)) (blkOk_by (own := [("pair", 5)]) (N := folN) (sc := defScope sFol) (by decide +kernel))
          (fun _ _ _ _ _ => pg_name (i := 5) scFol.nd rfl (Or.inl rfl)) (fun _ _ _ _ _ => pts_one (pt_cmpR (notInS_at (K := K) rfl) (pv 1) (pv 5) (by rfl))) (fun _ _ _ _ _ => pv 5)) pa_nil)) pa_nil)))))), ?_⟩
    refine ⟨_, rfl, a, _, rfl, h1, rfl, _, _, rfl, _, _, rfl, rfl, ?_⟩
    refine ⟨_, rfl, _, rfl, t, _, rfl, .inr h2, rfl, flat_ints _, _, rfl, ?_⟩
    show (if (!inV (.int i) (f.1.map V.int)) = true then _ else _)
    rw [inV_ints]
    by_cases c : i ∈ f.1
    · rw [decide_eq_true c]
      refine iteF ?_
      have e : fgtF i f = some (f.1.filter fun x => decide (x ≠ i), f.2.filter fun q => decide (i ≠ q.1 ∧ i ≠ q.2)) := if_pos c
      rw [e] at q
      have l1 := ok.len1
      have l2 := ok.len2
      refine ⟨_, rfl, t, rfl, ⟨_, h2⟩, fun D nD => ?_⟩
      refine lc_tup (K := K) (a := t) (xs := f.1.map V.int) (fun j H' => Same H H' ∧ H' D = some (.lst (((f.1.take j).filter fun x => decide (x ≠ i)).map V.int))) ⟨same_upd nD, upd_same⟩ (fun j H' _ h => same_sqT h.1 h2) ?_ ?_
      · rintro j x H' hx ⟨sm, hD⟩
        rw [List.getElem?_map] at hx
        cases ex : f.1[j]? with
        | none => rw [ex] at hx; cases hx
        | some y =>
          rw [ex] at hx
          cases hx
          refine ⟨rfl, ?_⟩
          have tk : f.1.take (j + 1) = f.1.take j ++ [y] := L2.take_next ex
          have lj : ((f.1.take j).filter fun x => decide (x ≠ i)).length ≤ 13 := Nat.le_trans (List.length_filter_le _ _) (by rw [List.length_take]; omega)
          refine ⟨_, rfl, _, rfl, rfl, _, rfl, ?_⟩
          by_cases ce : y = i
          · refine iteNS (congrArg V.int ce) ⟨sm, ?_⟩
            rw [hD, tk, List.filter_append, List.filter_cons_of_neg (by simp [ce]), List.filter_nil, List.append_nil]
          · refine iteN (fun z => ce (V.int.inj z)) ⟨_, rfl, _, hD, by rw [List.length_map]; exact small1000 (by omega), same_put sm nD, ?_⟩
            rw [upd_same, tk, List.filter_append, List.filter_cons_of_pos (by simp [ce]), List.filter_nil, List.map_append]
            rfl
      · rintro H1 ⟨s1, hD⟩
        rw [List.length_map, List.take_length] at hD
        refine ⟨D, _, rfl, .inl ⟨SqL.of hD, fun t2 nt2 => ?_⟩⟩
        have s2 := same_upd (o := .tup ((f.1.filter fun x => decide (x ≠ i)).map V.int)) nt2
        have ht2 : (upd H1 t2 (.tup ((f.1.filter fun x => decide (x ≠ i)).map V.int))) t2 = some (.tup ((f.1.filter fun x => decide (x ≠ i)).map V.int)) := upd_same
        generalize (upd H1 t2 (.tup ((f.1.filter fun x => decide (x ≠ i)).map V.int))) = H2 at s2 ht2 ⊢
        have s02 := s1.trans s2
        have h3' := same_sqT s02 h3
        have h4' := pairs_same s02 h4
        refine ⟨_, rfl, p, rfl, ⟨_, h3'⟩, fun D2 nD2 => ?_⟩
        refine lc_tup (K := K) (a := p) (xs := ps.map V.ref) (fun j H' => Same H2 H' ∧ ∃ as : List Addr, H' D2 = some (.lst (as.map V.ref)) ∧ PairsAt K H' as ((f.2.take j).filter fun q => decide (i ≠ q.1 ∧ i ≠ q.2)) ∧ as.length ≤ j) ⟨same_upd nD2, [], upd_same, .nil, Nat.le_refl _⟩ (fun j H' _ h => same_sqT h.1 h3') ?_ ?_
        · rintro j x H' hx ⟨sm, as, hD2, pa, la⟩
          rw [List.getElem?_map] at hx
          cases ex : ps[j]? with
          | none => rw [ex] at hx; cases hx
          | some b =>
            rw [ex] at hx
            cases hx
            obtain ⟨pq, hq, hb⟩ := h4'.get ex
            have tk : f.2.take (j + 1) = f.2.take j ++ [pq] := L2.take_next hq
            have jl : j < f.2.length := (List.getElem?_eq_some_iff.mp hq).1
            have hb' := same_sqT sm hb
            refine ⟨rfl, _, rfl, _, rfl, b, _, rfl, .inr hb', rfl, rfl, _, rfl, ?_⟩
            have ei : inV (V.int i) [V.int pq.1, V.int pq.2] = !decide (i ≠ pq.1 ∧ i ≠ pq.2) := by
              by_cases c1 : i = pq.1
              · simp [inV, eqV, c1]
              · have c1' : ¬ pq.1 = i := fun z => c1 z.symm
                by_cases c2 : i = pq.2
                · simp [inV, eqV, c1, c1', c2]
                · have c2' : ¬ pq.2 = i := fun z => c2 z.symm
                  simp [inV, eqV, c1, c1', c2, c2']
            show (if (!inV (V.int i) [V.int pq.1, V.int pq.2]) = true then _ else _)
            rw [ei, Bool.not_not]
            by_cases cq : i ≠ pq.1 ∧ i ≠ pq.2
            · refine iteY cq ⟨_, rfl, _, hD2, by rw [List.length_map]; exact small1000 (by omega), same_put sm nD2, as ++ [b], ?_, ?_, by rw [List.length_append]; exact Nat.succ_le_succ la⟩
              · rw [upd_same, List.map_append]
                rfl
              · have fe : ([pq] : List Pr).filter (fun q => decide (i ≠ q.1 ∧ i ≠ q.2)) = [pq] := by simp [List.filter, cq.1, cq.2]
                rw [tk, List.filter_append, fe]
                have sb : ∀ (a : Addr) (xs : List V), SqT K H' a xs → SqT K (upd H' D2 (.lst (as.map V.ref ++ [.ref b]))) a xs := fun a xs h => sqT_put hD2 h
                exact pairs_snoc (sb _ _ hb') (pairs_map sb pa)
            · refine iteD cq ⟨sm, as, hD2, ?_, Nat.le_succ_of_le la⟩
              rw [tk, List.filter_append, List.filter_cons_of_neg (by rw [decide_eq_false cq]; decide), List.filter_nil, List.append_nil]
              exact pa
        · rintro H3 ⟨s3, as, hD2, pa, la⟩
          rw [List.length_map, h4'.length, List.take_length] at pa
          refine ⟨D2, _, rfl, .inl ⟨SqL.of hD2, fun t4 nt4 => ?_⟩⟩
          have s4 := same_upd (o := .tup (as.map V.ref)) nt4
          refine ⟨(by show 2 ≤ sizeLine; decide), fun r nr => ?_⟩
          have s5 := same_upd (o := .tup [V.ref t2, V.ref t4]) nr
          have s25 := s3.trans (s4.trans s5)
          exact q _ _ (s02.trans s25) ⟨r, t2, t4, as, rfl, SqT.of upd_same, SqT.of (s25 _ _ ht2), SqT.of (s5 _ _ upd_same), pairs_same (s4.trans s5) pa⟩
    · rw [decide_eq_false c]
      refine iteT ?_
      have e : fgtF i f = none := if_neg c
      rw [e] at q
      exact q H .non (Same.refl _) rfl
abbrev fwpN : List Str := ["frame", "pair", "labels", "pairs"]
theorem scFwp : FnScope fwpN ["frame", "pair"] (defScope sFwp) := ⟨rfl, rfl, rfl, by decide +kernel, rfl, by decide +kernel, by decide +kernel⟩
theorem ok_fwp {f : Addr} {fd : FuncData} (F : Fun K "frame_with_pair" "frame_with_pair" sFwp f fd) (mt : mg "tuple" = none) (ms : mg "sorted" = none) : FnOk P w K mg base CX0 1 f fd ["frame", "pair"] (spFwp K) := by
  refine F.ok scFwp (fun vs H Q E h => ?_) (fun cdv A outer s H vs Q E hr h => ?_)
  · obtain ⟨v1, f, i, j, b, rfl, _⟩ := h
    rfl
  · obtain ⟨v1, f, i, j, b, rfl, ⟨a, t, p, ps, rfl, h1, h2, h3, h4⟩, ok, hb, q⟩ := h
    have hu := u65 hr
    refine ⟨_, pss_cons (ps_asg (pv 0) (pg_tup (by rfl) (pgs_cons (pg_name (i := 2) scFwp.nd rfl (.inl rfl)) (pgs_cons (pg_name (i := 3) scFwp.nd rfl (.inl rfl)) pgs_nil))))
      (pss_cons (ps_if (PW.pt (pw_or (pt_cmpR op_notIn_seq (pe_ix ix_tup (pv 1) pe_int (fun _ _ => rfl)) (pv 2) (by rfl)) (pw_or (pt_cmpR op_notIn_seq (pe_ix ix_tup (pv 1) pe_int (fun _ _ => rfl)) (pv 2) (by rfl)) (pw_or1 (pt_cmpR (op_inDT hu) (pv 1) (pv 3) (by rfl)))))) (pss_one (ps_ret pe_non)) pss_nil)
      (pss_one (ps_ret (pe_tup (pa_cons (pv 2) (pa_cons (pe_callTy call_tuple_of (by rfl) mt (by decide +kernel) (pa_cons (pe_callB cr_sortedPE (by rfl) ms (by decide +kernel) (pa_cons (pe_lst (StX.pa_star (pv 3) (pa_cons (pv 1) pa_nil))) pa_nil)) pa_nil)) pa_nil)))))), ?_⟩
    refine ⟨_, rfl, a, _, rfl, h1, rfl, _, _, rfl, _, _, rfl, rfl, ?_⟩
    have l1 := ok.len1
    have l2 := ok.len2
    have no : ¬ (i ∈ f.1 ∧ j ∈ f.1 ∧ (i, j) ∉ f.2) → Q V.non H := fun c => by
      have e : edgeF i j f = none := if_neg c
      rw [e] at q
      exact q H .non (Same.refl _) rfl
    refine ⟨_, rfl, b, _, 0, _, rfl, rfl, hb, atI_nat (j := 0) rfl, _, rfl, t, _, rfl, .inr h2, rfl, flat_ints _, _, rfl, ?_⟩
    show (if (!inV (.int i) (f.1.map V.int)) = true then _ else _)
    rw [inV_ints]
    rcases (Classical.em (i ∈ f.1)).symm with c1 | c1
    · rw [decide_eq_false c1]
      exact iteT (iteT (no fun z => c1 z.1))
    rw [decide_eq_true c1]
    refine iteF ?_
    refine ⟨_, rfl, b, _, 1, _, rfl, rfl, hb, atI_nat (j := 1) rfl, _, rfl, t, _, rfl, .inr h2, rfl, flat_ints _, _, rfl, ?_⟩
    show (if (!inV (.int j) (f.1.map V.int)) = true then _ else _)
    rw [inV_ints]
    rcases (Classical.em (j ∈ f.1)).symm with c2 | c2
    · rw [decide_eq_false c2]
      exact iteT (iteT (no fun z => c2 z.2.1))
    rw [decide_eq_true c2]
    refine iteF ?_
    refine ⟨_, rfl, _, rfl, pD (i, j), f.2.map pD, dp_pair hb, .tup h3 (dp_pairs h4), pD_shaped _, pDs_shapedT _, _, rfl, ?_⟩
    show (if ((f.2.map pD).any fun z => PyData.eqv z (pD (i, j))) = true then _ else _)
    rw [pDs_any]
    by_cases c3 : (i, j) ∈ f.2
    · rw [decide_eq_true c3]
      exact iteT (no fun z => z.2.2 c3)
    rw [decide_eq_false c3]
    refine iteF ?_
    have e : edgeF i j f = some (f.1, sP (f.2 ++ [(i, j)])) := if_pos ⟨c1, c2, c3⟩
    rw [e] at q
    have lp : ps.length = f.2.length := h4.length
    refine ⟨_, rfl, _, rfl, p, _, rfl, .inl h3, _, rfl, ?_⟩
    refine ⟨by rw [List.length_append, List.length_map]; exact Nat.le_of_lt (small1000 (by simp; omega)), fun l nl => ?_⟩
    have e1 : ps.map V.ref ++ [V.ref b] = (ps ++ [b]).map V.ref := by rw [List.map_append]; rfl
    rw [e1]
    have s1 := same_upd (o := .lst ((ps ++ [b]).map V.ref)) nl
    refine ⟨l, ps ++ [b], f.2 ++ [(i, j)], rfl, SqL.of upd_same, pairs_snoc (q := (i, j)) (same_sqT s1 hb) (pairs_same s1 h4), fun as' es' l3 pa pm srt nl3 => ?_⟩
    rw [sP_eq pm srt] at pa
    have s2 := same_upd (o := .lst (as'.map V.ref)) nl3
    refine ⟨l3, _, rfl, .inl ⟨SqL.of upd_same, fun t2 nt2 => ?_⟩⟩
    have s3 := same_upd (o := .tup (as'.map V.ref)) nt2
    refine ⟨(by show 2 ≤ sizeLine; decide), fun r nr => ?_⟩
    have s4 := same_upd (o := .tup [V.ref t, V.ref t2]) nr
    have s14 := s1.trans (s2.trans (s3.trans s4))
    exact q _ _ s14 ⟨r, t, t2, as', rfl, SqT.of upd_same, same_sqT s14 h2, SqT.of (s4 _ _ upd_same), pairs_same (s2.trans (s3.trans s4)) pa⟩
abbrev jfN : List Str := ["first", "second", "labels", "pairs", "pair"]
theorem scJf : FnScope jfN ["first", "second"] (defScope sJf) := ⟨rfl, rfl, rfl, by decide +kernel, rfl, by decide +kernel, by decide +kernel⟩
theorem ok_jf {f : Addr} {fd : FuncData} (F : Fun K "joined_frame" "joined_frame" sJf f fd) (mt : mg "tuple" = none) (ms : mg "sorted" = none) (ma : mg "any" = none) : FnOk P w K mg base CX0 1 f fd ["first", "second"] (spJf K) := by
  refine F.ok scJf (fun vs H Q E h => ?_) (fun cdv A outer s H vs Q E hr h => ?_)
  · obtain ⟨v1, v2, f, g, rfl, _⟩ := h
    rfl
  · obtain ⟨v1, v2, f, g, rfl, ⟨a, t, p, ps, rfl, h1, h2, h3, h4⟩, ⟨a', t', p', ps', rfl, g1, g2, g3, g4⟩, ok, okg, q⟩ := h
    have hu := u65 hr
    refine ⟨_, pss_cons (ps_asg (pv 0) (pg_tup (by rfl) (pgs_cons (pg_name (i := 2) scJf.nd rfl (.inl rfl)) (pgs_cons (pg_name (i := 3) scJf.nd rfl (.inr rfl)) pgs_nil))))
      (pss_cons (ps_if (PW.pt (pw_or (pt_cmpR (op_neD hr.units) (pv 2) (pe_ix ix_tup (pv 1) pe_int (fun _ _ => rfl)) (nomark _)) (pw_or1 (pt_val (pe_callB (cr_any rfl) (by rfl) ma (by decide +kernel) (pa_cons (pe_lc (own := [("pair", 4)]) (g := gName 4) (by rfl) scJf.nd (pi_tup (pe_ix ix_tup (pv 1) pe_int (fun _ _ => rfl))) (blkOk_by (own := [("pair", 4)]) (N := jfN) (sc := defScope sJf) (by decide +kernel))
          (fun _ _ _ _ _ => pg_name (i := 4) scJf.nd rfl (Or.inl rfl)) (fun _ _ _ _ _ => pts_nil) (fun _ _ _ _ _ => pe_cmpR (inDT_at rfl rfl hu) (pv 4) (pv 3) (by rfl))) pa_nil)))))) (pss_one (ps_ret pe_non)) pss_nil)
      (pss_one (ps_ret (pe_tup (pa_cons (pv 2) (pa_cons (pe_callTy call_tuple_of (by rfl) mt (by decide +kernel) (pa_cons (pe_callB cr_sortedPE (by rfl) ms (by decide +kernel) (pa_cons (pe_lst (StX.pa_star (pv 3) (StX.pa_star (pe_ix ix_tup (pv 1) pe_int (fun _ _ => rfl)) pa_nil))) pa_nil)) pa_nil)) pa_nil)))))), ?_⟩
    refine ⟨_, rfl, a, _, rfl, h1, rfl, _, _, rfl, _, _, rfl, rfl, ?_⟩
    have l2 := ok.len2
    have l3 := okg.len2
    have lp : ps.length = f.2.length := h4.length
    have lp' : ps'.length = g.2.length := g4.length
    refine ⟨_, rfl, _, rfl, a', _, 0, _, rfl, rfl, g1, atI_nat (j := 0) rfl, .tuple (f.1.map PyData.int), .tuple (g.1.map PyData.int), .tup h2 (dp_ints _), .tup g2 (dp_ints _), ints_shaped _, ints_shaped _, _, rfl, ?_⟩
    rw [intsT_eqv]
    rcases (Classical.em (f.1 = g.1)).symm with c1 | c1
    · rw [decide_eq_false c1]
      have e : joinF f g = none := if_neg fun z => c1 z.1
      rw [e] at q
      exact iteT (iteT (q H .non (Same.refl _) rfl))
    rw [decide_eq_true c1]
    refine iteF ?_
    refine ⟨_, rfl, a', _, 1, .ref p', rfl, rfl, g1, atI_nat (j := 1) rfl, p', rfl, ⟨_, g3⟩, fun D nD => ?_⟩
    refine lc_tup (K := K) (a := p') (xs := ps'.map V.ref) (fun j H' => Same H H' ∧ H' D = some (.lst (((g.2.take j).map fun q => decide (q ∈ f.2)).map V.bl))) ⟨same_upd nD, upd_same⟩ (fun j H' _ h => same_sqT h.1 g3) ?_ ?_
    · rintro j x H' hx ⟨sm, hD⟩
      rw [List.getElem?_map] at hx
      cases ex : ps'[j]? with
      | none => rw [ex] at hx; cases hx
      | some b =>
        rw [ex] at hx
        cases hx
        obtain ⟨pq, hq, hb⟩ := g4.get ex
        have tk : g.2.take (j + 1) = g.2.take j ++ [pq] := L2.take_next hq
        have jl : j < g.2.length := (List.getElem?_eq_some_iff.mp hq).1
        refine ⟨rfl, _, rfl, _, rfl, pD pq, f.2.map pD, dp_pair (same_sqT sm hb), .tup (same_sqT sm h3) (dp_pairs (pairs_same sm h4)), pD_shaped _, pDs_shapedT _, _, hD, by rw [List.length_map, List.length_map, List.length_take]; exact small1000 (by omega), same_put sm nD, ?_⟩
        rw [upd_same, tk, List.map_append, List.map_append]
        show some (HO.lst (_ ++ [V.bl ((f.2.map pD).any fun z => PyData.eqv z (pD pq))])) = _
        rw [pDs_any]
        rfl
    · rintro H1 ⟨s1, hD⟩
      rw [List.length_map, lp', List.take_length] at hD
      refine ⟨D, _, rfl, SqL.of hD, _, rfl, ?_⟩
      have h2' := same_sqT s1 h2
      have h3' := same_sqT s1 h3
      have h4' := pairs_same s1 h4
      have g1' := same_sqT s1 g1
      have g3' := same_sqT s1 g3
      have g4' := pairs_same s1 g4
      by_cases c2 : ∀ q ∈ g.2, q ∉ f.2
      · have ea : ((g.2.map fun q => decide (q ∈ f.2)).any id) = false := by
          rw [List.any_eq_false]
          intro b hb
          obtain ⟨q, hq, rfl⟩ := List.mem_map.mp hb
          rw [decide_eq_false (c2 q hq)]
          decide
        rw [ea]
        refine iteF ?_
        have e : joinF f g = some (f.1, sP (f.2 ++ g.2)) := if_pos ⟨c1, c2⟩
        rw [e] at q
        refine ⟨_, rfl, _, rfl, p, _, rfl, .inl h3', _, rfl, a', _, 1, .ref p', rfl, rfl, g1', atI_nat (j := 1) rfl, p', _, rfl, .inl g3', ?_⟩
        refine ⟨by rw [List.length_append, List.append_nil, List.length_map, List.length_map]; exact Nat.le_of_lt (small1000 (by omega)), fun l nl => ?_⟩
        have e1 : ps.map V.ref ++ (ps'.map V.ref ++ []) = (ps ++ ps').map V.ref := by rw [List.map_append, List.append_nil]
        rw [e1]
        have s2 := same_upd (o := .lst ((ps ++ ps').map V.ref)) nl
        refine ⟨l, ps ++ ps', f.2 ++ g.2, rfl, SqL.of upd_same, pairs_app (pairs_same s2 h4') (pairs_same s2 g4'), fun as' es' l3 pa pm srt nl3 => ?_⟩
        rw [sP_eq pm srt] at pa
        have s3 := same_upd (o := .lst (as'.map V.ref)) nl3
        refine ⟨l3, _, rfl, .inl ⟨SqL.of upd_same, fun t2 nt2 => ?_⟩⟩
        have s4 := same_upd (o := .tup (as'.map V.ref)) nt2
        refine ⟨(by show 2 ≤ sizeLine; decide), fun r nr => ?_⟩
        have s5 := same_upd (o := .tup [V.ref t, V.ref t2]) nr
        have s25 := s2.trans (s3.trans (s4.trans s5))
        exact q _ _ (s1.trans s25) ⟨r, t, t2, as', rfl, SqT.of upd_same, same_sqT s25 h2', SqT.of (s5 _ _ upd_same), pairs_same (s3.trans (s4.trans s5)) pa⟩
      · have ea : ((g.2.map fun q => decide (q ∈ f.2)).any id) = true := by
          rw [List.any_eq_true]
          have ⟨q, hq⟩ := Classical.not_forall.mp c2
          have ⟨h1, h2⟩ := Classical.not_imp.mp hq
          exact ⟨_, List.mem_map.mpr ⟨q, h1, rfl⟩, decide_eq_true (Classical.not_not.mp h2)⟩
        rw [ea]
        have e : joinF f g = none := if_neg fun z => c2 z.2
        rw [e] at q
        exact iteT (q _ .non s1 rfl)
end
end Sm

set_option Elab.async false
set_option linter.all false
set_option maxRecDepth 100000
set_option maxHeartbeats 8000000
namespace Sm
open PySem PySem.Spec PyProof.Rows L2
abbrev FrsV (K : PySem.W.Frag) (H : Hp) : List V → List Fr → Prop := Paired (FrV K H)
theorem frs_same {K : PySem.W.Frag} {H H' : Hp} (s : Same H H') : ∀ {vs : List V} {fs : List Fr}, FrsV K H vs fs → FrsV K H' vs fs
  | _, _, .nil => .nil
  | _, _, .cons h t => .cons (h.same s) (frs_same s t)
theorem one_of {K : PySem.W.Frag} {H : Hp} {vs : List V} {fs : List Fr} (h : FrsV K H vs fs) (e : fs.length = 1) : ∃ v f, vs = [v] ∧ fs = [f] ∧ FrV K H v f := by
  cases h with
  | nil => cases e
  | cons h t =>
    cases t with
    | nil => exact ⟨_, _, rfl, rfl, h⟩
    | cons _ _ => cases e
theorem two_of {K : PySem.W.Frag} {H : Hp} {vs : List V} {fs : List Fr} (h : FrsV K H vs fs) (e : fs.length = 2) : ∃ v w f g, vs = [v, w] ∧ fs = [f, g] ∧ FrV K H v f ∧ FrV K H w g := by
  cases h with
  | nil => cases e
  | cons h t =>
    cases t with
    | nil => cases e
    | cons g t =>
      cases t with
      | nil => exact ⟨_, _, _, _, rfl, rfl, h, g⟩
      | cons _ _ => cases e
def spFaf (K : PySem.W.Frag) : Sp := fun vs H Q _ => ∃ v t s fvs fs, vs = [v, .ref t] ∧ StV K H v s ∧ SqL K H t fvs ∧ FrsV K H fvs fs ∧ fs.length = s.many ∧ (∀ f ∈ fs, FrOk f) ∧ ∀ H' v, Same H H' → OptFr K H' v (frameAfter s fs) → Q v H'
section
variable {P : Program} {w : World} {K : PySem.W.Frag} {mg : Str → Option Value} {base : Heap}
theorem scFaf : FnScope ["step", "taken"] ["step", "taken"] (defScope sFaf) := ⟨rfl, rfl, rfl, by decide +kernel, rfl, by decide +kernel, by decide +kernel⟩
theorem ok_faf {f fJ fL fO fP : Addr} {fd fdJ fdL fdO fdP : FuncData} (F : Fun K "frame_after" "frame_after" sFaf f fd)
    (GJ : FnOk P w K mg base CX0 1 fJ fdJ ["first", "second"] (spJf K)) (kJ : PySem.W.keepIn K (.ref fJ) = true) (bJ : Binds K fdJ ["first", "second"] []) (gJ : mg "joined_frame" = some (.ref fJ))
    (GL : FnOk P w K mg base CX0 1 fL fdL ["frame", "label"] (spFwl K)) (kL : PySem.W.keepIn K (.ref fL) = true) (bL : Binds K fdL ["frame", "label"] []) (gL : mg "frame_with_label" = some (.ref fL))
    (GO : FnOk P w K mg base CX0 1 fO fdO ["frame", "label"] (spFol K)) (kO : PySem.W.keepIn K (.ref fO) = true) (bO : Binds K fdO ["frame", "label"] []) (gO : mg "frame_without_label" = some (.ref fO))
    (GP : FnOk P w K mg base CX0 1 fP fdP ["frame", "pair"] (spFwp K)) (kP : PySem.W.keepIn K (.ref fP) = true) (bP : Binds K fdP ["frame", "pair"] []) (gP : mg "frame_with_pair" = some (.ref fP)) :
    FnOk P w K mg base CX0 2 f fd ["step", "taken"] (spFaf K) := by
  refine F.ok scFaf (fun vs H Q E h => ?_) (fun cdv A outer s H vs Q E hr h => ?_)
  · obtain ⟨v, t, x, fvs, fs, rfl, _⟩ := h
    rfl
  · obtain ⟨v, t, x, fvs, fs, rfl, ⟨a, rfl, hv⟩, hT, hF, hl, ok, q⟩ := h
    refine ⟨_, pss_cons (ps_if (pt_cmpR op_eq (pe_ix ix_tup (pv 0) pe_int (fun _ _ => rfl)) pe_str (nomark _)) (pss_one (ps_ret (pe_tup (pa_cons (pe_tup pa_nil) (pa_cons (pe_tup pa_nil) pa_nil))))) pss_nil)
      (pss_cons (ps_if (pt_cmpR op_eq (pe_ix ix_tup (pv 0) pe_int (fun _ _ => rfl)) pe_str (nomark _)) (pss_one (ps_ret (pe_call GJ hr (by rfl) gJ kJ bJ .nil pass0 (pa_cons (pe_ix ix_list (pv 1) pe_int (fun _ _ => rfl)) (pa_cons (pe_ix ix_list (pv 1) pe_int (fun _ _ => rfl)) pa_nil))))) pss_nil)
      (pss_cons (ps_if (pt_cmpR op_eq (pe_ix ix_tup (pv 0) pe_int (fun _ _ => rfl)) pe_str (nomark _)) (pss_one (ps_ret (pe_call GL hr (by rfl) gL kL bL .nil pass0 (pa_cons (pe_ix ix_list (pv 1) pe_int (fun _ _ => rfl)) (pa_cons (pe_ix ix_tup (pv 0) pe_int (fun _ _ => rfl)) pa_nil))))) pss_nil)
      (pss_cons (ps_if (pt_cmpR op_eq (pe_ix ix_tup (pv 0) pe_int (fun _ _ => rfl)) pe_str (nomark _)) (pss_one (ps_ret (pe_call GO hr (by rfl) gO kO bO .nil pass0 (pa_cons (pe_ix ix_list (pv 1) pe_int (fun _ _ => rfl)) (pa_cons (pe_ix ix_tup (pv 0) pe_int (fun _ _ => rfl)) pa_nil))))) pss_nil)
      (pss_one (ps_ret (pe_call GP hr (by rfl) gP kP bP .nil pass0 (pa_cons (pe_ix ix_list (pv 1) pe_int (fun _ _ => rfl)) (pa_cons (pe_slice sl_tupA (pv 0) (po_some pe_int) po_none) pa_nil)))))))), ?_⟩
    cases x with
    | emp =>
      refine ⟨_, rfl, a, _, 0, _, rfl, rfl, hv, atI_nat (j := 0) rfl, rfl, _, rfl, iteY rfl ?_⟩
      refine ⟨(by show 0 ≤ sizeLine; decide), fun t1 nt1 => ⟨(by show 0 ≤ sizeLine; decide), fun t2 nt2 => ⟨(by show 2 ≤ sizeLine; decide), fun r nr => ?_⟩⟩⟩
      have s1 := same_upd (o := .tup []) nt1
      have s2 := same_upd (o := .tup []) nt2
      have s3 := same_upd (o := .tup [V.ref t1, V.ref t2]) nr
      exact q _ _ (s1.trans (s2.trans s3)) ⟨r, t1, t2, [], rfl, SqT.of upd_same, SqT.of (s3 _ _ (s2 _ _ upd_same)), SqT.of (s3 _ _ upd_same), .nil⟩
    | join =>
      have hv' : SqT K H a [.str "join"] := hv
      refine ⟨_, rfl, a, _, 0, _, rfl, rfl, hv', atI_nat (j := 0) rfl, rfl, _, rfl, ?_⟩
      refine iteD (by decide +kernel) ?_
      refine ⟨_, rfl, a, _, 0, _, rfl, rfl, hv', atI_nat (j := 0) rfl, rfl, _, rfl, ?_⟩
      refine iteY rfl ?_
      obtain ⟨v1, v2, f1, f2, rfl, rfl, h1, h2⟩ := two_of hF hl
      refine ⟨_, rfl, t, _, 0, v1, rfl, rfl, hT, atI_nat (j := 0) rfl, ?_⟩
      refine ⟨_, rfl, t, _, 1, v2, rfl, rfl, hT, atI_nat (j := 1) rfl, ?_⟩
      exact ⟨v1, v2, f1, f2, rfl, h1, h2, ok f1 (by simp), ok f2 (by simp), q⟩
    | new i =>
      obtain ⟨v1, f1, rfl, rfl, h1⟩ := one_of hF hl
      have hv' : SqT K H a [.str "new", .int i] := hv
      refine ⟨_, rfl, a, _, 0, _, rfl, rfl, hv', atI_nat (j := 0) rfl, rfl, _, rfl, ?_⟩
      refine iteD (by decide +kernel) ?_
      refine ⟨_, rfl, a, _, 0, _, rfl, rfl, hv', atI_nat (j := 0) rfl, rfl, _, rfl, ?_⟩
      refine iteD (by decide +kernel) ?_
      refine ⟨_, rfl, a, _, 0, _, rfl, rfl, hv', atI_nat (j := 0) rfl, rfl, _, rfl, ?_⟩
      refine iteY rfl ?_
      refine ⟨_, rfl, t, _, 0, v1, rfl, rfl, hT, atI_nat (j := 0) rfl, ?_⟩
      refine ⟨_, rfl, a, _, 1, .int i, rfl, rfl, hv', atI_nat (j := 1) rfl, ?_⟩
      exact ⟨v1, f1, i, rfl, h1, ok f1 (by simp), q⟩
    | fgt i =>
      obtain ⟨v1, f1, rfl, rfl, h1⟩ := one_of hF hl
      have hv' : SqT K H a [.str "forget", .int i] := hv
      refine ⟨_, rfl, a, _, 0, _, rfl, rfl, hv', atI_nat (j := 0) rfl, rfl, _, rfl, ?_⟩
      refine iteD (by decide +kernel) ?_
      refine ⟨_, rfl, a, _, 0, _, rfl, rfl, hv', atI_nat (j := 0) rfl, rfl, _, rfl, ?_⟩
      refine iteD (by decide +kernel) ?_
      refine ⟨_, rfl, a, _, 0, _, rfl, rfl, hv', atI_nat (j := 0) rfl, rfl, _, rfl, ?_⟩
      refine iteD (by decide +kernel) ?_
      refine ⟨_, rfl, a, _, 0, _, rfl, rfl, hv', atI_nat (j := 0) rfl, rfl, _, rfl, ?_⟩
      refine iteY rfl ?_
      refine ⟨_, rfl, t, _, 0, v1, rfl, rfl, hT, atI_nat (j := 0) rfl, ?_⟩
      refine ⟨_, rfl, a, _, 1, .int i, rfl, rfl, hv', atI_nat (j := 1) rfl, ?_⟩
      exact ⟨v1, f1, i, rfl, h1, ok f1 (by simp), q⟩
    | edge i j =>
      obtain ⟨v1, f1, rfl, rfl, h1⟩ := one_of hF hl
      have hv' : SqT K H a [.str "edge", .int i, .int j] := hv
      refine ⟨_, rfl, a, _, 0, _, rfl, rfl, hv', atI_nat (j := 0) rfl, rfl, _, rfl, ?_⟩
      refine iteD (by decide +kernel) ?_
      refine ⟨_, rfl, a, _, 0, _, rfl, rfl, hv', atI_nat (j := 0) rfl, rfl, _, rfl, ?_⟩
      refine iteD (by decide +kernel) ?_
      refine ⟨_, rfl, a, _, 0, _, rfl, rfl, hv', atI_nat (j := 0) rfl, rfl, _, rfl, ?_⟩
      refine iteD (by decide +kernel) ?_
      refine ⟨_, rfl, a, _, 0, _, rfl, rfl, hv', atI_nat (j := 0) rfl, rfl, _, rfl, ?_⟩
      refine iteD (by decide +kernel) ?_
      refine ⟨_, rfl, t, _, 0, v1, rfl, rfl, hT, atI_nat (j := 0) rfl, ?_⟩
      refine ⟨_, rfl, 1, rfl, a, _, rfl, hv', (fun e => by have e1 := e.1; rw [show (1 : Int) = ((1 : Nat) : Int) from rfl, HT.sIx_nat] at e1; simp at e1), fun _ p np => ?_⟩
      rw [cut_tail]
      have s1 := same_upd (o := .tup [V.int i, V.int j]) np
      exact ⟨v1, f1, i, j, p, rfl, h1.same s1, ok f1 (by simp), SqT.of upd_same, fun H' v s2 h => q H' v (s1.trans s2) h⟩
end
end Sm

set_option Elab.async false
set_option linter.all false
set_option maxRecDepth 100000
set_option maxHeartbeats 8000000
namespace Sm
open PySem PySem.Spec PyProof.Rows L2
/-! ### exceptions with a field, of which is known that their context is None -/
section
variable {P : Program} {w : World} {K : PySem.W.Frag} {mg : Str → Option Value} {base : Heap}
theorem okXN {x qual : Str} {st : Stmt} {f : Addr} {fd : FuncData} {N ps : List Str} {k : Nat} {sp : Sp} (F : Fun K x qual st f fd) (S : FnScope N ps (defScope st)) (len : ∀ vs H Q E, sp vs H Q E → vs.length = ps.length)
    (body : ∀ (cdv : Value) (A : Around) (outer : List Env) (s : Shared) (H : Hp) (vs : List V) (Q : VK) (E : XK), Room k (A.deeper (envOfC qual (defScope st) s.heap.objs.size f cdv)) → sp vs H Q E →
      ∃ t, PSs (cxOf (L2N.CX P w) P w K mg base N qual (defScope st) f cdv A outer s H E) (defBody st) t ∧ t { nx := fun _ H' => Q .non H', rt := Q } (start N vs) H) : FnOk P w K mg base (L2N.CX P w) (k + 1) f fd ps sp := by
  obtain ⟨_, _, _, _, _, _, _, _, _, rfl, h1, h2⟩ := F.ex
  exact fn_of h1 h2 S len fun A o s H vs Q E r h => body _ A o s H vs Q E r h
end
section
variable {X : Cx} {e : Expr} {es : List Expr} {ta : TA} {p pos : Pos}
theorem pmk_oexN {CX : CXT} {x : Str} {C fI : Addr} {k : Nat} {fd : FuncData} {ps : List Str} {sp : Sp} {ds : List Value} {dvs : List V} (T : OexC X.K C) (iC : PySem.W.findIn X.K (.ref C) "__init__" = some (some (.ref fI))) (tI : PySem.W.typeIn X.K (.ref fI) = some (.type "function"))
    (G : FnOk X.prog X.w X.K X.mg X.base CX k fI fd ps sp) (hr : Room (k + 1) X.A) (hb : Binds X.K fd ps ds) (hd0 : Vals dvs ds) (hx : Passes CX X (fun _ _ _ => False)) (hg : Gl X x) (hm : X.mg x = some (.ref C)) (ha : PA X (e :: es) ta)
    (hdb : (x == ("__debug__" : Str)) = false := by decide) (he : starEach (e :: es) X.env = (false, eval e X.env) :: starEach es X.env := by rfl) (hpl : (backTo pos (starEach es X.env)).any (·.1) = false := by rfl) :
    L2N.PMk X (.Call (.Name x p) (e :: es) [] pos) (tMkO C sp dvs ta) := fun pins s σ H Q I h => by
  obtain ⟨_, _, _, _, bm, _, _, _, _, _, _, _, _, _, _, cC, cB⟩ := T.cls
  refine wpAny_Call_Name_kw (ld_glob I hg hm ?_ hdb)
  refine PySem.W.callWith_K (h₀ := X.base) I.ok.mod.kin T.kC (thn (ha.run pos pins s σ H _ I h) fun us z ⟨vs, H1, J, rv, few, go⟩ => ⟨J.kIn, wpAny_call ?_⟩) he hpl
  obtain ⟨hp, gn, dr, tk, os⟩ := z
  have up1 : hp.objs.size ≤ hp.objs.size + 1 := Nat.le_succ _
  have free : H1 (hp.objs.size + 1) = none := J.hok.fresh up1
  have goal := go _ free
  have laid : ((hp.push (PySem.W.kdv_tup us)).push (PySem.HandSPX.excO C hp.objs.size)).get? (hp.objs.size + 1) = some (PySem.HandSPX.excO C hp.objs.size) := by heap_get
  have old : ∀ b o, hp.get? b = some o → ((hp.push (PySem.W.kdv_tup us)).push (PySem.HandSPX.excO C hp.objs.size)).get? b = some o := fun b o q => Heap.get?_push_of_some _ (Heap.get?_push_of_some _ q)
  have J2 : Inv X pins σ (upd H1 (hp.objs.size + 1) (exo (hp.objs.size + 1) C none)) ⟨(hp.push (PySem.W.kdv_tup us)).push (PySem.HandSPX.excO C hp.objs.size), gn, dr, tk, os⟩ := J.laid (t' := tk) old up1 (exo_ok laid)
  have all : Vals (V.ref (hp.objs.size + 1) :: (vs ++ dvs)) (Value.ref (hp.objs.size + 1) :: (us ++ ds)) := .cons rfl (rv.append hd0)
  have many : (Value.ref (hp.objs.size + 1) :: us ++ ds).length = ps.length := all.length.symm.trans (G.len _ _ _ _ goal)
  have fits : us.length ≤ sizeLine := by
    rw [← Paired.length rv, sizeLine_eq]
    omega
  refine PySem.HandSPX.call_own F.excBase_ValueError (fun Y => PySem.HandSPX.refsVE_contains Y bm cB) (J.kIn _ _ cC) (PySem.W.looks_findIn J.kIn iC) (fun self => PySem.W.bind_fn J.kIn self tI) fits ?_
  have run := G.run _ X.stack _ _ ⟨Value.ref (hp.objs.size + 1) :: us, []⟩ (Value.ref (hp.objs.size + 1) :: (us ++ ds)) _ _ (fun _ _ _ => False) (hr.make C us []) (J2.env0.make C us []) (hb _ (Value.ref (hp.objs.size + 1) :: us) J2.kIn many) all goal
  refine codeAny_mono run fun r z2 fin => ?_
  match r, fin with
  | .error er, fin => exact hx pins σ _ _ er z2 J2 fin
  | .ok .next, fin => exact False.elim fin
  | .ok .brk, fin => exact False.elim fin
  | .ok .cont, fin => exact False.elim fin
  | .ok (.ret u), fin =>
    obtain ⟨v, H2, os2, bare, un, ok2, ru, ev, d, fs, ea, ed, hd, last⟩ := fin
    subst ev
    obtain ⟨t0, G2, J3, kG, ge, ho, na⟩ := mk_end0 (d2 := z2.drawn) (t2 := z2.toks) J up1 old un ok2 os2 bare ea ed hd
    exact ⟨ru, hp.objs.size + 1, _, _, ⟨G2, z2.gens, z2.drawn, z2.toks, z2.os⟩, _, .ref C, some d, rfl, J3, kG, ge, ho, ⟨rfl, rfl, fun vs hv => by cases hv; rfl⟩, rfl, rfl, na, rfl, bare, raises_own T.exC T.tyC, last⟩
end
end Sm

set_option Elab.async false
set_option linter.all false
set_option maxRecDepth 100000
set_option maxHeartbeats 8000000
namespace Sm
open PySem PySem.Spec PyProof.Rows L2
abbrev sBtI : Stmt := inClass (topS 2) 0
abbrev sWk : Stmt := topS 19
/-! ### the walk over a term -/
structure WSt where
  stk : List Nat
  tk : List (List Nat)
  fs : List Fr
def WSt.top (st : WSt) (m : Nat) : List Nat := st.stk.drop (st.stk.length - m)
def WSt.frs (st : WSt) (l : List Nat) : List Fr := l.map fun i => st.fs.getD i ([], [])
def WSt.put (st : WSt) (m : Nat) (f : Fr) : WSt := ⟨st.stk.take (st.stk.length - m) ++ [st.fs.length], st.tk ++ [st.top m], st.fs ++ [f]⟩
def stepS (s : Stp) (st : WSt) : Option WSt := if st.stk.length < s.many then none else (frameAfter s (st.frs (st.top s.many))).map (st.put s.many)
def stepW (k : Int) (x : AV) (st : WSt) : Option WSt := (stepOf k x).bind fun s => stepS s st
def runW (k : Int) : List AV → WSt → Nat ⊕ WSt
  | [], st => .inr st
  | x :: xs, st => match stepW k x st with
    | none => .inl st.fs.length
    | some st' => runW k xs st'
def w0 : WSt := ⟨[], [], []⟩
def walkF (k : Int) (xs : List AV) : Nat ⊕ WSt := match runW k xs w0 with
  | .inl i => .inl i
  | .inr st => if st.stk.length = 1 then .inr st else .inl xs.length
structure WOk (st : WSt) : Prop where
  idx : ∀ i ∈ st.stk, i < st.fs.length
  len : st.tk.length = st.fs.length
  few : st.stk.length ≤ st.fs.length
  ok : ∀ f ∈ st.fs, FrOk f
theorem stepOf_okk {k : Int} (hk : k ≤ 12) {x : AV} {s : Stp} (e : stepOf k x = some s) : s.okk := by
  have one : ∀ i : Int, inR k i = true → Vx 13 i := fun i h => by
    unfold inR at h
    rw [Bool.and_eq_true, decide_eq_true_eq, decide_eq_true_eq] at h
    exact ⟨h.1, by omega⟩
  match x, e with
  | .tup (.str w :: l), e =>
    have e : (if w = "edge" then edgeOf k l else if w = "new" then newOf k l else if w = "forget" then fgtOf k l else if w = "empty" then zeroOf .emp l else if w = "join" then zeroOf .join l else none) = some s := e
    by_cases c1 : w = "edge"
    · rw [if_pos c1] at e
      match l, e with
      | [.int i, .int j], e =>
        have e : (if (inR k i && (inR k j && decide (i < j))) = true then some (Stp.edge i j) else none) = some s := e
        by_cases c : (inR k i && (inR k j && decide (i < j))) = true
        · rw [if_pos c] at e
          cases e
          rw [Bool.and_eq_true, Bool.and_eq_true] at c
          exact ⟨one i c.1, one j c.2.1⟩
        · rw [if_neg c] at e; cases e
    rw [if_neg c1] at e
    by_cases c2 : w = "new"
    · rw [if_pos c2] at e
      match l, e with
      | [.int i], e =>
        have e : (if inR k i = true then some (Stp.new i) else none) = some s := e
        by_cases c : inR k i = true
        · rw [if_pos c] at e; cases e; exact one i c
        · rw [if_neg c] at e; cases e
    rw [if_neg c2] at e
    by_cases c3 : w = "forget"
    · rw [if_pos c3] at e
      match l, e with
      | [.int i], e =>
        have e : (if inR k i = true then some (Stp.fgt i) else none) = some s := e
        by_cases c : inR k i = true
        · rw [if_pos c] at e; cases e; exact one i c
        · rw [if_neg c] at e; cases e
    rw [if_neg c3] at e
    by_cases c4 : w = "empty"
    · rw [if_pos c4] at e
      match l, e with
      | [], e => cases e; trivial
    rw [if_neg c4] at e
    by_cases c5 : w = "join"
    · rw [if_pos c5] at e
      match l, e with
      | [], e => cases e; trivial
    · rw [if_neg c5] at e; cases e
theorem stepOf_vals {k : Int} {xs : List V} {s : Stp} (e : stepOf k (.tup xs) = some s) : xs = s.vals := by
  match xs, e with
  | .str w :: l, e =>
    have e : (if w = "edge" then edgeOf k l else if w = "new" then newOf k l else if w = "forget" then fgtOf k l else if w = "empty" then zeroOf .emp l else if w = "join" then zeroOf .join l else none) = some s := e
    by_cases c1 : w = "edge"
    · rw [if_pos c1] at e
      match l, e with
      | [.int i, .int j], e =>
        have e : (if (inR k i && (inR k j && decide (i < j))) = true then some (Stp.edge i j) else none) = some s := e
        by_cases c : (inR k i && (inR k j && decide (i < j))) = true
        · rw [if_pos c] at e
          cases e
          rw [c1]; rfl
        · rw [if_neg c] at e; cases e
    rw [if_neg c1] at e
    by_cases c2 : w = "new"
    · rw [if_pos c2] at e
      match l, e with
      | [.int i], e =>
        have e : (if inR k i = true then some (Stp.new i) else none) = some s := e
        by_cases c : inR k i = true
        · rw [if_pos c] at e; cases e; rw [c2]; rfl
        · rw [if_neg c] at e; cases e
    rw [if_neg c2] at e
    by_cases c3 : w = "forget"
    · rw [if_pos c3] at e
      match l, e with
      | [.int i], e =>
        have e : (if inR k i = true then some (Stp.fgt i) else none) = some s := e
        by_cases c : inR k i = true
        · rw [if_pos c] at e; cases e; rw [c3]; rfl
        · rw [if_neg c] at e; cases e
    rw [if_neg c3] at e
    by_cases c4 : w = "empty"
    · rw [if_pos c4] at e
      match l, e with
      | [], e => cases e; rw [c4]; rfl
    rw [if_neg c4] at e
    by_cases c5 : w = "join"
    · rw [if_pos c5] at e
      match l, e with
      | [], e => cases e; rw [c5]; rfl
    · rw [if_neg c5] at e; cases e
theorem any_step {K : PySem.W.Frag} {H : Hp} {v : V} {x : AV} {k : Int} {s : Stp} (h : AnyV K H v x) (e : stepOf k x = some s) : StV K H v s := by
  cases h with
  | @tup a xs h _ _ =>
    have z := stepOf_vals e
    rw [z] at h
    exact ⟨a, rfl, h⟩
  | lst _ => cases e
  | non => cases e
  | str _ => cases e
theorem top_len {st : WSt} {m : Nat} (h : m ≤ st.stk.length) : (st.top m).length = m := by
  unfold WSt.top
  rw [List.length_drop]
  omega
theorem put_ok {st : WSt} {s : Stp} {f : Fr} (h : WOk st) (hs : s.okk) (e : frameAfter s (st.frs (st.top s.many)) = some f) : WOk (st.put s.many f) := by
  have fo : ∀ g ∈ st.frs (st.top s.many), FrOk g := fun g hg => by
    unfold WSt.frs at hg
    obtain ⟨i, hi, rfl⟩ := List.mem_map.mp hg
    have hl := h.idx i (List.mem_of_mem_drop hi)
    rw [List.getD_eq_getElem?_getD, List.getElem?_eq_getElem hl]
    exact h.ok _ (List.getElem_mem hl)
  have fk := after_ok hs fo e
  refine ⟨fun i hi => ?_, ?_, ?_, fun g hg => ?_⟩
  · show i < (st.fs ++ [f]).length
    rw [List.length_append]
    rcases List.mem_append.mp hi with z | z
    · have := h.idx i (List.mem_of_mem_take z)
      exact Nat.lt_succ_of_lt this
    · rw [List.mem_singleton.mp z]
      exact Nat.lt_succ_self _
  · show (st.tk ++ [_]).length = (st.fs ++ [f]).length
    rw [List.length_append, List.length_append, h.len]
    rfl
  · show (st.stk.take _ ++ [_]).length ≤ (st.fs ++ [f]).length
    have := h.few
    rw [List.length_append, List.length_append, List.length_take]
    simp
    omega
  · rcases List.mem_append.mp hg with z | z
    · exact h.ok g z
    · rw [List.mem_singleton.mp z]; exact fk
theorem w0_ok : WOk w0 := ⟨(fun i hi => by cases hi), rfl, Nat.le_refl _, fun f hf => by cases hf⟩
end Sm

set_option Elab.async false
set_option linter.all false
set_option maxRecDepth 100000
set_option maxHeartbeats 8000000
namespace Sm
open PySem PySem.Spec PyProof.Rows L2
structure TxB (K : PySem.W.Frag) (mg : Str → Option Value) (CT fI : Addr) : Prop where
  g : mg "BadTerm" = some (.ref CT)
  ox : OexC K CT
  iC : PySem.W.findIn K (.ref CT) "__init__" = some (some (.ref fI))
  tI : PySem.W.typeIn K (.ref fI) = some (.type "function")
  noX : PySem.W.findIn K (.ref CT) "index" = some none
def spBt (K : PySem.W.Frag) (CT : Addr) : Sp := fun vs H Q _ => ∃ a x, vs = [.ref a, x] ∧ H a = some (exo a CT none) ∧ ∀ dx, H dx = none → dx ≠ a → Q .non (upd (upd H dx (exd dx [("index", x)])) a (exo a CT (some dx)))
abbrev IxV (K : PySem.W.Frag) (H : Hp) : List Addr → List (List Nat) → Prop := Paired fun a l => SqT K H a (l.map fun (i : Nat) => V.int i)
def spWk (K : PySem.W.Frag) (CT : Addr) : Sp := fun vs H Q E => ∃ (a : Addr) (k : Int) (xs : List V) (as : List AV), vs = [.ref a, .int k] ∧ SqT K H a xs ∧ Paired (AnyV K H) xs as ∧ xs.length ≤ 20100 ∧ 0 ≤ k ∧ k ≤ 12 ∧
  (∀ i, walkF k as = .inl i → ∀ H' d, Same H H' → H' d = some (.xd [("index", .int (i : Nat))]) → E (.ref CT) (some d) H') ∧
  (∀ st, walkF k as = .inr st → WOk st → ∀ H' r t l ts fvs, Same H H' → SqT K H' r [.ref t, .ref l] → H' t = some (.lst (ts.map V.ref)) → IxV K H' ts st.tk → H' l = some (.lst fvs) → FrsV K H' fvs st.fs → Q (.ref r) H')
theorem frv_map {K : PySem.W.Frag} {H H' : Hp} (m : ∀ (a : Addr) (xs : List V), SqT K H a xs → SqT K H' a xs) {v : V} {f : Fr} (h : FrV K H v f) : FrV K H' v f := by
  obtain ⟨a, t, p, ps, e, h1, h2, h3, h4⟩ := h
  exact ⟨a, t, p, ps, e, m _ _ h1, m _ _ h2, m _ _ h3, pairs_map m h4⟩
theorem frs_map {K : PySem.W.Frag} {H H' : Hp} (m : ∀ (a : Addr) (xs : List V), SqT K H a xs → SqT K H' a xs) : ∀ {vs : List V} {fs : List Fr}, FrsV K H vs fs → FrsV K H' vs fs
  | _, _, .nil => .nil
  | _, _, .cons h t => .cons (frv_map m h) (frs_map m t)
theorem ixv_map {K : PySem.W.Frag} {H H' : Hp} (m : ∀ (a : Addr) (xs : List V), SqT K H a xs → SqT K H' a xs) : ∀ {vs : List Addr} {fs : List (List Nat)}, IxV K H vs fs → IxV K H' vs fs
  | _, _, .nil => .nil
  | _, _, .cons h t => .cons (m _ _ h) (ixv_map m t)
theorem paired_snoc {α β : Type} {R : α → β → Prop} {a : α} {b : β} (h : R a b) : ∀ {as : List α} {bs : List β}, Paired R as bs → Paired R (as ++ [a]) (bs ++ [b])
  | _, _, .nil => .cons h .nil
  | _, _, .cons g t => .cons g (paired_snoc h t)
theorem ixv_snoc {K : PySem.W.Frag} {H : Hp} {b : Addr} {l : List Nat} (h : SqT K H b (l.map fun (i : Nat) => V.int i)) : ∀ {ts : List Addr} {tk : List (List Nat)}, IxV K H ts tk → IxV K H (ts ++ [b]) (tk ++ [l])
  | _, _, .nil => .cons h .nil
  | _, _, .cons g t => .cons g (ixv_snoc h t)
theorem paired_at {α β : Type} {R : α → β → Prop} : ∀ {as : List α} {bs : List β} {i : Nat} {a : α}, Paired R as bs → as[i]? = some a → ∃ b, bs[i]? = some b ∧ R a b
  | _, _, _, _, .nil, e => by simp at e
  | _, _, 0, _, .cons h _, e => by simp at e; subst e; exact ⟨_, rfl, h⟩
  | _, _, i + 1, _, .cons _ t, e => by
    rw [List.getElem?_cons_succ] at e
    obtain ⟨b, e1, e2⟩ := paired_at t e
    exact ⟨b, by rw [List.getElem?_cons_succ]; exact e1, e2⟩
theorem paired_at2 {α β : Type} {R : α → β → Prop} {as : List α} {bs : List β} (h : Paired R as bs) {i : Nat} (hi : i < bs.length) : ∃ a, as[i]? = some a ∧ R a bs[i] := by
  have hl : as.length = bs.length := h.length
  have e : as[i]? = some (as[i]'(by omega)) := List.getElem?_eq_getElem (by omega)
  obtain ⟨b, e1, e2⟩ := paired_at h e
  rw [List.getElem?_eq_getElem hi] at e1
  cases e1
  exact ⟨_, e, e2⟩
theorem raise_bt {K : PySem.W.Frag} {CT : Addr} {σ : L2.St} {H : Hp} {te : TE} {i : Int} {Q : XK} (hte : ∀ R : VK, R (.int i) H → te σ H R) (q : ∀ H' d, Same H H' → H' d = some (.xd [("index", .int i)]) → Q (.ref CT) (some d) H') : tMkO CT (spBt K CT) [] (tCons te tNil) σ H Q := by
  refine hte _ ⟨(by show 1 ≤ 1000; decide), fun a na => ⟨a, .int i, rfl, upd_same, fun dx ndx nea => ⟨rfl, dx, [("index", .int i)], upd_same, by rw [upd_ne nea]; exact upd_same, by rw [upd_ne nea] at ndx; exact ndx, q _ dx (fun b o h => ?_) upd_same⟩⟩⟩
  rw [upd_ne nea] at ndx
  have h1 : b ≠ dx := ne_of_none h ndx
  have h2 : b ≠ a := ne_of_none h na
  rw [upd_ne h1, del_ne h2, upd_ne h2, upd_ne h1, upd_ne h2]
  exact h
structure WInv (K : PySem.W.Frag) (H : Hp) (LT LF LS : Addr) (k : Int) (as : List AV) (t : Nat) (H' : Hp) (st : WSt) (ts : List Addr) (fvs : List V) : Prop where
  sm : Same H H'
  run : runW k as w0 = .inr st
  ok : WOk st
  cnt : st.fs.length = t
  hT : H' LT = some (.lst (ts.map V.ref))
  hI : IxV K H' ts st.tk
  hF : H' LF = some (.lst fvs)
  hV : FrsV K H' fvs st.fs
  hS : H' LS = some (.lst (st.stk.map fun (i : Nat) => V.int i))
theorem WInv.same {K : PySem.W.Frag} {H : Hp} {LT LF LS : Addr} {k : Int} {as : List AV} {t : Nat} {H' H2 : Hp} {st : WSt} {ts : List Addr} {fvs : List V} (I : WInv K H LT LF LS k as t H' st ts fvs) (s : Same H' H2) : WInv K H LT LF LS k as t H2 st ts fvs :=
  ⟨I.sm.trans s, I.run, I.ok, I.cnt, s _ _ I.hT, ixv_map (fun _ _ h => same_sqT s h) I.hI, s _ _ I.hF, frs_same s I.hV, s _ _ I.hS⟩
theorem run_app {k : Int} : ∀ (l1 l2 : List AV) (st : WSt), runW k (l1 ++ l2) st = match runW k l1 st with | .inl i => .inl i | .inr st' => runW k l2 st'
  | [], _, _ => rfl
  | x :: l1, l2, st => by
    show (match stepW k x st with | none => (Sum.inl st.fs.length : Nat ⊕ WSt) | some st' => runW k (l1 ++ l2) st') = (match (match stepW k x st with | none => (Sum.inl st.fs.length : Nat ⊕ WSt) | some st' => runW k l1 st') with | .inl i => (Sum.inl i : Nat ⊕ WSt) | .inr st' => runW k l2 st')
    cases stepW k x st with
    | none => rfl
    | some st' => exact run_app l1 l2 st'
theorem run_stop {k : Int} {as : List AV} {t : Nat} {x : AV} {st : WSt} (h : runW k (as.take t) w0 = .inr st) (hx : as[t]? = some x) (e : stepW k x st = none) : walkF k as = .inl st.fs.length := by
  have z : as = as.take t ++ x :: as.drop (t + 1) := by
    have h1 := L2.take_next hx
    have h2 := List.take_append_drop (t + 1) as
    rw [h1, List.append_assoc] at h2
    exact h2.symm
  unfold walkF
  rw [z, run_app, h]
  show (match (match stepW k x st with | none => (Sum.inl st.fs.length : Nat ⊕ WSt) | some st' => runW k (as.drop (t + 1)) st') with | .inl i => (Sum.inl i : Nat ⊕ WSt) | .inr st => if st.stk.length = 1 then (Sum.inr st : Nat ⊕ WSt) else Sum.inl _) = _
  rw [e]
theorem run_next {k : Int} {as : List AV} {t : Nat} {x : AV} {st st' : WSt} (h : runW k (as.take t) w0 = .inr st) (hx : as[t]? = some x) (e : stepW k x st = some st') : runW k (as.take (t + 1)) w0 = .inr st' := by
  rw [L2.take_next hx, run_app, h]
  show (match stepW k x st with | none => (Sum.inl st.fs.length : Nat ⊕ WSt) | some st' => runW k [] st') = _
  rw [e]
  rfl
theorem gname_eq {i : Nat} {x y : V} {σ : L2.St} {H : Hp} {k : L2.St → Hp → Prop} (e : x = y) (h : gName i y σ H k) : gName i x σ H k := by
  rw [e]
  exact h
theorem ixL_at {X : Cx} {K : PySem.W.Frag} (hK : X.K = K) : IxR X (rIxL K) := by
  subst hK
  exact ix_list
section
variable {P : Program} {w : World} {K : PySem.W.Frag} {mg : Str → Option Value} {base : Heap}
theorem scBtI : FnScope ["self", "index"] ["self", "index"] (defScope sBtI) := ⟨rfl, rfl, rfl, by decide +kernel, rfl, by decide +kernel, by decide +kernel⟩
theorem ok_bti {f CT : Addr} {fd : FuncData} (F : Fun K "__init__" "BadTerm.__init__" sBtI f fd) (B : TxB K mg CT f) : FnOk P w K mg base CX0 1 f fd ["self", "index"] (spBt K CT) := by
  refine F.ok scBtI (fun vs H Q E h => ?_) (fun cdv A outer s H vs Q E hr h => ?_)
  · obtain ⟨a, x, rfl, _⟩ := h
    rfl
  · obtain ⟨a, x, rfl, ha, q⟩ := h
    refine ⟨_, pss_one (ps_ost (pv 0) (pv 1)), ?_⟩
    exact ⟨_, rfl, _, rfl, a, CT, rfl, B.ox, B.noX, .inl ⟨ha, q⟩⟩
abbrev wkN : List Str := ["term", "k", "taken", "frames", "stack", "index", "step", "start", "indexes", "frame", "at"]
theorem scWk : FnScope wkN ["term", "k"] (defScope sWk) := ⟨rfl, rfl, rfl, by decide +kernel, rfl, by decide +kernel, by decide +kernel⟩
theorem ok_wk {f CT fI fS fG fA : Addr} {fd fdI fdS fdG fdA : FuncData} (F : Fun K "walk" "walk" sWk f fd) (B : TxB K mg CT fI) (me : mg "enumerate" = none) (ml : mg "len" = none) (mt : mg "tuple" = none)
    (GI : FnOk P w K mg base CX0 1 fI fdI ["self", "index"] (spBt K CT)) (bI : Binds K fdI ["self", "index"] [])
    (GS : FnOk P w K mg base CX0 4 fS fdS ["value", "k"] (spStp K)) (kS : PySem.W.keepIn K (.ref fS) = true) (bS : Binds K fdS ["value", "k"] []) (gS : mg "is_step" = some (.ref fS))
    (GG : FnOk P w K mg base CX0 1 fG fdG ["step"] (spGtk K)) (kG : PySem.W.keepIn K (.ref fG) = true) (bG : Binds K fdG ["step"] []) (gG : mg "graphs_taken" = some (.ref fG))
    (GA : FnOk P w K mg base CX0 2 fA fdA ["step", "taken"] (spFaf K)) (kA : PySem.W.keepIn K (.ref fA) = true) (bA : Binds K fdA ["step", "taken"] []) (gA : mg "frame_after" = some (.ref fA)) :
    FnOk P w K mg base (L2N.CX P w) 5 f fd ["term", "k"] (spWk K CT) := by
  refine okXN F scWk (fun vs H Q E h => ?_) (fun cdv A outer s H vs Q E hr h => ?_)
  · obtain ⟨a, k, xs, as, rfl, _⟩ := h
    rfl
  · obtain ⟨a, k, xs, as, rfl, hX, hA, hl, hk0, hk, qE, qQ⟩ := h
    have hr1 : Room 1 _ := hr.mono (by decide)
    have hr2 : Room 2 _ := hr.mono (by decide)
    refine ⟨_, pss_cons (ps_set (i := 2) scWk.nd rfl (.inl rfl) (pe_lst pa_nil))
      (pss_cons (ps_set (i := 3) scWk.nd rfl (.inr rfl) (pe_lst pa_nil))
      (pss_cons (ps_set (i := 4) scWk.nd rfl (.inl rfl) (pe_lst pa_nil))
      (pss_cons (ps_for (passes_of rfl) rfl (pi_enT (by rfl) me (pa_cons (pv 0) pa_nil)) (pg_tup rfl (pgs_cons (pg_name (i := 5) scWk.nd rfl (.inl rfl)) (pgs_cons (pg_name (i := 6) scWk.nd rfl (.inl rfl)) pgs_nil)))
        (pss_cons (ps_if (PW.pt (pw_or (pt_not (pt_val (pe_call GS hr (by rfl) gS kS bS .nil pass0 (pa_cons (pv 6) (pa_cons (pv 1) pa_nil))))) (pw_or1 (pt_cmpR op_gt (pe_call GG hr1 (by rfl) gG kG bG .nil pass0 (pa_cons (pv 6) pa_nil)) (pe_callB call_len_seq (by rfl) ml PySem.boot_len (pa_cons (pv 4) pa_nil)) (nomark _)))))
          (pss_one (L2N.ps_raise rfl (L2N.takes_of rfl rfl rfl rfl) (pmk_oexN B.ox B.iC B.tI GI hr2 bI .nil pass0 (by rfl) B.g (pa_cons (pv 5) pa_nil)))) pss_nil)
        (pss_cons (ps_set (i := 7) scWk.nd rfl (.inl rfl) (pe_op op_sub (pe_callB call_len_seq (by rfl) ml PySem.boot_len (pa_cons (pv 4) pa_nil)) (pe_call GG hr1 (by rfl) gG kG bG .nil pass0 (pa_cons (pv 6) pa_nil))))
        (pss_cons (ps_set (i := 8) scWk.nd rfl (.inl rfl) (pe_callTy call_tuple_of (by rfl) mt (by decide +kernel) (pa_cons (pe_slice sl_list (pv 4) (po_some (pv 7)) po_none) pa_nil)))
        (pss_cons (ps_set (i := 9) scWk.nd rfl (.inl rfl) (pe_call GA hr2 (by rfl) gA kA bA .nil pass0 (pa_cons (pv 6) (pa_cons (pe_lc (own := [("at", 10)]) (g := gName 10) (by rfl) scWk.nd (pi_tup (pv 8)) (blkOk_by (own := [("at", 10)]) (N := wkN) (sc := defScope sWk) (by decide +kernel))
          (fun _ _ _ _ _ => pg_name (i := 10) scWk.nd rfl (Or.inl rfl)) (fun _ _ _ _ _ => pts_nil) (fun _ _ _ _ _ => pe_ix (ixL_at (K := K) rfl) (pv 3) (pv 10) (fun _ _ => rfl))) pa_nil))))
        (pss_cons (ps_if (pt_cmp (pc_isN (pv 9))) (pss_one (L2N.ps_raise rfl (L2N.takes_of rfl rfl rfl rfl) (pmk_oexN B.ox B.iC B.tI GI hr2 bI .nil pass0 (by rfl) B.g (pa_cons (pv 5) pa_nil)))) pss_nil)
        (pss_cons (ps_delFrom (pv 4) (pv 7))
        (pss_cons (ps_expr (pe_bm PySem.F.plainAttrs_list PySem.F.slot_list_append PySem.F.type_list_append mt_append (pv 4) (pa_cons (pv 5) pa_nil)))
        (pss_cons (ps_expr (pe_bm PySem.F.plainAttrs_list PySem.F.slot_list_append PySem.F.type_list_append mt_append (pv 2) (pa_cons (pv 8) pa_nil)))
        (pss_one (ps_expr (pe_bm PySem.F.plainAttrs_list PySem.F.slot_list_append PySem.F.type_list_append mt_append (pv 3) (pa_cons (pv 9) pa_nil)))))))))))))
      (pss_cons (ps_if (pt_cmpR op_ne (pe_callB call_len_seq (by rfl) ml PySem.boot_len (pa_cons (pv 4) pa_nil)) pe_int (nomark _)) (pss_one (L2N.ps_raise rfl (L2N.takes_of rfl rfl rfl rfl) (pmk_oexN B.ox B.iC B.tI GI hr2 bI .nil pass0 (by rfl) B.g (pa_cons (pe_callB call_len_seq (by rfl) ml PySem.boot_len (pa_cons (pv 0) pa_nil)) pa_nil)))) pss_nil)
      (pss_one (ps_ret (pe_tup (pa_cons (pv 2) (pa_cons (pv 3) pa_nil))))))))), ?_⟩
    refine ⟨Nat.zero_le _, fun LT nLT => ⟨Nat.zero_le _, fun LF nLF => ⟨Nat.zero_le _, fun LS nLS => ?_⟩⟩⟩
    have sT := same_upd (o := .lst []) nLT
    have sF := same_upd (o := .lst []) nLF
    have sS := same_upd (o := .lst []) nLS
    have nFT : LF ≠ LT := fun z => by rw [z, upd_same] at nLF; cases nLF
    have nST : LS ≠ LT := fun z => by rw [z, sF _ _ upd_same] at nLS; cases nLS
    have nSF : LS ≠ LF := fun z => by rw [z, upd_same] at nLS; cases nLS
    have nF0 : H LF = none := sT.free nLF
    have nS0 : H LS = none := sT.free (sF.free nLS)
    have s0 := sT.trans (sF.trans sS)
    have hlA : xs.length = as.length := hA.length
    refine ⟨_, rfl, a, _, rfl, same_sqT s0 hX, for_it (walk_enT (K := K) (a := a) (xs := xs)) (fun t σ H' => ∃ (st : WSt) (ts : List Addr) (fvs : List V) (y5 y6 y7 y8 y9 : Option V), σ = [some (.ref a), some (.int k), some (.ref LT), some (.ref LF), some (.ref LS), y5, y6, y7, y8, y9, none] ∧ WInv K H LT LF LS k (as.take t) t H' st ts fvs)
      ⟨w0, [], [], none, none, none, none, none, rfl, s0, rfl, w0_ok, rfl, sS _ _ (sF _ _ upd_same), .nil, sS _ _ upd_same, .nil, upd_same⟩ (fun t σ H' _ ⟨_, _, _, _, _, _, _, _, _, I⟩ => same_sqT I.sm hX) ?_ ?_⟩
    · rintro t x σ H2 H' ht ⟨st, ts, fvs, y5, y6, y7, y8, y9, rfl, I⟩ ⟨T1, v1, v2, rfl, nT1, rfl, e1, e2⟩
      cases e1
      have e2 : xs[t]? = some v2 := e2
      obtain ⟨x, hx, hv⟩ := paired_at hA e2
      have s1 := same_upd (o := .tup [.int (t : Nat), v2]) nT1
      have hT1 : (upd H2 T1 (.tup [.int (t : Nat), v2])) T1 = some (.tup [.int (t : Nat), v2]) := upd_same
      refine ⟨T1, _, rfl, SqT.of hT1, rfl, _, _, rfl, _, _, rfl, rfl, ?_⟩
      have I1 := I.same s1
      generalize (upd H2 T1 (.tup [.int (t : Nat), v2])) = H3 at I1 ⊢
      refine ⟨_, rfl, _, rfl, v2, x, k, rfl, hv.same I1.sm, fun H4 s4 => ⟨_, rfl, ?_⟩⟩
      have I4 := I1.same s4
      have stop : stepW k x st = none → ∀ H' d, Same H4 H' → H' d = some (.xd [("index", .int (t : Nat))]) → E (.ref CT) (some d) H' := fun e H' d s5 h => by
        have z := run_stop I.run hx e
        rw [I.cnt] at z
        exact qE t z H' d (I4.sm.trans s5) h
      cases hs : stepOf k x with
      | none =>
        have e : stepW k x st = none := by unfold stepW; rw [hs]; rfl
        exact iteT (raise_bt (fun R r => ⟨_, rfl, r⟩) (stop e))
      | some s =>
        have hv4 : StV K H4 v2 s := any_step (hv.same I4.sm) hs
        have okk := stepOf_okk hk hs
        have eW : stepW k x st = stepS s st := by unfold stepW; rw [hs]; rfl
        refine iteF ?_
        refine ⟨_, rfl, v2, s, rfl, hv4, _, rfl, LS, _, rfl, .inl (SqL.of I4.hS), _, _, rfl, rfl, _, rfl, ?_⟩
        refine ite2 (fun c => ?_) (fun c => ?_)
        · have c := of_decide_eq_true c
          rw [List.length_map] at c
          have e : stepW k x st = none := by rw [eW]; exact if_pos (by omega)
          exact raise_bt (fun R r => ⟨_, rfl, r⟩) (stop e)
        · have c : ¬ st.stk.length < s.many := fun z => c (decide_eq_true (by rw [List.length_map]; omega))
          refine ⟨_, rfl, LS, _, rfl, .inl (SqL.of I4.hS), _, rfl, v2, s, rfl, hv4, _, _, rfl, rfl, ?_⟩
          have en : (((st.stk.map fun (i : Nat) => V.int i).length : Nat) : Int) - (s.many : Int) = ((st.stk.length - s.many : Nat) : Int) := by rw [List.length_map]; omega
          refine gname_eq (congrArg V.int en) ?_
          generalize hn : st.stk.length - s.many = n
          have hnl : n ≤ st.stk.length := by omega
          have hnm : st.stk.length = n + s.many := by omega
          refine ⟨_, rfl, _, rfl, _, rfl, LS, _, rfl, SqL.of I4.hS, fun l nl => ?_⟩
          have ecut : cutV (st.stk.map fun (i : Nat) => V.int i) (some (n : Int)) none = (st.top s.many).map fun (i : Nat) => V.int i := by
            unfold cutV WSt.top
            rw [HT.sIx_none, HT.sIx_nat, List.length_map, Nat.min_eq_left hnl, ← List.map_drop, hn]
            exact List.take_of_length_le (by rw [List.length_map, List.length_drop]; exact Nat.le_refl _)
          rw [ecut]
          have s5 := same_upd (o := .lst ((st.top s.many).map fun (i : Nat) => V.int i)) nl
          refine ⟨l, _, rfl, .inl ⟨SqL.of upd_same, fun tI ntI => ?_⟩⟩
          have s6 := same_upd (o := .tup ((st.top s.many).map fun (i : Nat) => V.int i)) ntI
          have htI : (upd (upd H4 l (.lst ((st.top s.many).map fun (i : Nat) => V.int i))) tI (.tup ((st.top s.many).map fun (i : Nat) => V.int i))) tI = some (.tup ((st.top s.many).map fun (i : Nat) => V.int i)) := upd_same
          have s46 := s5.trans s6
          have I6 := I4.same s46
          have hv6 := hv4.same s46
          generalize (upd (upd H4 l (.lst ((st.top s.many).map fun (i : Nat) => V.int i))) tI (.tup ((st.top s.many).map fun (i : Nat) => V.int i))) = H6 at htI s46 I6 hv6 ⊢
          have tl := top_len (st := st) (m := s.many) (by omega)
          have m2 : s.many ≤ 2 := by cases s <;> simp [Stp.many]
          refine ⟨_, rfl, _, rfl, tI, rfl, ⟨_, SqT.of htI⟩, fun D nD => ?_⟩
          refine lc_tup (K := K) (a := tI) (xs := (st.top s.many).map fun (i : Nat) => V.int i) (fun j H' => Same H6 H' ∧ ∃ gvs : List V, H' D = some (.lst gvs) ∧ FrsV K H' gvs ((st.frs (st.top s.many)).take j) ∧ gvs.length = j) ⟨same_upd nD, [], upd_same, .nil, rfl⟩ (fun j H' _ h => same_sqT h.1 (SqT.of htI)) ?_ ?_
          · rintro j x9 H' hx9 ⟨sm, gvs, hD, hG, hlg⟩
            rw [List.getElem?_map] at hx9
            cases ei : (st.top s.many)[j]? with
            | none => rw [ei] at hx9; cases hx9
            | some i =>
              rw [ei] at hx9
              cases hx9
              have il : i < st.fs.length := I.ok.idx i (List.mem_of_mem_drop (List.mem_of_getElem? ei))
              obtain ⟨fv, hfv, hff⟩ := paired_at2 I6.hV il
              have jl : j < s.many := by have := (List.getElem?_eq_some_iff.mp ei).1; omega
              have ef : (st.frs (st.top s.many))[j]? = some st.fs[i] := by
                unfold WSt.frs
                rw [List.getElem?_map, ei]
                show some (st.fs.getD i ([], [])) = _
                rw [List.getD_eq_getElem?_getD, List.getElem?_eq_getElem il]
                rfl
              refine ⟨rfl, _, rfl, _, rfl, LF, _, i, fv, rfl, rfl, SqL.of (sm _ _ I6.hF), atI_nat hfv, _, hD, small1000 (by omega), same_put sm nD, gvs ++ [fv], upd_same, ?_, by rw [List.length_append, hlg]; rfl⟩
              rw [L2.take_next ef]
              exact paired_snoc (frv_map (fun _ _ h => sqT_put hD h) (hff.same sm)) (frs_map (fun _ _ h => sqT_put hD h) hG)
          · rintro H7 ⟨s7, gvs, hD, hG, hlg⟩
            have lfr : (st.frs (st.top s.many)).length = s.many := by unfold WSt.frs; rw [List.length_map, tl]
            rw [List.length_map, tl, List.take_of_length_le (by omega)] at hG
            have I7 := I6.same s7
            have fo : ∀ g ∈ st.frs (st.top s.many), FrOk g := fun g hg => by
              unfold WSt.frs at hg
              obtain ⟨i, hi, rfl⟩ := List.mem_map.mp hg
              have il := I.ok.idx i (List.mem_of_mem_drop hi)
              rw [List.getD_eq_getElem?_getD, List.getElem?_eq_getElem il]
              exact I.ok.ok _ (List.getElem_mem il)
            refine ⟨v2, D, s, gvs, _, rfl, hv6.same s7, SqL.of hD, hG, lfr, fo, fun H8 v9 s8 h9 => ?_⟩
            have I8 := I7.same s8
            cases hfa : frameAfter s (st.frs (st.top s.many)) with
            | none =>
              rw [hfa] at h9
              have e9 : v9 = .non := h9
              subst e9
              have e : stepW k x st = none := by rw [eW]; unfold stepS; rw [if_neg c, hfa]; rfl
              refine ⟨_, rfl, _, rfl, iteY rfl (raise_bt (fun R r => ⟨_, rfl, r⟩) fun H' d s9 h => stop e H' d (s46.trans (s7.trans (s8.trans s9))) h)⟩
            | some f =>
              rw [hfa] at h9
              have hf9 : FrV K H8 v9 f := h9
              have ne9 : v9 ≠ .non := fun z => by obtain ⟨_, _, _, _, e, _⟩ := hf9; rw [z] at e; cases e
              have e : stepW k x st = some (st.put s.many f) := by rw [eW]; unfold stepS; rw [if_neg c, hfa]; rfl
              refine ⟨_, rfl, _, rfl, iteD ne9 ?_⟩
              refine ⟨_, rfl, _, rfl, LS, _, n, rfl, rfl, I8.hS, by rw [List.length_map]; exact hnl, ?_⟩
              rw [← List.map_take]
              refine ⟨_, rfl, .inl ⟨rfl, _, SqL.of upd_same⟩, _, rfl, LS, _, _, rfl, rfl, upd_same, ?_, ?_⟩
              · have f1 := I.ok.few
                have f2 := I.cnt
                rw [List.length_map, List.length_take, sizeLine_eq]
                omega
              have m9 : ∀ a xs, SqT K H8 a xs → SqT K (upd H8 LS (.lst ((st.stk.take n).map fun (i : Nat) => V.int i))) a xs := fun a xs h => sqT_put I8.hS h
              have m10 : ∀ a xs, SqT K H8 a xs → SqT K (upd (upd H8 LS (.lst ((st.stk.take n).map fun (i : Nat) => V.int i))) LS (.lst ((st.stk.take n).map (fun (i : Nat) => V.int i) ++ [V.int (t : Nat)]))) a xs := fun a xs h => sqT_put upd_same (m9 a xs h)
              have oT : (upd (upd H8 LS (.lst ((st.stk.take n).map fun (i : Nat) => V.int i))) LS (.lst ((st.stk.take n).map (fun (i : Nat) => V.int i) ++ [V.int (t : Nat)]))) LT = some (.lst (ts.map V.ref)) := by rw [upd_ne nST.symm, upd_ne nST.symm]; exact I8.hT
              have oF : (upd (upd H8 LS (.lst ((st.stk.take n).map fun (i : Nat) => V.int i))) LS (.lst ((st.stk.take n).map (fun (i : Nat) => V.int i) ++ [V.int (t : Nat)]))) LF = some (.lst fvs) := by rw [upd_ne nSF.symm, upd_ne nSF.symm]; exact I8.hF
              have oS : (upd (upd H8 LS (.lst ((st.stk.take n).map fun (i : Nat) => V.int i))) LS (.lst ((st.stk.take n).map (fun (i : Nat) => V.int i) ++ [V.int (t : Nat)]))) LS = some (.lst ((st.stk.take n).map (fun (i : Nat) => V.int i) ++ [V.int (t : Nat)])) := upd_same
              have sm10 : Same H (upd (upd H8 LS (.lst ((st.stk.take n).map fun (i : Nat) => V.int i))) LS (.lst ((st.stk.take n).map (fun (i : Nat) => V.int i) ++ [V.int (t : Nat)]))) := same_put (same_put I8.sm nS0) nS0
              generalize (upd (upd H8 LS (.lst ((st.stk.take n).map fun (i : Nat) => V.int i))) LS (.lst ((st.stk.take n).map (fun (i : Nat) => V.int i) ++ [V.int (t : Nat)]))) = H10 at m10 oT oF oS sm10 ⊢
              have lts : ts.length = t := by rw [I8.hI.length, I.ok.len, I.cnt]
              have lfs : fvs.length = t := by rw [I8.hV.length, I.cnt]
              refine ⟨_, rfl, .inl ⟨rfl, _, SqL.of oT⟩, _, rfl, LT, _, _, rfl, rfl, oT, by rw [List.length_map, sizeLine_eq]; omega, ?_⟩
              have m11 : ∀ a xs, SqT K H10 a xs → SqT K (upd H10 LT (.lst (ts.map V.ref ++ [V.ref tI]))) a xs := fun a xs h => sqT_put oT h
              have oF11 : (upd H10 LT (.lst (ts.map V.ref ++ [V.ref tI]))) LF = some (.lst fvs) := by rw [upd_ne nFT]; exact oF
              refine ⟨_, rfl, .inl ⟨rfl, _, SqL.of oF11⟩, _, rfl, LF, _, _, rfl, rfl, oF11, by rw [sizeLine_eq]; omega, ?_⟩
              have m12 : ∀ a xs, SqT K H8 a xs → SqT K (upd (upd H10 LT (.lst (ts.map V.ref ++ [V.ref tI]))) LF (.lst (fvs ++ [v9]))) a xs := fun a xs h => sqT_put oF11 (m11 a xs (m10 a xs h))
              refine ⟨st.put s.many f, ts ++ [tI], fvs ++ [v9], _, _, _, _, _, rfl, same_put (same_put sm10 nLT) nF0, run_next I.run hx e, put_ok I.ok okk hfa, ?_, ?_, ?_, upd_same, ?_, ?_⟩
              · show (st.fs ++ [f]).length = t + 1
                rw [List.length_append, I.cnt]
                rfl
              · rw [upd_ne nFT.symm, upd_same, List.map_append]
                rfl
              · exact ixv_snoc (m12 _ _ (same_sqT (s7.trans s8) (SqT.of htI))) (ixv_map m12 I8.hI)
              · exact paired_snoc (frv_map m12 hf9) (frs_map m12 I8.hV)
              · rw [upd_ne nSF, upd_ne nST, oS]
                show some (HO.lst _) = some (HO.lst ((st.stk.take (st.stk.length - s.many) ++ [st.fs.length]).map fun (i : Nat) => V.int i))
                rw [hn, I.cnt, List.map_append]
                rfl
    · rintro σ H1 ⟨st, ts, fvs, y5, y6, y7, y8, y9, rfl, I⟩
      have run := I.run
      rw [List.take_of_length_le (by omega)] at run
      refine ⟨_, rfl, LS, _, rfl, .inl (SqL.of I.hS), rfl, _, rfl, ?_⟩
      by_cases c : st.stk.length = 1
      · refine iteNS (by rw [List.length_map, c]; rfl) ?_
        have eF : walkF k as = .inr st := by
          unfold walkF
          rw [run]
          exact if_pos c
        refine ⟨_, rfl, _, rfl, (by show 2 ≤ sizeLine; decide), fun r nr => ?_⟩
        have s2 := same_upd (o := .tup [V.ref LT, V.ref LF]) nr
        exact qQ st eF I.ok _ r LT LF ts fvs (I.sm.trans s2) (SqT.of upd_same) (s2 _ _ I.hT) (ixv_map (fun _ _ h => same_sqT s2 h) I.hI) (s2 _ _ I.hF) (frs_same s2 I.hV)
      · refine iteN (fun z => c (by rw [List.length_map] at z; exact Int.ofNat.inj (V.int.inj z))) ?_
        have eF : walkF k as = .inl xs.length := by
          unfold walkF
          rw [run, hlA]
          exact if_neg c
        exact raise_bt (fun R r => ⟨_, rfl, a, xs, rfl, .inr (same_sqT I.sm hX), r⟩) fun H' d s2 h => qE _ eF H' d (I.sm.trans s2) h
end
end Sm

set_option Elab.async false
set_option linter.all false
set_option maxRecDepth 100000
set_option maxHeartbeats 8000000
namespace Sm
open PySem PySem.Spec PyProof.Rows L2
abbrev sCt : Stmt := topS 18
theorem atI_end {α : Type} {xs : List α} {v : α} (h : xs[xs.length - 1]? = some v) (pos : 0 < xs.length) : atI xs (-1) = some v := by
  have e : xs = xs.take (xs.length - 1) ++ [v] := by
    have z := L2.take_next h
    rw [show xs.length - 1 + 1 = xs.length by omega, List.take_length] at z
    exact z
  rw [e]
  exact atI_last _ _
inductive TermV (K : PySem.W.Frag) (H : Hp) : V → Option (List AV) → Prop where
  | tup {a : Addr} {xs : List V} {as : List AV} (h : SqT K H a xs) (hA : Paired (AnyV K H) xs as) (few : xs.length ≤ 20100) : TermV K H (.ref a) (some as)
  | lst {a : Addr} {xs : List V} (h : H a = some (.lst xs)) : TermV K H (.ref a) none
  | non : TermV K H .non none
theorem any_sames {K : PySem.W.Frag} {H H' : Hp} (s : Same H H') : ∀ {vs : List V} {xs : List AV}, Paired (AnyV K H) vs xs → Paired (AnyV K H') vs xs
  | _, _, .nil => .nil
  | _, _, .cons h t => .cons (h.same s) (any_sames s t)
theorem TermV.same {K : PySem.W.Frag} {H H' : Hp} {v : V} {x : Option (List AV)} (s : Same H H') (h : TermV K H v x) : TermV K H' v x := by
  cases h with
  | tup h hA few => exact .tup (same_sqT s h) (any_sames s hA) few
  | lst h => exact .lst (s _ _ h)
  | non => exact .non
def lastF (st : WSt) : Fr := st.fs.getLastD ([], [])
def endF : Nat ⊕ WSt → Int ⊕ Fr
  | .inl i => .inl i
  | .inr st => .inr (lastF st)
def ctF : Option (List AV) → V → Int ⊕ Fr
  | none, _ => .inl (-1)
  | some as, vk => if 20000 < as.length then .inl (-1) else if vtxB 13 (intOf vk) = true then endF (walkF ((intOf vk).getD 0) as) else .inl (-1)
def spCt (K : PySem.W.Frag) (CT : Addr) : Sp := fun vs H Q E => ∃ vt vk x, vs = [vt, vk] ∧ TermV K H vt x ∧ Flat vk ∧
  (∀ i : Int, ctF x vk = .inl i → ∀ H' d, Same H H' → H' d = some (.xd [("index", .int i)]) → E (.ref CT) (some d) H') ∧
  (∀ f, ctF x vk = .inr f → FrOk f → ∀ H' v, Same H H' → FrV K H' v f → Q v H')
section
variable {P : Program} {w : World} {K : PySem.W.Frag} {mg : Str → Option Value} {base : Heap}
abbrev ctN : List Str := ["term", "k", "_", "frames"]
theorem scCt : FnScope ctN ["term", "k"] (defScope sCt) := ⟨rfl, rfl, rfl, by decide +kernel, rfl, by decide +kernel, by decide +kernel⟩
theorem ok_ct {f CT fI fV fW : Addr} {fd fdI fdV fdW : FuncData} (F : Fun K "check_term" "check_term" sCt f fd) (B : TxB K mg CT fI) (TX : TxA mg)
    (GI : FnOk P w K mg base CX0 1 fI fdI ["self", "index"] (spBt K CT)) (bI : Binds K fdI ["self", "index"] [])
    (GV : FnOk P w K mg base CX0 2 fV fdV ["value", "size"] spVtx) (kV : PySem.W.keepIn K (.ref fV) = true) (bV : Binds K fdV ["value", "size"] []) (gV : mg "is_vertex" = some (.ref fV))
    (GW : FnOk P w K mg base (L2N.CX P w) 5 fW fdW ["term", "k"] (spWk K CT)) (kW : PySem.W.keepIn K (.ref fW) = true) (bW : Binds K fdW ["term", "k"] []) (gW : mg "walk" = some (.ref fW))
    {tm tl : Tok} (gM : mg "MOST_STEPS" = some (.int 20000 tm)) (gL : mg "MOST_LABEL" = some (.int 12 tl)) :
    FnOk P w K mg base (L2N.CX P w) 6 f fd ["term", "k"] (spCt K CT) := by
  refine okXN F scCt (fun vs H Q E h => ?_) (fun cdv A outer s H vs Q E hr h => ?_)
  · obtain ⟨vt, vk, x, rfl, _⟩ := h
    rfl
  · obtain ⟨vt, vk, x, rfl, hT, hk, qE, qQ⟩ := h
    have hr2 : Room 2 _ := hr.mono (by decide)
    refine ⟨_, pss_cons (ps_if (PW.pt (pw_or (pt_not (pt_val (pe_callB call_isi (by rfl) TX.isi (by decide +kernel) (pa_cons (pv 0) (pa_cons (pe_bltn (v := .ty "tuple") (by rfl) TX.tuple (by decide +kernel) rfl) pa_nil)))))
        (pw_or1 (pt_cmpR op_gt (pe_callB call_len_seq (by rfl) TX.len PySem.boot_len (pa_cons (pv 0) pa_nil)) (pe_glob (v := .int 20000) rfl gM ⟨_, rfl⟩) (nomark _)))))
        (pss_one (L2N.ps_raise rfl (L2N.takes_of rfl rfl rfl rfl) (pmk_oexN B.ox B.iC B.tI GI hr2 bI .nil pass0 (by rfl) B.g (pa_cons (pe_un un_neg pe_int) pa_nil)))) pss_nil)
      (pss_cons (ps_if (pt_not (pt_val (pe_call GV hr2 (by rfl) gV kV bV .nil pass0 (pa_cons (pv 1) (pa_cons (pe_op op_add (pe_glob (v := .int 12) rfl gL ⟨_, rfl⟩) pe_int) pa_nil)))))
        (pss_one (L2N.ps_raise rfl (L2N.takes_of rfl rfl rfl rfl) (pmk_oexN B.ox B.iC B.tI GI hr2 bI .nil pass0 (by rfl) B.g (pa_cons (pe_un un_neg pe_int) pa_nil)))) pss_nil)
      (pss_cons (ps_asg (pe_call GW hr (by rfl) gW kW bW .nil (L2N.passes_call (L2N.takes_of rfl rfl rfl rfl) fun _ _ _ _ h => h) (pa_cons (pv 0) (pa_cons (pv 1) pa_nil))) (pg_tup (by rfl) (pgs_cons (pg_name (i := 2) scCt.nd rfl (.inl rfl)) (pgs_cons (pg_name (i := 3) scCt.nd rfl (.inl rfl)) pgs_nil))))
      (pss_one (ps_ret (pe_ix ix_list (pv 3) (pe_un un_neg pe_int) (fun _ _ => rfl)))))), ?_⟩
    cases hT with
    | non =>
      refine ⟨_, rfl, .non, .ty "tuple", .type "NoneType", .type "tuple", false, rfl, .ty "tuple", .base .non, kit_ty (by decide +kernel), false, rfl, iteT ?_⟩
      exact iteT (raise_bt (fun R r => ⟨_, rfl, r⟩) (qE (-1) rfl))
    | lst h =>
      refine ⟨_, rfl, _, .ty "tuple", .type "list", .type "tuple", false, rfl, .ty "tuple", .base (.lst h), kit_ty (by decide +kernel), false, rfl, iteT ?_⟩
      exact iteT (raise_bt (fun R r => ⟨_, rfl, r⟩) (qE (-1) rfl))
    | @tup a xs as h hA few =>
      have hl : xs.length = as.length := hA.length
      refine ⟨_, rfl, _, .ty "tuple", .type "tuple", .type "tuple", true, rfl, .ty "tuple", tyx_T h, kit_ty (by decide +kernel), true, rfl, iteF ?_⟩
      have eC : ctF (some as) vk = if 20000 < as.length then .inl (-1) else if vtxB 13 (intOf vk) = true then endF (walkF ((intOf vk).getD 0) as) else .inl (-1) := rfl
      rw [eC] at qE qQ
      refine ⟨_, rfl, _, _, rfl, .inr h, _, _, rfl, rfl, _, rfl, ?_⟩
      refine ite2 (fun c => ?_) (fun c => ?_)
      · have c := of_decide_eq_true c
        rw [if_pos (by omega)] at qE
        exact raise_bt (fun R r => ⟨_, rfl, r⟩) (qE (-1) rfl)
      · have c : ¬ 20000 < as.length := fun z => c (decide_eq_true (by omega))
        rw [if_neg c] at qE qQ
        refine ⟨_, rfl, _, _, rfl, rfl, vk, 12 + 1, rfl, hk, _, rfl, ?_⟩
        rcases (Classical.em (vtxB 13 (intOf vk) = true)).symm with cv | cv
        · have e : vtxB (12 + 1) (intOf vk) = false := Bool.not_eq_true _ ▸ cv
          rw [if_neg cv] at qE
          show (if (!vtxB (12 + 1) (intOf vk)) = true then _ else _)
          rw [e]
          exact iteT (raise_bt (fun R r => ⟨_, rfl, r⟩) (qE (-1) rfl))
        · rw [if_pos cv] at qE qQ
          show (if (!vtxB 13 (intOf vk)) = true then _ else _)
          rw [cv]
          refine iteF ?_
          cases hk with
          | bl b => cases cv
          | str z => cases cv
          | int k =>
            have hk : 0 ≤ k ∧ k < 13 := by
              have z : (decide (0 ≤ k) && decide (k < 13)) = true := cv
              rw [Bool.and_eq_true, decide_eq_true_eq, decide_eq_true_eq] at z
              exact z
            refine ⟨_, rfl, _, rfl, a, k, xs, as, rfl, h, hA, few, hk.1, by omega, fun i hi H' d s1 hd => qE i (by show endF (walkF k as) = _; rw [hi]; rfl) H' d s1 hd, fun st hst wok H' r t l ts fvs s1 hr1 ht hi hl1 hf => ?_⟩
            refine ⟨r, _, rfl, hr1, rfl, _, _, rfl, _, _, rfl, rfl, ?_⟩
            have q2 := qQ (lastF st) (by show endF (walkF k as) = _; rw [hst]; rfl)
            have pos : 0 < st.fs.length := by
              have z : st.stk.length = 1 := by
                unfold walkF at hst
                cases er : runW k as w0 with
                | inl i => rw [er] at hst; cases hst
                | inr st2 =>
                  rw [er] at hst
                  have hst : (if st2.stk.length = 1 then (Sum.inr st2 : Nat ⊕ WSt) else .inl as.length) = .inr st := hst
                  by_cases c1 : st2.stk.length = 1
                  · rw [if_pos c1] at hst; cases hst; exact c1
                  · rw [if_neg c1] at hst; cases hst
              have := wok.few
              omega
            have lastE : lastF st = st.fs[st.fs.length - 1]'(by omega) := by
              unfold lastF
              rw [List.getLastD_eq_getLast?, List.getLast?_eq_getElem?, List.getElem?_eq_getElem (by omega)]
              rfl
            obtain ⟨fv, hfv, hff⟩ := paired_at2 hf (i := st.fs.length - 1) (by omega)
            have lfv : fvs.length = st.fs.length := hf.length
            refine ⟨_, rfl, _, rfl, l, fvs, -1, fv, rfl, rfl, SqL.of hl1, atI_end (by rw [lfv]; exact hfv) (by rw [lfv]; exact pos), ?_⟩
            refine q2 ?_ H' fv s1 (by rw [lastE]; exact hff)
            rw [lastE]
            exact wok.ok _ (List.getElem_mem _)
end
end Sm

set_option Elab.async false
set_option linter.all false
set_option maxRecDepth 100000
set_option maxHeartbeats 8000000
namespace Sm
open PySem PySem.Spec PyProof.Rows L2
abbrev sIsi : Stmt := topS 25
abbrev sLst : Stmt := topS 9999
/-! ### the law's own steps -/
def ledgeOf (k : Int) : List V → Option Stp
  | [.int i, .int j] => if (inR k i && inR k j) = true then some (.edge i j) else none
  | _ => none
def lstepOf (k : Int) : AV → Option Stp
  | .tup (.str w :: l) => if w = "edge" then ledgeOf k l else if w = "new" then newOf k l else if w = "forget" then fgtOf k l else if w = "empty" then zeroOf .emp l else if w = "join" then zeroOf .join l else none
  | _ => none
def arity (w : Str) : Option Nat := if w = "empty" then some 0 else if w = "new" then some 1 else if w = "edge" then some 2 else if w = "forget" then some 1 else if w = "join" then some 0 else none
def allR (k : Int) (l : List V) : Bool := l.all fun v => vtxB (k + 1) (intOf v)
abbrev manyD : List (Key × V) := [(Sum.inr "empty", .int 0), (Sum.inr "new", .int 1), (Sum.inr "edge", .int 2), (Sum.inr "forget", .int 1), (Sum.inr "join", .int 0)]
theorem manyD_get (w : Str) : valV manyD (Sum.inr w) = (arity w).map fun (n : Nat) => V.int n := by
  unfold arity
  by_cases c1 : w = "empty"
  · rw [if_pos c1, c1]; rfl
  rw [if_neg c1]
  rw [valV_neg (fun z => c1 (Sum.inr.inj z).symm)]
  by_cases c2 : w = "new"
  · rw [if_pos c2, c2]; rfl
  rw [if_neg c2]
  rw [valV_neg (fun z => c2 (Sum.inr.inj z).symm)]
  by_cases c3 : w = "edge"
  · rw [if_pos c3, c3]; rfl
  rw [if_neg c3]
  rw [valV_neg (fun z => c3 (Sum.inr.inj z).symm)]
  by_cases c4 : w = "forget"
  · rw [if_pos c4, c4]; rfl
  rw [if_neg c4]
  rw [valV_neg (fun z => c4 (Sum.inr.inj z).symm)]
  by_cases c5 : w = "join"
  · rw [if_pos c5, c5]; rfl
  rw [if_neg c5]
  rw [valV_neg (fun z => c5 (Sum.inr.inj z).symm)]
  rfl
theorem inR_vtx {k i : Int} : vtxB (k + 1) (some i) = inR k i := rfl
theorem lstep_some {k : Int} {w : Str} {l : List V} : (lstepOf k (.tup (.str w :: l))).isSome = (match arity w with | none => false | some n => decide (l.length = n) && allR k l) := by
  have e : lstepOf k (.tup (.str w :: l)) = if w = "edge" then ledgeOf k l else if w = "new" then newOf k l else if w = "forget" then fgtOf k l else if w = "empty" then zeroOf .emp l else if w = "join" then zeroOf .join l else none := rfl
  rw [e]
  unfold arity
  have zero : ∀ s : Stp, (zeroOf s l).isSome = (decide (l.length = 0) && allR k l) := fun s => by
    match l with
    | [] => rfl
    | _ :: _ => rfl
  have one : oneV (k + 1) l = (decide (l.length = 1) && allR k l) := by
    match l with
    | [] => rfl
    | [x] => show _ = (true && (vtxB (k + 1) (intOf x) && true)); rw [Bool.true_and, Bool.and_true]; rfl
    | _ :: _ :: _ => rfl
  by_cases c3 : w = "edge"
  · subst c3
    rw [if_pos rfl, if_neg (by decide +kernel), if_neg (by decide +kernel), if_pos rfl]
    match l with
    | [] => rfl
    | [x] => cases x <;> rfl
    | [x, y] =>
      show (ledgeOf k [x, y]).isSome = (true && (vtxB (k + 1) (intOf x) && (vtxB (k + 1) (intOf y) && true)))
      rw [Bool.true_and, Bool.and_true]
      cases x with
      | int i =>
        cases y with
        | int j => exact isSome_ite
        | _ => show false = (inR k i && false); rw [Bool.and_false]
      | _ => rfl
    | x :: y :: z :: t => cases x <;> cases y <;> rfl
  rw [if_neg c3]
  by_cases c2 : w = "new"
  · subst c2
    rw [if_pos rfl, if_neg (by decide +kernel), if_pos rfl, new_some]
    exact one
  rw [if_neg c2]
  by_cases c4 : w = "forget"
  · subst c4
    rw [if_pos rfl, if_neg (by decide +kernel), if_neg (by decide +kernel), if_neg (by decide +kernel), if_pos rfl, fgt_some]
    exact one
  rw [if_neg c4]
  by_cases c1 : w = "empty"
  · subst c1
    rw [if_pos rfl, if_pos rfl]
    exact zero _
  rw [if_neg c1]
  by_cases c5 : w = "join"
  · subst c5
    rw [if_pos rfl, if_neg (by decide +kernel), if_neg (by decide +kernel), if_neg (by decide +kernel), if_neg (by decide +kernel), if_pos rfl]
    exact zero _
  rw [if_neg c5, if_neg c1, if_neg c2, if_neg c3, if_neg c4, if_neg c5]
  rfl
def spIsG : Sp := fun vs H Q _ => ∃ v, vs = [v] ∧ Flat v ∧ Q (.bl (intOf v).isSome) H
section
variable {P : Program} {w : World} {K : PySem.W.Frag} {mg : Str → Option Value} {base : Heap}
theorem scIsi : FnScope ["actual"] ["actual"] (defScope sIsi) := ⟨rfl, rfl, rfl, by decide +kernel, rfl, by decide +kernel, by decide +kernel⟩
theorem ok_isg {f : Addr} {fd : FuncData} (F : Fun K "_law_is_integer" "_law_is_integer" sIsi f fd) (T : TxA mg) : FnOk P w K mg base CX0 1 f fd ["actual"] spIsG := by
  refine F.ok scIsi (fun vs H Q E h => ?_) (fun cdv A outer s H vs Q E hr h => ?_)
  · obtain ⟨v, rfl, _⟩ := h
    rfl
  · obtain ⟨v, rfl, hv, q⟩ := h
    refine ⟨_, pss_one (ps_ret (pe_and (pe_callB call_isi (by rfl) T.isi (by decide +kernel) (pa_cons (pv 0) (pa_cons (pe_bltn (v := .ty "int") (by rfl) T.int (by decide +kernel) rfl) pa_nil)))
      (pe_one (pe_not (pe_callB call_isi (by rfl) T.isi (by decide +kernel) (pa_cons (pv 0) (pa_cons (pe_bltn (v := .ty "bool") (by rfl) T.bool (by decide +kernel) rfl) pa_nil))))))), ?_⟩
    cases hv with
    | int i =>
      refine ⟨_, rfl, .int i, .ty "int", .type "int", .type "int", true, rfl, .ty "int", .base (.int i), kit_ty (by decide +kernel), true, rfl, iteT ?_⟩
      exact ⟨_, rfl, .int i, .ty "bool", .type "int", .type "bool", false, rfl, .ty "bool", .base (.int i), kit_ty (by decide +kernel), false, rfl, q⟩
    | bl b =>
      refine ⟨_, rfl, .bl b, .ty "int", .type "bool", .type "int", true, rfl, .ty "int", .base (.bl b), kit_ty (by decide +kernel), true, rfl, iteT ?_⟩
      exact ⟨_, rfl, .bl b, .ty "bool", .type "bool", .type "bool", true, rfl, .ty "bool", .base (.bl b), kit_ty (by decide +kernel), true, rfl, q⟩
    | str z =>
      exact ⟨_, rfl, .str z, .ty "int", .type "str", .type "int", false, rfl, .ty "int", .base (.str z), kit_ty (by decide +kernel), false, rfl, iteF q⟩
end
end Sm

set_option Elab.async false
set_option linter.all false
set_option maxRecDepth 100000
set_option maxHeartbeats 8000000
/-! ### sorted of a tuple of integers -/
namespace SmSo
open PySem PyProof.Rows Srt SrtO
section
variable {prog : Program} {w : World} {A : Around} {E : Value → Shared → Prop} {s : Shared}
theorem coll_tup {l : Addr} {vs : List Value} {Q : List Value → Shared → Prop} (hl : s.heap.IsTuple l vs.toArray)
    (h : Q vs { s with heap := (s.heap.push (seqObj "list" #[] 0)).update s.heap.objs.size (Obj.mapSeq (· ++ vs.toArray)) }) (hsz : vs.length ≤ sizeLine) :
    wpAny (model prog w) A (collect (.ref l)) Q E s := by
  obtain ⟨o, ho, hc, n, hd⟩ := id hl
  unfold collect
  refine wpAny_bind (wpAny_runValue (codeAny_builtin entry_proto_collect' ?_))
  show wpAny _ _ (do again (.builtin "list.__iadd__" ⟨[← newList [], .ref l], []⟩)) _ _ s
  refine wpAny_bind (wpAny_newList (wpAny_pure ⟨Code.quiet_builtin _ (by decide +kernel), codeAny_builtin entry_list_iadd' ?_⟩))
  show wpAny _ _ (Builtin.List.listExtendWith (.ref s.heap.objs.size) (.ref l) (.ref s.heap.objs.size)) _ _ { s with heap := s.heap.push (seqObj "list" #[] 0) }
  unfold Builtin.List.listExtendWith
  have ho' : (s.heap.push (seqObj "list" #[] 0)).get? l = some o := Heap.get?_push_of_some _ ho
  refine wpAny_bind (wpAny_typeOf (T := "tuple") ⟨o, ho', hc⟩ ?_)
  have ht : (Value.type "tuple" == Value.type "tuple") = true := by rfl
  rw [if_pos (by rw [ht]; simp)]
  refine wpAny_bind (listItems_at ho' hd ?_)
  refine wpAny_bind (listItems_at (xs := #[]) (n := 0) (Heap.get?_push_size _ rfl) rfl ?_)
  rw [if_neg (by simp)]
  refine wpAny_bind (listUpdate_at (xs := #[]) (n := 0) (Heap.get?_push_size _ rfl) rfl ?_ (Nat.zero_le _) (by show (#[] ++ vs.toArray).size ≤ sizeLine + 1; simp only [Array.size_append, List.size_toArray, List.length_nil]; omega))
  refine wpAny_pure ?_
  show wpAny (model prog w) A (do
      let o ← load s.heap.objs.size
      match o.data with
      | .seq xs _ => pure xs.toList
      | _ => unsupported "internal:collect") Q E { s with heap := (s.heap.push (seqObj "list" #[] 0)).update s.heap.objs.size (Obj.mapSeq (· ++ vs.toArray)) }
  refine wpAny_bind (wpAny_load (get?_update_seq (Heap.get?_push_size _ rfl) _) ?_)
  show wpAny _ _ (pure ((#[] : Array Value) ++ vs.toArray).toList) Q E _
  rw [show ((#[] : Array Value) ++ vs.toArray).toList = vs by simp]
  exact wpAny_pure h
theorem sort_tup {l : Addr} {vs : List Value} {ltv : Value → Value → Bool} {Q : Value → Shared → Prop} (O : Swo ltv) (hl : s.heap.IsTuple l vs.toArray) (hz : vs.length ≤ sizeLine)
    (hS : 2 ≤ vs.length → ∀ (h₁ : Heap) (a : Addr), h₁.get? a = some (seqObj "list" vs.toArray 0) → (∀ b o, s.heap.get? b = some o → b ≠ a ∧ h₁.get? b = some o) → SortableO prog w A.in1.in1 { s with heap := h₁ } a vs ltv)
    (h : ∀ out : List Value, Srtd ltv out → Stb ltv out vs → Q (.ref (s.heap.objs.size + 1)) { s with heap := sortedAll s.heap vs out.toArray }) :
    wpAny (model prog w) A (call (.builtin "sorted") [.ref l]) Q E s := by
  refine Calls.call_function_entry kind_sorted plain_sorted entry_sorted (args_sorted1 _) ?_
  unfold Builtin.«sorted»
  refine wpAny_bind (m := checkCount "sorted" 1 1 _) (wpAny_pure ?_)
  refine wpAny_bind (coll_tup hl ?_ hz)
  refine wpAny_bind (wpAny_newList ?_ hz)
  have hsz : ((s.heap.push (seqObj "list" #[] 0)).update s.heap.objs.size (Obj.mapSeq (· ++ vs.toArray))).objs.size = s.heap.objs.size + 1 := by
    rw [Heap.size_update, size_push']
  have hoL : (((s.heap.push (seqObj "list" #[] 0)).update s.heap.objs.size (Obj.mapSeq (· ++ vs.toArray))).push (seqObj "list" vs.toArray 0)).get? (s.heap.objs.size + 1) = some (seqObj "list" vs.toArray 0) := by
    rw [← hsz]; exact Heap.get?_push_size _ rfl
  have keep : ∀ b o, s.heap.get? b = some o → b ≠ s.heap.objs.size + 1 ∧ (((s.heap.push (seqObj "list" #[] 0)).update s.heap.objs.size (Obj.mapSeq (· ++ vs.toArray))).push (seqObj "list" vs.toArray 0)).get? b = some o := fun b o q => by
    have hlt : b < s.heap.objs.size := Heap.lt_size q
    refine ⟨Nat.ne_of_lt (Nat.lt_succ_of_lt hlt), Heap.get?_push_of_some _ ?_⟩
    rw [Heap.get?_update_ne _ _ _ _ (Nat.ne_of_lt hlt)]
    exact Heap.get?_push_of_some _ q
  show wpAny _ _ _ _ _ { s with heap := ((s.heap.push (seqObj "list" #[] 0)).update s.heap.objs.size (Obj.mapSeq (· ++ vs.toArray))).push (seqObj "list" vs.toArray 0) }
  rw [hsz]
  refine wpAny_bind (wpAny_holding (wpAny_call_entry slot_list_sort ⟨_, hoL, rfl⟩ entry_list_sort (list_sort_ord O hoL hz (fun h2 => hS h2 _ _ hoL keep) fun out hs hb => ⟨_, rfl, ?_⟩) (args_list_sort _)))
  exact wpAny_pure ⟨_, rfl, h out hs hb⟩
theorem sorted_pairsT {l : Addr} {vs : List Value} {k : Value → Int × Int} {Q : Value → Shared → Prop} (hl : s.heap.IsTuple l vs.toArray) (hz : vs.length ≤ sizeLine) (hp : ∀ v ∈ vs, IsPair s.heap v (k v).1 (k v).2)
    (h : ∀ (h' : Heap) (d : Addr) (out : List Value), Srtd (fun v u => lexB (k v) (k u)) out → Stb (fun v u => lexB (k v) (k u)) out vs → (∀ b o, s.heap.get? b = some o → h'.get? b = some o) → s.heap.objs.size ≤ d → (∃ n, h'.get? d = some (seqObj "list" out.toArray n)) → Q (.ref d) { s with heap := h' }) :
    wpAny (model prog w) A (call (.builtin "sorted") [.ref l]) Q E s := by
  refine sort_tup (swo_lex k) hl hz (fun h2 h₁ a ha kk => ?_) fun out hs hb => ?_
  · refine pairs_sortableO (s := { s with heap := h₁ }) (by omega) (fun v hm => (hp v hm).keeps fun b o e _ => (kk b o e).2) fun o e => ?_
    have e' : some o = some (seqObj "list" vs.toArray 0) := e.symm.trans ha
    cases e'
    intro c
    exact absurd (Value.type.inj c) (by decide)
  · exact h _ _ out hs hb (fun b o e => sortedAll_old e) (Nat.le_succ _) (sortedAll_at s.heap vs out.toArray)
end
end SmSo
namespace Sm
open PySem PySem.Spec PyProof.Rows L2
def rSortTI (K : PySem.W.Frag) : List V → Hp → VK → Prop := fun vs H Q => ∃ (a : Addr) (ns : List Int), vs = [V.ref a] ∧ SqT K H a (ns.map V.int) ∧
  ∀ (ns' : List Int) (p : Addr), ns'.Perm ns → ns'.Pairwise (· ≤ ·) → H p = none → Q (.ref p) (upd H p (.lst (ns'.map V.int)))
theorem cr_sortTI {X : Cx} : CallR X (.builtin "sorted") (rSortTI X.K) := by
  intro pins s σ H vs us Q I r h
  obtain ⟨a, ns, rfl, hs, q⟩ := h
  obtain ⟨its, rv, hl, hz⟩ := I.tuple hs
  rw [Vals.ref1 r]
  have hi := rv.ints
  refine SmSo.sort_tup SrtO.swo_int (show s.heap.IsTuple a its.toArray from hl) (by rw [← rv.length]; exact hz) (fun h2 h₁ a' _ _ => SrtO.ints_sortable hi h2) fun out h1 h2 => ?_
  obtain ⟨k1, k2, k3⟩ := SrtO.ints_out hi h1 h2
  obtain ⟨ep, he'⟩ := PyProof.Rows.sortedAll_at s.heap its out.toArray
  have hlen : ((out.map SrtO.iv).map V.int).length ≤ sizeLine := by
    rw [List.length_map, k2.length_eq]
    rw [List.length_map] at hz
    exact hz
  exact ⟨.ref _, upd H (s.heap.objs.size + 1) (.lst ((out.map SrtO.iv).map V.int)), I.laid (t' := s.toks) (fun _ _ => PyProof.Rows.sortedAll_old) (Nat.le_succ _) ⟨hlen, out, ep, vals_of_ints k1, he'⟩, rfl, q _ _ k2 k3 (I.hok.fresh (Nat.le_succ _))⟩
def rSortedPT (K : PySem.W.Frag) : List V → Hp → VK → Prop := fun vs H Q => ∃ (a : Addr) (as : List Addr) (es : List Pr), vs = [V.ref a] ∧ SqT K H a (as.map V.ref) ∧ PairsAt K H as es ∧
  ∀ (as' : List Addr) (es' : List Pr) (p : Addr), PairsAt K H as' es' → es'.Perm es → (es'.Pairwise fun x y => SrtO.lexB y x = false) → H p = none → Q (.ref p) (upd H p (.lst (as'.map V.ref)))
section
variable {X : Cx}
theorem cr_sortedPT : CallR X (.builtin "sorted") (rSortedPT X.K) := by
  intro pins s σ H vs us Q I r h
  obtain ⟨a, as, es, rfl, hs, hP, q⟩ := h
  obtain ⟨its, rv, hl, hz⟩ := I.tuple hs
  obtain ⟨u, rfl, ru⟩ := vals1 r
  obtain rfl : u = Value.ref a := ru
  have hx : ∀ x ∈ as.map V.ref, ∃ t, x = V.ref t ∧ SqT X.K H t [.int (keyP X.K H x).1, .int (keyP X.K H x).2] := fun x hx => by
    obtain ⟨t, ht, rfl⟩ := List.mem_map.mp hx
    obtain ⟨i, hi⟩ := List.getElem?_of_mem ht
    obtain ⟨q, _, hq⟩ := hP.get hi
    exact ⟨t, rfl, keyP_spec hq⟩
  obtain ⟨e1, e2⟩ := refs_back rv fun x m => by
    obtain ⟨t, e, _⟩ := hx x m
    exact ⟨t, e⟩
  refine SmSo.sorted_pairsT (k := fun u => keyP X.K H (backV u)) (show s.heap.IsTuple a its.toArray from hl) (by rw [← rv.length]; exact hz) (fun v hv => ?_) fun h' d out h1 h2 kp hd hn => ?_
  · obtain ⟨t, rfl⟩ := e2 v hv
    have hm : V.ref t ∈ as.map V.ref := by rw [e1]; exact List.mem_map.mpr ⟨_, hv, rfl⟩
    obtain ⟨t', e, ht⟩ := hx _ hm
    cases e
    obtain ⟨its2, r2, ⟨o, ho, hc, n, hd⟩, _⟩ := I.tuple ht
    obtain ⟨u1, u2, rfl, ri, rj⟩ := vals2 r2
    obtain ⟨t1, rfl⟩ := ri
    obtain ⟨t2, rfl⟩ := rj
    exact ⟨t, o, t1, t2, n, rfl, ho, hc, hd⟩
  · have h3 : ∀ u ∈ out, ∃ a, u = Value.ref a := fun u hu => e2 u (h2.perm.mem_iff.mp hu)
    obtain ⟨n, hn⟩ := hn
    have hb : SrtO.Stb (ltP (keyP X.K H)) (out.map backV) (as.map V.ref) := by
      rw [e1]
      exact SrtO.Stb.map (ltP_swo (keyP X.K H)) backV h2
    obtain ⟨as', ea, pa⟩ := pairs_keys (K := X.K) (H := H) (ys := out.map backV) fun y hy => hx y (hb.perm.mem_iff.mp hy)
    have pm : ((out.map backV).map (keyP X.K H)).Perm es := by
      have z := hb.perm.map (keyP X.K H)
      rw [keys_eq I hP] at z
      exact z
    have sr : ((out.map backV).map (keyP X.K H)).Pairwise fun x y => SrtO.lexB y x = false := List.pairwise_map.mpr (SrtO.srtd_map h1)
    refine ⟨.ref d, upd H d (.lst (out.map backV)), I.laid (t' := s.toks) kp hd ⟨?_, out, n, vals_back h3, hn⟩, rfl, ?_⟩
    · rw [hb.len]
      exact hz
    · have z := q as' _ d pa pm sr (I.hok.fresh hd)
      rw [← ea] at z
      exact z
end
end Sm

set_option Elab.async false
set_option linter.all false
set_option maxRecDepth 100000
set_option maxHeartbeats 8000000
namespace Sm
open PySem PySem.Spec PyProof.Rows L2
abbrev sLfr : Stmt := topS 29
def lframe : Stp → List Fr → Option Fr
  | .edge i j, fs => if i < j then frameAfter (.edge i j) fs else none
  | s, fs => frameAfter s fs
def spLfr (K : PySem.W.Frag) : Sp := fun vs H Q _ => ∃ v t s fvs fs, vs = [v, .ref t] ∧ StV K H v s ∧ SqL K H t fvs ∧ FrsV K H fvs fs ∧ fs.length = s.many ∧ (∀ f ∈ fs, FrOk f) ∧ ∀ H' v, Same H H' → OptFr K H' v (lframe s fs) → Q v H'
theorem ixTup_at {X : Cx} {K : PySem.W.Frag} (hK : X.K = K) : IxR X (rIxT K) := by
  subst hK
  exact ix_tup
theorem catA_q {K : PySem.W.Frag} {H : Hp} {a b : Addr} {xs ys : List V} {Q : VK} (ha : SqT K H a xs) (hb : SqT K H b ys) (few : xs.length + ys.length ≤ sizeLine) (q : ∀ H' r, Same H H' → SqT K H' r (xs ++ ys) → Q (.ref r) H') : rCatA K (.ref a) (.ref b) H Q := by
  refine ⟨a, b, xs, ys, rfl, rfl, ha, hb, few, fun e => ?_, fun _ e => ?_, fun _ _ p np => q _ p (same_upd np) (SqT.of upd_same)⟩
  · subst e
    exact q H b (Same.refl _) hb
  · subst e
    exact q H a (Same.refl _) (by rw [List.append_nil]; exact ha)
theorem slA_q {K : PySem.W.Frag} {H : Hp} {a : Addr} {xs : List V} {lo hi : Option Int} {Q : VK} (ha : SqT K H a xs) (q : ∀ H' r, Same H H' → SqT K H' r (cutV xs lo hi) → Q (.ref r) H') : rSlA K (.ref a) lo hi H Q := by
  refine ⟨a, xs, rfl, ha, fun e => ?_, fun _ p np => q _ p (same_upd np) (SqT.of upd_same)⟩
  have z : cutV xs lo hi = xs := by
    unfold cutV
    rw [e.1, e.2, List.drop_zero, Nat.sub_zero, List.take_length]
  exact q H a (Same.refl _) (by rw [z]; exact ha)
section
variable {P : Program} {w : World} {K : PySem.W.Frag} {mg : Str → Option Value} {base : Heap}
abbrev lfrN : List Str := ["step", "frames", "word", "labels", "pairs", "i", "pair", "one"]
theorem scLfr : FnScope lfrN ["step", "frames"] (defScope sLfr) := ⟨rfl, rfl, rfl, by decide +kernel, rfl, by decide +kernel, by decide +kernel⟩
theorem ok_lfr {f : Addr} {fd : FuncData} (F : Fun K "_law_frame" "_law_frame" sLfr f fd) (ml : mg "len" = none) (mt : mg "tuple" = none) (ms : mg "sorted" = none) : FnOk P w K mg base CX0 1 f fd ["step", "frames"] (spLfr K) := by
  refine F.ok scLfr (fun vs H Q E h => ?_) (fun cdv A outer s H vs Q E hr h => ?_)
  · obtain ⟨v, t, x, fvs, fs, rfl, _⟩ := h
    rfl
  · obtain ⟨v, t, x, fvs, fs, rfl, ⟨a, rfl, hv⟩, hT, hF, hl, ok, q⟩ := h
    have hu := u65 hr
    refine ⟨_, pss_cons (ps_set (i := 2) scLfr.nd rfl (.inl rfl) (pe_ix ix_tup (pv 0) pe_int (fun _ _ => rfl)))
      (pss_cons (ps_if (pt_cmpR op_eq (pv 2) pe_str (nomark _)) (pss_one (ps_ret (pe_tup (pa_cons (pe_tup pa_nil) (pa_cons (pe_tup pa_nil) pa_nil))))) pss_nil)
      (pss_cons (ps_asg (pe_ix ix_list (pv 1) pe_int (fun _ _ => rfl)) (pg_tup (by rfl) (pgs_cons (pg_name (i := 3) scLfr.nd rfl (.inl rfl)) (pgs_cons (pg_name (i := 4) scLfr.nd rfl (.inl rfl)) pgs_nil))))
      (pss_cons (ps_if (pt_cmpR op_eq (pv 2) pe_str (nomark _))
        (pss_cons (ps_if (PW.pt (pw_or (pt_cmpR (op_neD hr.units) (pe_ix ix_tup (pe_ix ix_list (pv 1) pe_int (fun _ _ => rfl)) pe_int (fun _ _ => rfl)) (pv 3) (nomark _))
          (pw_or1 (pt_cmpR op_gt (pe_callB call_len_seq (by rfl) ml PySem.boot_len (pa_cons (pe_lc (own := [("pair", 6)]) (g := gName 6) (by rfl) scLfr.nd (pi_tup (pv 4)) (blkOk_by (own := [("pair", 6)]) (N := lfrN) (sc := defScope sLfr) (by decide +kernel))
            (fun _ _ _ _ _ => pg_name (i := 6) scLfr.nd rfl (Or.inl rfl)) (fun _ _ _ _ _ => pts_one (pt_cmpR (inDT_at rfl rfl hu) (pv 6) (pe_ix (ixTup_at (K := K) rfl) (pe_ix (ixL_at (K := K) rfl) (pv 1) pe_int (fun _ _ => rfl)) pe_int (fun _ _ => rfl)) (by rfl))) (fun _ _ _ _ _ => pv 6)) pa_nil)) pe_int (nomark _))))) (pss_one (ps_ret pe_non)) pss_nil)
        (pss_one (ps_ret (pe_tup (pa_cons (pv 3) (pa_cons (pe_callTy call_tuple_of (by rfl) mt (by decide +kernel) (pa_cons (pe_callB cr_sortedPT (by rfl) ms (by decide +kernel) (pa_cons (pe_op op_catA (pv 4) (pe_ix ix_tup (pe_ix ix_list (pv 1) pe_int (fun _ _ => rfl)) pe_int (fun _ _ => rfl))) pa_nil)) pa_nil)) pa_nil)))))) pss_nil)
      (pss_cons (ps_set (i := 5) scLfr.nd rfl (.inr rfl) (pe_ix ix_tup (pv 0) pe_int (fun _ _ => rfl)))
      (pss_cons (ps_if (pt_cmpR op_eq (pv 2) pe_str (nomark _)) (pss_one (ps_ret (pe_ifExp (pt_cmpR op_in_seq (pv 5) (pv 3) (by rfl)) pe_non (pe_tup (pa_cons (pe_callTy call_tuple_of (by rfl) mt (by decide +kernel) (pa_cons (pe_callB cr_sortTI (by rfl) ms (by decide +kernel) (pa_cons (pe_op op_catA (pv 3) (pe_tup (pa_cons (pv 5) pa_nil))) pa_nil)) pa_nil)) (pa_cons (pv 4) pa_nil)))))) pss_nil)
      (pss_cons (ps_if (pt_cmpR op_notIn_seq (pv 5) (pv 3) (by rfl)) (pss_one (ps_ret pe_non)) pss_nil)
      (pss_cons (ps_if (pt_cmpR op_eq (pv 2) pe_str (nomark _)) (pss_one (ps_ret (pe_tup (pa_cons (pe_callTy call_tuple_of (by rfl) mt (by decide +kernel) (pa_cons (pe_lc (own := [("one", 7)]) (g := gName 7) (by rfl) scLfr.nd (pi_tup (pv 3)) (blkOk_by (own := [("one", 7)]) (N := lfrN) (sc := defScope sLfr) (by decide +kernel))
            (fun _ _ _ _ _ => pg_name (i := 7) scLfr.nd rfl (Or.inl rfl)) (fun _ _ _ _ _ => pts_one (pt_cmpR op_ne (pv 7) (pv 5) (nomark _))) (fun _ _ _ _ _ => pv 7)) pa_nil))
          (pa_cons (pe_callTy call_tuple_of (by rfl) mt (by decide +kernel) (pa_cons (pe_lc (own := [("pair", 6)]) (g := gName 6) (by rfl) scLfr.nd (pi_tup (pv 4)) (blkOk_by (own := [("pair", 6)]) (N := lfrN) (sc := defScope sLfr) (by decide +kernel))
            (fun _ _ _ _ _ => pg_name (i := 6) scLfr.nd rfl (Or.inl rfl)) (fun _ _ _ _ _ => pts_one (pt_cmpR (notInS_at (K := K) rfl) (pv 5) (pv 6) (by rfl))) (fun _ _ _ _ _ => pv 6)) pa_nil)) pa_nil))))) pss_nil)
      (pss_cons (ps_if (PW.pt (pw_or (pt_cmpR op_ge (pv 5) (pe_ix ix_tup (pv 0) pe_int (fun _ _ => rfl)) (nomark _)) (pw_or (pt_cmpR op_notIn_seq (pe_ix ix_tup (pv 0) pe_int (fun _ _ => rfl)) (pv 3) (by rfl)) (pw_or1 (pt_cmpR (op_inDT hu) (pe_slice sl_tupA (pv 0) (po_some pe_int) po_none) (pv 4) (by rfl)))))) (pss_one (ps_ret pe_non)) pss_nil)
      (pss_one (ps_ret (pe_tup (pa_cons (pv 3) (pa_cons (pe_callTy call_tuple_of (by rfl) mt (by decide +kernel) (pa_cons (pe_callB cr_sortedPT (by rfl) ms (by decide +kernel) (pa_cons (pe_op op_catA (pv 4) (pe_tup (pa_cons (pe_slice sl_tupA (pv 0) (po_some pe_int) po_none) pa_nil))) pa_nil)) pa_nil)) pa_nil))))))))))))), ?_⟩
    cases x with
    | emp =>
      have hv' : SqT K H a [.str "empty"] := hv
      refine ⟨_, rfl, a, _, 0, _, rfl, rfl, hv', atI_nat (j := 0) rfl, ?_⟩
      refine ⟨_, rfl, rfl, _, rfl, iteY rfl ?_⟩
      refine ⟨(by show 0 ≤ sizeLine; decide), fun t1 nt1 => ⟨(by show 0 ≤ sizeLine; decide), fun t2 nt2 => ⟨(by show 2 ≤ sizeLine; decide), fun r nr => ?_⟩⟩⟩
      have s1 := same_upd (o := .tup []) nt1
      have s2 := same_upd (o := .tup []) nt2
      have s3 := same_upd (o := .tup [V.ref t1, V.ref t2]) nr
      exact q _ _ (s1.trans (s2.trans s3)) ⟨r, t1, t2, [], rfl, SqT.of upd_same, SqT.of (s3 _ _ (s2 _ _ upd_same)), SqT.of (s3 _ _ upd_same), .nil⟩
    | join =>
      obtain ⟨v1, v2, f1, f2, rfl, rfl, ⟨a1, t1, p1, ps1, rfl, g1, g2, g3, g4⟩, ⟨a2, t2, p2, ps2, rfl, k1, k2, k3, k4⟩⟩ := two_of hF hl
      have hv' : SqT K H a [.str "join"] := hv
      refine ⟨_, rfl, a, _, 0, _, rfl, rfl, hv', atI_nat (j := 0) rfl, ?_⟩
      refine ⟨_, rfl, rfl, _, rfl, iteD (by decide +kernel) ?_⟩
      refine ⟨_, rfl, t, _, 0, .ref a1, rfl, rfl, hT, atI_nat (j := 0) rfl, a1, _, rfl, g1, rfl, _, _, rfl, _, _, rfl, rfl, ?_⟩
      refine ⟨_, rfl, rfl, _, rfl, iteY rfl ?_⟩
      have l2 := (ok f1 (by simp)).len2
      have l3 := (ok f2 (by simp)).len2
      have lp1 : ps1.length = f1.2.length := g4.length
      have lp2 : ps2.length = f2.2.length := k4.length
      have no : ¬ (f1.1 = f2.1 ∧ ∀ q ∈ f2.2, q ∉ f1.2) → ∀ H', Same H H' → Q V.non H' := fun c H' s1 => by
        have e : lframe .join [f1, f2] = none := if_neg c
        rw [e] at q
        exact q H' .non s1 rfl
      refine ⟨_, rfl, t, _, 1, .ref a2, rfl, rfl, hT, atI_nat (j := 1) rfl, a2, _, 0, .ref t2, rfl, rfl, k1, atI_nat (j := 0) rfl, ?_⟩
      refine ⟨_, rfl, .tuple (f2.1.map PyData.int), .tuple (f1.1.map PyData.int), .tup k2 (dp_ints _), .tup g2 (dp_ints _), ints_shaped _, ints_shaped _, _, rfl, ?_⟩
      rw [intsT_eqv]
      rcases (Classical.em (f2.1 = f1.1)).symm with c1 | c1
      · rw [decide_eq_false c1]
        exact iteT (iteT (no (fun z => c1 z.1.symm) H (Same.refl _)))
      rw [decide_eq_true c1]
      refine iteF ?_
      refine ⟨_, rfl, p1, rfl, ⟨_, g3⟩, fun D nD => ?_⟩
      refine lc_tup (K := K) (a := p1) (xs := ps1.map V.ref) (fun j H' => Same H H' ∧ ∃ as : List V, H' D = some (.lst as) ∧ as.length = ((f1.2.take j).filter fun q => decide (q ∈ f2.2)).length) ⟨same_upd nD, [], upd_same, rfl⟩ (fun j H' _ h => same_sqT h.1 g3) ?_ ?_
      · rintro j x H' hx ⟨sm, as, hD, la⟩
        rw [List.getElem?_map] at hx
        cases ex : ps1[j]? with
        | none => rw [ex] at hx; cases hx
        | some b =>
          rw [ex] at hx
          cases hx
          obtain ⟨pq, hq, hb⟩ := g4.get ex
          have tk : f1.2.take (j + 1) = f1.2.take j ++ [pq] := L2.take_next hq
          have jl : j < f1.2.length := (List.getElem?_eq_some_iff.mp hq).1
          have la2 : as.length ≤ 169 := by rw [la]; exact Nat.le_trans (List.length_filter_le _ _) (by rw [List.length_take]; omega)
          refine ⟨rfl, _, rfl, _, rfl, t, _, 1, .ref a2, rfl, rfl, sm.seq hT, atI_nat (j := 1) rfl, a2, _, 1, .ref p2, rfl, rfl, same_sqT sm k1, atI_nat (j := 1) rfl, ?_⟩
          refine ⟨pD pq, f2.2.map pD, dp_pair (same_sqT sm hb), .tup (same_sqT sm k3) (dp_pairs (pairs_same sm k4)), pD_shaped _, pDs_shapedT _, _, rfl, ?_⟩
          show (if ((f2.2.map pD).any fun z => PyData.eqv z (pD pq)) = true then _ else _)
          rw [pDs_any]
          by_cases cq : pq ∈ f2.2
          · refine iteY cq ⟨_, rfl, _, hD, small1000 (by omega), same_put sm nD, _, upd_same, ?_⟩
            rw [List.length_append, la, tk, List.filter_append, List.length_append]
            simp [List.filter, cq]
          · refine iteD cq ⟨sm, as, hD, ?_⟩
            rw [la, tk, List.filter_append, List.length_append]
            simp [List.filter, cq]
      · rintro H1 ⟨s1, as, hD, la⟩
        rw [List.length_map, lp1, List.take_length] at la
        refine ⟨D, _, rfl, .inl (SqL.of hD), _, _, rfl, rfl, _, rfl, ?_⟩
        by_cases c2 : ∀ q ∈ f2.2, q ∉ f1.2
        · have z : (f1.2.filter fun q => decide (q ∈ f2.2)) = [] := List.filter_eq_nil_iff.mpr fun q hq => by
            rw [decide_eq_false (fun h => c2 q h hq)]
            decide
          rw [z] at la
          refine iteD (by rw [la]; decide) ?_
          have e : lframe .join [f1, f2] = some (f1.1, sP (f1.2 ++ f2.2)) := if_pos ⟨c1.symm, c2⟩
          rw [e] at q
          refine ⟨_, rfl, _, rfl, _, rfl, t, _, 1, .ref a2, rfl, rfl, s1.seq hT, atI_nat (j := 1) rfl, a2, _, 1, .ref p2, rfl, rfl, same_sqT s1 k1, atI_nat (j := 1) rfl, ?_⟩
          refine catA_q (same_sqT s1 g3) (same_sqT s1 k3) (by rw [List.length_map, List.length_map]; exact Nat.le_of_lt (small1000 (by omega))) fun H2 r2 s2 hr2 => ?_
          rw [← List.map_append] at hr2
          have s02 := s1.trans s2
          refine ⟨r2, ps1 ++ ps2, f1.2 ++ f2.2, rfl, hr2, pairs_app (pairs_same s02 g4) (pairs_same s02 k4), fun as' es' l3 pa pm srt nl3 => ?_⟩
          rw [sP_eq pm srt] at pa
          have s3 := same_upd (o := .lst (as'.map V.ref)) nl3
          refine ⟨l3, _, rfl, .inl ⟨SqL.of upd_same, fun t4 nt4 => ?_⟩⟩
          have s4 := same_upd (o := .tup (as'.map V.ref)) nt4
          refine ⟨(by show 2 ≤ sizeLine; decide), fun r nr => ?_⟩
          have s5 := same_upd (o := .tup [V.ref t1, V.ref t4]) nr
          have s25 := s3.trans (s4.trans s5)
          exact q _ _ (s02.trans s25) ⟨r, t1, t4, as', rfl, SqT.of upd_same, same_sqT (s02.trans s25) g2, SqT.of (s5 _ _ upd_same), pairs_same (s4.trans s5) (pairs_same s3 pa)⟩
        · have pos : 0 < as.length := by
            rw [la]
            have ⟨q9, hq9⟩ := Classical.not_forall.mp c2
            have ⟨m1, m2⟩ := Classical.not_imp.mp hq9
            exact List.length_pos_of_mem (List.mem_filter.mpr ⟨Classical.not_not.mp m2, decide_eq_true m1⟩)
          refine iteY (by omega) ?_
          exact no (fun z => c2 z.2) H1 s1
    | new i =>
      obtain ⟨v1, f1, rfl, rfl, ⟨a1, t1, p1, ps1, rfl, g1, g2, g3, g4⟩⟩ := one_of hF hl
      have hv' : SqT K H a [.str "new", .int i] := hv
      refine ⟨_, rfl, a, _, 0, _, rfl, rfl, hv', atI_nat (j := 0) rfl, ?_⟩
      refine ⟨_, rfl, rfl, _, rfl, iteD (by decide +kernel) ?_⟩
      refine ⟨_, rfl, t, _, 0, .ref a1, rfl, rfl, hT, atI_nat (j := 0) rfl, a1, _, rfl, g1, rfl, _, _, rfl, _, _, rfl, rfl, ?_⟩
      refine ⟨_, rfl, rfl, _, rfl, iteD (by decide +kernel) ?_⟩
      refine ⟨_, rfl, a, _, 1, .int i, rfl, rfl, hv', atI_nat (j := 1) rfl, ?_⟩
      refine ⟨_, rfl, rfl, _, rfl, iteY rfl ?_⟩
      have l1 := (ok f1 (by simp)).len1
      refine ⟨_, rfl, _, rfl, t1, _, rfl, .inr g2, rfl, flat_ints _, _, rfl, ?_⟩
      show (if inV (.int i) (f1.1.map V.int) = true then _ else _)
      rw [inV_ints]
      by_cases c : i ∈ f1.1
      · refine iteY c ?_
        have e : lframe (.new i) [f1] = none := if_pos c
        rw [e] at q
        exact q H .non (Same.refl _) rfl
      · refine iteD c ?_
        have e : lframe (.new i) [f1] = some (sI (f1.1 ++ [i]), f1.2) := if_neg c
        rw [e] at q
        refine ⟨_, rfl, _, rfl, (by show 1 ≤ sizeLine; decide), fun p np => ?_⟩
        have s0 := same_upd (o := .tup [V.int i]) np
        refine catA_q (same_sqT s0 g2) (SqT.of upd_same) (by rw [List.length_map]; exact Nat.le_of_lt (small1000 (by simp; omega))) fun H2 r2 s2 hr2 => ?_
        have e1 : f1.1.map V.int ++ [V.int i] = (f1.1 ++ [i]).map V.int := by rw [List.map_append]; rfl
        rw [e1] at hr2
        refine ⟨r2, f1.1 ++ [i], rfl, hr2, fun ns' l2 pm srt nl2 => ?_⟩
        rw [sI_eq pm srt]
        have s3 := same_upd (o := .lst ((sI (f1.1 ++ [i])).map V.int)) nl2
        refine ⟨l2, _, rfl, .inl ⟨SqL.of upd_same, fun t4 nt4 => ?_⟩⟩
        have s4 := same_upd (o := .tup ((sI (f1.1 ++ [i])).map V.int)) nt4
        refine ⟨_, rfl, (by show 2 ≤ sizeLine; decide), fun r nr => ?_⟩
        have s5 := same_upd (o := .tup [V.ref t4, V.ref p1]) nr
        have s15 := s0.trans (s2.trans (s3.trans (s4.trans s5)))
        exact q _ _ s15 ⟨r, t4, p1, ps1, rfl, SqT.of upd_same, SqT.of (s5 _ _ upd_same), same_sqT s15 g3, pairs_same s15 g4⟩
    | fgt i =>
      obtain ⟨v1, f1, rfl, rfl, ⟨a1, t1, p1, ps1, rfl, g1, g2, g3, g4⟩⟩ := one_of hF hl
      have hv' : SqT K H a [.str "forget", .int i] := hv
      refine ⟨_, rfl, a, _, 0, _, rfl, rfl, hv', atI_nat (j := 0) rfl, ?_⟩
      refine ⟨_, rfl, rfl, _, rfl, iteD (by decide +kernel) ?_⟩
      refine ⟨_, rfl, t, _, 0, .ref a1, rfl, rfl, hT, atI_nat (j := 0) rfl, a1, _, rfl, g1, rfl, _, _, rfl, _, _, rfl, rfl, ?_⟩
      refine ⟨_, rfl, rfl, _, rfl, iteD (by decide +kernel) ?_⟩
      refine ⟨_, rfl, a, _, 1, .int i, rfl, rfl, hv', atI_nat (j := 1) rfl, ?_⟩
      refine ⟨_, rfl, rfl, _, rfl, iteD (by decide +kernel) ?_⟩
      have l1 := (ok f1 (by simp)).len1
      have l2 := (ok f1 (by simp)).len2
      refine ⟨_, rfl, _, rfl, t1, _, rfl, .inr g2, rfl, flat_ints _, _, rfl, ?_⟩
      show (if (!inV (.int i) (f1.1.map V.int)) = true then _ else _)
      rw [inV_ints]
      by_cases c : i ∈ f1.1
      · rw [decide_eq_true c]
        refine iteF ?_
        refine ⟨_, rfl, rfl, _, rfl, iteY rfl ?_⟩
        have e : lframe (.fgt i) [f1] = some (f1.1.filter fun x => decide (x ≠ i), f1.2.filter fun q => decide (i ≠ q.1 ∧ i ≠ q.2)) := if_pos c
        rw [e] at q
        refine ⟨_, rfl, t1, rfl, ⟨_, g2⟩, fun D nD => ?_⟩
        refine lc_tup (K := K) (a := t1) (xs := f1.1.map V.int) (fun j H' => Same H H' ∧ H' D = some (.lst (((f1.1.take j).filter fun x => decide (x ≠ i)).map V.int))) ⟨same_upd nD, upd_same⟩ (fun j H' _ h => same_sqT h.1 g2) ?_ ?_
        · rintro j x H' hx ⟨sm, hD⟩
          rw [List.getElem?_map] at hx
          cases ex : f1.1[j]? with
          | none => rw [ex] at hx; cases hx
          | some y =>
            rw [ex] at hx
            cases hx
            refine ⟨rfl, ?_⟩
            have tk : f1.1.take (j + 1) = f1.1.take j ++ [y] := L2.take_next ex
            have lj : ((f1.1.take j).filter fun x => decide (x ≠ i)).length ≤ 13 := Nat.le_trans (List.length_filter_le _ _) (by rw [List.length_take]; omega)
            refine ⟨_, rfl, _, rfl, rfl, _, rfl, ?_⟩
            by_cases ce : y = i
            · refine iteNS (congrArg V.int ce) ⟨sm, ?_⟩
              rw [hD, tk, List.filter_append, List.filter_cons_of_neg (by simp [ce]), List.filter_nil, List.append_nil]
            · refine iteN (fun z => ce (V.int.inj z)) ⟨_, rfl, _, hD, by rw [List.length_map]; exact small1000 (by omega), same_put sm nD, ?_⟩
              rw [upd_same, tk, List.filter_append, List.filter_cons_of_pos (by simp [ce]), List.filter_nil, List.map_append]
              rfl
        · rintro H1 ⟨s1, hD⟩
          rw [List.length_map, List.take_length] at hD
          refine ⟨D, _, rfl, .inl ⟨SqL.of hD, fun t2 nt2 => ?_⟩⟩
          have s2 := same_upd (o := .tup ((f1.1.filter fun x => decide (x ≠ i)).map V.int)) nt2
          have ht2 : (upd H1 t2 (.tup ((f1.1.filter fun x => decide (x ≠ i)).map V.int))) t2 = some (.tup ((f1.1.filter fun x => decide (x ≠ i)).map V.int)) := upd_same
          generalize (upd H1 t2 (.tup ((f1.1.filter fun x => decide (x ≠ i)).map V.int))) = H2 at s2 ht2 ⊢
          have s02 := s1.trans s2
          have h3' := same_sqT s02 g3
          have h4' := pairs_same s02 g4
          refine ⟨_, rfl, p1, rfl, ⟨_, h3'⟩, fun D2 nD2 => ?_⟩
          refine lc_tup (K := K) (a := p1) (xs := ps1.map V.ref) (fun j H' => Same H2 H' ∧ ∃ as : List Addr, H' D2 = some (.lst (as.map V.ref)) ∧ PairsAt K H' as ((f1.2.take j).filter fun q => decide (i ≠ q.1 ∧ i ≠ q.2)) ∧ as.length ≤ j) ⟨same_upd nD2, [], upd_same, .nil, Nat.le_refl _⟩ (fun j H' _ h => same_sqT h.1 h3') ?_ ?_
          · rintro j x H' hx ⟨sm, as, hD2, pa, la⟩
            rw [List.getElem?_map] at hx
            cases ex : ps1[j]? with
            | none => rw [ex] at hx; cases hx
            | some b =>
              rw [ex] at hx
              cases hx
              obtain ⟨pq, hq, hb⟩ := h4'.get ex
              have tk : f1.2.take (j + 1) = f1.2.take j ++ [pq] := L2.take_next hq
              have jl : j < f1.2.length := (List.getElem?_eq_some_iff.mp hq).1
              have hb' := same_sqT sm hb
              refine ⟨rfl, _, rfl, _, rfl, b, _, rfl, .inr hb', rfl, rfl, _, rfl, ?_⟩
              have ei : inV (V.int i) [V.int pq.1, V.int pq.2] = !decide (i ≠ pq.1 ∧ i ≠ pq.2) := by
                by_cases c1 : i = pq.1
                · simp [inV, eqV, c1]
                · have c1' : ¬ pq.1 = i := fun z => c1 z.symm
                  by_cases c2 : i = pq.2
                  · simp [inV, eqV, c1, c1', c2]
                  · have c2' : ¬ pq.2 = i := fun z => c2 z.symm
                    simp [inV, eqV, c1, c1', c2, c2']
              show (if (!inV (V.int i) [V.int pq.1, V.int pq.2]) = true then _ else _)
              rw [ei, Bool.not_not]
              by_cases cq : i ≠ pq.1 ∧ i ≠ pq.2
              · refine iteY cq ⟨_, rfl, _, hD2, by rw [List.length_map]; exact small1000 (by omega), same_put sm nD2, as ++ [b], ?_, ?_, by rw [List.length_append]; exact Nat.succ_le_succ la⟩
                · rw [upd_same, List.map_append]
                  rfl
                · have fe : ([pq] : List Pr).filter (fun q => decide (i ≠ q.1 ∧ i ≠ q.2)) = [pq] := by simp [List.filter, cq.1, cq.2]
                  rw [tk, List.filter_append, fe]
                  have sb : ∀ (a : Addr) (xs : List V), SqT K H' a xs → SqT K (upd H' D2 (.lst (as.map V.ref ++ [.ref b]))) a xs := fun a xs h => sqT_put hD2 h
                  exact pairs_snoc (sb _ _ hb') (pairs_map sb pa)
              · refine iteD cq ⟨sm, as, hD2, ?_, Nat.le_succ_of_le la⟩
                rw [tk, List.filter_append, List.filter_cons_of_neg (by rw [decide_eq_false cq]; decide), List.filter_nil, List.append_nil]
                exact pa
          · rintro H3 ⟨s3, as, hD2, pa, la⟩
            rw [List.length_map, h4'.length, List.take_length] at pa
            refine ⟨D2, _, rfl, .inl ⟨SqL.of hD2, fun t4 nt4 => ?_⟩⟩
            have s4 := same_upd (o := .tup (as.map V.ref)) nt4
            refine ⟨(by show 2 ≤ sizeLine; decide), fun r nr => ?_⟩
            have s5 := same_upd (o := .tup [V.ref t2, V.ref t4]) nr
            have s25 := s3.trans (s4.trans s5)
            exact q _ _ (s02.trans s25) ⟨r, t2, t4, as, rfl, SqT.of upd_same, SqT.of (s25 _ _ ht2), SqT.of (s5 _ _ upd_same), pairs_same (s4.trans s5) pa⟩
      · rw [decide_eq_false c]
        refine iteT ?_
        have e : lframe (.fgt i) [f1] = none := if_neg c
        rw [e] at q
        exact q H .non (Same.refl _) rfl
    | edge i j =>
      obtain ⟨v1, f1, rfl, rfl, ⟨a1, t1, p1, ps1, rfl, g1, g2, g3, g4⟩⟩ := one_of hF hl
      have hv' : SqT K H a [.str "edge", .int i, .int j] := hv
      refine ⟨_, rfl, a, _, 0, _, rfl, rfl, hv', atI_nat (j := 0) rfl, ?_⟩
      refine ⟨_, rfl, rfl, _, rfl, iteD (by decide +kernel) ?_⟩
      refine ⟨_, rfl, t, _, 0, .ref a1, rfl, rfl, hT, atI_nat (j := 0) rfl, a1, _, rfl, g1, rfl, _, _, rfl, _, _, rfl, rfl, ?_⟩
      refine ⟨_, rfl, rfl, _, rfl, iteD (by decide +kernel) ?_⟩
      refine ⟨_, rfl, a, _, 1, .int i, rfl, rfl, hv', atI_nat (j := 1) rfl, ?_⟩
      refine ⟨_, rfl, rfl, _, rfl, iteD (by decide +kernel) ?_⟩
      have l1 := (ok f1 (by simp)).len1
      have l2 := (ok f1 (by simp)).len2
      have lp1 : ps1.length = f1.2.length := g4.length
      have eL : lframe (.edge i j) [f1] = if i < j then (if i ∈ f1.1 ∧ j ∈ f1.1 ∧ (i, j) ∉ f1.2 then some (f1.1, sP (f1.2 ++ [(i, j)])) else none) else none := rfl
      have no : ¬ (i < j ∧ i ∈ f1.1 ∧ j ∈ f1.1 ∧ (i, j) ∉ f1.2) → ∀ H', Same H H' → Q V.non H' := fun c H' s1 => by
        have e : lframe (.edge i j) [f1] = none := by
          rw [eL]
          by_cases c0 : i < j
          · rw [if_pos c0]
            exact if_neg fun z => c ⟨c0, z⟩
          · exact if_neg c0
        rw [e] at q
        exact q H' .non s1 rfl
      refine ⟨_, rfl, _, rfl, t1, _, rfl, .inr g2, rfl, flat_ints _, _, rfl, ?_⟩
      show (if (!inV (.int i) (f1.1.map V.int)) = true then _ else _)
      rw [inV_ints]
      rcases (Classical.em (i ∈ f1.1)).symm with c1 | c1
      · rw [decide_eq_false c1]
        exact iteT (no (fun z => c1 z.2.1) H (Same.refl _))
      rw [decide_eq_true c1]
      refine iteF ?_
      refine ⟨_, rfl, rfl, _, rfl, iteD (by decide +kernel) ?_⟩
      refine ⟨_, rfl, _, rfl, a, _, 2, .int j, rfl, rfl, hv', atI_nat (j := 2) rfl, _, _, rfl, rfl, _, rfl, ?_⟩
      rcases (Classical.em (i < j)).symm with c0 | c0
      · refine iteY (by omega) ?_
        exact iteT (no (fun z => c0 z.1) H (Same.refl _))
      refine iteD (by omega) ?_
      refine ⟨_, rfl, a, _, 2, .int j, rfl, rfl, hv', atI_nat (j := 2) rfl, _, rfl, t1, _, rfl, .inr g2, rfl, flat_ints _, _, rfl, ?_⟩
      show (if (!inV (.int j) (f1.1.map V.int)) = true then _ else _)
      rw [inV_ints]
      rcases (Classical.em (j ∈ f1.1)).symm with c2 | c2
      · rw [decide_eq_false c2]
        exact iteT (iteT (no (fun z => c2 z.2.2.1) H (Same.refl _)))
      rw [decide_eq_true c2]
      refine iteF ?_
      have cut2 : cutV [V.str "edge", V.int i, V.int j] (some 1) none = [.int i, .int j] := cut_tail _ _
      refine ⟨_, rfl, 1, rfl, a, _, rfl, hv', (fun e => by have e1 := e.1; rw [show (1 : Int) = ((1 : Nat) : Int) from rfl, HT.sIx_nat] at e1; simp at e1), fun _ r1 nr1 => ?_⟩
      rw [cut2]
      have s1 := same_upd (o := .tup [V.int i, V.int j]) nr1
      have hr1 : SqT K (upd H r1 (.tup [V.int i, V.int j])) r1 [.int i, .int j] := SqT.of upd_same
      generalize (upd H r1 (.tup [V.int i, V.int j])) = H1 at s1 hr1 ⊢
      refine ⟨_, rfl, pD (i, j), f1.2.map pD, dp_pair hr1, .tup (same_sqT s1 g3) (dp_pairs (pairs_same s1 g4)), pD_shaped _, pDs_shapedT _, _, rfl, ?_⟩
      show (if ((f1.2.map pD).any fun z => PyData.eqv z (pD (i, j))) = true then _ else _)
      rw [pDs_any]
      by_cases c3 : (i, j) ∈ f1.2
      · exact iteY c3 (no (fun z => z.2.2.2 c3) H1 s1)
      refine iteD c3 ?_
      have e : lframe (.edge i j) [f1] = some (f1.1, sP (f1.2 ++ [(i, j)])) := by rw [eL, if_pos c0]; exact if_pos ⟨c1, c2, c3⟩
      rw [e] at q
      refine ⟨_, rfl, _, rfl, _, rfl, 1, rfl, a, _, rfl, same_sqT s1 hv', (fun e => by have e1 := e.1; rw [show (1 : Int) = ((1 : Nat) : Int) from rfl, HT.sIx_nat] at e1; simp at e1), fun _ r2 nr2 => ?_⟩
      rw [cut2]
      have s2 := same_upd (o := .tup [V.int i, V.int j]) nr2
      have hr2 : SqT K (upd H1 r2 (.tup [V.int i, V.int j])) r2 [.int i, .int j] := SqT.of upd_same
      generalize (upd H1 r2 (.tup [V.int i, V.int j])) = H2 at s2 hr2 ⊢
      refine ⟨(by show 1 ≤ sizeLine; decide), fun p3 np3 => ?_⟩
      have s3 := same_upd (o := .tup [V.ref r2]) np3
      have s13 := s1.trans (s2.trans s3)
      refine catA_q (same_sqT s13 g3) (SqT.of upd_same) (by rw [List.length_map]; exact Nat.le_of_lt (small1000 (by simp; omega))) fun H4 r4 s4 hr4 => ?_
      have e1 : ps1.map V.ref ++ [V.ref r2] = (ps1 ++ [r2]).map V.ref := by rw [List.map_append]; rfl
      rw [e1] at hr4
      have s14 := s13.trans s4
      refine ⟨r4, ps1 ++ [r2], f1.2 ++ [(i, j)], rfl, hr4, pairs_snoc (q := (i, j)) (same_sqT (s3.trans s4) hr2) (pairs_same s14 g4), fun as' es' l3 pa pm srt nl3 => ?_⟩
      rw [sP_eq pm srt] at pa
      have s5 := same_upd (o := .lst (as'.map V.ref)) nl3
      refine ⟨l3, _, rfl, .inl ⟨SqL.of upd_same, fun t4 nt4 => ?_⟩⟩
      have s6 := same_upd (o := .tup (as'.map V.ref)) nt4
      refine ⟨(by show 2 ≤ sizeLine; decide), fun r nr => ?_⟩
      have s7 := same_upd (o := .tup [V.ref t1, V.ref t4]) nr
      have s57 := s5.trans (s6.trans s7)
      exact q _ _ (s14.trans s57) ⟨r, t1, t4, as', rfl, SqT.of upd_same, same_sqT (s14.trans s57) g2, SqT.of (s7 _ _ upd_same), pairs_same (s6.trans s7) (pairs_same s5 pa)⟩
end
end Sm

set_option Elab.async false
set_option linter.all false
set_option maxRecDepth 100000
set_option maxHeartbeats 8000000
namespace Sm
open PySem PySem.Spec PyProof.Rows L2
abbrev sPut : Stmt := topS 30
def putF (s : Stp) (fs : List Fr) : Option (List Fr) := if fs.length < s.many then none else (lframe s (fs.drop (fs.length - s.many))).map fun f => fs.take (fs.length - s.many) ++ [f]
structure But2 (sl kl : Addr) (H H' : Hp) : Prop where
  go : ∀ b o, H b = some o → b ≠ sl → b ≠ kl → H' b = some o
theorem But2.refl {sl kl : Addr} {H : Hp} : But2 sl kl H H := ⟨fun b o h _ _ => h⟩
theorem But2.trans {sl kl : Addr} {H H' H2 : Hp} (h : But2 sl kl H H') (g : But2 sl kl H' H2) : But2 sl kl H H2 := ⟨fun b o e h1 h2 => g.go b o (h.go b o e h1 h2) h1 h2⟩
theorem But2.of {sl kl : Addr} {H H' : Hp} (s : Same H H') : But2 sl kl H H' := ⟨fun b o e _ _ => s b o e⟩
theorem But2.putL {sl kl : Addr} {H H' : Hp} {o : HO} (h : But2 sl kl H H') : But2 sl kl H (upd H' sl o) := ⟨fun b x e h1 h2 => by rw [upd_ne h1]; exact h.go b x e h1 h2⟩
theorem But2.putR {sl kl : Addr} {H H' : Hp} {o : HO} (h : But2 sl kl H H') : But2 sl kl H (upd H' kl o) := ⟨fun b x e h1 h2 => by rw [upd_ne h2]; exact h.go b x e h1 h2⟩
theorem But2.sq {K : PySem.W.Frag} {sl kl : Addr} {H H' : Hp} (b : But2 sl kl H H') {ys zs : List V} (h1 : H sl = some (.lst ys)) (h2 : H kl = some (.lst zs)) : ∀ a xs, SqT K H a xs → SqT K H' a xs := fun a xs h => by
  rcases h with (h | ⟨o, h⟩) | h
  · exact .inl (.inl (b.go _ _ h (ne_of h h1 (by intro z; cases z)) (ne_of h h2 (by intro z; cases z))))
  · exact .inl (.inr ⟨o, b.go _ _ h (ne_of h h1 (by intro z; cases z)) (ne_of h h2 (by intro z; cases z))⟩)
  · exact .inr h
def spPut (K : PySem.W.Frag) : Sp := fun vs H Q _ => ∃ (sl kl : Addr) (v : V) (svs fvs : List V) (fs : List Fr) (s : Stp), vs = [.ref sl, .ref kl, v] ∧ H sl = some (.lst svs) ∧ H kl = some (.lst fvs) ∧ sl ≠ kl ∧ FrsV K H fvs fs ∧ StV K H v s ∧ svs.length ≤ 30000 ∧ fs.length ≤ 30000 ∧ (∀ f ∈ fs, FrOk f) ∧
  ∀ (H' : Hp) (svs' fvs' : List V), But2 sl kl H H' → H' sl = some (.lst svs') → H' kl = some (.lst fvs') → svs' = (if (putF s fs).isSome = true then svs ++ [v] else svs) → FrsV K H' fvs' ((putF s fs).getD fs) → Q .non H'
theorem frs_drop {K : PySem.W.Frag} {H : Hp} : ∀ (n : Nat) {vs : List V} {fs : List Fr}, FrsV K H vs fs → FrsV K H (vs.drop n) (fs.drop n)
  | 0, _, _, h => h
  | n + 1, _, _, .nil => .nil
  | n + 1, _, _, .cons _ t => frs_drop n t
theorem frs_take {K : PySem.W.Frag} {H : Hp} : ∀ (n : Nat) {vs : List V} {fs : List Fr}, FrsV K H vs fs → FrsV K H (vs.take n) (fs.take n)
  | 0, _, _, _ => .nil
  | n + 1, _, _, .nil => .nil
  | n + 1, _, _, .cons h t => .cons h (frs_take n t)
abbrev manyP : List (Key × V) := [(Sum.inr "empty", .int 0), (Sum.inr "new", .int 1), (Sum.inr "edge", .int 1), (Sum.inr "forget", .int 1), (Sum.inr "join", .int 2)]
def Stp.word : Stp → Str
  | .emp => "empty"
  | .new _ => "new"
  | .edge _ _ => "edge"
  | .fgt _ => "forget"
  | .join => "join"
theorem manyP_get (s : Stp) : valV manyP (Sum.inr s.word) = some (.int s.many) := by
  cases s <;> rfl
theorem word_at (s : Stp) : s.vals[0]? = some (.str s.word) := by cases s <;> rfl
section
variable {P : Program} {w : World} {K : PySem.W.Frag} {mg : Str → Option Value} {base : Heap}
abbrev putN : List Str := ["steps", "stack", "step", "many", "frames", "found", "k"]
theorem scPut : FnScope putN ["steps", "stack", "step"] (defScope sPut) := ⟨rfl, rfl, rfl, by decide +kernel, rfl, by decide +kernel, by decide +kernel⟩
theorem ok_put {f fF : Addr} {fd fdF : FuncData} (F : Fun K "_law_put" "_law_put" sPut f fd) (ml : mg "len" = none) (mr : mg "range" = none)
    (GF : FnOk P w K mg base CX0 1 fF fdF ["step", "frames"] (spLfr K)) (kF : PySem.W.keepIn K (.ref fF) = true) (bF : Binds K fdF ["step", "frames"] []) (gF : mg "_law_frame" = some (.ref fF)) :
    FnOk P w K mg base CX0 2 f fd ["steps", "stack", "step"] (spPut K) := by
  refine F.ok scPut (fun vs H Q E h => ?_) (fun cdv A outer s H vs Q E hr h => ?_)
  · obtain ⟨sl, kl, v, svs, fvs, fs, x, rfl, _⟩ := h
    rfl
  · obtain ⟨sl, kl, v, svs, fvs, fs, x, rfl, hS, hK, ne, hF, ⟨a, rfl, hv⟩, ls, lf, ok, q⟩ := h
    have hu := hu_of hr
    refine ⟨_, pss_cons (ps_set (i := 3) scPut.nd rfl (.inl rfl) (pe_dget hu (pe_disp (pps_cons pe_str pe_int (pps_cons pe_str pe_int (pps_cons pe_str pe_int (pps_cons pe_str pe_int (pps_cons pe_str pe_int pps_nil))))) (by rfl) (by rfl) (fun z => by cases z) (by decide)) (pe_ix ix_tup (pv 2) pe_int (fun _ _ => rfl)) (fun _ _ => rfl)))
      (pss_cons (ps_if (pt_cmpR op_lt (pe_callB call_len_seq (by rfl) ml PySem.boot_len (pa_cons (pv 1) pa_nil)) (pv 3) (nomark _)) (pss_one ps_retN) pss_nil)
      (pss_cons (ps_set (i := 4) scPut.nd rfl (.inl rfl) (pe_slice sl_list (pv 1) (po_some (pe_op op_sub (pe_callB call_len_seq (by rfl) ml PySem.boot_len (pa_cons (pv 1) pa_nil)) (pv 3))) po_none))
      (pss_cons (ps_set (i := 5) scPut.nd rfl (.inl rfl) (pe_call GF hr (by rfl) gF kF bF .nil pass0 (pa_cons (pv 2) (pa_cons (pv 4) pa_nil))))
      (pss_one (ps_if (pt_cmp (pc_notN (pv 5)))
        (pss_cons (ps_expr (pe_bm PySem.F.plainAttrs_list PySem.F.slot_list_append PySem.F.type_list_append mt_append (pv 0) (pa_cons (pv 2) pa_nil)))
        (pss_cons (ps_for PassesOwn.never rfl (pi_range1 rfl mr (pa_cons (pv 3) pa_nil)) (pg_name (i := 6) scPut.nd rfl (.inl rfl)) (pss_one (ps_expr (pe_bm0 PySem.F.plainAttrs_list PySem.F.slot_list_pop PySem.F.type_list_pop mt_pop (pv 1)))))
        (pss_one (ps_expr (pe_bm PySem.F.plainAttrs_list PySem.F.slot_list_append PySem.F.type_list_append mt_append (pv 1) (pa_cons (pv 5) pa_nil)))))) pss_nil))))), ?_⟩
    refine fun p np => ⟨upd_same, manyP, rfl, by decide, ?_⟩
    have s1 : Same H (upd (upd H p (.dK [])) p (.dK (mergeK [] manyP))) := same_put (same_upd np) np
    have hp : (upd (upd H p (.dK [])) p (.dK (mergeK [] manyP))) p = some (.dK manyP) := upd_same
    have hv1 := same_sqT s1 hv
    refine ⟨_, rfl, a, _, 0, .str x.word, rfl, rfl, hv1, atI_nat (j := 0) (word_at x), p, .int x.many, rfl, ?_, ?_⟩
    · have g := DGet.k (k := Sum.inr x.word) hp
      rw [manyP_get] at g
      exact g
    have hS1 := s1 _ _ hS
    have hK1 := s1 _ _ hK
    have hF1 := frs_same s1 hF
    generalize (upd (upd H p (.dK [])) p (.dK (mergeK [] manyP))) = H1 at s1 hv1 hS1 hK1 hF1 ⊢
    have lv : fvs.length = fs.length := hF.length
    refine ⟨_, rfl, kl, _, rfl, .inl (SqL.of hK1), _, rfl, _, _, rfl, rfl, _, rfl, ?_⟩
    refine ite2 (fun c => ?_) (fun c => ?_)
    · have c := of_decide_eq_true c
      have e : putF x fs = none := if_pos (by omega)
      rw [e] at q
      exact q H1 svs fvs (.of s1) hS1 hK1 rfl hF1
    have c : ¬ fs.length < x.many := fun z => c (decide_eq_true (by omega))
    have en : ((fvs.length : Nat) : Int) - (x.many : Int) = ((fvs.length - x.many : Nat) : Int) := by omega
    refine ⟨_, rfl, _, rfl, kl, _, rfl, .inl (SqL.of hK1), _, rfl, _, _, rfl, rfl, _, rfl, kl, _, rfl, SqL.of hK1, fun l nl => ?_⟩
    have ecut : cutV fvs (some (((fvs.length : Nat) : Int) - (x.many : Int))) none = fvs.drop (fvs.length - x.many) := by
      rw [en]
      unfold cutV
      rw [HT.sIx_none, HT.sIx_nat, Nat.min_eq_left (by omega)]
      exact List.take_of_length_le (by rw [List.length_drop]; exact Nat.le_refl _)
    rw [ecut]
    have s2 := same_upd (o := .lst (fvs.drop (fvs.length - x.many))) nl
    have hl2 : (upd H1 l (.lst (fvs.drop (fvs.length - x.many)))) l = some (.lst (fvs.drop (fvs.length - x.many))) := upd_same
    generalize (upd H1 l (.lst (fvs.drop (fvs.length - x.many)))) = H2 at s2 hl2 ⊢
    have hd := frs_drop (fvs.length - x.many) (frs_same s2 hF1)
    have ht := frs_take (fvs.length - x.many) (frs_same s2 hF1)
    rw [lv] at hd ht hl2
    have ld : (fs.drop (fs.length - x.many)).length = x.many := by rw [List.length_drop]; omega
    refine ⟨_, rfl, _, rfl, .ref a, l, x, _, _, rfl, ⟨a, rfl, same_sqT s2 hv1⟩, SqL.of hl2, hd, ld, (fun g hg => ok g (List.mem_of_mem_drop hg)), fun H3 v3 s3 h3 => ?_⟩
    have s13 := s1.trans (s2.trans s3)
    have hS3 := s13 _ _ hS
    have hK3 := s13 _ _ hK
    have hF3 := frs_same s13 hF
    have ht3 := frs_same s3 ht
    cases hfa : lframe x (fs.drop (fs.length - x.many)) with
    | none =>
      rw [hfa] at h3
      have e3 : v3 = .non := h3
      subst e3
      have e : putF x fs = none := by unfold putF; rw [if_neg c, hfa]; rfl
      rw [e] at q
      exact ⟨_, rfl, _, rfl, iteF (q H3 svs fvs (.of s13) hS3 hK3 rfl hF3)⟩
    | some g =>
      rw [hfa] at h3
      have h3 : FrV K H3 v3 g := h3
      have ne3 : v3 ≠ .non := fun z => by obtain ⟨_, _, _, _, e, _⟩ := h3; rw [z] at e; cases e
      have e : putF x fs = some (fs.take (fs.length - x.many) ++ [g]) := by unfold putF; rw [if_neg c, hfa]; rfl
      rw [e] at q
      refine ⟨_, rfl, _, rfl, iteN ne3 ?_⟩
      refine ⟨_, rfl, .inl ⟨rfl, _, SqL.of hS3⟩, _, rfl, sl, _, _, rfl, rfl, hS3, by rw [sizeLine_eq]; omega, ?_⟩
      have b4 : But2 sl kl H3 (upd H3 sl (.lst (svs ++ [.ref a]))) := But2.refl.putL
      have hK4 : (upd H3 sl (.lst (svs ++ [.ref a]))) kl = some (.lst fvs) := by rw [upd_ne ne.symm]; exact hK3
      have hS4 : (upd H3 sl (.lst (svs ++ [.ref a]))) sl = some (.lst (svs ++ [.ref a])) := upd_same
      generalize (upd H3 sl (.lst (svs ++ [.ref a]))) = H4 at b4 hK4 hS4 ⊢
      have m2 : x.many ≤ 2 := by cases x <;> simp [Stp.many]
      refine ⟨_, rfl, x.many, rfl, by omega, by omega, ?_⟩
      rw [show ((x.many : Nat) : Int).toNat = x.many by omega]
      refine for_range (lo := 0) (n := x.many) (fun i σ H' => ∃ y6 : Option V, σ = [some (.ref sl), some (.ref kl), some (.ref a), some (.int x.many), some (.ref l), some v3, y6] ∧ But2 sl kl H3 H' ∧ H' sl = some (.lst (svs ++ [.ref a])) ∧ H' kl = some (.lst (fvs.take (fvs.length - i))))
        ⟨none, rfl, b4, hS4, by rw [Nat.sub_zero, List.take_length]; exact hK4⟩ ?_ ?_
      · rintro i σ H' hi ⟨y6, rfl, bi, hSi, hKi⟩
        have li : (fvs.take (fvs.length - i)).length = fvs.length - i := by rw [List.length_take]; omega
        refine ⟨_, rfl, .inl ⟨rfl, _, SqL.of hKi⟩, kl, _, (fvs[fvs.length - i - 1]'(by omega)), rfl, rfl, hKi, ?_, ?_⟩
        · rw [li, List.getElem?_take_of_lt (by omega)]
          exact List.getElem?_eq_getElem (by omega)
        · refine ⟨_, rfl, bi.putR, by rw [upd_ne ne]; exact hSi, ?_⟩
          rw [upd_same, List.dropLast_eq_take, li, List.take_take, Nat.min_eq_left (by omega)]
          rw [show fvs.length - i - 1 = fvs.length - (i + 1) by omega]
      · rintro σ H5 ⟨y6, rfl, b5, hS5, hK5⟩
        refine ⟨_, rfl, .inl ⟨rfl, _, SqL.of hK5⟩, _, rfl, kl, _, _, rfl, rfl, hK5, by rw [List.length_take, sizeLine_eq]; omega, ?_⟩
        have b6 : But2 sl kl H3 (upd H5 kl (.lst (fvs.take (fvs.length - x.many) ++ [v3]))) := b5.putR
        have m6 := b6.sq (K := K) hS3 hK3
        refine q _ (svs ++ [.ref a]) (fvs.take (fvs.length - x.many) ++ [v3]) ((But2.of s13).trans b6) (by rw [upd_ne ne]; exact hS5) upd_same rfl ?_
        have ht4 := ht3
        rw [← lv] at ht4
        have z := paired_snoc (frv_map m6 h3) (frs_map m6 ht4)
        show FrsV K _ _ (fs.take (fs.length - x.many) ++ [g])
        rw [← lv]
        exact z
end
end Sm

set_option Elab.async false
set_option linter.all false
set_option maxRecDepth 100000
set_option maxHeartbeats 8000000
namespace Sm
open PySem PySem.Spec PyProof.Rows L2
/-! ### terms that the law makes -/
def WSt.frames (st : WSt) : List Fr := st.frs st.stk
def Stp.av (s : Stp) : AV := .tup s.vals
def SOk (k : Int) (s : Stp) : Prop := stepOf k s.av = some s
def LOk (k : Int) : Stp → Prop
  | .new i => inR k i = true
  | .fgt i => inR k i = true
  | .edge i j => inR k i = true ∧ inR k j = true
  | _ => True
def Ordd : Stp → Prop
  | .edge i j => i < j
  | _ => True
theorem sok_of {k : Int} {s : Stp} (h : LOk k s) (o : Ordd s) : SOk k s := by
  cases s with
  | emp => rfl
  | join => rfl
  | new i =>
    show (if inR k i = true then some (Stp.new i) else none) = _
    rw [if_pos (show inR k i = true from h)]
  | fgt i =>
    show (if inR k i = true then some (Stp.fgt i) else none) = _
    rw [if_pos (show inR k i = true from h)]
  | edge i j =>
    show (if (inR k i && (inR k j && decide (i < j))) = true then some (Stp.edge i j) else none) = _
    rw [if_pos (by rw [h.1, h.2, decide_eq_true (show i < j from o)]; rfl)]
theorem lframe_ord {s : Stp} {fs : List Fr} (o : Ordd s) : lframe s fs = frameAfter s fs := by
  cases s with
  | edge i j => exact if_pos o
  | _ => rfl
theorem lframe_some {s : Stp} {fs : List Fr} {g : Fr} (e : lframe s fs = some g) : Ordd s := by
  cases s with
  | edge i j =>
    by_cases c : i < j
    · exact c
    · have z : lframe (.edge i j) fs = none := if_neg c
      rw [z] at e; cases e
  | _ => trivial
theorem frs_map_len (st : WSt) (l : List Nat) : (st.frs l).length = l.length := by unfold WSt.frs; rw [List.length_map]
theorem frames_len (st : WSt) : st.frames.length = st.stk.length := frs_map_len st _
theorem frames_drop (st : WSt) (m : Nat) : st.frs (st.top m) = st.frames.drop (st.frames.length - m) := by
  rw [frames_len]
  unfold WSt.frames WSt.frs WSt.top
  rw [List.map_drop]
theorem frames_put {st : WSt} (ok : WOk st) (m : Nat) (f : Fr) : (st.put m f).frames = st.frames.take (st.frames.length - m) ++ [f] := by
  rw [frames_len]
  show (st.stk.take (st.stk.length - m) ++ [st.fs.length]).map (fun i => (st.fs ++ [f]).getD i ([], [])) = _
  rw [List.map_append]
  congr 1
  · unfold WSt.frames WSt.frs
    rw [← List.map_take]
    refine List.map_congr_left fun i hi => ?_
    have h := ok.idx i (List.mem_of_mem_take hi)
    rw [List.getD_eq_getElem?_getD, List.getD_eq_getElem?_getD, List.getElem?_append_left h]
  · show [(st.fs ++ [f]).getD st.fs.length ([], [])] = [f]
    rw [List.getD_eq_getElem?_getD, List.getElem?_append_right (Nat.le_refl _), Nat.sub_self]
    rfl
theorem step_put {st : WSt} (ok : WOk st) {s : Stp} (o : Ordd s) : (stepS s st).map WSt.frames = putF s st.frames := by
  unfold stepS putF
  rw [frames_len]
  by_cases c : st.stk.length < s.many
  · rw [if_pos c, if_pos c]; rfl
  · rw [if_neg c, if_neg c, lframe_ord o]
    have e := frames_drop st s.many
    rw [frames_len] at e
    rw [← e]
    cases frameAfter s (st.frs (st.top s.many)) with
    | none => rfl
    | some f =>
      have z := frames_put ok s.many f
      rw [frames_len] at z
      show some ((st.put s.many f).frames) = some _
      rw [z]
def runS : List Stp → WSt → Option WSt
  | [], st => some st
  | s :: ss, st => (stepS s st).bind fun st' => runS ss st'
theorem runS_snoc {s : Stp} : ∀ (ss : List Stp) (st : WSt), runS (ss ++ [s]) st = (runS ss st).bind fun st' => stepS s st'
  | [], st => by
    show (stepS s st).bind (fun st' => some st') = stepS s st
    cases stepS s st <;> rfl
  | x :: ss, st => by
    show (stepS x st).bind (fun st' => runS (ss ++ [s]) st') = ((stepS x st).bind fun st' => runS ss st').bind _
    cases stepS x st with
    | none => rfl
    | some st' => exact runS_snoc ss st'
theorem runS_W {k : Int} : ∀ (ss : List Stp) (st st' : WSt), (∀ s ∈ ss, SOk k s) → runS ss st = some st' → runW k (ss.map Stp.av) st = .inr st'
  | [], st, st', _, e => by cases e; rfl
  | s :: ss, st, st', h, e => by
    have e : (stepS s st).bind (fun st' => runS ss st') = some st' := e
    have z : stepW k s.av st = stepS s st := by
      unfold stepW
      rw [show stepOf k s.av = some s from h s List.mem_cons_self]
      rfl
    show (match stepW k s.av st with | none => (Sum.inl st.fs.length : Nat ⊕ WSt) | some st2 => runW k (ss.map Stp.av) st2) = _
    rw [z]
    cases es : stepS s st with
    | none => rw [es] at e; cases e
    | some st2 =>
      rw [es] at e
      exact runS_W ss st2 st' (fun x hx => h x (List.mem_cons_of_mem _ hx)) e
structure FrK (k : Int) (f : Fr) : Prop where
  ok : FrOk f
  le : ∀ x ∈ f.1, x ≤ k
structure SP (k : Int) (ss : List Stp) (fs : List Fr) : Prop where
  run : ∃ st, runS ss w0 = some st ∧ WOk st ∧ st.frames = fs
  sok : ∀ s ∈ ss, SOk k s
  frk : ∀ f ∈ fs, FrK k f
theorem stepS_ok {st st' : WSt} {s : Stp} (ok : WOk st) (hs : s.okk) (e : stepS s st = some st') : WOk st' := by
  unfold stepS at e
  by_cases c : st.stk.length < s.many
  · rw [if_pos c] at e; cases e
  · rw [if_neg c] at e
    cases ef : frameAfter s (st.frs (st.top s.many)) with
    | none => rw [ef] at e; cases e
    | some f =>
      rw [ef] at e
      cases e
      exact put_ok ok hs ef
theorem lok_okk {k : Int} (hk : k ≤ 12) {s : Stp} (h : LOk k s) : s.okk := by
  have one : ∀ i : Int, inR k i = true → Vx 13 i := fun i h => by
    unfold inR at h
    rw [Bool.and_eq_true, decide_eq_true_eq, decide_eq_true_eq] at h
    exact ⟨h.1, by omega⟩
  cases s with
  | emp => trivial
  | join => trivial
  | new i => exact one i h
  | fgt i => exact one i h
  | edge i j => exact ⟨one i h.1, one j h.2⟩
theorem after_le {k : Int} {s : Stp} {fs : List Fr} {g : Fr} (hs : LOk k s) (h : ∀ f ∈ fs, ∀ x ∈ f.1, x ≤ k) (e : frameAfter s fs = some g) : ∀ x ∈ g.1, x ≤ k := by
  match s, fs, e with
  | .emp, _, e => cases e; intro x hx; cases hx
  | .new i, [f], e =>
    have e : (if i ∈ f.1 then none else some (sI (f.1 ++ [i]), f.2)) = some g := e
    by_cases c : i ∈ f.1
    · rw [if_pos c] at e; cases e
    · rw [if_neg c] at e
      cases e
      intro x hx
      rcases List.mem_append.mp ((sI_perm _).mem_iff.mp hx) with z | z
      · exact h f (by simp) x z
      · rw [List.mem_singleton.mp z]
        have hs : inR k i = true := hs
        unfold inR at hs
        rw [Bool.and_eq_true, decide_eq_true_eq, decide_eq_true_eq] at hs
        omega
  | .fgt i, [f], e =>
    have e : (if i ∈ f.1 then some (f.1.filter (fun x => decide (x ≠ i)), f.2.filter fun q => decide (i ≠ q.1 ∧ i ≠ q.2)) else none) = some g := e
    by_cases c : i ∈ f.1
    · rw [if_pos c] at e
      cases e
      intro x hx
      exact h f (by simp) x (List.mem_filter.mp hx).1
    · rw [if_neg c] at e; cases e
  | .edge i j, [f], e =>
    have e : (if i ∈ f.1 ∧ j ∈ f.1 ∧ (i, j) ∉ f.2 then some (f.1, sP (f.2 ++ [(i, j)])) else none) = some g := e
    by_cases c : i ∈ f.1 ∧ j ∈ f.1 ∧ (i, j) ∉ f.2
    · rw [if_pos c] at e; cases e; exact h f (by simp)
    · rw [if_neg c] at e; cases e
  | .join, [f, f'], e =>
    have e : (if f.1 = f'.1 ∧ ∀ q ∈ f'.2, q ∉ f.2 then some (f.1, sP (f.2 ++ f'.2)) else none) = some g := e
    by_cases c : f.1 = f'.1 ∧ ∀ q ∈ f'.2, q ∉ f.2
    · rw [if_pos c] at e; cases e; exact h f (by simp)
    · rw [if_neg c] at e; cases e
theorem sp_put {k : Int} (hk : k ≤ 12) {ss : List Stp} {fs fs' : List Fr} {s : Stp} (h : SP k ss fs) (hs : LOk k s) (e : putF s fs = some fs') : SP k (ss ++ [s]) fs' := by
  obtain ⟨st, h1, h2, h3⟩ := h.run
  have e0 := e
  unfold putF at e0
  by_cases c : fs.length < s.many
  · rw [if_pos c] at e0; cases e0
  rw [if_neg c] at e0
  cases el : lframe s (fs.drop (fs.length - s.many)) with
  | none => rw [el] at e0; cases e0
  | some g =>
    rw [el] at e0
    cases e0
    have o := lframe_some el
    have z := step_put h2 o
    rw [h3, e] at z
    cases es : stepS s st with
    | none => rw [es] at z; cases z
    | some st' =>
      rw [es] at z
      have okk := lok_okk hk hs
      rw [lframe_ord o] at el
      have fo : ∀ f ∈ fs.drop (fs.length - s.many), FrK k f := fun f hf => h.frk f (List.mem_of_mem_drop hf)
      refine ⟨⟨st', by rw [runS_snoc, h1]; exact es, stepS_ok h2 okk es, Option.some.inj z⟩, fun x hx => ?_, fun f hf => ?_⟩
      · rcases List.mem_append.mp hx with y | y
        · exact h.sok x y
        · rw [List.mem_singleton.mp y]; exact sok_of hs o
      · rcases List.mem_append.mp hf with y | y
        · exact h.frk f (List.mem_of_mem_take y)
        · rw [List.mem_singleton.mp y]
          exact ⟨after_ok okk (fun f hf => (fo f hf).ok) el, after_le hs (fun f hf => (fo f hf).le) el⟩
end Sm

set_option Elab.async false
set_option linter.all false
set_option maxRecDepth 100000
set_option maxHeartbeats 8000000
namespace Sm
open PySem PySem.Spec PyProof.Rows L2
abbrev sPj : Stmt := topS 31
/-- the steps and the stack as they stand -/
structure TS (K : PySem.W.Frag) (k : Int) (sl kl : Addr) (H : Hp) (ss : List Stp) (fs : List Fr) : Prop where
  hS : ∃ svs, H sl = some (.lst svs) ∧ Paired (StV K H) svs ss
  hK : ∃ fvs, H kl = some (.lst fvs) ∧ FrsV K H fvs fs
  sp : SP k ss fs
theorem stv_map {K : PySem.W.Frag} {H H' : Hp} (m : ∀ (a : Addr) (xs : List V), SqT K H a xs → SqT K H' a xs) : ∀ {vs : List V} {ss : List Stp}, Paired (StV K H) vs ss → Paired (StV K H') vs ss
  | _, _, .nil => .nil
  | _, _, .cons h t => .cons (by obtain ⟨a, e, h⟩ := h; exact ⟨a, e, m _ _ h⟩) (stv_map m t)
theorem TS.same {K : PySem.W.Frag} {k : Int} {sl kl : Addr} {H H' : Hp} {ss : List Stp} {fs : List Fr} (s : Same H H') (h : TS K k sl kl H ss fs) : TS K k sl kl H' ss fs := by
  obtain ⟨svs, h1, h2⟩ := h.hS
  obtain ⟨fvs, h3, h4⟩ := h.hK
  exact ⟨⟨svs, s _ _ h1, stv_map (fun _ _ h => same_sqT s h) h2⟩, ⟨fvs, s _ _ h3, frs_same s h4⟩, h.sp⟩
def putSS (s : Stp) (ss : List Stp) (fs : List Fr) : List Stp := if (putF s fs).isSome = true then ss ++ [s] else ss
def putFS (s : Stp) (fs : List Fr) : List Fr := (putF s fs).getD fs
theorem putSS_len (s : Stp) (ss : List Stp) (fs : List Fr) : (putSS s ss fs).length ≤ ss.length + 1 := by
  unfold putSS
  split
  · rw [List.length_append]; exact Nat.le_refl _
  · omega
theorem sp_puts {k : Int} (hk : k ≤ 12) {ss : List Stp} {fs : List Fr} {s : Stp} (h : SP k ss fs) (hs : LOk k s) : SP k (putSS s ss fs) (putFS s fs) := by
  unfold putSS putFS
  cases e : putF s fs with
  | none => exact h
  | some fs' => exact sp_put hk h hs e
/-- how `_law_put` is called -/
theorem put_call {K : PySem.W.Frag} {k : Int} (hk : k ≤ 12) {sl kl : Addr} {H : Hp} {ss : List Stp} {fs : List Fr} {v : V} {s : Stp} {Q : VK} {E : XK} (ne : sl ≠ kl) (T : TS K k sl kl H ss fs) (hv : StV K H v s) (hs : LOk k s) (ls : ss.length ≤ 30000) (lf : fs.length ≤ 30000)
    (q : ∀ H', But2 sl kl H H' → (∀ a xs, SqT K H a xs → SqT K H' a xs) → TS K k sl kl H' (putSS s ss fs) (putFS s fs) → Q .non H') : spPut K [.ref sl, .ref kl, v] H Q E := by
  obtain ⟨svs, h1, h2⟩ := T.hS
  obtain ⟨fvs, h3, h4⟩ := T.hK
  refine ⟨sl, kl, v, svs, fvs, fs, s, rfl, h1, h3, ne, h4, hv, by rw [h2.length]; exact ls, lf, fun f hf => (T.sp.frk f hf).ok, fun H' svs' fvs' b e1 e2 e3 e4 => ?_⟩
  have m := b.sq (K := K) h1 h3
  refine q H' b m ⟨⟨svs', e1, ?_⟩, ⟨fvs', e2, e4⟩, sp_puts hk T.sp hs⟩
  rw [e3]
  unfold putSS
  by_cases c : (putF s fs).isSome = true
  · rw [if_pos c, if_pos c]
    obtain ⟨a, e, h⟩ := hv
    exact paired_snoc (R := StV K H') (show StV K H' v s from ⟨a, e, m _ _ h⟩) (stv_map m h2)
  · rw [if_neg c, if_neg c]
    exact stv_map m h2
/-! ### what the steps before a join do -/
theorem put_two {s : Stp} {pre : List Fr} {lo up : Fr} (h1 : s.many = 1) : putF s (pre ++ [lo, up]) = (lframe s [up]).map fun f => pre ++ [lo, f] := by
  have e : (pre ++ [lo, up]).length = pre.length + 2 := by rw [List.length_append]; rfl
  have d : (pre ++ [lo, up]).drop (pre.length + 1) = [up] := by
    rw [show pre ++ [lo, up] = (pre ++ [lo]) ++ [up] by simp, List.drop_append_of_le_length (by simp), List.drop_of_length_le (by simp)]
    rfl
  have t : (pre ++ [lo, up]).take (pre.length + 1) = pre ++ [lo] := by
    rw [show pre ++ [lo, up] = (pre ++ [lo]) ++ [up] by simp, List.take_append_of_le_length (by simp), List.take_of_length_le (by simp)]
  unfold putF
  rw [h1, e, if_neg (by omega), show pre.length + 2 - 1 = pre.length + 1 by omega, d, t]
  cases lframe s [up] with
  | none => rfl
  | some f => simp
theorem put_join {pre : List Fr} {lo up : Fr} (h1 : lo.1 = up.1) (h2 : ∀ q ∈ up.2, q ∉ lo.2) : ∃ g, putF .join (pre ++ [lo, up]) = some (pre ++ [g]) := by
  have e : (pre ++ [lo, up]).length = pre.length + 2 := by rw [List.length_append]; rfl
  have d : (pre ++ [lo, up]).drop pre.length = [lo, up] := by
    rw [List.drop_append_of_le_length (Nat.le_refl _), List.drop_length]
    rfl
  have t : (pre ++ [lo, up]).take pre.length = pre := by
    rw [List.take_append_of_le_length (Nat.le_refl _), List.take_length]
  refine ⟨(lo.1, sP (lo.2 ++ up.2)), ?_⟩
  unfold putF
  show (if (pre ++ [lo, up]).length < 2 then none else (lframe .join ((pre ++ [lo, up]).drop ((pre ++ [lo, up]).length - 2))).map fun f => (pre ++ [lo, up]).take ((pre ++ [lo, up]).length - 2) ++ [f]) = _
  rw [e, if_neg (by omega), show pre.length + 2 - 2 = pre.length by omega, d, t]
  have z : lframe .join [lo, up] = some (lo.1, sP (lo.2 ++ up.2)) := if_pos ⟨h1, h2⟩
  rw [z]
  rfl
end Sm

set_option Elab.async false
set_option linter.all false
set_option maxRecDepth 100000
set_option maxHeartbeats 8000000
namespace Sm
open PySem PySem.Spec PyProof.Rows L2
theorem atI_two {α : Type} (xs : List α) (v u : α) : atI (xs ++ [v, u]) (-2) = some v := by
  have hl : (xs ++ [v, u]).length = xs.length + 2 := by simp
  have e : ixN (xs ++ [v, u]).length (-2) = some xs.length := by
    unfold ixN
    rw [hl, if_neg (by decide), if_pos (by omega)]
    congr 1
    omega
  unfold atI
  rw [e]
  show (xs ++ [v, u])[xs.length]? = some v
  simp
theorem atI_one {α : Type} (xs : List α) (v u : α) : atI (xs ++ [v, u]) (-1) = some u := by
  have e : xs ++ [v, u] = (xs ++ [v]) ++ [u] := by simp
  rw [e]
  exact atI_last _ _
theorem frs_split {K : PySem.W.Frag} {H : Hp} {pre : List Fr} {lo up : Fr} : ∀ {vs : List V}, FrsV K H vs (pre ++ [lo, up]) → ∃ pvs vl vu, vs = pvs ++ [vl, vu] ∧ FrsV K H pvs pre ∧ FrV K H vl lo ∧ FrV K H vu up := by
  induction pre with
  | nil =>
    intro vs h0
    have h1 : FrsV K H vs [lo, up] := h0
    clear h0
    cases h1 with
    | cons g1 t =>
      cases t with
      | cons g2 t =>
        cases t
        exact ⟨[], _, _, rfl, .nil, g1, g2⟩
  | cons f pre ih =>
    intro vs h0
    have h1 : FrsV K H vs (f :: (pre ++ [lo, up])) := h0
    clear h0
    cases h1 with
    | cons g1 t =>
      obtain ⟨pvs, vl, vu, rfl, h1, h2, h3⟩ := ih t
      exact ⟨_ :: pvs, vl, vu, rfl, .cons g1 h1, h2, h3⟩
def spPj (K : PySem.W.Frag) : Sp := fun vs H Q _ => ∃ (sl kl : Addr) (k : Int) (ss : List Stp) (pre : List Fr) (lo up : Fr), vs = [.ref sl, .ref kl, .int k] ∧ sl ≠ kl ∧ 0 ≤ k ∧ k ≤ 12 ∧ TS K k sl kl H ss (pre ++ [lo, up]) ∧ ss.length ≤ 25000 ∧ pre.length ≤ 10 ∧
  ∀ H' ss' g, But2 sl kl H H' → (∀ a xs, SqT K H a xs → SqT K H' a xs) → TS K k sl kl H' ss' (pre ++ [g]) → ss'.length ≤ ss.length + 200 → Q .non H'
/-- the stack while a join is made ready -/
structure PJ (K : PySem.W.Frag) (k : Int) (sl kl : Addr) (H0 : Hp) (n0 : Nat) (pre : List Fr) (lo : Fr) (H : Hp) (ss : List Stp) (up : Fr) (m : Nat) : Prop where
  b : But2 sl kl H0 H
  sq : ∀ a xs, SqT K H0 a xs → SqT K H a xs
  T : TS K k sl kl H ss (pre ++ [lo, up])
  len : ss.length ≤ n0 + m
theorem PJ.same {K : PySem.W.Frag} {k : Int} {sl kl : Addr} {H0 : Hp} {n0 : Nat} {pre : List Fr} {lo : Fr} {H H' : Hp} {ss : List Stp} {up : Fr} {m : Nat} (J : PJ K k sl kl H0 n0 pre lo H ss up m) (s : Same H H') : PJ K k sl kl H0 n0 pre lo H' ss up m :=
  ⟨J.b.trans (.of s), fun a xs h => same_sqT s (J.sq a xs h), J.T.same s, J.len⟩
theorem PJ.put {K : PySem.W.Frag} {k : Int} (hk : k ≤ 12) {sl kl : Addr} {H0 : Hp} {n0 : Nat} {pre : List Fr} {lo : Fr} {H : Hp} {ss : List Stp} {up up' : Fr} {m : Nat} {v : V} {s : Stp} {Q : VK} {E : XK} (ne : sl ≠ kl) (J : PJ K k sl kl H0 n0 pre lo H ss up m) (hv : StV K H v s) (hs : LOk k s) (h1 : s.many = 1)
    (few : n0 ≤ 25000) (fm : m ≤ 4000) (lp : pre.length ≤ 10) (e : (lframe s [up]).getD up = up')
    (q : ∀ H' ss', PJ K k sl kl H0 n0 pre lo H' ss' up' (m + 1) → Q .non H') : spPut K [.ref sl, .ref kl, v] H Q E := by
  have hl := J.len
  refine put_call hk ne J.T hv hs (by omega) (by rw [List.length_append]; show pre.length + 2 ≤ 30000; omega) fun H' b m' T' => ?_
  have pl := putSS_len s ss (pre ++ [lo, up])
  refine q H' (putSS s ss (pre ++ [lo, up])) ⟨J.b.trans b, fun a xs h => m' a xs (J.sq a xs h), ?_, by omega⟩
  have ez : putFS s (pre ++ [lo, up]) = pre ++ [lo, up'] := by
    unfold putFS
    rw [put_two h1, ← e]
    cases lframe s [up] with
    | none => rfl
    | some f => rfl
  rw [ez] at T'
  exact T'
/-- `_law_put(steps, stack, (w, i))` as a statement -/
theorem put_stmt {K : PySem.W.Frag} {k : Int} (hk : k ≤ 12) {sl kl : Addr} {H0 : Hp} {n0 : Nat} {pre : List Fr} {lo : Fr} {H : Hp} {ss : List Stp} {up up' : Fr} {m : Nat} {D : Ends} {σ : L2.St} {te : TE} {w : Str} {i : Int} {s : Stp} (ne : sl ≠ kl) (J : PJ K k sl kl H0 n0 pre lo H ss up m)
    (h0 : σ[0]? = some (some (.ref sl))) (h1 : σ[1]? = some (some (.ref kl))) (hte : ∀ R : VK, R (.int i) H → te σ H R) (hv : s.vals = [.str w, .int i]) (hs : LOk k s) (h2 : s.many = 1) (few : n0 ≤ 25000) (fm : m ≤ 4000) (lp : pre.length ≤ 10) (e : (lframe s [up]).getD up = up')
    (q : ∀ H' ss', PJ K k sl kl H0 n0 pre lo H' ss' up' (m + 1) → D.nx σ H') : tDrop (tCall (spPut K) [] E0 (tCons (tVar 0) (tCons (tVar 1) (tCons (tTup (tCons (tC (V.str w)) (tCons te tNil))) tNil)))) D σ H := by
  refine ⟨_, h0, _, h1, hte _ ⟨(by show 2 ≤ sizeLine; decide), fun p np => ?_⟩⟩
  have s1 := same_upd (o := .tup [V.str w, V.int i]) np
  exact PJ.put (Q := fun _ H1 => D.nx σ H1) (E := E0) hk ne (J.same s1) ⟨p, rfl, by rw [hv]; exact SqT.of upd_same⟩ hs h2 few fm lp e q
theorem join_stmt {K : PySem.W.Frag} {k : Int} (hk : k ≤ 12) {sl kl : Addr} {H0 : Hp} {n0 : Nat} {pre : List Fr} {lo : Fr} {H : Hp} {ss : List Stp} {up g : Fr} {m : Nat} {D : Ends} {σ : L2.St} (ne : sl ≠ kl) (J : PJ K k sl kl H0 n0 pre lo H ss up m)
    (h0 : σ[0]? = some (some (.ref sl))) (h1 : σ[1]? = some (some (.ref kl))) (few : ss.length ≤ 30000) (lp : pre.length ≤ 10) (e : putF .join (pre ++ [lo, up]) = some (pre ++ [g]))
    (q : ∀ H' ss', But2 sl kl H0 H' → (∀ a xs, SqT K H0 a xs → SqT K H' a xs) → TS K k sl kl H' ss' (pre ++ [g]) → ss'.length ≤ ss.length + 1 → D.nx σ H') : tDrop (tCall (spPut K) [] E0 (tCons (tVar 0) (tCons (tVar 1) (tCons (tTup (tCons (tC (V.str "join")) tNil)) tNil)))) D σ H := by
  refine ⟨_, h0, _, h1, (by show 1 ≤ sizeLine; decide), fun p np => ?_⟩
  have s1 := same_upd (o := .tup [V.str "join"]) np
  have J1 := J.same s1
  refine put_call (Q := fun _ H1 => D.nx σ H1) (E := E0) (s := .join) hk ne J1.T ⟨p, rfl, SqT.of upd_same⟩ trivial few (by rw [List.length_append]; show pre.length + 2 ≤ 30000; omega) fun H' b m' T' => ?_
  have ez : putFS .join (pre ++ [lo, up]) = pre ++ [g] := by unfold putFS; rw [e]; rfl
  rw [ez] at T'
  exact q H' _ (J1.b.trans b) (fun a xs h => m' a xs (J1.sq a xs h)) T' (putSS_len _ _ _)
section
variable {P : Program} {w : World} {K : PySem.W.Frag} {mg : Str → Option Value} {base : Heap}
abbrev pjN : List Str := ["steps", "stack", "k", "lower", "pair", "label"]
theorem scPj : FnScope pjN ["steps", "stack", "k"] (defScope sPj) := ⟨rfl, rfl, rfl, by decide +kernel, rfl, by decide +kernel, by decide +kernel⟩
theorem ok_pj {f fP : Addr} {fd fdP : FuncData} (F : Fun K "_law_put_join" "_law_put_join" sPj f fd) (mr : mg "range" = none)
    (GP : FnOk P w K mg base CX0 2 fP fdP ["steps", "stack", "step"] (spPut K)) (kP : PySem.W.keepIn K (.ref fP) = true) (bP : Binds K fdP ["steps", "stack", "step"] []) (gP : mg "_law_put" = some (.ref fP)) :
    FnOk P w K mg base CX0 3 f fd ["steps", "stack", "k"] (spPj K) := by
  refine F.ok scPj (fun vs H Q E h => ?_) (fun cdv A outer s H vs Q E hr h => ?_)
  · obtain ⟨sl, kl, k, ss, pre, lo, up, rfl, _⟩ := h
    rfl
  · obtain ⟨sl, kl, k, ss, pre, lo, up, rfl, ne, hk0, hk, T, few, lp, q⟩ := h
    have hu := u65 hr
    refine ⟨_, pss_cons (ps_set (i := 3) scPj.nd rfl (.inl rfl) (pe_ix ix_list (pv 1) (pe_un un_neg pe_int) (fun _ _ => rfl)))
      (pss_cons (ps_for PassesOwn.never rfl (pi_tup (pe_ix ix_tup (pv 3) pe_int (fun _ _ => rfl))) (pg_name (i := 4) scPj.nd rfl (.inl rfl))
        (pss_one (ps_if (pt_cmpR (op_inDT hu) (pv 4) (pe_ix ix_tup (pe_ix ix_list (pv 1) (pe_un un_neg pe_int) (fun _ _ => rfl)) pe_int (fun _ _ => rfl)) (by rfl)) (pss_one (ps_expr (pe_call GP hr (by rfl) gP kP bP .nil pass0 (pa_cons (pv 0) (pa_cons (pv 1) (pa_cons (pe_tup (pa_cons pe_str (pa_cons (pe_ix ix_tup (pv 4) pe_int (fun _ _ => rfl)) pa_nil))) pa_nil)))))) pss_nil)))
      (pss_cons (ps_for PassesOwn.never rfl (pi_range1 rfl mr (pa_cons (pe_op op_add (pv 2) pe_int) pa_nil)) (pg_name (i := 5) scPj.nd rfl (.inl rfl))
        (C8.pss_cut (ps_if (PW.pt (pw_and (pt_cmpR op_in_seq (pv 5) (pe_ix ix_tup (pe_ix ix_list (pv 1) (pe_un un_neg pe_int) (fun _ _ => rfl)) pe_int (fun _ _ => rfl)) (by rfl)) (pw_and1 (pt_cmpR op_notIn_seq (pv 5) (pe_ix ix_tup (pv 3) pe_int (fun _ _ => rfl)) (by rfl))))) (pss_one (ps_expr (pe_call GP hr (by rfl) gP kP bP .nil pass0 (pa_cons (pv 0) (pa_cons (pv 1) (pa_cons (pe_tup (pa_cons pe_str (pa_cons (pv 5) pa_nil))) pa_nil)))))) pss_nil)
        (pss_one (ps_if (pt_cmpR op_in_seq (pv 5) (pe_ix ix_tup (pv 3) pe_int (fun _ _ => rfl)) (by rfl)) (pss_one (ps_expr (pe_call GP hr (by rfl) gP kP bP .nil pass0 (pa_cons (pv 0) (pa_cons (pv 1) (pa_cons (pe_tup (pa_cons pe_str (pa_cons (pv 5) pa_nil))) pa_nil)))))) pss_nil))))
      (pss_one (ps_expr (pe_call GP hr (by rfl) gP kP bP .nil pass0 (pa_cons (pv 0) (pa_cons (pv 1) (pa_cons (pe_tup (pa_cons pe_str pa_nil)) pa_nil)))))))), ?_⟩
    obtain ⟨fvs, hK, hF⟩ := T.hK
    obtain ⟨pvs, vl, vu, rfl, hp, hlo, hup⟩ := frs_split hF
    obtain ⟨al, tl, pl, psl, rfl, l1, l2, l3, l4⟩ := hlo
    refine ⟨_, rfl, _, rfl, kl, _, -2, .ref al, rfl, rfl, SqL.of hK, atI_two _ _ _, ?_⟩
    have okl : FrK k lo := T.sp.frk lo (by simp)
    have ll := okl.ok.len2
    have lpl : psl.length = lo.2.length := l4.length
    have J0 : PJ K k sl kl H ss.length pre lo H ss up 0 := ⟨.refl, fun _ _ h => h, T, Nat.le_refl _⟩
    refine ⟨_, rfl, al, _, 1, .ref pl, rfl, rfl, l1, atI_nat (j := 1) rfl, pl, rfl, ⟨_, l3⟩, ?_⟩
    refine for_tup (K := K) (a := pl) (xs := psl.map V.ref) (fun t σ H' => ∃ (y4 : Option V) (ss' : List Stp) (up' : Fr), σ = [some (.ref sl), some (.ref kl), some (.int k), some (.ref al), y4, none] ∧ PJ K k sl kl H ss.length pre lo H' ss' up' t ∧ ∀ q ∈ lo.2.take t, q ∉ up'.2)
      ⟨none, ss, up, rfl, J0, fun q hq => by rw [List.take_zero] at hq; cases hq⟩ (fun t σ H' _ ⟨_, _, _, _, J, _⟩ => J.sq _ _ l3) ?_ ?_
    · rintro t x σ H' hx ⟨y4, ss', up', rfl, J, no⟩
      rw [List.getElem?_map] at hx
      cases ex : psl[t]? with
      | none => rw [ex] at hx; cases hx
      | some b =>
        rw [ex] at hx
        cases hx
        obtain ⟨pq, hq, hb⟩ := l4.get ex
        have tk : lo.2.take (t + 1) = lo.2.take t ++ [pq] := L2.take_next hq
        have tl : t < lo.2.length := (List.getElem?_eq_some_iff.mp hq).1
        have hb' := J.sq _ _ hb
        obtain ⟨fvs', hK', hF'⟩ := J.T.hK
        obtain ⟨pvs', vl', vu', rfl, hp', hlo', ⟨au, tu, pu, psu, rfl, u1, u2, u3, u4⟩⟩ := frs_split hF'
        have oku : FrK k up' := J.T.sp.frk up' (by simp)
        refine ⟨_, rfl, _, rfl, _, rfl, kl, _, -1, .ref au, rfl, rfl, SqL.of hK', atI_one _ _ _, au, _, 1, .ref pu, rfl, rfl, u1, atI_nat (j := 1) rfl, ?_⟩
        refine ⟨pD pq, up'.2.map pD, dp_pair hb', .tup u3 (dp_pairs u4), pD_shaped _, pDs_shapedT _, _, rfl, ?_⟩
        show (if ((up'.2.map pD).any fun z => PyData.eqv z (pD pq)) = true then _ else _)
        rw [pDs_any]
        by_cases c : pq ∈ up'.2
        · refine iteY c ?_
          have inl := (okl.ok.pin pq (List.mem_of_getElem? hq)).1
          have v13 := okl.ok.vx _ inl
          have vk := okl.le _ inl
          have inu := (oku.ok.pin pq c).1
          have lok : LOk k (.fgt pq.1) := by
            show (decide (0 ≤ pq.1) && decide (pq.1 < k + 1)) = true
            rw [decide_eq_true v13.1, decide_eq_true (by omega)]
            rfl
          have ef : lframe (.fgt pq.1) [up'] = some (up'.1.filter fun x => decide (x ≠ pq.1), up'.2.filter fun q => decide (pq.1 ≠ q.1 ∧ pq.1 ≠ q.2)) := if_pos inu
          have eg : (lframe (.fgt pq.1) [up']).getD up' = (up'.1.filter fun x => decide (x ≠ pq.1), up'.2.filter fun q => decide (pq.1 ≠ q.1 ∧ pq.1 ≠ q.2)) := by rw [ef]; rfl
          refine put_stmt hk ne J rfl rfl (fun R r => ⟨_, rfl, b, _, 0, .int pq.1, rfl, rfl, hb', atI_nat (j := 0) rfl, r⟩) rfl lok rfl few (by omega) lp eg fun H3 ss3 J3 => ?_
          refine ⟨_, ss3, _, rfl, J3, fun q9 h9 h8 => ?_⟩
          obtain ⟨h7, h6⟩ := List.mem_filter.mp h8
          have h6 := of_decide_eq_true h6
          rw [tk] at h9
          rcases List.mem_append.mp h9 with z | z
          · exact no q9 z h7
          · rw [List.mem_singleton.mp z] at h6
            exact h6.1 rfl
        · refine iteD c ⟨_, ss', up', rfl, { J with len := by have := J.len; omega }, fun q9 h9 => ?_⟩
          rw [tk] at h9
          rcases List.mem_append.mp h9 with z | z
          · exact no q9 z
          · rw [List.mem_singleton.mp z]; exact c
    · rintro σ H1 ⟨y4, ss1, up1, rfl, J1, no1⟩
      rw [List.length_map, lpl, List.take_length] at no1
      rw [List.length_map] at J1
      obtain ⟨kn, rfl⟩ : ∃ n : Nat, k = n := ⟨k.toNat, by omega⟩
      refine ⟨_, rfl, _, _, rfl, rfl, ((kn : Int) + 1), rfl, by omega, by omega, ?_⟩
      rw [show ((kn : Int) + 1).toNat = kn + 1 by omega]
      refine for_range (lo := 0) (n := kn + 1) (fun i σ H' => ∃ (y5 : Option V) (ss' : List Stp) (up' : Fr), σ = [some (.ref sl), some (.ref kl), some (.int kn), some (.ref al), y4, y5] ∧ PJ K kn sl kl H ss.length pre lo H' ss' up' (169 + 2 * i) ∧ (∀ q ∈ lo.2, q ∉ up'.2) ∧ ∀ x : Int, 0 ≤ x → x < i → (x ∈ up'.1 ↔ x ∈ lo.1))
        ⟨_, ss1, up1, rfl, { J1 with len := by have := J1.len; omega }, no1, fun x h1 h2 => by omega⟩ ?_ ?_
      · rintro i σ H2 hi ⟨y5, ss2, up2, rfl, J2, no2, eq2⟩
        rw [show (0 : Int) + (i : Int) = (i : Int) by omega]
        obtain ⟨fvs', hK', hF'⟩ := J2.T.hK
        obtain ⟨pvs', vl', vu', rfl, hp', hlo', ⟨au, tu, pu, psu, rfl, u1, u2, u3, u4⟩⟩ := frs_split hF'
        have oku : FrK kn up2 := J2.T.sp.frk up2 (by simp)
        have l1' := J2.sq _ _ l1
        have l2' := J2.sq _ _ l2
        have lok : inR kn (i : Int) = true := by
          show (decide (0 ≤ (i : Int)) && decide ((i : Int) < kn + 1)) = true
          rw [decide_eq_true (by omega), decide_eq_true (by omega)]
          rfl
        refine ⟨fun σ H' => ∃ ss3 up3, σ = [some (.ref sl), some (.ref kl), some (.int kn), some (.ref al), y4, some (.int i)] ∧ PJ K kn sl kl H ss.length pre lo H' ss3 up3 (169 + 2 * i + 1) ∧ (∀ q ∈ lo.2, q ∉ up3.2) ∧ (∀ x : Int, 0 ≤ x → x < i → (x ∈ up3.1 ↔ x ∈ lo.1)) ∧ ((i : Int) ∈ up3.1 → (i : Int) ∈ lo.1), ?_, ?_⟩
        · have J2' : PJ K kn sl kl H ss.length pre lo H2 ss2 up2 (169 + 2 * i + 1) := { J2 with len := by have := J2.len; omega }
          refine ⟨_, rfl, _, rfl, _, rfl, kl, _, -1, .ref au, rfl, rfl, SqL.of hK', atI_one _ _ _, au, _, 0, .ref tu, rfl, rfl, u1, atI_nat (j := 0) rfl, ?_⟩
          refine ⟨tu, _, rfl, .inr u2, rfl, flat_ints _, _, rfl, ?_⟩
          show (if inV (.int (i : Int)) (up2.1.map V.int) = true then _ else _)
          rw [inV_ints]
          by_cases cu : (i : Int) ∈ up2.1
          · refine iteY cu ?_
            refine ⟨_, rfl, _, rfl, al, _, 0, .ref tl, rfl, rfl, l1', atI_nat (j := 0) rfl, tl, _, rfl, .inr l2', rfl, flat_ints _, _, rfl, ?_⟩
            show (if (!inV (.int (i : Int)) (lo.1.map V.int)) = true then _ else _)
            rw [inV_ints]
            by_cases cl : (i : Int) ∈ lo.1
            · exact iteNS cl ⟨ss2, up2, rfl, J2', no2, eq2, fun _ => cl⟩
            · refine iteN cl ?_
              have ef : lframe (.fgt (i : Int)) [up2] = some (up2.1.filter fun x => decide (x ≠ (i : Int)), up2.2.filter fun q => decide ((i : Int) ≠ q.1 ∧ (i : Int) ≠ q.2)) := if_pos cu
              have eg : (lframe (.fgt (i : Int)) [up2]).getD up2 = (up2.1.filter fun x => decide (x ≠ (i : Int)), up2.2.filter fun q => decide ((i : Int) ≠ q.1 ∧ (i : Int) ≠ q.2)) := by rw [ef]; rfl
              refine put_stmt (s := .fgt (i : Int)) hk ne J2 rfl rfl (fun R r => ⟨_, rfl, r⟩) rfl lok rfl few (by omega) lp eg fun H3 ss3 J3 => ?_
              refine ⟨ss3, _, rfl, J3, fun q9 h9 h8 => no2 q9 h9 (List.mem_filter.mp h8).1, fun x x0 xi => ?_, fun z => ?_⟩
              · show x ∈ up2.1.filter _ ↔ _
                rw [List.mem_filter, ← eq2 x x0 xi]
                exact ⟨fun z => z.1, fun z => ⟨z, decide_eq_true (by omega)⟩⟩
              · exact absurd rfl (of_decide_eq_true (List.mem_filter.mp z).2)
          · exact iteD cu ⟨ss2, up2, rfl, J2', no2, eq2, fun z => absurd z cu⟩
        · rintro σ3 H3 ⟨ss3, up3, rfl, J3, no3, eq3, im3⟩
          have l1' := J3.sq _ _ l1
          have l2' := J3.sq _ _ l2
          refine ⟨_, rfl, _, rfl, al, _, 0, .ref tl, rfl, rfl, l1', atI_nat (j := 0) rfl, tl, _, rfl, .inr l2', rfl, flat_ints _, _, rfl, ?_⟩
          show (if inV (.int (i : Int)) (lo.1.map V.int) = true then _ else _)
          rw [inV_ints]
          by_cases cl : (i : Int) ∈ lo.1
          · refine iteY cl ?_
            by_cases cu : (i : Int) ∈ up3.1
            · have ef : lframe (.new (i : Int)) [up3] = none := if_pos cu
              refine put_stmt (s := .new (i : Int)) (up' := up3) hk ne J3 rfl rfl (fun R r => ⟨_, rfl, r⟩) rfl lok rfl few (by omega) lp (by rw [ef]; rfl) fun H4 ss4 J4 => ?_
              refine ⟨_, ss4, up3, rfl, { J4 with len := by have := J4.len; omega }, no3, fun x x0 xi => ?_⟩
              by_cases xe : x = i
              · rw [xe]; exact ⟨fun _ => cl, fun _ => cu⟩
              · exact eq3 x x0 (by omega)
            · have ef : lframe (.new (i : Int)) [up3] = some (sI (up3.1 ++ [(i : Int)]), up3.2) := if_neg cu
              refine put_stmt (s := .new (i : Int)) (up' := (sI (up3.1 ++ [(i : Int)]), up3.2)) hk ne J3 rfl rfl (fun R r => ⟨_, rfl, r⟩) rfl lok rfl few (by omega) lp (by rw [ef]; rfl) fun H4 ss4 J4 => ?_
              refine ⟨_, ss4, _, rfl, { J4 with len := by have := J4.len; omega }, no3, fun x x0 xi => ?_⟩
              show x ∈ sI (up3.1 ++ [(i : Int)]) ↔ _
              rw [(sI_perm _).mem_iff, List.mem_append, List.mem_singleton]
              by_cases xe : x = i
              · rw [xe]; exact ⟨fun _ => cl, fun _ => .inr rfl⟩
              · rw [eq3 x x0 (by omega)]
                exact ⟨fun z => z.resolve_right xe, fun z => .inl z⟩
          · refine iteD cl ⟨_, ss3, up3, rfl, { J3 with len := by have := J3.len; omega }, no3, fun x x0 xi => ?_⟩
            by_cases xe : x = i
            · rw [xe]; exact ⟨fun z => im3 z, fun z => absurd z cl⟩
            · exact eq3 x x0 (by omega)
      · rintro σ H5 ⟨y5, ss5, up5, rfl, J5, no5, eq5⟩
        have oku : FrK kn up5 := J5.T.sp.frk up5 (by simp)
        have labs : lo.1 = up5.1 := by
          have mem : ∀ x, x ∈ lo.1 ↔ x ∈ up5.1 := fun x => by
            by_cases c : 0 ≤ x ∧ x < ((kn + 1 : Nat) : Int)
            · exact (eq5 x c.1 c.2).symm
            · refine ⟨fun z => ?_, fun z => ?_⟩
              · have h1 := okl.ok.vx x z
                have h2 := okl.le x z
                exact absurd ⟨h1.1, by omega⟩ c
              · have h1 := oku.ok.vx x z
                have h2 := oku.le x z
                exact absurd ⟨h1.1, by omega⟩ c
          have nd : ∀ {l : List Int}, l.Pairwise (· < ·) → l.Nodup := fun h => List.Pairwise.imp (fun {a b} h => by omega) h
          exact List.Perm.eq_of_pairwise (le := (· < ·)) (fun a b _ _ h1 h2 => by omega) okl.ok.lab oku.ok.lab ((List.perm_ext_iff_of_nodup (nd okl.ok.lab) (nd oku.ok.lab)).mpr mem)
        obtain ⟨g, hg⟩ := put_join (pre := pre) labs fun q hq hl => no5 q hl hq
        have hl5 := J5.len
        refine join_stmt hk ne J5 rfl rfl (by omega) lp hg fun H6 ss6 b6 m6 T6 len6 => ?_
        exact q H6 ss6 g b6 m6 T6 (by omega)
end
end Sm

set_option Elab.async false
set_option linter.all false
set_option maxRecDepth 100000
set_option maxHeartbeats 8000000
namespace Sm
open PySem PySem.Spec PyProof.Rows L2
abbrev sTm : Stmt := topS 32
def spTm (K : PySem.W.Frag) : Sp := fun vs H Q _ => ∃ (c k m : Int), vs = [.int c, .int k, .int m] ∧ 0 ≤ k ∧ k ≤ 12 ∧ 0 < m ∧
  ∀ H' r ss f svs, Same H H' → SqT K H' r svs → Paired (StV K H') svs ss → SP k ss [f] → ss.length ≤ 9000 → Q (.ref r) H'
theorem cut_any (ns : List Int) (lo hi : Option Int) : ∃ cs : List Int, cutV (ns.map V.int) lo hi = cs.map V.int ∧ cs.length ≤ ns.length := by
  refine ⟨(ns.drop (HT.sIx ns.length 0 lo)).take (HT.sIx ns.length ns.length hi - HT.sIx ns.length 0 lo), ?_, ?_⟩
  · unfold cutV
    rw [List.length_map, List.map_take, List.map_drop]
  · rw [List.length_take, List.length_drop]
    omega
theorem put_one_len {s : Stp} (h : s.many = 1) (fs : List Fr) : (putFS s fs).length = fs.length := by
  unfold putFS putF
  rw [h]
  by_cases c : fs.length < 1
  · rw [if_pos c]; rfl
  · rw [if_neg c]
    cases lframe s (fs.drop (fs.length - 1)) with
    | none => rfl
    | some f =>
      show (fs.take (fs.length - 1) ++ [f]).length = fs.length
      rw [List.length_append, List.length_take]
      simp
      omega
theorem put_emp (fs : List Fr) : putFS .emp fs = fs ++ [([], [])] := by
  unfold putFS putF
  rw [if_neg (by simp [Stp.many])]
  show fs.take (fs.length - 0) ++ [(([], []) : Fr)] = _
  rw [Nat.sub_zero, List.take_length]
theorem two_last : ∀ {fs : List Fr}, 2 ≤ fs.length → ∃ pre lo up, fs = pre ++ [lo, up] := fun {fs} h => by
  have h1 : fs.length - 2 < fs.length := by omega
  have h2 : fs.length - 1 < fs.length := by omega
  refine ⟨fs.take (fs.length - 2), fs[fs.length - 2], fs[fs.length - 1], ?_⟩
  have e1 : fs.take (fs.length - 1) = fs.take (fs.length - 2) ++ [fs[fs.length - 2]] := by
    have z := L2.take_next (l := fs) (List.getElem?_eq_getElem h1)
    rw [show fs.length - 2 + 1 = fs.length - 1 by omega] at z
    exact z
  have e2 : fs = fs.take (fs.length - 1) ++ [fs[fs.length - 1]] := by
    have z := L2.take_next (l := fs) (List.getElem?_eq_getElem h2)
    rw [show fs.length - 1 + 1 = fs.length by omega, List.take_length] at z
    exact z
  rw [e1] at e2
  rw [List.append_assoc] at e2
  exact e2
/-- `_law_put(steps, stack, ..)` as a statement of `_law_term` -/
theorem put_st {K : PySem.W.Frag} {k : Int} (hk : k ≤ 12) {sl kl : Addr} {H : Hp} {ss : List Stp} {fs : List Fr} {D : Ends} {σ : L2.St} {ta : TE} {s : Stp} (ne : sl ≠ kl) (T : TS K k sl kl H ss fs)
    (h4 : σ[4]? = some (some (.ref sl))) (h5 : σ[5]? = some (some (.ref kl))) (hta : ∀ R : VK, (∀ H' p, Same H H' → SqT K H' p s.vals → R (.ref p) H') → ta σ H R) (hs : LOk k s) (ls : ss.length ≤ 30000) (lf : fs.length ≤ 30000)
    (q : ∀ H' ss', But2 sl kl H H' → TS K k sl kl H' ss' (putFS s fs) → ss'.length ≤ ss.length + 1 → D.nx σ H') : tDrop (tCall (spPut K) [] E0 (tCons (tVar 4) (tCons (tVar 5) (tCons ta tNil)))) D σ H := by
  refine ⟨_, h4, _, h5, hta _ fun H1 p s1 hp => ?_⟩
  refine put_call (Q := fun _ H1 => D.nx σ H1) (E := E0) (s := s) hk ne (T.same s1) ⟨p, rfl, hp⟩ hs ls lf fun H' b m' T' => ?_
  exact q H' _ ((But2.of s1).trans b) T' (putSS_len _ _ _)
theorem same_but2 {sl kl : Addr} {H0 H H' : Hp} (s : Same H0 H) (b : But2 sl kl H H') (n1 : H0 sl = none) (n2 : H0 kl = none) : Same H0 H' := fun c o e => b.go c o (s c o e) (ne_of_none e n1) (ne_of_none e n2)
section
variable {P : Program} {w : World} {K : PySem.W.Frag} {mg : Str → Option Value} {base : Heap}
abbrev tmN : List Str := ["cell", "k", "most", "digits", "steps", "stack", "digit", "word", "i", "j", "turn"]
theorem scTm : FnScope tmN ["cell", "k", "most"] (defScope sTm) := ⟨rfl, rfl, rfl, by decide +kernel, rfl, by decide +kernel, by decide +kernel⟩
theorem ok_tm {f fD fP fJ : Addr} {fd fdD fdP fdJ : FuncData} (F : Fun K "_law_term" "_law_term" sTm f fd) (mr : mg "range" = none) (ml : mg "len" = none) (mi : mg "min" = none) (mx : mg "max" = none) (mt : mg "tuple" = none)
    (GD : FnOk P w K mg base CX0 2 fD fdD ["cell", "count", "many"] (spDig K)) (kD : PySem.W.keepIn K (.ref fD) = true) (bD : Binds K fdD ["cell", "count", "many"] []) (gD : mg "_law_digits" = some (.ref fD))
    (GP : FnOk P w K mg base CX0 2 fP fdP ["steps", "stack", "step"] (spPut K)) (kP : PySem.W.keepIn K (.ref fP) = true) (bP : Binds K fdP ["steps", "stack", "step"] []) (gP : mg "_law_put" = some (.ref fP))
    (GJ : FnOk P w K mg base CX0 3 fJ fdJ ["steps", "stack", "k"] (spPj K)) (kJ : PySem.W.keepIn K (.ref fJ) = true) (bJ : Binds K fdJ ["steps", "stack", "k"] []) (gJ : mg "_law_put_join" = some (.ref fJ)) :
    FnOk P w K mg base CX0 4 f fd ["cell", "k", "most"] (spTm K) := by
  refine F.ok scTm (fun vs H Q E h => ?_) (fun cdv A outer s H vs Q E hr h => ?_)
  · obtain ⟨c, k, m, rfl, _⟩ := h
    rfl
  · obtain ⟨c, k, m, rfl, hk0, hk, hm, q⟩ := h
    have hr2 : Room 2 _ := hr.mono (by decide)
    refine ⟨_, pss_cons (ps_set (i := 3) scTm.nd rfl (.inl rfl) (pe_call GD hr2 (by rfl) gD kD bD .nil pass0 (pa_cons (pv 0) (pa_cons pe_int (pa_cons pe_int pa_nil)))))
      (pss_cons (ps_par (i := 4) (j := 5) (by rfl) scTm.nd rfl rfl (by decide) rfl rfl (pa_cons (pe_lst (pa_cons (pe_tup (pa_cons pe_str pa_nil)) pa_nil)) (pa_cons (pe_lst (pa_cons (pe_tup (pa_cons (pe_tup pa_nil) (pa_cons (pe_tup pa_nil) pa_nil))) pa_nil)) pa_nil)) (by rfl))
      (pss_cons (ps_for PassesOwn.never rfl (pi_list (pe_slice sl_list (pv 3) (po_some pe_int) (po_some (pe_op op_add pe_int (pe_op op_mod (pe_ix ix_list (pv 3) pe_int (fun _ _ => rfl)) (pv 2)))))) (pg_name (i := 6) scTm.nd rfl (.inl rfl))
        (pss_cons (ps_par3 (i := 7) (j := 8) (l := 9) (by rfl) scTm.nd rfl rfl rfl (by decide) (by decide) (by decide) rfl rfl rfl (pa_cons (pe_op op_mod (pv 6) pe_int) (pa_cons (pe_op op_mod (pe_op op_fdiv (pv 6) pe_int) (pe_op op_add (pv 1) pe_int)) (pa_cons (pe_op op_mod (pe_op op_fdiv (pv 6) pe_int) (pe_op op_add (pv 1) pe_int)) pa_nil))) (by rfl))
        (pss_one (ps_if (PW.pt (pw_and (pt_cmpR op_eq (pv 7) pe_int (nomark _)) (pw_and1 (pt_cmpR op_lt (pe_callB call_len_seq (by rfl) ml PySem.boot_len (pa_cons (pv 5) pa_nil)) pe_int (nomark _)))))
          (pss_one (ps_expr (pe_call GP hr2 (by rfl) gP kP bP .nil pass0 (pa_cons (pv 4) (pa_cons (pv 5) (pa_cons (pe_tup (pa_cons pe_str pa_nil)) pa_nil))))))
          (pss_one (ps_if (pt_cmpR op_lt (pv 7) pe_int (nomark _))
            (pss_one (ps_expr (pe_call GP hr2 (by rfl) gP kP bP .nil pass0 (pa_cons (pv 4) (pa_cons (pv 5) (pa_cons (pe_tup (pa_cons pe_str (pa_cons (pv 8) pa_nil))) pa_nil))))))
            (pss_one (ps_if (pt_cmpR op_lt (pv 7) pe_int (nomark _))
              (pss_one (ps_expr (pe_call GP hr2 (by rfl) gP kP bP .nil pass0 (pa_cons (pv 4) (pa_cons (pv 5) (pa_cons (pe_tup (pa_cons pe_str (pa_cons (pe_callB (call_min2 rfl) (by rfl) mi (by decide +kernel) (pa_cons (pv 8) (pa_cons (pv 9) pa_nil))) (pa_cons (pe_callB (call_max2 rfl) (by rfl) mx (by decide +kernel) (pa_cons (pv 8) (pa_cons (pv 9) pa_nil))) pa_nil)))) pa_nil))))))
              (pss_one (ps_if (pt_cmpR op_eq (pv 7) pe_int (nomark _))
                (pss_one (ps_expr (pe_call GP hr2 (by rfl) gP kP bP .nil pass0 (pa_cons (pv 4) (pa_cons (pv 5) (pa_cons (pe_tup (pa_cons pe_str (pa_cons (pv 8) pa_nil))) pa_nil))))))
                (pss_one (ps_if (pt_cmpR op_gt (pe_callB call_len_seq (by rfl) ml PySem.boot_len (pa_cons (pv 5) pa_nil)) pe_int (nomark _)) (pss_one (ps_expr (pe_call GJ hr (by rfl) gJ kJ bJ .nil pass0 (pa_cons (pv 4) (pa_cons (pv 5) (pa_cons (pv 1) pa_nil)))))) pss_nil))))))))))))
      (pss_cons (ps_for PassesOwn.never rfl (pi_range1 rfl mr (pa_cons pe_int pa_nil)) (pg_name (i := 10) scTm.nd rfl (.inl rfl))
        (pss_one (ps_if (pt_cmpR op_gt (pe_callB call_len_seq (by rfl) ml PySem.boot_len (pa_cons (pv 5) pa_nil)) pe_int (nomark _)) (pss_one (ps_expr (pe_call GJ hr (by rfl) gJ kJ bJ .nil pass0 (pa_cons (pv 4) (pa_cons (pv 5) (pa_cons (pv 1) pa_nil)))))) pss_nil)))
      (pss_one (ps_ret (pe_callTy call_tuple_of (by rfl) mt (by decide +kernel) (pa_cons (pv 4) pa_nil))))))), ?_⟩
    refine ⟨_, rfl, c, 30, 720, rfl, by decide, by decide, by decide, fun H1 p ds s1 np hp ld rd => ?_⟩
    refine ⟨(by show 1 ≤ sizeLine; decide), fun t1 nt1 => ⟨(by show 1 ≤ sizeLine; decide), fun sl nsl => ⟨(by show 0 ≤ sizeLine; decide), fun t2 nt2 => ⟨(by show 0 ≤ sizeLine; decide), fun t3 nt3 => ⟨(by show 2 ≤ sizeLine; decide), fun t4 nt4 => ⟨(by show 1 ≤ sizeLine; decide), fun kl nkl => ⟨_, _, rfl, ?_⟩⟩⟩⟩⟩⟩⟩
    have e1 := same_upd (o := .tup [V.str "empty"]) nt1
    have e2 := same_upd (o := .lst [V.ref t1]) nsl
    have e3 := same_upd (o := .tup []) nt2
    have e4 := same_upd (o := .tup []) nt3
    have e5 := same_upd (o := .tup [V.ref t2, V.ref t3]) nt4
    have e6 := same_upd (o := .lst [V.ref t4]) nkl
    have e26 := e3.trans (e4.trans (e5.trans e6))
    have nslH : H1 sl = none := e1.free nsl
    have nsl0 : H sl = none := s1.free nslH
    have nklH : H1 kl = none := e1.free (e2.free (e3.free (e4.free (e5.free nkl))))
    have nkl0 : H kl = none := s1.free nklH
    have ne : sl ≠ kl := fun z => by
      have y := e3.trans (e4.trans e5) _ _ (upd_same (H := upd H1 t1 (.tup [V.str "empty"])) (a := sl) (o := .lst [V.ref t1]))
      have w := (congrArg (upd (upd (upd (upd (upd H1 t1 (.tup [V.str "empty"])) sl (.lst [V.ref t1])) t2 (.tup [])) t3 (.tup [])) t4 (.tup [V.ref t2, V.ref t3])) z).trans nkl
      rw [y] at w
      cases w
    have s12 := e1.trans (e2.trans e26)
    have sp0 : SP k [.emp] [([], [])] := sp_put (ss := []) (fs := []) (s := .emp) hk ⟨⟨w0, rfl, w0_ok, rfl⟩, (fun s hs => by cases hs), fun f hf => by cases hf⟩ trivial rfl
    have T0 : TS K k sl kl (upd (upd (upd (upd (upd (upd H1 t1 (.tup [V.str "empty"])) sl (.lst [V.ref t1])) t2 (.tup [])) t3 (.tup [])) t4 (.tup [V.ref t2, V.ref t3])) kl (.lst [V.ref t4])) [.emp] [([], [])] :=
      ⟨⟨_, e26 _ _ upd_same, .cons ⟨t1, rfl, SqT.of (e26 _ _ (e2 _ _ upd_same))⟩ .nil⟩, ⟨_, upd_same, .cons ⟨t4, t2, t3, [], rfl, SqT.of (e6 _ _ upd_same), SqT.of (e6 _ _ (e5 _ _ (e4 _ _ upd_same))), SqT.of (e6 _ _ (e5 _ _ upd_same)), .nil⟩ .nil⟩, sp0⟩
    have hp2 := s12 _ _ hp
    have s02 := s1.trans s12
    generalize (upd (upd (upd (upd (upd (upd H1 t1 (.tup [V.str "empty"])) sl (.lst [V.ref t1])) t2 (.tup [])) t3 (.tup [])) t4 (.tup [V.ref t2, V.ref t3])) kl (.lst [V.ref t4])) = H2 at T0 hp2 s02 ⊢
    obtain ⟨d0, hd0⟩ : ∃ d0, ds[0]? = some d0 := ⟨_, List.getElem?_eq_getElem (by omega)⟩
    have at0 : (ds.map V.int)[0]? = some (.int d0) := by rw [List.getElem?_map, hd0]; rfl
    obtain ⟨cs, hcs, lcs⟩ := cut_any ds (some 1) (some (2 + d0 % m))
    refine ⟨_, rfl, 1, rfl, _, rfl, p, _, 0, .int d0, rfl, rfl, SqL.of hp2, atI_nat (j := 0) at0, _, rfl, _, _, rfl, rfl, hm, _, _, rfl, rfl, _, rfl, p, _, rfl, SqL.of hp2, fun l nl => ⟨l, rfl, ⟨_, SqL.of upd_same⟩, ?_⟩⟩
    rw [hcs]
    have s3 := same_upd (o := .lst (cs.map V.int)) nl
    have hl3 : (upd H2 l (.lst (cs.map V.int))) l = some (.lst (cs.map V.int)) := upd_same
    have T3 := T0.same s3
    have s03 := s02.trans s3
    have lsl : l ≠ sl := fun z => by obtain ⟨_, h, _⟩ := T0.hS; rw [z, h] at nl; cases nl
    have lkl : l ≠ kl := fun z => by obtain ⟨_, h, _⟩ := T0.hK; rw [z, h] at nl; cases nl
    generalize (upd H2 l (.lst (cs.map V.int))) = H3 at hl3 T3 s03 ⊢
    refine for_list (K := K) (a := l) (xs := cs.map V.int) (fun t σ H' => ∃ (y6 y7 y8 y9 : Option V) (ss : List Stp) (fs : List Fr), σ = [some (.int c), some (.int k), some (.int m), some (.ref p), some (.ref sl), some (.ref kl), y6, y7, y8, y9, none] ∧ Same H H' ∧ H' l = some (.lst (cs.map V.int)) ∧ TS K k sl kl H' ss fs ∧ 1 ≤ fs.length ∧ fs.length ≤ 3 ∧ ss.length ≤ 1 + 201 * t)
      ⟨none, none, none, none, _, _, rfl, s03, hl3, T3, (by decide), (by decide), (by decide)⟩ (fun t σ H' _ ⟨_, _, _, _, _, _, _, _, h, _⟩ => SqL.of h) ?_ ?_
    · rintro t x σ H4 hx ⟨y6, y7, y8, y9, ss, fs, rfl, sm, hl4, T4, f1, f3, ls⟩
      rw [List.getElem?_map] at hx
      cases ed : cs[t]? with
      | none => rw [ed] at hx; cases hx
      | some d =>
        rw [ed] at hx
        cases hx
        have tl : t < cs.length := (List.getElem?_eq_some_iff.mp ed).1
        have md : ∀ x : Int, inR k (x % (k + 1)) = true := fun x => by
          have h1 := Int.emod_nonneg x (show k + 1 ≠ 0 by omega)
          have h2 := Int.emod_lt_of_pos x (show 0 < k + 1 by omega)
          show (decide (0 ≤ x % (k + 1)) && decide (x % (k + 1) < k + 1)) = true
          rw [decide_eq_true h1, decide_eq_true h2]
          rfl
        refine ⟨_, rfl, _, _, rfl, rfl, (by decide : (0 : Int) < 8), _, rfl, _, _, rfl, rfl, (⟨by decide, by decide⟩ : CDiv _ 8), _, rfl, _, _, rfl, rfl, _, _, rfl, rfl, (by omega : 0 < k + 1), _, rfl, _, _, rfl, rfl, (⟨by decide, by decide⟩ : CDiv _ 72), _, rfl, _, _, rfl, rfl, _, _, rfl, rfl, (by omega : 0 < k + 1), _, _, _, rfl, ?_⟩
        have hi := md (d / 8)
        have hj := md (d / 72)
        obtain ⟨fvs, hK4, hF4⟩ := T4.hK
        have lfv : fvs.length = fs.length := hF4.length
        have fin : ∀ H5 ss5 fs5, But2 sl kl H4 H5 → TS K k sl kl H5 ss5 fs5 → 1 ≤ fs5.length → fs5.length ≤ 3 → ss5.length ≤ ss.length + 201 → ∃ (y6 y7 y8 y9 : Option V) (ss : List Stp) (fs : List Fr), [some (V.int c), some (.int k), some (.int m), some (.ref p), some (.ref sl), some (.ref kl), some (.int d), some (.int (d % 8)), some (.int (d / 8 % (k + 1))), some (.int (d / 72 % (k + 1))), none] = [some (.int c), some (.int k), some (.int m), some (.ref p), some (.ref sl), some (.ref kl), y6, y7, y8, y9, none] ∧ Same H H5 ∧ H5 l = some (.lst (cs.map V.int)) ∧ TS K k sl kl H5 ss fs ∧ 1 ≤ fs.length ∧ fs.length ≤ 3 ∧ ss.length ≤ 1 + 201 * (t + 1) := fun H5 ss5 fs5 b5 T5 g1 g3 l5 =>
          ⟨_, _, _, _, ss5, fs5, rfl, same_but2 sm b5 nsl0 nkl0, b5.go _ _ hl4 lsl lkl, T5, g1, g3, by omega⟩
        refine ⟨_, rfl, rfl, _, rfl, ?_⟩
        by_cases c0 : d % 8 = 0
        · refine iteY (congrArg V.int c0) ⟨_, rfl, kl, _, rfl, .inl (SqL.of hK4), _, _, rfl, rfl, _, rfl, ?_⟩
          by_cases c1 : fs.length < 3
          · refine iteY (by omega) ?_
            refine put_st (s := .emp) hk ne T4 rfl rfl (fun R r => ⟨(by show 1 ≤ sizeLine; decide), fun p np => r _ p (same_upd np) (SqT.of upd_same)⟩) trivial (by omega) (by omega) fun H5 ss5 b5 T5 l5 => fin H5 ss5 _ b5 T5 (by rw [put_emp, List.length_append]; omega) (by rw [put_emp, List.length_append]; show fs.length + 1 ≤ 3; omega) (by omega)
          · refine iteD (by omega) ?_
            refine ⟨_, rfl, _, _, rfl, rfl, _, rfl, ?_⟩
            refine iteY (show d % 8 < 4 by omega) ?_
            exact put_st (s := .new (d / 8 % (k + 1))) hk ne T4 rfl rfl (fun R r => ⟨_, rfl, (by show 2 ≤ sizeLine; decide), fun p np => r _ p (same_upd np) (SqT.of upd_same)⟩) hi (by omega) (by omega) fun H5 ss5 b5 T5 l5 => fin H5 ss5 _ b5 T5 (by rw [put_one_len rfl]; exact f1) (by rw [put_one_len rfl]; exact f3) (by omega)
        · refine iteD (fun z => c0 (V.int.inj z)) ?_
          refine ⟨_, rfl, _, _, rfl, rfl, _, rfl, ?_⟩
          by_cases c1 : d % 8 < 4
          · refine iteY c1 ?_
            exact put_st (s := .new (d / 8 % (k + 1))) hk ne T4 rfl rfl (fun R r => ⟨_, rfl, (by show 2 ≤ sizeLine; decide), fun p np => r _ p (same_upd np) (SqT.of upd_same)⟩) hi (by omega) (by omega) fun H5 ss5 b5 T5 l5 => fin H5 ss5 _ b5 T5 (by rw [put_one_len rfl]; exact f1) (by rw [put_one_len rfl]; exact f3) (by omega)
          refine iteD c1 ?_
          refine ⟨_, rfl, _, _, rfl, rfl, _, rfl, ?_⟩
          by_cases c2 : d % 8 < 6
          · refine iteY c2 ?_
            have lo : LOk k (.edge (if (d / 72 % (k + 1)) < (d / 8 % (k + 1)) then (d / 72 % (k + 1)) else (d / 8 % (k + 1))) (if (d / 72 % (k + 1)) > (d / 8 % (k + 1)) then (d / 72 % (k + 1)) else (d / 8 % (k + 1)))) := by
              show inR k (if (d / 72 % (k + 1)) < (d / 8 % (k + 1)) then (d / 72 % (k + 1)) else (d / 8 % (k + 1))) = true ∧ inR k (if (d / 72 % (k + 1)) > (d / 8 % (k + 1)) then (d / 72 % (k + 1)) else (d / 8 % (k + 1))) = true
              constructor <;> split <;> assumption
            exact put_st (s := .edge (if (d / 72 % (k + 1)) < (d / 8 % (k + 1)) then (d / 72 % (k + 1)) else (d / 8 % (k + 1))) (if (d / 72 % (k + 1)) > (d / 8 % (k + 1)) then (d / 72 % (k + 1)) else (d / 8 % (k + 1)))) hk ne T4 rfl rfl (fun R r => ⟨_, rfl, _, rfl, _, _, rfl, _, rfl, _, rfl, _, _, rfl, (by show 3 ≤ sizeLine; decide), fun p np => r _ p (same_upd np) (SqT.of upd_same)⟩) lo (by omega) (by omega) fun H5 ss5 b5 T5 l5 => fin H5 ss5 _ b5 T5 (by rw [put_one_len rfl]; exact f1) (by rw [put_one_len rfl]; exact f3) (by omega)
          refine iteD c2 ?_
          refine ⟨_, rfl, rfl, _, rfl, ?_⟩
          by_cases c3 : d % 8 = 6
          · refine iteY (congrArg V.int c3) ?_
            exact put_st (s := .fgt (d / 8 % (k + 1))) hk ne T4 rfl rfl (fun R r => ⟨_, rfl, (by show 2 ≤ sizeLine; decide), fun p np => r _ p (same_upd np) (SqT.of upd_same)⟩) hi (by omega) (by omega) fun H5 ss5 b5 T5 l5 => fin H5 ss5 _ b5 T5 (by rw [put_one_len rfl]; exact f1) (by rw [put_one_len rfl]; exact f3) (by omega)
          refine iteD (fun z => c3 (V.int.inj z)) ?_
          refine ⟨_, rfl, kl, _, rfl, .inl (SqL.of hK4), _, _, rfl, rfl, _, rfl, ?_⟩
          by_cases c4 : 1 < fs.length
          · refine iteY (by omega) ?_
            obtain ⟨pre, lo, up, rfl⟩ := two_last c4
            rw [List.length_append] at f3
            have f3 : pre.length + 2 ≤ 3 := f3
            exact ⟨_, rfl, _, rfl, _, rfl, sl, kl, k, ss, pre, lo, up, rfl, ne, hk0, hk, T4, by omega, by omega, fun H5 ss5 g b5 m5 T5 l5 => fin H5 ss5 _ b5 T5 (by rw [List.length_append]; show 1 ≤ pre.length + 1; omega) (by rw [List.length_append]; show pre.length + 1 ≤ 3; omega) (by omega)⟩
          · refine iteD (by omega) ?_
            exact fin H4 ss fs .refl T4 f1 f3 (by omega)
    · rintro σ H4 ⟨y6, y7, y8, y9, ss, fs, rfl, sm, hl4, T4, f1, f3, ls⟩
      rw [List.length_map] at ls
      refine ⟨3, rfl, by decide, by decide, ?_⟩
      refine for_range (lo := 0) (n := 3) (fun i σ H' => ∃ (y10 : Option V) (ss : List Stp) (fs : List Fr), σ = [some (.int c), some (.int k), some (.int m), some (.ref p), some (.ref sl), some (.ref kl), y6, y7, y8, y9, y10] ∧ Same H H' ∧ TS K k sl kl H' ss fs ∧ 1 ≤ fs.length ∧ fs.length ≤ max 1 (3 - i) ∧ ss.length ≤ 7000 + 201 * i)
        ⟨_, ss, fs, rfl, sm, T4, f1, f3, by omega⟩ ?_ ?_
      · rintro i σ H5 hi ⟨y10, ss5, fs5, rfl, sm5, T5, g1, g3, l5⟩
        obtain ⟨fvs, hK5, hF5⟩ := T5.hK
        have lfv : fvs.length = fs5.length := hF5.length
        refine ⟨_, rfl, kl, _, rfl, .inl (SqL.of hK5), _, _, rfl, rfl, _, rfl, ?_⟩
        by_cases c4 : 1 < fs5.length
        · refine iteY (by omega) ?_
          obtain ⟨pre, lo, up, rfl⟩ := two_last c4
          rw [List.length_append] at g3
          have g3 : pre.length + 2 ≤ max 1 (3 - i) := g3
          refine ⟨_, rfl, _, rfl, _, rfl, sl, kl, k, ss5, pre, lo, up, rfl, ne, hk0, hk, T5, by omega, by omega, fun H6 ss6 g b6 m6 T6 l6 => ?_⟩
          exact ⟨_, ss6, _, rfl, same_but2 sm5 b6 nsl0 nkl0, T6, by rw [List.length_append]; show 1 ≤ pre.length + 1; omega, by rw [List.length_append]; show pre.length + 1 ≤ _; omega, by omega⟩
        · refine iteD (by omega) ?_
          exact ⟨_, ss5, fs5, rfl, sm5, T5, g1, by omega, by omega⟩
      · rintro σ H5 ⟨y10, ss5, fs5, rfl, sm5, T5, g1, g3, l5⟩
        obtain ⟨svs, hS5, hV5⟩ := T5.hS
        have g3 : fs5.length ≤ 1 := g3
        obtain ⟨f5, rfl⟩ := List.length_eq_one_iff.mp (show fs5.length = 1 by omega)
        refine ⟨_, rfl, sl, _, rfl, .inl ⟨SqL.of hS5, fun r nr => ?_⟩⟩
        have s6 := same_upd (o := .tup svs) nr
        exact q _ r ss5 f5 svs (sm5.trans s6) (SqT.of upd_same) (stv_map (fun _ _ h => same_sqT s6 h) hV5) T5.sp (by omega)
end
end Sm

set_option Elab.async false
set_option linter.all false
set_option maxRecDepth 100000
set_option maxHeartbeats 8000000
namespace Sm
open PySem PySem.Spec PyProof.Rows L2
abbrev sDue : Stmt := topS 9999
/-! ### the law's steps and the program's -/
theorem lstep_vals {k : Int} {xs : List V} {s : Stp} (e : lstepOf k (.tup xs) = some s) : xs = s.vals ∧ LOk k s := by
  match xs, e with
  | .str w :: l, e =>
    have e : (if w = "edge" then ledgeOf k l else if w = "new" then newOf k l else if w = "forget" then fgtOf k l else if w = "empty" then zeroOf .emp l else if w = "join" then zeroOf .join l else none) = some s := e
    by_cases c1 : w = "edge"
    · rw [if_pos c1] at e
      match l, e with
      | [.int i, .int j], e =>
        have e : (if (inR k i && inR k j) = true then some (Stp.edge i j) else none) = some s := e
        by_cases c : (inR k i && inR k j) = true
        · rw [if_pos c] at e
          cases e
          rw [Bool.and_eq_true] at c
          exact ⟨by rw [c1]; rfl, c⟩
        · rw [if_neg c] at e; cases e
    rw [if_neg c1] at e
    by_cases c2 : w = "new"
    · rw [if_pos c2] at e
      match l, e with
      | [.int i], e =>
        have e : (if inR k i = true then some (Stp.new i) else none) = some s := e
        by_cases c : inR k i = true
        · rw [if_pos c] at e; cases e; exact ⟨by rw [c2]; rfl, c⟩
        · rw [if_neg c] at e; cases e
    rw [if_neg c2] at e
    by_cases c3 : w = "forget"
    · rw [if_pos c3] at e
      match l, e with
      | [.int i], e =>
        have e : (if inR k i = true then some (Stp.fgt i) else none) = some s := e
        by_cases c : inR k i = true
        · rw [if_pos c] at e; cases e; exact ⟨by rw [c3]; rfl, c⟩
        · rw [if_neg c] at e; cases e
    rw [if_neg c3] at e
    by_cases c4 : w = "empty"
    · rw [if_pos c4] at e
      match l, e with
      | [], e => cases e; exact ⟨by rw [c4]; rfl, trivial⟩
    rw [if_neg c4] at e
    by_cases c5 : w = "join"
    · rw [if_pos c5] at e
      match l, e with
      | [], e => cases e; exact ⟨by rw [c5]; rfl, trivial⟩
    · rw [if_neg c5] at e; cases e
theorem lstep_of {k : Int} {x : AV} {s : Stp} (e : stepOf k x = some s) : lstepOf k x = some s := by
  match x, e with
  | .tup (.str w :: l), e =>
    have e : (if w = "edge" then edgeOf k l else if w = "new" then newOf k l else if w = "forget" then fgtOf k l else if w = "empty" then zeroOf .emp l else if w = "join" then zeroOf .join l else none) = some s := e
    show (if w = "edge" then ledgeOf k l else if w = "new" then newOf k l else if w = "forget" then fgtOf k l else if w = "empty" then zeroOf .emp l else if w = "join" then zeroOf .join l else none) = some s
    by_cases c1 : w = "edge"
    · rw [if_pos c1] at e ⊢
      match l, e with
      | [.int i, .int j], e =>
        have e : (if (inR k i && (inR k j && decide (i < j))) = true then some (Stp.edge i j) else none) = some s := e
        show (if (inR k i && inR k j) = true then some (Stp.edge i j) else none) = some s
        by_cases c : (inR k i && (inR k j && decide (i < j))) = true
        · rw [if_pos c] at e
          rw [Bool.and_eq_true, Bool.and_eq_true] at c
          rw [if_pos (by rw [c.1, c.2.1]; rfl)]
          exact e
        · rw [if_neg c] at e; cases e
    · rw [if_neg c1] at e ⊢
      exact e
theorem step_of {k : Int} {x : AV} {s : Stp} (e : lstepOf k x = some s) (o : Ordd s) : stepOf k x = some s := by
  match x, e with
  | .tup xs, e =>
    obtain ⟨rfl, h⟩ := lstep_vals e
    exact sok_of h o
theorem stepW_law {k : Int} {x : AV} {st : WSt} (ok : WOk st) : (stepW k x st).map WSt.frames = (lstepOf k x).bind fun s => putF s st.frames := by
  unfold stepW
  cases el : lstepOf k x with
  | none =>
    cases es : stepOf k x with
    | none => rfl
    | some s => rw [lstep_of es] at el; cases el
  | some s =>
    rcases Classical.em (Ordd s) with o | o
    · rw [step_of el o]
      exact step_put ok o
    · have n1 : stepOf k x = none := by
        cases es : stepOf k x with
        | none => rfl
        | some s' =>
          have z := lstep_of es
          rw [el] at z
          cases z
          match x, es with
          | .tup xs, es =>
            have v := (lstep_vals el).1
            cases s with
            | edge i j =>
              rw [v] at es
              have es : (if (inR k i && (inR k j && decide (i < j))) = true then some (Stp.edge i j) else none) = some (Stp.edge i j) := es
              by_cases c : (inR k i && (inR k j && decide (i < j))) = true
              · rw [Bool.and_eq_true, Bool.and_eq_true, decide_eq_true_eq] at c
                exact absurd c.2.2 o
              · rw [if_neg c] at es; cases es
            | emp => exact absurd trivial o
            | join => exact absurd trivial o
            | new i => exact absurd trivial o
            | fgt i => exact absurd trivial o
      rw [n1]
      show none = putF s st.frames
      unfold putF
      have n2 : ∀ fs, lframe s fs = none := fun fs => by
        cases e : lframe s fs with
        | none => rfl
        | some g => exact absurd (lframe_some e) o
      rw [n2]
      split <;> rfl
/-- the last of the stack is the last step -/
def Tip (st : WSt) : Prop := st.fs = [] ∨ st.stk.getLast? = some (st.fs.length - 1)
theorem tip_put (st : WSt) (m : Nat) (f : Fr) : Tip (st.put m f) := by
  refine .inr ?_
  show (st.stk.take _ ++ [st.fs.length]).getLast? = some ((st.fs ++ [f]).length - 1)
  rw [List.getLast?_concat, List.length_append]
  rfl
theorem tip_step {k : Int} {x : AV} {st st' : WSt} (e : stepW k x st = some st') : Tip st' := by
  unfold stepW at e
  cases es : stepOf k x with
  | none => rw [es] at e; cases e
  | some s =>
    rw [es] at e
    have e : stepS s st = some st' := e
    unfold stepS at e
    by_cases c : st.stk.length < s.many
    · rw [if_pos c] at e; cases e
    · rw [if_neg c] at e
      cases ef : frameAfter s (st.frs (st.top s.many)) with
      | none => rw [ef] at e; cases e
      | some f =>
        rw [ef] at e
        cases e
        exact tip_put _ _ _
theorem tip_last {st : WSt} (ok : WOk st) (t : Tip st) (h : st.stk.length = 1) : st.frames = [lastF st] := by
  have pos : 0 < st.fs.length := by have := ok.few; omega
  rcases t with t | t
  · rw [t] at pos; cases pos
  · obtain ⟨i, hi⟩ := List.length_eq_one_iff.mp h
    rw [hi] at t
    have t : some i = some (st.fs.length - 1) := t
    cases t
    unfold WSt.frames WSt.frs
    rw [hi]
    show [st.fs.getD (st.fs.length - 1) ([], [])] = _
    unfold lastF
    rw [List.getD_eq_getElem?_getD, List.getLastD_eq_getLast?, List.getLast?_eq_getElem?]
theorem stepW_ok {k : Int} (hk : k ≤ 12) {x : AV} {st st' : WSt} (ok : WOk st) (e : stepW k x st = some st') : WOk st' := by
  unfold stepW at e
  cases es : stepOf k x with
  | none => rw [es] at e; cases e
  | some s =>
    rw [es] at e
    exact stepS_ok ok (stepOf_okk hk es) e
theorem stepW_cnt {k : Int} {x : AV} {st st' : WSt} (e : stepW k x st = some st') : st'.fs.length = st.fs.length + 1 := by
  unfold stepW at e
  cases es : stepOf k x with
  | none => rw [es] at e; cases e
  | some s =>
    rw [es] at e
    have e : stepS s st = some st' := e
    unfold stepS at e
    by_cases c : st.stk.length < s.many
    · rw [if_pos c] at e; cases e
    · rw [if_neg c] at e
      cases ef : frameAfter s (st.frs (st.top s.many)) with
      | none => rw [ef] at e; cases e
      | some f =>
        rw [ef] at e
        cases e
        show (st.fs ++ [f]).length = _
        rw [List.length_append]
        rfl
def frmD (f : Fr) : PyData := .tuple [.tuple (f.1.map PyData.int), .tuple (f.2.map pD)]
theorem FrV.dp {K : PySem.W.Frag} {H : Hp} {v : V} {f : Fr} (h : FrV K H v f) : Dp K H v (frmD f) := by
  obtain ⟨a, t, p, ps, rfl, h1, h2, h3, h4⟩ := h
  exact .tup h1 (.cons (.tup h2 (dp_ints _)) (.cons (.tup h3 (dp_pairs h4)) .nil))
def outD : Int ⊕ Fr → PyData
  | .inl i => .int i
  | .inr f => frmD f
end Sm

set_option Elab.async false
set_option linter.all false
set_option maxRecDepth 100000
set_option maxHeartbeats 8000000
namespace Sm
open PySem PySem.Spec PyProof.Rows L2
/-- what is flat, or a tuple of such, to a depth -/
theorem lay_ints (ns : List Int) : PyData.canLayAll0 (ns.map PyData.int) = true ∧ PyData.depthAll (ns.map PyData.int) ≤ 2 := by
  induction ns with
  | nil => simp [PyData.canLayAll0, PyData.depthAll]
  | cons n t ih => 
    obtain ⟨h1, h2⟩ := ih
    simp [PyData.canLayAll0, PyData.depthAll, PyData.canLay0, PyData.depth, h1]
    omega
theorem lay_pairs (qs : List Pr) : PyData.canLayAll0 (qs.map pD) = true ∧ PyData.depthAll (qs.map pD) ≤ 6 := by
  induction qs with
  | nil => simp [PyData.canLayAll0, PyData.depthAll]
  | cons n t ih => 
    obtain ⟨h1, h2⟩ := ih
    simp [pD, PyData.canLayAll0, PyData.depthAll, PyData.canLay0, PyData.depth, h1]
    omega
theorem frmD_lay (f : Fr) : (frmD f).canLay0 = true ∧ (frmD f).depth ≤ 20 := by
  have h1 := lay_ints f.1
  have h2 := lay_pairs f.2
  constructor
  · simp [frmD, PyData.canLayAll0, PyData.canLay0, h1.1, h2.1]
  · simp [frmD, PyData.depthAll, PyData.depth]
    omega
theorem outD_lay (r : Int ⊕ Fr) : (outD r).canLay0 = true ∧ (outD r).depth ≤ 20 := by
  cases r with
  | inl i => simp [outD, PyData.canLay0, PyData.depth]
  | inr f => exact frmD_lay f
theorem outD_shaped (r : Int ⊕ Fr) : SeqAt.shaped (outD r) = true := by
  have h := outD_lay r
  unfold SeqAt.shaped
  rw [h.1, decide_eq_true (show (outD r).depth ≤ 64 by omega)]
  rfl
theorem outD_eqv (r : Int ⊕ Fr) : PyData.eqv (outD r) (outD r) = true := SeqAt.eqv_refl _ (outD_lay r).1
/-- a term that was drawn has no fault, and its frame is the drawn one -/
theorem sp_walk {k : Int} {ss : List Stp} {f : Fr} (h : SP k ss [f]) : ∃ g, endF (walkF k (ss.map Stp.av)) = .inr g := by
  obtain ⟨st, h1, h2, h3⟩ := h.run
  have hr := runS_W ss w0 st h.sok h1
  have l1 : st.stk.length = 1 := by
    have := frames_len st
    rw [h3] at this
    simpa using this.symm
  refine ⟨lastF st, ?_⟩
  unfold walkF
  rw [hr]
  show endF (if st.stk.length = 1 then _ else _) = _
  rw [if_pos l1]
  rfl
/-- what is asked of a tuple of few members is what is due -/
theorem asked_due {k : Int} {as : List AV} (h0 : 0 ≤ k) (h12 : k ≤ 12) (few : as.length ≤ 20000) : ctF (some as) (.int k) = endF (walkF k as) := by
  show (if 20000 < as.length then _ else if vtxB 13 (some k) = true then endF (walkF ((some k).getD 0) as) else _) = _
  rw [if_neg (by omega), if_pos (by unfold vtxB; simp; omega)]
  rfl
theorem sts_any {K : PySem.W.Frag} {H : Hp} : ∀ {vs : List V} {ss : List Stp}, Paired (StV K H) vs ss → Paired (AnyV K H) vs (ss.map Stp.av) := by
  intro vs ss h
  induction h with
  | nil => exact .nil
  | cons h t ih => 
    refine .cons ?_ ih
    obtain ⟨a, rfl, hs⟩ := h
    refine .tup hs ?_ ?_
    · rename_i s _ _
      cases s <;> simp only [Stp.vals] <;> intro x hx <;> simp only [List.mem_cons, List.not_mem_nil, or_false] at hx
      · subst hx; exact .str _ (by decide +kernel)
      · rcases hx with rfl | rfl
        · exact .str _ (by decide +kernel)
        · exact .int _
      · rcases hx with rfl | rfl | rfl
        · exact .str _ (by decide +kernel)
        · exact .int _
        · exact .int _
      · rcases hx with rfl | rfl
        · exact .str _ (by decide +kernel)
        · exact .int _
      · subst hx; exact .str _ (by decide +kernel)
    · rename_i s _ _
      cases s <;> simp [Stp.vals]
end Sm

set_option Elab.async false
set_option linter.all false
set_option maxRecDepth 100000
set_option maxHeartbeats 4000000
/-! A tuple times a number, for any number as long as the product keeps below a million. -/
namespace Sm
open PySem PySem.Spec PyProof.Rows L2
def rRepB (K : PySem.W.Frag) : R2 := fun x y H Q => ∃ l k xs, x = .ref l ∧ y = .int (k : Nat) ∧ SqT K H l xs ∧ xs ≠ [] ∧ 2 ≤ k ∧ k * xs.length ≤ 1000000 ∧ ∀ p, H p = none → Q (.ref p) (upd H p (.tup (List.replicate k xs).flatten))
theorem op_repB {X : Cx} : OpR X (binaryOp .Mult) (rRepB X.K) := by
  intro pins s σ H x y v u Q I rx ry h
  obtain ⟨l, k, xs, rfl, rfl, hT, hne, h1, hz, q⟩ := h
  cases rx
  obtain ⟨t, rfl⟩ := ry
  obtain ⟨its, r, ⟨⟨cls, dd, data, sl⟩, ho, hc, n, hd⟩, hs⟩ := I.tuple hT
  simp only at hc hd
  subst hc hd
  have hle : its.length = xs.length := r.length.symm
  have lpos : 0 < xs.length := List.length_pos_iff.mpr hne
  have kle : k ≤ 1000000 := Nat.le_trans (Nat.le_mul_of_pos_right k lpos) hz
  have emp : its.toArray.isEmpty = false := by
    cases its with
    | nil => rw [← hle] at lpos; cases lpos
    | cons a b => rfl
  have big : ((its.toArray.size : Nat) : Int) * (k : Int) ≤ 1000000 := by
    rw [List.size_toArray, hle, ← Int.natCast_mul, Nat.mul_comm]
    exact Int.ofNat_le.mpr hz
  have flat : (List.replicate k xs).flatten.length ≤ sizeLine := by
    rw [PyProof.Rows.lm_len_rep_flat, sizeLine_eq]
    omega
  have flat' : (List.replicate k its).flatten.length ≤ sizeLine := by
    rw [PyProof.Rows.lm_len_rep_flat, hle, sizeLine_eq]
    omega
  have tn : ((k : Nat) : Int).toNat = k := Int.toNat_natCast k
  have call := tuple_mulW l its.toArray n dd sl (k : Int) t (by rw [decide_eq_false (by omega), decide_eq_false (by omega)]; rfl) (by rw [emp, Bool.false_or]; exact beq_eq_false_iff_ne.mpr (by omega))
    (by rw [emp, Bool.or_false]; exact decide_eq_false (by omega)) (by omega) (by unfold Builtin.Tuple.tupleTooMany; rw [sizeLine_eq]; exact decide_eq_false (by omega)) (by rw [tn, size_rep, List.size_toArray]; exact flat')
  rw [tn, size_rep] at call
  refine wpAny_binaryOp_repeat_ref (T := "tuple") (U := "int") (by decide) ⟨_, ho, rfl⟩ (fun s' => typeIs_int s' _ t) noFill_tuple_mul F.fills_int_mul F.slot_int_rmul repeat_tuple F.slot_int_index.lookup
    (call_meets F.slot_int_rmul (typeIs_int s _ t) F.entry_int_rmul (F.args_int_rmul_2 _ _) (int_rmul_tuple _ t l its.toArray n dd sl)
      ⟨ho, rfl, ⟨_, ho, rfl⟩, call_meets F.slot_tuple_mul ⟨_, ho, rfl⟩ F.entry_tuple_mul (F.args_tuple_mul_2 _ _) call ⟨ho, ?_⟩⟩)
  exact ⟨.ref s.heap.objs.size, _, I.laid (t' := s.toks) (o := .tup (List.replicate k xs).flatten) (fun b ob q => Heap.get?_push_of_some _ q) (Nat.le_refl _) ⟨flat, _, r.rep k, IsTup.new _ _⟩, rfl, q _ (I.hok.fresh (Nat.le_refl _))⟩
end Sm

set_option Elab.async false
set_option linter.all false
set_option maxRecDepth 100000
set_option maxHeartbeats 8000000
namespace Sm
open PySem PySem.Spec PyProof.Rows L2
/-! ### what the parts of a displayed list give -/
def Ik (t : TE) (σ : L2.St) (i : Int) : Prop := ∀ (H : Hp) (Q : VK), Q (.int i) H → t σ H Q
def Fe (t : TE) (σ : L2.St) : Prop := ∀ (H : Hp) (Q : VK), (∀ v, Flat v → Q v H) → t σ H Q
def Fl (t : TA) (σ : L2.St) (n : Nat) : Prop := ∀ (H : Hp) (Q : List V → Hp → Prop), (∀ xs : List V, xs.length = n → (∀ x ∈ xs, Flat x) → Q xs H) → t σ H Q
def Ge (K : PySem.W.Frag) (t : TE) (σ : L2.St) : Prop := ∀ (H : Hp) (Q : VK), (∀ H' v x, Same H H' → AnyV K H' v x → Q v H') → t σ H Q
def Gl (K : PySem.W.Frag) (t : TA) (σ : L2.St) (n : Nat) : Prop := ∀ (H : Hp) (Q : List V → Hp → Prop), (∀ H' (vs : List V) (xs : List AV), Same H H' → vs.length = n → Paired (AnyV K H') vs xs → Q vs H') → t σ H Q
section
variable {K : PySem.W.Frag} {σ : L2.St}
theorem ik_int {i : Int} : Ik (tC (.int i)) σ i := fun _ _ q => q
theorem ik_var {j : Nat} {i : Int} (h : σ[j]? = some (some (.int i))) : Ik (tVar j) σ i := fun _ _ q => ⟨_, h, q⟩
theorem ik_fdiv {ta tb : TE} {i j : Int} (ha : Ik ta σ i) (hb : Ik tb σ j) (c : CDiv i j) : Ik (tOp (rI CDiv fun i j => .int (i / j)) ta tb) σ (i / j) := fun H Q q => ha H _ (hb H _ ⟨_, _, rfl, rfl, c, q⟩)
theorem ik_mod {ta tb : TE} {i j : Int} (ha : Ik ta σ i) (hb : Ik tb σ j) (c : 0 < j) : Ik (tOp (rI (fun _ j => 0 < j) fun i j => .int (i % j)) ta tb) σ (i % j) := fun H Q q => ha H _ (hb H _ ⟨_, _, rfl, rfl, c, q⟩)
theorem ik_add {ta tb : TE} {i j : Int} (ha : Ik ta σ i) (hb : Ik tb σ j) : Ik (tOp (rI0 fun i j => .int (i + j)) ta tb) σ (i + j) := fun H Q q => ha H _ (hb H _ ⟨_, _, rfl, rfl, q⟩)
theorem ik_neg {ta : TE} {i : Int} (ha : Ik ta σ i) : Ik (tUn (rU fun i => .int (-i)) ta) σ (-i) := fun H Q q => ha H _ ⟨_, rfl, q⟩
theorem fe_ik {t : TE} {i : Int} (h : Ik t σ i) : Fe t σ := fun H Q q => h H _ (q _ (.int i))
theorem fe_int {i : Int} : Fe (tC (.int i)) σ := fun H Q q => q _ (.int i)
theorem fe_bl {b : Bool} : Fe (tC (.bl b)) σ := fun H Q q => q _ (.bl b)
theorem fe_str {z : Str} (h : (PyData.str z).canLay0 = true) : Fe (tC (.str z)) σ := fun H Q q => q _ (.str z h)
theorem fl_nil : Fl tNil σ 0 := fun H Q q => q [] rfl (fun x h => absurd h List.not_mem_nil)
theorem fl_cons {t : TE} {r : TA} {n : Nat} (h : Fe t σ) (hr : Fl r σ n) : Fl (tCons t r) σ (n + 1) := fun H Q q => h H _ fun v hv => hr H _ fun xs hl hx => q (v :: xs) (by rw [List.length_cons, hl]) (fun x m => by
  rcases List.mem_cons.mp m with z | z
  · rw [z]; exact hv
  · exact hx x z)
theorem few_size {n : Nat} (h : n ≤ 20100) : n ≤ sizeLine := by rw [sizeLine_eq]; omega
theorem ge_tup {t : TA} {n : Nat} (h : Fl t σ n) (few : n ≤ 100) : Ge K (tTup t) σ := fun H Q q => h H _ fun xs hl hx => ⟨by rw [hl]; exact few_size (by omega), fun p np => q _ _ _ (same_upd np) (.tup (SqT.of upd_same) hx (by omega))⟩
theorem ge_lst {t : TA} {n : Nat} (h : Fl t σ n) (few : n ≤ 100) : Ge K (tLst t) σ := fun H Q q => h H _ fun xs hl hx => ⟨by rw [hl]; exact few_size (by omega), fun p np => q _ _ _ (same_upd np) (.lst upd_same)⟩
theorem ge_str {z : Str} : Ge K (tC (.str z)) σ := fun H Q q => q H _ _ (Same.refl H) (.str z)
theorem ge_non : Ge K (tC .non) σ := fun H Q q => q H _ _ (Same.refl H) .non
theorem gl_nil : Gl K tNil σ 0 := fun H Q q => q H [] [] (Same.refl H) rfl .nil
theorem gl_cons {t : TE} {r : TA} {n : Nat} (h : Ge K t σ) (hr : Gl K r σ n) : Gl K (tCons t r) σ (n + 1) := fun H Q q => h H _ fun H1 v x s1 hv => hr H1 _ fun H2 vs xs s2 hl hp => q H2 (v :: vs) (x :: xs) (s1.trans s2) (by rw [List.length_cons, hl]) (.cons (hv.same s2) hp)
/-- a list of steps is displayed and kept by a name -/
theorem asg_gl {t : TA} {n i : Nat} {u : L2.TS} {D : Ends} {H : Hp} (h : Gl K t σ n) (few : n ≤ 100) (q : ∀ H' l (vs : List V) (xs : List AV), Same H H' → H' l = some (.lst vs) → vs.length = n → Paired (AnyV K H') vs xs → u D (σ.set i (some (.ref l))) H') : tSeq (tAsg (tLst t) (gName i)) u D σ H :=
  h H _ fun H1 vs xs s1 hl hp => ⟨by rw [hl]; exact few_size (by omega), fun p np => q _ p vs xs (s1.trans (same_upd np)) upd_same hl (any_sames (same_upd np) hp)⟩
theorem paired_app {α β : Type} {R : α → β → Prop} {a2 : List α} {b2 : List β} (h2 : Paired R a2 b2) : ∀ {a1 : List α} {b1 : List β}, Paired R a1 b1 → Paired R (a1 ++ a2) (b1 ++ b2)
  | _, _, .nil => h2
  | _, _, .cons h t => .cons h (paired_app h2 t)
/-- a second list is put behind the first -/
theorem asg_cat {t : TA} {n m i j : Nat} {u : L2.TS} {D : Ends} {H : Hp} {l : Addr} {vs : List V} {xs : List AV} (hv : σ[j]? = some (some (.ref l))) (hl : H l = some (.lst vs)) (ln : vs.length = m) (hp : Paired (AnyV K H) vs xs) (h : Gl K t σ n) (few : m + n ≤ 100)
    (q : ∀ H' l (vs : List V) (xs : List AV), Same H H' → H' l = some (.lst vs) → vs.length = m + n → Paired (AnyV K H') vs xs → u D (σ.set i (some (.ref l))) H') : tSeq (tAsg (tOp rCat (tVar j) (tLst t)) (gName i)) u D σ H :=
  ⟨_, hv, h H _ fun H1 ws ys s1 hl1 hp1 => ⟨by rw [hl1]; exact few_size (by omega), fun p np => by
    have s2 := same_upd (o := .lst ws) np
    refine ⟨l, p, vs, ws, rfl, rfl, s2 _ _ (s1 _ _ hl), upd_same, by rw [ln, hl1]; exact few_size (by omega), fun r nr => ?_⟩
    have s3 := same_upd (o := .lst (vs ++ ws)) nr
    exact q _ r _ _ ((s1.trans s2).trans s3) upd_same (by rw [List.length_append, ln, hl1]) (any_sames s3 (paired_app (any_sames s2 hp1) (any_sames (s1.trans s2) hp)))⟩⟩
theorem paired_drop {α β : Type} {R : α → β → Prop} : ∀ (n : Nat) {as : List α} {bs : List β}, Paired R as bs → Paired R (as.drop n) (bs.drop n)
  | 0, _, _, h => h
  | _ + 1, _, _, .nil => .nil
  | n + 1, _, _, .cons _ t => paired_drop n t
theorem paired_take {α β : Type} {R : α → β → Prop} : ∀ (n : Nat) {as : List α} {bs : List β}, Paired R as bs → Paired R (as.take n) (bs.take n)
  | 0, _, _, _ => .nil
  | _ + 1, _, _, .nil => .nil
  | n + 1, _, _, .cons h t => .cons h (paired_take n t)
theorem paired_cut {α : Type} {R : V → α → Prop} {as : List V} {bs : List α} (lo hi : Option Int) (h : Paired R as bs) : ∃ cs, Paired R (cutV as lo hi) cs := ⟨_, paired_take _ (paired_drop _ h)⟩
/-! ### the changed terms -/
structure Ot (K : PySem.W.Frag) (r : Addr) (svs : List V) (as : List AV) (ov : V) (ox : AV) (H : Hp) : Prop where
  t : SqT K H r svs
  p : Paired (AnyV K H) svs as
  o : AnyV K H ov ox
theorem Ot.same {r : Addr} {svs : List V} {as : List AV} {ov : V} {ox : AV} {H H' : Hp} (s : Same H H') (h : Ot K r svs as ov ox H) : Ot K r svs as ov ox H' := ⟨same_sqT s h.t, any_sames s h.p, h.o.same s⟩
/-- a tuple of values of any sort, of no more members than told -/
def Tm (K : PySem.W.Frag) (m : Nat) (H : Hp) (v : V) : Prop := ∃ r vs as, v = .ref r ∧ SqT K H r vs ∧ Paired (AnyV K H) vs as ∧ vs.length ≤ m
theorem Tm.same {m : Nat} {H H' : Hp} {v : V} (s : Same H H') (h : Tm K m H v) : Tm K m H' v := by
  obtain ⟨r, vs, as, e, h1, h2, h3⟩ := h
  exact ⟨r, vs, as, e, same_sqT s h1, any_sames s h2, h3⟩
def Te (K : PySem.W.Frag) (I : Hp → Prop) (m : Nat) (t : TE) (σ : L2.St) : Prop := ∀ (H : Hp) (Q : VK), I H → (∀ H' v, Same H H' → Tm K m H' v → Q v H') → t σ H Q
def Po (t : TO) (σ : L2.St) : Prop := ∀ (H : Hp) (Q : Option Int → Hp → Prop), (∀ o, Q o H) → t σ H Q
theorem pO_none : Po tNoPart σ := fun H Q q => q none
theorem pO_some {t : TE} {i : Int} (h : Ik t σ i) : Po (tPart t) σ := fun H Q q => h H _ ⟨_, rfl, q _⟩
variable {r : Addr} {svs : List V} {as : List AV} {ov : V} {ox : AV}
theorem te_sl {j : Nat} {tl th : TO} (hv : σ[j]? = some (some (.ref r))) (hl : Po tl σ) (hh : Po th σ) : Te K (Ot K r svs as ov ox) svs.length (tSl (rSlA K) (tVar j) tl th) σ := fun H Q hI q =>
  ⟨_, hv, hl H _ fun o => hh H _ fun u => slA_q hI.t fun H' r' s h => by
    obtain ⟨cs, hc⟩ := paired_cut o u hI.p
    exact q H' _ s ⟨r', _, cs, rfl, h, any_sames s hc, cutV_length _ _ _⟩⟩
theorem te_cat {ta tb : TE} {m n : Nat} {I : Hp → Prop} (mo : ∀ H H', Same H H' → I H → I H') (ha : Te K I m ta σ) (hb : Te K I n tb σ) (few : m + n ≤ 30000) : Te K I (m + n) (tOp (rCatA K) ta tb) σ := fun H Q hI q =>
  ha H _ hI fun H1 v s1 hv => hb H1 _ (mo _ _ s1 hI) fun H2 x s2 hx => by
    obtain ⟨r1, vs1, as1, rfl, h1, p1, l1⟩ := hv
    obtain ⟨r2, vs2, as2, rfl, h2, p2, l2⟩ := hx
    refine catA_q (same_sqT s2 h1) h2 (by rw [sizeLine_eq]; omega) fun H3 r3 s3 h3 => ?_
    exact q H3 _ ((s1.trans s2).trans s3) ⟨r3, _, _, rfl, h3, paired_app (any_sames s3 p2) (any_sames (s2.trans s3) p1), by rw [List.length_append]; omega⟩
theorem te_one {j : Nat} (hv : σ[j]? = some (some ov)) : Te K (Ot K r svs as ov ox) 1 (tTup (tCons (tVar j) tNil)) σ := fun H Q hI q =>
  ⟨_, hv, few_size (by simp), fun p np => by
    have s := same_upd (o := .tup [ov]) np
    exact q _ _ s ⟨p, [ov], [ox], rfl, SqT.of upd_same, .cons (hI.o.same s) .nil, Nat.le_refl _⟩⟩
def Tl (K : PySem.W.Frag) (I : Hp → Prop) (m : Nat) (t : TA) (σ : L2.St) (c : Nat) : Prop := ∀ (H : Hp) (Q : List V → Hp → Prop), I H → (∀ H' (vs : List V), Same H H' → vs.length = c → (∀ v ∈ vs, Tm K m H' v) → Q vs H') → t σ H Q
theorem Tm.le {m n : Nat} {H : Hp} {v : V} (h : Tm K m H v) (l : m ≤ n) : Tm K n H v := by
  obtain ⟨r, vs, as, e, h1, h2, h3⟩ := h
  exact ⟨r, vs, as, e, h1, h2, Nat.le_trans h3 l⟩
theorem tl_nil {n : Nat} {I : Hp → Prop} : Tl K I n tNil σ 0 := fun H Q hI q => q H [] (Same.refl H) rfl fun x hx => absurd hx List.not_mem_nil
theorem tl_cons {t : TE} {r : TA} {m n c : Nat} {I : Hp → Prop} (mo : ∀ H H', Same H H' → I H → I H') (h : Te K I m t σ) (l : m ≤ n) (hr : Tl K I n r σ c) : Tl K I n (tCons t r) σ (c + 1) := fun H Q hI q => h H _ hI fun H1 v s1 hv => hr H1 _ (mo _ _ s1 hI) fun H2 vs s2 lv hvs => q H2 (v :: vs) (s1.trans s2) (by rw [List.length_cons, lv]) fun x hx => by
  rcases List.mem_cons.mp hx with z | z
  · rw [z]; exact (hv.same s2).le l
  · exact hvs x z
theorem lst_tl {t : TA} {m c : Nat} {I : Hp → Prop} {H : Hp} {Q : VK} (h : Tl K I m t σ c) (few : c ≤ 100) (hI : I H) (q : ∀ H' l (vs : List V), Same H H' → H' l = some (.lst vs) → vs.length = c → (∀ v ∈ vs, Tm K m H' v) → Q (.ref l) H') : tLst t σ H Q :=
  h H _ hI fun H1 vs s1 hl hv => ⟨by rw [hl]; exact few_size (by omega), fun p np => q _ p vs (s1.trans (same_upd np)) upd_same hl fun v m => (hv v m).same (same_upd np)⟩
/-- a loop over displayed tuples -/
theorem for_tl {t : TA} {m c : Nat} {g : TG} {tb : L2.TS} {D : Ends} {I : Hp → Prop} {H : Hp} (h : Tl K I m t σ c) (few : c ≤ 100) (hI : I H) (J : L2.St → Prop) (hJ : J σ)
    (hs : ∀ x H8 σ8 (R : L2.St → Hp → Prop), Same H H8 → J σ8 → Tm K m H8 x → (∀ σ9 H9, J σ9 → Same H8 H9 → R σ9 H9) → g x σ8 H8 fun σ2 H2 => tb { D with nx := R, ct := R, bk := D.nx } σ2 H2)
    (hd : ∀ σ8 H8, J σ8 → Same H H8 → D.nx σ8 H8) : tFor (iList K (tLst t)) g tb D σ H := by
  unfold tFor iList
  exact lst_tl h few hI fun H7 l7 vs7 s7 h7 n7 m7 => ⟨l7, rfl, ⟨_, SqL.of h7⟩, for_list (K := K) (a := l7) (xs := vs7) (fun _ σ8 H8 => J σ8 ∧ Same H7 H8) ⟨hJ, Same.refl _⟩ (fun _ _ _ _ z => SqL.of (z.2 _ _ h7))
    (fun i x σ8 H8 hx z => hs x H8 σ8 _ (s7.trans z.2) z.1 ((m7 x (List.mem_of_getElem? hx)).same z.2) fun σ9 H9 j9 s9 => ⟨j9, z.2.trans s9⟩)
    (fun σ8 H8 z => hd σ8 H8 z.1 (s7.trans z.2))⟩
/-! ### the long term -/
theorem runW_app {k : Int} {ys : List AV} : ∀ (xs : List AV) (st st1 : WSt), runW k xs st = .inr st1 → runW k (xs ++ ys) st = runW k ys st1
  | [], st, st1, e => by cases e; rfl
  | x :: xs, st, st1, e => by
    have e : (match stepW k x st with | none => (Sum.inl st.fs.length : Nat ⊕ WSt) | some st2 => runW k xs st2) = .inr st1 := e
    show (match stepW k x st with | none => (Sum.inl st.fs.length : Nat ⊕ WSt) | some st2 => runW k (xs ++ ys) st2) = _
    cases es : stepW k x st with
    | none => rw [es] at e; cases e
    | some st2 =>
      rw [es] at e
      exact runW_app xs st2 st1 e
/-- one graph, and its frame is f -/
def At1 (st : WSt) (f : Fr) : Prop := ∃ gs : List Fr, st.stk = [gs.length] ∧ st.fs = gs ++ [f]
theorem at1_frs {st : WSt} {f : Fr} (h : At1 st f) : st.frs (st.top 1) = [f] := by
  obtain ⟨gs, h1, h2⟩ := h
  unfold WSt.top WSt.frs
  rw [h1, h2]
  show [(gs ++ [f]).getD gs.length ([], [])] = [f]
  rw [List.getD_eq_getElem?_getD, List.getElem?_append_right (Nat.le_refl _), Nat.sub_self]
  rfl
theorem at1_put {st : WSt} {f g : Fr} (h : At1 st f) : At1 (st.put 1 g) g := by
  obtain ⟨gs, h1, h2⟩ := h
  refine ⟨gs ++ [f], ?_, ?_⟩
  · show st.stk.take (st.stk.length - 1) ++ [st.fs.length] = _
    rw [h1, h2]
    rfl
  · show st.fs ++ [g] = _
    rw [h2]
theorem at1_step {st : WSt} {f g : Fr} {s : Stp} {k : Int} (h : At1 st f) (ok : SOk k s) (one : s.many = 1) (e : frameAfter s [f] = some g) : ∃ st', stepW k s.av st = some st' ∧ At1 st' g := by
  refine ⟨st.put 1 g, ?_, at1_put h⟩
  unfold stepW
  rw [show stepOf k s.av = some s from ok]
  show stepS s st = _
  unfold stepS
  have l : st.stk.length = 1 := by
    obtain ⟨gs, h1, h2⟩ := h
    rw [h1]; rfl
  rw [one, l, if_neg (by omega), at1_frs h, e]
  rfl
theorem run_pair {st : WSt} (h : At1 st ([], [])) : ∃ st', runW 0 ([Stp.new 0, Stp.fgt 0].map Stp.av) st = .inr st' ∧ At1 st' ([], []) := by
  obtain ⟨s1, e1, h1⟩ := at1_step (k := 0) (s := .new 0) h rfl rfl (g := ([0], [])) (by decide +kernel)
  obtain ⟨s2, e2, h2⟩ := at1_step (k := 0) (s := .fgt 0) h1 rfl rfl (g := ([], [])) (by decide +kernel)
  refine ⟨s2, ?_, h2⟩
  show (match stepW 0 (Stp.new 0).av st with | none => (Sum.inl st.fs.length : Nat ⊕ WSt) | some st2 => runW 0 [(Stp.fgt 0).av] st2) = _
  rw [e1]
  show (match stepW 0 (Stp.fgt 0).av s1 with | none => (Sum.inl s1.fs.length : Nat ⊕ WSt) | some st2 => runW 0 [] st2) = _
  rw [e2]
  rfl
theorem run_pairs {st : WSt} (h : At1 st ([], [])) : ∀ n : Nat, ∃ st', runW 0 ((List.replicate n [Stp.new 0, Stp.fgt 0]).flatten.map Stp.av) st = .inr st' ∧ At1 st' ([], [])
  | 0 => ⟨st, rfl, h⟩
  | n + 1 => by
    obtain ⟨s1, e1, h1⟩ := run_pairs h n
    obtain ⟨s2, e2, h2⟩ := run_pair h1
    refine ⟨s2, ?_, h2⟩
    rw [List.replicate_succ', List.flatten_append, List.map_append, runW_app _ _ _ e1, List.flatten_singleton]
    exact e2
def longS (n : Nat) : List Stp := [Stp.emp] ++ (List.replicate n [Stp.new 0, Stp.fgt 0]).flatten ++ [Stp.new 0]
theorem long_len (n : Nat) : (longS n).length = 2 * n + 2 := by
  unfold longS
  rw [List.length_append, List.length_append, PyProof.Rows.lm_len_rep_flat]
  simp
  omega
theorem long_walk (n : Nat) : endF (walkF 0 ((longS n).map Stp.av)) = .inr ([0], []) := by
  have z : ∃ s1, runW 0 ([Stp.emp].map Stp.av) w0 = .inr s1 ∧ At1 s1 ([], []) := ⟨⟨[0], [[]], [([], [])]⟩, by rfl, [], rfl, rfl⟩
  obtain ⟨s1, e1, h1⟩ := z
  obtain ⟨s2, e2, h2⟩ := run_pairs h1 n
  obtain ⟨s3, e3, h3⟩ := at1_step (k := 0) (s := .new 0) h2 rfl rfl (g := ([0], [])) (by decide +kernel)
  have run : runW 0 ((longS n).map Stp.av) w0 = .inr s3 := by
    unfold longS
    rw [List.append_assoc, List.map_append, runW_app _ _ _ e1, List.map_append, runW_app _ _ _ e2]
    show (match stepW 0 (Stp.new 0).av s2 with | none => (Sum.inl s2.fs.length : Nat ⊕ WSt) | some st2 => runW 0 [] st2) = _
    rw [e3]
    rfl
  obtain ⟨gs, g1, g2⟩ := h3
  unfold walkF
  rw [run]
  show endF (if s3.stk.length = 1 then _ else _) = _
  rw [if_pos (by rw [g1]; rfl)]
  show (Sum.inr (lastF s3) : Int ⊕ Fr) = _
  unfold lastF
  rw [g2]
  simp
theorem paired_rep {α β : Type} {R : α → β → Prop} {as : List α} {bs : List β} (h : Paired R as bs) : ∀ n : Nat, Paired R (List.replicate n as).flatten (List.replicate n bs).flatten
  | 0 => .nil
  | n + 1 => by
    rw [List.replicate_succ, List.replicate_succ, List.flatten_cons, List.flatten_cons]
    exact paired_app (paired_rep h n) h
end
section
variable {K : PySem.W.Frag} {σ : L2.St}
def Fk (t : TA) (σ : L2.St) (xs : List V) : Prop := ∀ (H : Hp) (Q : List V → Hp → Prop), Q xs H → t σ H Q
theorem fk_nil : Fk tNil σ [] := fun _ _ q => q
theorem fk_cons {v : V} {t : TA} {xs : List V} (h : Fk t σ xs) : Fk (tCons (tC v) t) σ (v :: xs) := fun H Q q => h H _ q
def Se (K : PySem.W.Frag) (t : TE) (σ : L2.St) (s : Stp) : Prop := ∀ (H : Hp) (Q : VK), (∀ H' v, Same H H' → StV K H' v s → Q v H') → t σ H Q
theorem vals_few (s : Stp) : s.vals.length ≤ 3 := by cases s <;> simp [Stp.vals]
theorem se_tup {t : TA} {s : Stp} (h : Fk t σ s.vals) : Se K (tTup t) σ s := fun H Q q => h H _ ⟨few_size (by have := vals_few s; omega), fun p np => q _ _ (same_upd np) ⟨p, rfl, SqT.of upd_same⟩⟩
def Ss (K : PySem.W.Frag) (t : TA) (σ : L2.St) (ss : List Stp) : Prop := ∀ (H : Hp) (Q : List V → Hp → Prop), (∀ H' (vs : List V), Same H H' → Paired (StV K H') vs ss → Q vs H') → t σ H Q
theorem sts_same {H H' : Hp} (s : Same H H') : ∀ {vs : List V} {ss : List Stp}, Paired (StV K H) vs ss → Paired (StV K H') vs ss
  | _, _, .nil => .nil
  | _, _, .cons h t => .cons (h.same s) (sts_same s t)
theorem ss_nil : Ss K tNil σ [] := fun H Q q => q H [] (Same.refl H) .nil
theorem ss_cons {t : TE} {r : TA} {s : Stp} {ss : List Stp} (h : Se K t σ s) (hr : Ss K r σ ss) : Ss K (tCons t r) σ (s :: ss) := fun H Q q => h H _ fun H1 v s1 hv => hr H1 _ fun H2 vs s2 hp => q H2 (v :: vs) (s1.trans s2) (.cons (hv.same s2) hp)
def Sx (K : PySem.W.Frag) (t : TE) (σ : L2.St) (ss : List Stp) : Prop := ∀ (H : Hp) (Q : VK), (∀ H' r (vs : List V), Same H H' → SqT K H' r vs → Paired (StV K H') vs ss → Q (.ref r) H') → t σ H Q
theorem sx_tup {t : TA} {ss : List Stp} (h : Ss K t σ ss) (few : ss.length ≤ 100) : Sx K (tTup t) σ ss := fun H Q q => h H _ fun H1 vs s1 hp => ⟨few_size (by have : vs.length = ss.length := hp.length; omega), fun p np => q _ p vs (s1.trans (same_upd np)) (SqT.of upd_same) (sts_same (same_upd np) hp)⟩
theorem sx_cat {ta tb : TE} {ss zs : List Stp} (ha : Sx K ta σ ss) (hb : Sx K tb σ zs) (few : ss.length + zs.length ≤ 30000) : Sx K (tOp (rCatA K) ta tb) σ (ss ++ zs) := fun H Q q =>
  ha H _ fun H1 r1 v1 s1 h1 p1 => hb H1 _ fun H2 r2 v2 s2 h2 p2 => by
    have l1 : v1.length = ss.length := p1.length
    have l2 : v2.length = zs.length := p2.length
    refine catA_q (same_sqT s2 h1) h2 (by rw [sizeLine_eq]; omega) fun H3 r3 s3 h3 => ?_
    exact q H3 r3 _ ((s1.trans s2).trans s3) h3 (paired_app (sts_same s3 p2) (sts_same (s2.trans s3) p1))
theorem sx_rep {ta : TE} {ss : List Stp} {n : Nat} (ha : Sx K ta σ ss) (pos : 0 < ss.length) (h2 : 2 ≤ n) (few : n * ss.length ≤ 1000000) : Sx K (tOp (rRepB K) ta (tC (.int (n : Nat)))) σ (List.replicate n ss).flatten := fun H Q q =>
  ha H _ fun H1 r1 v1 s1 h1 p1 => by
    have l1 : v1.length = ss.length := p1.length
    refine ⟨r1, n, v1, rfl, rfl, h1, (fun e => by rw [e] at l1; simp at l1; omega), h2, by rw [l1]; exact few, fun p np => ?_⟩
    exact q _ p _ (s1.trans (same_upd np)) (SqT.of upd_same) (paired_rep (sts_same (same_upd np) p1) n)
theorem sx_long : Sx K (tOp (rCatA K) (tOp (rCatA K) (tTup (tCons (tTup (tCons (tC (.str "empty")) tNil)) tNil)) (tOp (rRepB K) (tTup (tCons (tTup (tCons (tC (.str "new")) (tCons (tC (.int 0)) tNil))) (tCons (tTup (tCons (tC (.str "forget")) (tCons (tC (.int 0)) tNil))) tNil))) (tC (.int (9999 : Nat)))))
    (tTup (tCons (tTup (tCons (tC (.str "new")) (tCons (tC (.int 0)) tNil))) tNil))) σ (longS 9999) := by
  have e : (Stp.emp).vals = [.str "empty"] := rfl
  have a := sx_tup (K := K) (σ := σ) (ss_cons (se_tup (s := .emp) (fk_cons fk_nil)) ss_nil) (by decide)
  have b := sx_rep (n := 9999) (sx_tup (K := K) (σ := σ) (ss_cons (se_tup (s := .new 0) (fk_cons (fk_cons fk_nil))) (ss_cons (se_tup (s := .fgt 0) (fk_cons (fk_cons fk_nil))) ss_nil)) (by decide)) (by decide) (by omega) (by show 9999 * 2 ≤ 1000000; omega)
  have c := sx_tup (K := K) (σ := σ) (ss_cons (se_tup (s := .new 0) (fk_cons (fk_cons fk_nil))) ss_nil) (by decide)
  have l : (List.replicate 9999 [Stp.new 0, Stp.fgt 0]).flatten.length = 9999 * 2 := by rw [PyProof.Rows.lm_len_rep_flat]; rfl
  exact sx_cat (sx_cat a b (by rw [l]; show 1 + 9999 * 2 ≤ 30000; omega)) c (by rw [List.length_append, l]; show 1 + 9999 * 2 + 1 ≤ 30000; omega)
/-- a tuple of steps is kept by a name -/
theorem asg_sx {t : TE} {ss : List Stp} {i : Nat} {u : L2.TS} {D : Ends} {H : Hp} (h : Sx K t σ ss) (q : ∀ H' r (vs : List V), Same H H' → SqT K H' r vs → Paired (StV K H') vs ss → u D (σ.set i (some (.ref r))) H') : tSeq (tAsg t (gName i)) u D σ H := h H _ fun H' r vs s h1 h2 => q H' r vs s h1 h2
end
theorem dp_out1 {K : PySem.W.Frag} {H : Hp} {v : V} {i : Int} (h : Dp K H v (outD (.inl i))) : v = .int i := by
  have h : Dp K H v (.int i) := h
  cases h
  rfl
theorem ct_long {as : List AV} {v : V} (h : 20000 < as.length) : ctF (some as) v = .inl (-1) := if_pos h
theorem ct_bad {as : List AV} {v : V} (h : vtxB 13 (intOf v) = false) : ctF (some as) v = .inl (-1) := by
  show (if 20000 < as.length then _ else if vtxB 13 (intOf v) = true then _ else _) = _
  rw [h]
  by_cases c : 20000 < as.length
  · rw [if_pos c]
  · rw [if_neg c, if_neg Bool.false_ne_true]
abbrev fiveD : List PyData := [.int (-1), .int (-1), .int (-1), .int (-1), .int (-1)]
theorem five {K : PySem.W.Frag} {H : Hp} : DpAll K H [.int (-1), .int (-1), .int (-1), .int (-1), .int (-1)] fiveD := .cons (.int _) (.cons (.int _) (.cons (.int _) (.cons (.int _) (.cons (.int _) .nil))))
theorem five_lay : (PyData.list fiveD).canLay0 = true := by simp [PyData.canLay0, PyData.canLayAll0]
theorem five_sh : SeqAt.shaped (.list fiveD) = true := by
  unfold SeqAt.shaped
  rw [five_lay, decide_eq_true (show (PyData.list fiveD).depth ≤ 64 by simp [PyData.depth, PyData.depthAll])]
  rfl
theorem five_eq : PyData.eqv (.list fiveD) (.list fiveD) = true := SeqAt.eqv_refl _ five_lay
end Sm

set_option Elab.async false
set_option linter.all false
set_option maxRecDepth 100000
set_option maxHeartbeats 8000000
namespace Sm
open PySem PySem.Spec PyProof.Rows L2
abbrev sOpd : Stmt := topS 20
abbrev sEnd : Stmt := topS 21
abbrev sJnd : Stmt := topS 22
abbrev sMst : Stmt := topS 23
theorem takes0N {X : Cx} : L2N.Takes X (fun _ _ _ _ => False) := fun _ _ x => by
  obtain ⟨_, _, _, _, _, _, _, _, _, _, _, _, _, _, _, _, z⟩ := x
  exact z.elim
theorem pass_anyN {X : Cx} {W : WX} (m : Nat) (hm : X.N.length = m) (tk : L2N.Takes X W) : Passes (L2N.CX X.prog X.w) X (fun cls d H => ∀ σ : L2.St, σ.length = m → W cls d σ H) := fun _ σ _ _ e s' I c => tk e s' (L2N.XE.of_call I (fun cls d H' h => h σ (I.len.trans hm)) c)
/-- a term that can be walked -/
structure WkIn (K : PySem.W.Frag) (H : Hp) (a : Addr) (k : Int) (xs : List V) (as : List AV) (st : WSt) : Prop where
  t : SqT K H a xs
  p : Paired (AnyV K H) xs as
  few : xs.length ≤ 20100
  k0 : 0 ≤ k
  k12 : k ≤ 12
  run : walkF k as = .inr st
theorem WkIn.same {K : PySem.W.Frag} {H H' : Hp} {a : Addr} {k : Int} {xs : List V} {as : List AV} {st : WSt} (s : Same H H') (h : WkIn K H a k xs as st) : WkIn K H' a k xs as st := ⟨same_sqT s h.t, any_sames s h.p, h.few, h.k0, h.k12, h.run⟩
theorem walk_one {k : Int} {as : List AV} {st : WSt} (h : walkF k as = .inr st) : st.stk.length = 1 := by
  unfold walkF at h
  cases er : runW k as w0 with
  | inl i => rw [er] at h; cases h
  | inr st2 =>
    rw [er] at h
    have h : (if st2.stk.length = 1 then (Sum.inr st2 : Nat ⊕ WSt) else .inl as.length) = .inr st := h
    by_cases c1 : st2.stk.length = 1
    · rw [if_pos c1] at h; cases h; exact c1
    · rw [if_neg c1] at h; cases h
theorem run_cnt {k : Int} : ∀ (as : List AV) (st st' : WSt), runW k as st = .inr st' → st'.fs.length = st.fs.length + as.length
  | [], st, st', e => by cases e; rfl
  | x :: as, st, st', e => by
    have e : (match stepW k x st with | none => (Sum.inl st.fs.length : Nat ⊕ WSt) | some st2 => runW k as st2) = .inr st' := e
    cases es : stepW k x st with
    | none => rw [es] at e; cases e
    | some st2 =>
      rw [es] at e
      rw [run_cnt as st2 st' e, stepW_cnt es, List.length_cons]
      omega
theorem walk_run {k : Int} {as : List AV} {st : WSt} (h : walkF k as = .inr st) : runW k as w0 = .inr st := by
  unfold walkF at h
  cases er : runW k as w0 with
  | inl i => rw [er] at h; cases h
  | inr st2 =>
    rw [er] at h
    have h : (if st2.stk.length = 1 then (Sum.inr st2 : Nat ⊕ WSt) else .inl as.length) = .inr st := h
    by_cases c1 : st2.stk.length = 1
    · rw [if_pos c1] at h; cases h; rfl
    · rw [if_neg c1] at h; cases h
theorem walk_cnt {k : Int} {as : List AV} {st : WSt} (h : walkF k as = .inr st) : st.fs.length = as.length := by
  rw [run_cnt as w0 st (walk_run h)]
  exact Nat.zero_add _
theorem walk_pos {k : Int} {as : List AV} {st : WSt} (h : walkF k as = .inr st) (ok : WOk st) : 0 < st.fs.length := by
  have h1 := walk_one h
  have h2 := ok.few
  omega
theorem lastF_eq {st : WSt} (pos : 0 < st.fs.length) : lastF st = st.fs[st.fs.length - 1]'(by omega) := by
  unfold lastF
  rw [List.getLastD_eq_getLast?, List.getLast?_eq_getElem?, List.getElem?_eq_getElem (by omega)]
  rfl
def rLenOf (K : PySem.W.Frag) : List V → Hp → VK → Prop := fun xs H Q => ∃ p ys, xs = [.ref p] ∧ (SqL K H p ys ∨ SqT K H p ys) ∧ Q (.int (ys.length : Nat)) H
theorem len_at {X : Cx} {K : PySem.W.Frag} (hK : X.K = K) : CallR X (.builtin "len") (rLenOf K) := by
  subst hK
  exact call_len_seq
def spOpd (K : PySem.W.Frag) : Sp := fun vs H Q _ => ∃ (a : Addr) (k : Int) (xs : List V) (as : List AV) (st : WSt), vs = [.ref a, .int k] ∧ WkIn K H a k xs as st ∧
  ∀ H' t (ts : List Addr), Same H H' → H' t = some (.lst (ts.map V.ref)) → IxV K H' ts st.tk → Q (.ref t) H'
def spEnd (K : PySem.W.Frag) : Sp := fun vs H Q _ => ∃ (a : Addr) (k : Int) (xs : List V) (as : List AV) (st : WSt), vs = [.ref a, .int k] ∧ WkIn K H a k xs as st ∧
  ∀ H' r (ys : List V), Same H H' → SqT K H' r (xs ++ ys) → Paired (StV K H') ys ((lastF st).1.map Stp.fgt) → Q (.ref r) H'
def spMst (K : PySem.W.Frag) : Sp := fun vs H Q _ => ∃ (a : Addr) (k : Int) (xs : List V) (as : List AV) (st : WSt), vs = [.ref a, .int k] ∧ WkIn K H a k xs as st ∧
  ∀ H' m, Same H H' → m ∈ st.fs.map (fun f => (f.1.length : Int)) → (∀ x ∈ st.fs.map (fun f => (f.1.length : Int)), x ≤ m) → Q (.int m) H'
def spJnd (K : PySem.W.Frag) : Sp := fun vs H Q _ => ∃ (a b : Addr) (xs ys : List V), vs = [.ref a, .ref b] ∧ SqT K H a xs ∧ SqT K H b ys ∧ xs.length ≤ 20100 ∧ ys.length ≤ 20100 ∧
  ∀ H' r v, Same H H' → SqT K H' r (xs ++ (ys ++ [v])) → StV K H' v .join → Q (.ref r) H'
section
variable {P : Program} {w : World} {K : PySem.W.Frag} {mg : Str → Option Value} {base : Heap}
abbrev opdN : List Str := ["term", "k", "taken", "_"]
theorem scOpd : FnScope opdN ["term", "k"] (defScope sOpd) := ⟨rfl, rfl, rfl, by decide +kernel, rfl, by decide +kernel, by decide +kernel⟩
theorem ok_opd {f CT fW : Addr} {fd fdW : FuncData} (F : Fun K "operands" "operands" sOpd f fd)
    (GW : FnOk P w K mg base (L2N.CX P w) 5 fW fdW ["term", "k"] (spWk K CT)) (kW : PySem.W.keepIn K (.ref fW) = true) (bW : Binds K fdW ["term", "k"] []) (gW : mg "walk" = some (.ref fW)) :
    FnOk P w K mg base CX0 6 f fd ["term", "k"] (spOpd K) := by
  refine F.ok scOpd (fun vs H Q E h => ?_) (fun cdv A outer s H vs Q E hr h => ?_)
  · obtain ⟨a, k, xs, as, st, rfl, _⟩ := h
    rfl
  · obtain ⟨a, k, xs, as, st, rfl, W, q⟩ := h
    refine ⟨_, pss_cons (ps_asg (pe_call GW hr (by rfl) gW kW bW .nil (pass_anyN 4 rfl takes0N) (pa_cons (pv 0) (pa_cons (pv 1) pa_nil))) (pg_tup (by rfl) (pgs_cons (pg_name (i := 2) scOpd.nd rfl (.inl rfl)) (pgs_cons (pg_name (i := 3) scOpd.nd rfl (.inl rfl)) pgs_nil))))
      (pss_one (ps_ret (pv 2))), ?_⟩
    refine ⟨_, rfl, _, rfl, a, k, xs, as, rfl, W.t, W.p, W.few, W.k0, W.k12, (fun i hi => by rw [W.run] at hi; cases hi), fun st' hst wok H' r t l ts fvs s1 hr1 ht hi hl1 hf => ?_⟩
    have e := hst.symm.trans W.run
    cases e
    refine ⟨r, _, rfl, hr1, rfl, _, _, rfl, _, _, rfl, rfl, ?_⟩
    exact ⟨_, rfl, q H' t ts s1 ht hi⟩
abbrev endN : List Str := ["term", "k", "_", "frames", "labels", "label"]
theorem scEnd : FnScope endN ["term", "k"] (defScope sEnd) := ⟨rfl, rfl, rfl, by decide +kernel, rfl, by decide +kernel, by decide +kernel⟩
theorem ok_end {f CT fW : Addr} {fd fdW : FuncData} (F : Fun K "ended" "ended" sEnd f fd)
    (GW : FnOk P w K mg base (L2N.CX P w) 5 fW fdW ["term", "k"] (spWk K CT)) (kW : PySem.W.keepIn K (.ref fW) = true) (bW : Binds K fdW ["term", "k"] []) (gW : mg "walk" = some (.ref fW)) :
    FnOk P w K mg base CX0 6 f fd ["term", "k"] (spEnd K) := by
  refine F.ok scEnd (fun vs H Q E h => ?_) (fun cdv A outer s H vs Q E hr h => ?_)
  · obtain ⟨a, k, xs, as, st, rfl, _⟩ := h
    rfl
  · obtain ⟨a, k, xs, as, st, rfl, W, q⟩ := h
    refine ⟨_, pss_cons (ps_asg (pe_call GW hr (by rfl) gW kW bW .nil (pass_anyN 6 rfl takes0N) (pa_cons (pv 0) (pa_cons (pv 1) pa_nil))) (pg_tup (by rfl) (pgs_cons (pg_name (i := 2) scEnd.nd rfl (.inl rfl)) (pgs_cons (pg_name (i := 3) scEnd.nd rfl (.inl rfl)) pgs_nil))))
      (pss_cons (ps_asg (pe_ix ix_list (pv 3) (pe_un un_neg pe_int) (fun _ _ => rfl)) (pg_tup (by rfl) (pgs_cons (pg_name (i := 4) scEnd.nd rfl (.inl rfl)) (pgs_cons (pg_name (i := 2) scEnd.nd rfl (.inl rfl)) pgs_nil))))
      (pss_one (ps_ret (pe_tup (StX.pa_star (pv 0) (StX.pa_star (pe_lc (own := [("label", 5)]) (g := gName 5) (by rfl) scEnd.nd (pi_tup (pv 4)) (blkOk_by (own := [("label", 5)]) (N := endN) (sc := defScope sEnd) (by decide +kernel))
        (fun _ _ _ _ _ => pg_name (i := 5) scEnd.nd rfl (Or.inl rfl)) (fun _ _ _ _ _ => pts_nil) (fun _ _ _ _ _ => pe_tup (pa_cons pe_str (pa_cons (pv 5) pa_nil)))) pa_nil)))))), ?_⟩
    refine ⟨_, rfl, _, rfl, a, k, xs, as, rfl, W.t, W.p, W.few, W.k0, W.k12, (fun i hi => by rw [W.run] at hi; cases hi), fun st' hst wok H1 r t l ts fvs s1 hr1 ht hi hl1 hf => ?_⟩
    have e := hst.symm.trans W.run
    cases e
    refine ⟨r, _, rfl, hr1, rfl, _, _, rfl, _, _, rfl, rfl, ?_⟩
    have pos := walk_pos hst wok
    have le := lastF_eq pos
    obtain ⟨fv, hfv, fa, ta, pa, ps, rfl, hfa, hta, hpa, hps⟩ := paired_at2 hf (i := st.fs.length - 1) (by omega)
    rw [← le] at hta hps
    have lfv : fvs.length = st.fs.length := hf.length
    refine ⟨_, rfl, _, rfl, l, fvs, -1, .ref fa, rfl, rfl, SqL.of hl1, atI_end (by rw [lfv]; exact hfv) (by rw [lfv]; exact pos), ?_⟩
    refine ⟨fa, _, rfl, hfa, rfl, _, _, rfl, _, _, rfl, rfl, ?_⟩
    refine ⟨_, rfl, a, xs, rfl, .inl (same_sqT s1 W.t), _, rfl, ta, rfl, ⟨_, hta⟩, fun D nD => ?_⟩
    have okf : FrOk (lastF st) := by
      rw [le]
      exact wok.ok _ (List.getElem_mem _)
    have fewL : (lastF st).1.length ≤ 100 := Nat.le_trans okf.len1 (by decide)
    generalize (lastF st).1 = labs at hta q fewL
    refine lc_tup (K := K) (a := ta) (xs := labs.map V.int) (fun t H' => Same H1 H' ∧ ∃ ys : List V, H' D = some (.lst ys) ∧ Paired (StV K H') ys ((labs.take t).map Stp.fgt)) ⟨same_upd nD, [], upd_same, .nil⟩ (fun t H' _ h => same_sqT h.1 hta) ?_ ?_
    · rintro i x H' hx ⟨sm, ys, hD, hp⟩
      rw [List.getElem?_map] at hx
      cases ea : labs[i]? with
      | none => rw [ea] at hx; cases hx
      | some lb =>
        rw [ea] at hx
        cases hx
        have lys : ys.length = ((labs.take i).map Stp.fgt).length := hp.length
        rw [List.length_map, List.length_take] at lys
        refine ⟨rfl, _, rfl, few_size (by simp), fun p np => ?_⟩
        have s2 := same_upd (o := .tup [V.str "forget", V.int lb]) np
        have hp2 : SqT K (upd H' p (.tup [V.str "forget", V.int lb])) p (Stp.fgt lb).vals := SqT.of upd_same
        refine ⟨_, s2 _ _ hD, few_size (by omega), same_put (sm.trans s2) nD, ys ++ [.ref p], upd_same, ?_⟩
        have bt : But2 D D H' (upd (upd H' p (.tup [V.str "forget", V.int lb])) D (.lst (ys ++ [.ref p]))) := (But2.of s2).putL
        rw [L2.take_next ea, List.map_append]
        have pD : p ≠ D := fun z => by rw [z, hD] at np; cases np
        exact paired_app (.cons ⟨p, rfl, SqT.of (by rw [upd_ne pD]; exact upd_same)⟩ .nil) (stv_map (bt.sq hD hD) hp)
    · rintro H' ⟨sm, ys, hD, hp⟩
      rw [List.length_map, List.take_length] at hp
      have ly : ys.length = (labs.map Stp.fgt).length := hp.length
      rw [List.length_map] at ly
      have lx := W.few
      refine ⟨D, ys, rfl, .inr (SqL.of hD), (by rw [List.length_append, List.append_nil, sizeLine_eq]; omega), fun r2 nr2 => ?_⟩
      have s3 := same_upd (o := .tup (xs ++ (ys ++ []))) nr2
      refine (q _ r2 ys ((s1.trans sm).trans s3) (SqT.of (by rw [upd_same, List.append_nil])) (sts_same s3 hp))
abbrev jndN : List Str := ["first", "second"]
theorem scJnd : FnScope jndN ["first", "second"] (defScope sJnd) := ⟨rfl, rfl, rfl, by decide +kernel, rfl, by decide +kernel, by decide +kernel⟩
theorem ok_jnd {f : Addr} {fd : FuncData} (F : Fun K "joined" "joined" sJnd f fd) : FnOk P w K mg base CX0 1 f fd ["first", "second"] (spJnd K) := by
  refine F.ok scJnd (fun vs H Q E h => ?_) (fun cdv A outer s H vs Q E hr h => ?_)
  · obtain ⟨a, b, xs, ys, rfl, _⟩ := h
    rfl
  · obtain ⟨a, b, xs, ys, rfl, hx, hy, lx, ly, q⟩ := h
    refine ⟨_, pss_one (ps_ret (pe_tup (StX.pa_star (pv 0) (StX.pa_star (pv 1) (pa_cons (pe_tup (pa_cons pe_str pa_nil)) pa_nil))))), ?_⟩
    refine ⟨_, rfl, a, xs, rfl, .inl hx, _, rfl, b, ys, rfl, .inl hy, few_size (by simp), fun p np => ?_⟩
    have s1 := same_upd (o := .tup [V.str "join"]) np
    have h1 : StV K (upd H p (.tup [V.str "join"])) (.ref p) .join := ⟨p, rfl, SqT.of upd_same⟩
    generalize upd H p (.tup [V.str "join"]) = H1 at s1 h1 ⊢
    refine ⟨by rw [List.length_append, List.length_append, sizeLine_eq]; show _ + (_ + 1) ≤ _; omega, fun r nr => ?_⟩
    have s2 := same_upd (o := .tup (xs ++ (ys ++ [V.ref p]))) nr
    exact q _ r _ (s1.trans s2) (SqT.of upd_same) (h1.same s2)
abbrev mstN : List Str := ["term", "k", "_", "frames", "labels"]
theorem scMst : FnScope mstN ["term", "k"] (defScope sMst) := ⟨rfl, rfl, rfl, by decide +kernel, rfl, by decide +kernel, by decide +kernel⟩
theorem ok_mst {f CT fW : Addr} {fd fdW : FuncData} (F : Fun K "most_labels" "most_labels" sMst f fd) (ml : mg "len" = none) (mx : mg "max" = none)
    (GW : FnOk P w K mg base (L2N.CX P w) 5 fW fdW ["term", "k"] (spWk K CT)) (kW : PySem.W.keepIn K (.ref fW) = true) (bW : Binds K fdW ["term", "k"] []) (gW : mg "walk" = some (.ref fW)) :
    FnOk P w K mg base CX0 6 f fd ["term", "k"] (spMst K) := by
  refine F.ok scMst (fun vs H Q E h => ?_) (fun cdv A outer s H vs Q E hr h => ?_)
  · obtain ⟨a, k, xs, as, st, rfl, _⟩ := h
    rfl
  · obtain ⟨a, k, xs, as, st, rfl, W, q⟩ := h
    refine ⟨_, pss_cons (ps_asg (pe_call GW hr (by rfl) gW kW bW .nil (pass_anyN 5 rfl takes0N) (pa_cons (pv 0) (pa_cons (pv 1) pa_nil))) (pg_tup (by rfl) (pgs_cons (pg_name (i := 2) scMst.nd rfl (.inl rfl)) (pgs_cons (pg_name (i := 3) scMst.nd rfl (.inl rfl)) pgs_nil))))
      (pss_one (ps_ret (pe_callB (cr_max rfl) (by rfl) mx (by decide +kernel) (pa_cons (pe_lc (own := [("labels", 4), ("_", 2)]) (g := gTup K 2 (gCons (gName 4) (gCons (gName 2) gNil))) (by rfl) scMst.nd (pi_list (pv 3)) (blkOk_by (own := [("labels", 4), ("_", 2)]) (N := mstN) (sc := defScope sMst) (by decide +kernel))
        (fun _ _ _ _ _ => pg_tup rfl (pgs_cons (pg_name (i := 4) scMst.nd rfl (Or.inl rfl)) (pgs_cons (pg_name (i := 2) scMst.nd rfl (Or.inl rfl)) pgs_nil))) (fun _ _ _ _ _ => pts_nil) (fun _ _ _ _ _ => pe_callB (len_at (K := K) rfl) (by rfl) ml PySem.boot_len (pa_cons (pv 4) pa_nil))) pa_nil)))), ?_⟩
    refine ⟨_, rfl, _, rfl, a, k, xs, as, rfl, W.t, W.p, W.few, W.k0, W.k12, (fun i hi => by rw [W.run] at hi; cases hi), fun st' hst wok H1 r t l ts fvs s1 hr1 ht hi hl1 hf => ?_⟩
    have e := hst.symm.trans W.run
    cases e
    refine ⟨r, _, rfl, hr1, rfl, _, _, rfl, _, _, rfl, rfl, ?_⟩
    have pos := walk_pos hst wok
    refine ⟨_, rfl, l, rfl, ⟨_, SqL.of hl1⟩, fun D nD => ?_⟩
    have lfv : fvs.length = st.fs.length := hf.length
    refine lc_list (K := K) (a := l) (xs := fvs) (fun i H' => Same H1 H' ∧ H' D = some (.lst (((st.fs.map fun f => (f.1.length : Int)).take i).map V.int))) ⟨same_upd nD, upd_same⟩ (fun i H' _ h => SqL.of (h.1 _ _ hl1)) ?_ ?_
    · rintro i x H' hx ⟨sm, hD⟩
      obtain ⟨f, hfi, fa, ta, pa, ps, rfl, hfa, hta, hpa, hps⟩ := paired_at hf hx
      have dk : (st.fs.map fun f => (f.1.length : Int))[i]? = some (f.1.length : Int) := by rw [List.getElem?_map, hfi]; rfl
      have len1 : (f.1.map V.int).length = f.1.length := List.length_map ..
      have il : i < st.fs.length := (List.getElem?_eq_some_iff.mp hfi).1
      refine ⟨fa, _, rfl, same_sqT sm hfa, rfl, _, _, rfl, _, _, rfl, rfl, rfl, _, rfl, ta, _, rfl, .inr (same_sqT sm hta), _, hD, ?_, same_put sm nD, ?_⟩
      · have c1 := walk_cnt hst
        have c2 : xs.length = as.length := W.p.length
        have c3 := W.few
        rw [List.length_map, List.length_take, List.length_map, sizeLine_eq]
        omega
      · rw [upd_same, L2.take_next dk, List.map_append, len1]
        rfl
    · rintro H' ⟨sm, hD⟩
      rw [lfv, ← List.length_map (f := fun f : Fr => (f.1.length : Int)), List.take_length] at hD
      refine ⟨D, _, rfl, SqL.of hD, ?_, fun m h1 h2 => q H' m (s1.trans sm) h1 h2⟩
      rw [List.length_map]
      exact pos
end
end Sm

set_option Elab.async false
set_option linter.all false
set_option maxRecDepth 100000
set_option maxHeartbeats 8000000
namespace Sm
open PySem PySem.Spec PyProof.Rows L2
abbrev sLop : Stmt := topS 34
abbrev sLfs : Stmt := topS 35
theorem runS_app : ∀ (a b : List Stp) (st : WSt), runS (a ++ b) st = (runS a st).bind fun st' => runS b st'
  | [], _, _ => rfl
  | x :: a, b, st => by
    show (stepS x st).bind (fun st' => runS (a ++ b) st') = ((stepS x st).bind fun st' => runS a st').bind _
    cases stepS x st with
    | none => rfl
    | some st' => exact runS_app a b st'
theorem runS_next {ss : List Stp} {st st0 : WSt} {t : Nat} {s : Stp} (h : runS ss w0 = some st) (h0 : runS (ss.take t) w0 = some st0) (hs : ss[t]? = some s) : ∃ f, ¬ st0.stk.length < s.many ∧ frameAfter s (st0.frs (st0.top s.many)) = some f ∧ stepS s st0 = some (st0.put s.many f) ∧ runS (ss.take (t + 1)) w0 = some (st0.put s.many f) := by
  have z : ss = ss.take (t + 1) ++ ss.drop (t + 1) := (List.take_append_drop _ _).symm
  rw [L2.take_next hs] at z
  rw [z, runS_app, runS_app, h0] at h
  have h : ((stepS s st0).bind fun st' => some st').bind (fun st' => runS (ss.drop (t + 1)) st') = some st := h
  by_cases c : st0.stk.length < s.many
  · have e : stepS s st0 = none := if_pos c
    rw [e] at h; cases h
  · cases ef : frameAfter s (st0.frs (st0.top s.many)) with
    | none =>
      have e : stepS s st0 = none := by unfold stepS; rw [if_neg c, ef]; rfl
      rw [e] at h; cases h
    | some f =>
      have e : stepS s st0 = some (st0.put s.many f) := by unfold stepS; rw [if_neg c, ef]; rfl
      refine ⟨f, c, rfl, e, ?_⟩
      rw [L2.take_next hs, runS_app, h0]
      show (stepS s st0).bind (fun st' => some st') = _
      rw [e]
      rfl
def spLop (K : PySem.W.Frag) : Sp := fun vs H Q _ => ∃ (a : Addr) (xs : List V) (ss : List Stp) (st : WSt), vs = [.ref a] ∧ SqT K H a xs ∧ Paired (StV K H) xs ss ∧ ss.length ≤ 20100 ∧ (∀ s ∈ ss, s.okk) ∧ runS ss w0 = some st ∧
  ∀ H' t (ts : List Addr), Same H H' → H' t = some (.lst (ts.map V.ref)) → IxV K H' ts st.tk → Q (.ref t) H'
def rTupOf (K : PySem.W.Frag) : List V → Hp → VK → Prop := fun xs H Q => ∃ p ys, xs = [.ref p] ∧ ((SqL K H p ys ∧ ∀ l, H l = none → Q (.ref l) (upd H l (.tup ys))) ∨ (SqT K H p ys ∧ Q (.ref p) H))
theorem top_ifx {K : PySem.W.Frag} {σ : L2.St} {H : Hp} {l1 : Addr} {st : WSt} {m : Nat} (hL : H l1 = some (.lst (st.stk.map fun (i : Nat) => V.int i))) (h1 : σ[1]? = some (some (.ref l1))) (h4 : σ[4]? = some (some (.int (m : Nat)))) (c : ¬ st.stk.length < m) (Q : VK)
    (q : ∀ H' tI, Same H H' → SqT K H' tI ((st.top m).map fun (i : Nat) => V.int i) → Q (.ref tI) H') :
    tIf (tTest (tOp (rI0 fun i j => V.bl (decide (j < i))) (tVar 4) (tC (V.int 0)))) (tCB (rTupOf K) (tCons (tSl (rSlL K) (tVar 1) (tPart (tOp (rI0 fun i j => V.int (i - j)) (tCB (rLenOf K) (tCons (tVar 1) tNil)) (tVar 4))) tNoPart) tNil)) (tTup tNil) σ H Q := by
  refine ⟨_, h4, _, _, rfl, rfl, _, rfl, ?_⟩
  refine ite2 (fun z => ?_) (fun z => ?_)
  · refine ⟨_, h1, _, h1, l1, _, rfl, .inl (SqL.of hL), _, h4, _, _, rfl, rfl, _, rfl, l1, _, rfl, SqL.of hL, fun l nl => ?_⟩
    have en : (((st.stk.map fun (i : Nat) => V.int i).length : Nat) : Int) - (m : Int) = ((st.stk.length - m : Nat) : Int) := by rw [List.length_map]; omega
    have ecut : cutV (st.stk.map fun (i : Nat) => V.int i) (some ((((st.stk.map fun (i : Nat) => V.int i).length : Nat) : Int) - (m : Int))) none = (st.top m).map fun (i : Nat) => V.int i := by
      rw [en]
      unfold cutV WSt.top
      rw [HT.sIx_none, HT.sIx_nat, List.length_map, Nat.min_eq_left (by omega), ← List.map_drop]
      exact List.take_of_length_le (by rw [List.length_map, List.length_drop]; exact Nat.le_refl _)
    rw [ecut]
    have s5 := same_upd (o := .lst ((st.top m).map fun (i : Nat) => V.int i)) nl
    refine ⟨l, _, rfl, .inl ⟨SqL.of upd_same, fun tI ntI => ?_⟩⟩
    exact q _ tI (s5.trans (same_upd ntI)) (SqT.of upd_same)
  · have e : st.top m = [] := by
      have z : ¬ ((0 : Int) < (m : Int)) := fun y => z (decide_eq_true y)
      unfold WSt.top
      rw [show m = 0 by omega, Nat.sub_zero, List.drop_length]
    refine ⟨Nat.zero_le _, fun tI ntI => ?_⟩
    exact q _ tI (same_upd ntI) (by rw [e]; exact SqT.of upd_same)
section
variable {P : Program} {w : World} {K : PySem.W.Frag} {mg : Str → Option Value} {base : Heap}
abbrev lopN : List Str := ["term", "stack", "found", "index", "many"]
theorem scLop : FnScope lopN ["term"] (defScope sLop) := ⟨rfl, rfl, rfl, by decide +kernel, rfl, by decide +kernel, by decide +kernel⟩
theorem ok_lop {f : Addr} {fd : FuncData} (F : Fun K "_law_operands" "_law_operands" sLop f fd) (mr : mg "range" = none) (ml : mg "len" = none) (mt : mg "tuple" = none) : FnOk P w K mg base CX0 1 f fd ["term"] (spLop K) := by
  refine F.ok scLop (fun vs H Q E h => ?_) (fun cdv A outer s H vs Q E hr h => ?_)
  · obtain ⟨a, xs, ss, st, rfl, _⟩ := h
    rfl
  · obtain ⟨a, xs, ss, stE, rfl, hX, hP, few, okk, hrun, q⟩ := h
    have hu := hu_of hr
    refine ⟨_, pss_cons (ps_par (i := 1) (j := 2) (by rfl) scLop.nd rfl rfl (by decide) rfl rfl (pa_cons (pe_lst pa_nil) (pa_cons (pe_lst pa_nil) pa_nil)) (by rfl))
      (pss_cons (ps_for PassesOwn.never rfl (pi_range1 rfl mr (pa_cons (pe_callB call_len_seq (by rfl) ml PySem.boot_len (pa_cons (pv 0) pa_nil)) pa_nil)) (pg_name (i := 3) scLop.nd rfl (.inl rfl))
        (pss_cons (ps_set (i := 4) scLop.nd rfl (.inl rfl) (pe_dget hu (pe_disp (pps_cons pe_str pe_int (pps_cons pe_str pe_int (pps_cons pe_str pe_int (pps_cons pe_str pe_int (pps_cons pe_str pe_int pps_nil))))) (by rfl) (by rfl) (fun z => by cases z) (by decide)) (pe_ix ix_tup (pe_ix ix_tup (pv 0) (pv 3) (fun _ _ => rfl)) pe_int (fun _ _ => rfl)) (fun _ _ => rfl)))
        (pss_cons (ps_expr (pe_bm PySem.F.plainAttrs_list PySem.F.slot_list_append PySem.F.type_list_append mt_append (pv 2) (pa_cons (pe_ifExp (pt_cmpR op_gt (pv 4) pe_int (nomark _)) (pe_callTy call_tuple_of (by rfl) mt (by decide +kernel) (pa_cons (pe_slice sl_list (pv 1) (po_some (pe_op op_sub (pe_callB call_len_seq (by rfl) ml PySem.boot_len (pa_cons (pv 1) pa_nil)) (pv 4))) po_none) pa_nil)) (pe_tup pa_nil)) pa_nil)))
        (pss_one (ps_set (i := 1) scLop.nd rfl (.inl rfl) (pe_op op_cat (pe_slice sl_list (pv 1) po_none (po_some (pe_op op_sub (pe_callB call_len_seq (by rfl) ml PySem.boot_len (pa_cons (pv 1) pa_nil)) (pv 4)))) (pe_lst (pa_cons (pv 3) pa_nil))))))))
      (pss_one (ps_ret (pv 2)))), ?_⟩
    refine ⟨Nat.zero_le _, fun ls nls => ⟨Nat.zero_le _, fun lf nlf => ⟨_, _, rfl, ?_⟩⟩⟩
    have s1 := same_upd (o := .lst []) nls
    have s2 := same_upd (o := .lst []) nlf
    have hs0 : (upd (upd H ls (.lst [])) lf (.lst [])) ls = some (.lst []) := s2 _ _ upd_same
    have hf0 : (upd (upd H ls (.lst [])) lf (.lst [])) lf = some (.lst []) := upd_same
    have ne0 : ls ≠ lf := fun z => by rw [← z, upd_same] at nlf; cases nlf
    have nf0 : H lf = none := s1.free nlf
    have s12 := s1.trans s2
    generalize (upd (upd H ls (.lst [])) lf (.lst [])) = H0 at hs0 hf0 s12
    have lx : xs.length = ss.length := hP.length
    refine ⟨_, rfl, a, xs, rfl, .inr (same_sqT s12 hX), xs.length, rfl, by omega, by omega, ?_⟩
    rw [show ((xs.length : Nat) : Int).toNat = xs.length by omega]
    refine for_range (lo := 0) (n := xs.length) (fun t σ H' => ∃ (st : WSt) (ts : List Addr) (l1 : Addr) (y3 y4 : Option V), σ = [some (.ref a), some (.ref l1), some (.ref lf), y3, y4] ∧ Same H H' ∧ runS (ss.take t) w0 = some st ∧ WOk st ∧ st.fs.length = t ∧ H' lf = some (.lst (ts.map V.ref)) ∧ IxV K H' ts st.tk ∧ H' l1 = some (.lst (st.stk.map fun (i : Nat) => V.int i)) ∧ l1 ≠ lf)
      ⟨w0, [], ls, none, none, rfl, s12, rfl, w0_ok, rfl, hf0, .nil, hs0, ne0⟩ ?_ ?_
    · rintro t σ H1 ht ⟨st, ts, l1, y3, y4, rfl, sm, run, ok, cnt, hF, hI, hL, ne⟩
      rw [show (0 : Int) + (t : Int) = (t : Int) by omega]
      obtain ⟨v, hv⟩ : ∃ v, xs[t]? = some v := ⟨_, List.getElem?_eq_getElem ht⟩
      obtain ⟨s, hs, b, rfl, hb⟩ := paired_at hP hv
      obtain ⟨f, c, ef, es, run'⟩ := runS_next hrun run hs
      refine fun p np => ⟨upd_same, manyP, rfl, by decide, ?_⟩
      have s3 : Same H1 (upd (upd H1 p (.dK [])) p (.dK (mergeK [] manyP))) := same_put (same_upd np) np
      have hp : (upd (upd H1 p (.dK [])) p (.dK (mergeK [] manyP))) p = some (.dK manyP) := upd_same
      refine ⟨_, rfl, _, rfl, a, xs, t, _, rfl, rfl, same_sqT (sm.trans s3) hX, atI_nat hv, b, _, 0, .str s.word, rfl, rfl, same_sqT (sm.trans s3) hb, atI_nat (j := 0) (word_at s), p, .int s.many, rfl, ?_, ?_⟩
      · have g := DGet.k (k := Sum.inr s.word) hp
        rw [manyP_get] at g
        exact g
      have sm3 := sm.trans s3
      have hF3 := s3 _ _ hF
      have hL3 := s3 _ _ hL
      have hI3 : IxV K _ ts st.tk := ixv_map (fun _ _ h => same_sqT s3 h) hI
      generalize (upd (upd H1 p (.dK [])) p (.dK (mergeK [] manyP))) = H3 at sm3 hF3 hL3 hI3 ⊢
      refine ⟨_, rfl, .inl ⟨rfl, _, SqL.of hF3⟩, top_ifx hL3 rfl rfl c _ fun H4 tI s4 hI4 => ?_⟩
      have sm4 := sm3.trans s4
      have hF4 := s4 _ _ hF3
      have hL4 := s4 _ _ hL3
      have hI5 : IxV K H4 ts st.tk := ixv_map (fun _ _ h => same_sqT s4 h) hI3
      have lts : ts.length = st.tk.length := hI5.length
      have lst := ok.len
      refine ⟨lf, _, _, rfl, rfl, hF4, by rw [List.length_map, sizeLine_eq]; omega, ?_⟩
      have b5 : But2 lf lf H4 (upd H4 lf (.lst (ts.map V.ref ++ [.ref tI]))) := But2.refl.putL
      have hL5 : (upd H4 lf (.lst (ts.map V.ref ++ [.ref tI]))) l1 = some (.lst (st.stk.map fun (i : Nat) => V.int i)) := by rw [upd_ne ne]; exact hL4
      have hF5 : (upd H4 lf (.lst (ts.map V.ref ++ [.ref tI]))) lf = some (.lst ((ts ++ [tI]).map V.ref)) := by rw [upd_same, List.map_append]; rfl
      have sm5 : Same H (upd H4 lf (.lst (ts.map V.ref ++ [.ref tI]))) := same_put sm4 nf0
      have m5 := b5.sq (K := K) hF4 hF4
      have hI6 : IxV K _ (ts ++ [tI]) (st.tk ++ [st.top s.many]) := ixv_snoc (m5 _ _ hI4) (ixv_map m5 hI5)
      generalize (upd H4 lf (.lst (ts.map V.ref ++ [.ref tI]))) = H5 at hL5 hF5 sm5 hI6 ⊢
      have lk : st.stk.length ≤ 20100 := by have := ok.few; omega
      have en : (((st.stk.map fun (i : Nat) => V.int i).length : Nat) : Int) - (s.many : Int) = ((st.stk.length - s.many : Nat) : Int) := by rw [List.length_map]; omega
      have ecut : cutV (st.stk.map fun (i : Nat) => V.int i) none (some ((((st.stk.map fun (i : Nat) => V.int i).length : Nat) : Int) - (s.many : Int))) = (st.stk.take (st.stk.length - s.many)).map fun (i : Nat) => V.int i := by
        rw [en]
        unfold cutV
        rw [HT.sIx_none, HT.sIx_nat, List.length_map, Nat.min_eq_left (by omega), List.drop_zero, Nat.sub_zero, List.map_take]
      refine ⟨_, rfl, _, rfl, l1, _, rfl, .inl (SqL.of hL5), _, rfl, _, _, rfl, rfl, _, rfl, l1, _, rfl, SqL.of hL5, fun l2 nl2 => ?_⟩
      rw [ecut]
      have s6 := same_upd (o := .lst ((st.stk.take (st.stk.length - s.many)).map fun (i : Nat) => V.int i)) nl2
      have h26 : (upd H5 l2 (.lst ((st.stk.take (st.stk.length - s.many)).map fun (i : Nat) => V.int i))) l2 = some (.lst ((st.stk.take (st.stk.length - s.many)).map fun (i : Nat) => V.int i)) := upd_same
      generalize (upd H5 l2 (.lst ((st.stk.take (st.stk.length - s.many)).map fun (i : Nat) => V.int i))) = H6 at s6 h26 ⊢
      refine ⟨_, rfl, few_size (by simp), fun l3 nl3 => ?_⟩
      have s7 := same_upd (o := .lst [V.int (t : Nat)]) nl3
      have h27 := s7 _ _ h26
      have h37 : (upd H6 l3 (.lst [V.int (t : Nat)])) l3 = some (.lst [V.int (t : Nat)]) := upd_same
      generalize (upd H6 l3 (.lst [V.int (t : Nat)])) = H7 at s7 h27 h37 ⊢
      refine ⟨l2, l3, _, _, rfl, rfl, h27, h37, by rw [List.length_map, List.length_take, sizeLine_eq]; show _ + 1 ≤ _; omega, fun l4 nl4 => ?_⟩
      have s8 := same_upd (o := .lst ((st.stk.take (st.stk.length - s.many)).map (fun (i : Nat) => V.int i) ++ [V.int (t : Nat)])) nl4
      have s58 := s6.trans (s7.trans s8)
      have ne4 : l4 ≠ lf := fun z => by rw [z, s7 _ _ (s6 _ _ hF5)] at nl4; cases nl4
      refine ⟨st.put s.many f, ts ++ [tI], l4, _, _, rfl, sm5.trans s58, run', put_ok ok (okk s (List.mem_of_getElem? hs)) ef, ?_, s58 _ _ hF5, ixv_map (fun _ _ h => same_sqT s58 h) hI6, ?_, ne4⟩
      · show (st.fs ++ [f]).length = t + 1
        rw [List.length_append, cnt]
        rfl
      · rw [upd_same]
        show _ = some (HO.lst ((st.stk.take (st.stk.length - s.many) ++ [st.fs.length]).map fun (i : Nat) => V.int i))
        rw [List.map_append, cnt]
        rfl
    · rintro σ H1 ⟨st, ts, l1, y3, y4, rfl, sm, run, ok, cnt, hF, hI, hL, ne⟩
      rw [List.take_of_length_le (by omega)] at run
      have e := run.symm.trans hrun
      cases e
      exact ⟨_, rfl, q H1 lf ts sm hF hI⟩
end
end Sm

set_option Elab.async false
set_option linter.all false
set_option maxRecDepth 100000
set_option maxHeartbeats 8000000
namespace Sm
open PySem PySem.Spec PyProof.Rows L2
theorem put_call2 {K : PySem.W.Frag} {sl kl : Addr} {H : Hp} {svs fvs : List V} {fs : List Fr} {v : V} {s : Stp} {Q : VK} {E : XK} (hS : H sl = some (.lst svs)) (hK : H kl = some (.lst fvs)) (ne : sl ≠ kl) (hF : FrsV K H fvs fs) (hv : StV K H v s) (ls : svs.length ≤ 30000) (lf : fs.length ≤ 30000) (ok : ∀ f ∈ fs, FrOk f)
    (q : ∀ (H' : Hp) (svs' fvs' : List V), But2 sl kl H H' → H' sl = some (.lst svs') → H' kl = some (.lst fvs') → svs' = (if (putF s fs).isSome = true then svs ++ [v] else svs) → FrsV K H' fvs' ((putF s fs).getD fs) → Q .non H') : spPut K [.ref sl, .ref kl, v] H Q E := ⟨sl, kl, v, svs, fvs, fs, s, rfl, hS, hK, ne, hF, hv, ls, lf, ok, q⟩
theorem frames_ok {st : WSt} (ok : WOk st) : ∀ f ∈ st.frames, FrOk f := fun f hf => by
  unfold WSt.frames WSt.frs at hf
  obtain ⟨i, hi, rfl⟩ := List.mem_map.mp hf
  have il := ok.idx i hi
  rw [List.getD_eq_getElem?_getD, List.getElem?_eq_getElem il]
  exact ok.ok _ (List.getElem_mem il)
theorem due_put {K : PySem.W.Frag} {sl kl : Addr} {H : Hp} {fvs : List V} {fs : List Fr} {v : V} {s : Stp} {E : XK} {R : Hp → Prop} (hS : H sl = some (.lst [])) (hK : H kl = some (.lst fvs)) (ne : sl ≠ kl) (hF : FrsV K H fvs fs) (hv : StV K H v s) (lf : fs.length ≤ 30000) (ok : ∀ f ∈ fs, FrOk f)
    (q : ∀ (H' : Hp) (svs' fvs' : List V), But2 sl kl H H' → H' sl = some (.lst svs') → H' kl = some (.lst fvs') → svs' = (if (putF s fs).isSome = true then [] ++ [v] else []) → FrsV K H' fvs' ((putF s fs).getD fs) → R H') : spPut K [.ref sl, .ref kl, v] H (fun _ H' => R H') E := put_call2 hS hK ne hF hv (Nat.zero_le _) lf ok q
def spLfs (K : PySem.W.Frag) : Sp := fun vs H Q _ => ∃ (a : Addr) (xs : List V) (ss : List Stp) (st : WSt), vs = [.ref a] ∧ SqT K H a xs ∧ Paired (StV K H) xs ss ∧ ss.length ≤ 20100 ∧ (∀ s ∈ ss, s.okk ∧ Ordd s) ∧ runS ss w0 = some st ∧
  ∀ H' t (fvs : List V), Same H H' → H' t = some (.lst fvs) → FrsV K H' fvs st.fs → Q (.ref t) H'
section
variable {P : Program} {w : World} {K : PySem.W.Frag} {mg : Str → Option Value} {base : Heap}
abbrev lfsN : List Str := ["term", "stack", "found", "step"]
theorem scLfs : FnScope lfsN ["term"] (defScope sLfs) := ⟨rfl, rfl, rfl, by decide +kernel, rfl, by decide +kernel, by decide +kernel⟩
theorem ok_lfs {f fP : Addr} {fd fdP : FuncData} (F : Fun K "_law_frames" "_law_frames" sLfs f fd)
    (GP : FnOk P w K mg base CX0 2 fP fdP ["steps", "stack", "step"] (spPut K)) (kP : PySem.W.keepIn K (.ref fP) = true) (bP : Binds K fdP ["steps", "stack", "step"] []) (gP : mg "_law_put" = some (.ref fP)) :
    FnOk P w K mg base CX0 3 f fd ["term"] (spLfs K) := by
  refine F.ok scLfs (fun vs H Q E h => ?_) (fun cdv A outer s H vs Q E hr h => ?_)
  · obtain ⟨a, xs, ss, st, rfl, _⟩ := h
    rfl
  · obtain ⟨a, xs, ss, stE, rfl, hX, hP, few, okk, hrun, q⟩ := h
    refine ⟨_, pss_cons (ps_par (i := 1) (j := 2) (by rfl) scLfs.nd rfl rfl (by decide) rfl rfl (pa_cons (pe_lst pa_nil) (pa_cons (pe_lst pa_nil) pa_nil)) (by rfl))
      (pss_cons (ps_for PassesOwn.never rfl (pi_tup (pv 0)) (pg_name (i := 3) scLfs.nd rfl (.inl rfl))
        (pss_cons (ps_expr (pe_call GP hr (by rfl) gP kP bP .nil pass0 (pa_cons (pe_lst pa_nil) (pa_cons (pv 1) (pa_cons (pv 3) pa_nil)))))
        (pss_one (ps_expr (pe_bm PySem.F.plainAttrs_list PySem.F.slot_list_append PySem.F.type_list_append mt_append (pv 2) (pa_cons (pe_ix ix_list (pv 1) (pe_un un_neg pe_int) (fun _ _ => rfl)) pa_nil))))))
      (pss_one (ps_ret (pv 2)))), ?_⟩
    refine ⟨Nat.zero_le _, fun kl nkl => ⟨Nat.zero_le _, fun lf nlf => ⟨_, _, rfl, ?_⟩⟩⟩
    have s1 := same_upd (o := .lst []) nkl
    have s2 := same_upd (o := .lst []) nlf
    have hs0 : (upd (upd H kl (.lst [])) lf (.lst [])) kl = some (.lst []) := s2 _ _ upd_same
    have hf0 : (upd (upd H kl (.lst [])) lf (.lst [])) lf = some (.lst []) := upd_same
    have ne0 : kl ≠ lf := fun z => by rw [← z, upd_same] at nlf; cases nlf
    have nf0 : H lf = none := s1.free nlf
    have s12 := s1.trans s2
    generalize (upd (upd H kl (.lst [])) lf (.lst [])) = H0 at hs0 hf0 s12
    have lx : xs.length = ss.length := hP.length
    refine ⟨_, rfl, a, rfl, ⟨_, same_sqT s12 hX⟩, for_tup (K := K) (a := a) (xs := xs) (fun t σ H' => ∃ (st : WSt) (kvs fvs : List V) (y3 : Option V), σ = [some (.ref a), some (.ref kl), some (.ref lf), y3] ∧ Same H H' ∧ runS (ss.take t) w0 = some st ∧ WOk st ∧ st.fs.length = t ∧ H' kl = some (.lst kvs) ∧ FrsV K H' kvs st.frames ∧ H' lf = some (.lst fvs) ∧ FrsV K H' fvs st.fs)
      ⟨w0, [], [], none, rfl, s12, rfl, w0_ok, rfl, hs0, .nil, hf0, .nil⟩ (fun t σ H' _ ⟨_, _, _, _, _, sm, _⟩ => same_sqT sm hX) ?_ ?_⟩
    · rintro t v σ H1 hv ⟨st, kvs, fvs, y3, rfl, sm, run, ok, cnt, hK, hKF, hF, hFF⟩
      obtain ⟨s, hs, b, rfl, hb⟩ := paired_at hP hv
      obtain ⟨f, c, ef, es, run'⟩ := runS_next hrun run hs
      have okd := okk s (List.mem_of_getElem? hs)
      have law := step_put ok okd.2
      rw [es] at law
      have law : some (st.put s.many f).frames = putF s st.frames := law
      have tl : t < xs.length := (List.getElem?_eq_some_iff.mp hv).1
      refine ⟨few_size (by simp), fun sl nsl => ?_⟩
      have s4 := same_upd (o := .lst []) nsl
      have hS4 : (upd H1 sl (.lst [])) sl = some (.lst []) := upd_same
      have nsl0 : H sl = none := sm.free nsl
      have ne : sl ≠ kl := fun z => by rw [z, hK] at nsl; cases nsl
      have nef : sl ≠ lf := fun z => by rw [z, hF] at nsl; cases nsl
      have hK4 := s4 _ _ hK
      have hF4 := s4 _ _ hF
      have sm4 := sm.trans s4
      have hKF4 := frs_same s4 hKF
      have hFF4 := frs_same s4 hFF
      generalize (upd H1 sl (.lst [])) = H4 at s4 hS4 hK4 hF4 sm4 hKF4 hFF4 ⊢
      refine ⟨_, rfl, _, rfl, ?_⟩
      have lk : st.frames.length ≤ 30000 := by have := ok.few; rw [frames_len]; omega
      refine due_put (E := E0) hS4 hK4 ne hKF4 ⟨b, rfl, same_sqT sm4 hb⟩ lk (frames_ok ok) fun H5 svs5 kvs5 b5 hS5 hK5 e5 hKF5 => ?_
      rw [← law] at hKF5
      have hKF5 : FrsV K H5 kvs5 (st.put s.many f).frames := hKF5
      have fp := frames_put ok s.many f
      have m5 := b5.sq (K := K) hS4 hK4
      have hF5 : H5 lf = some (.lst fvs) := b5.go _ _ hF4 nef.symm ne0.symm
      have hFF5 := frs_map m5 hFF4
      have sm5 : Same H H5 := same_but2 sm4 b5 nsl0 nkl
      generalize hpre : st.frames.take (st.frames.length - s.many) = pre at fp
      have hKF6 := hKF5
      rw [fp] at hKF6
      have lk5 : kvs5.length = pre.length + 1 := by
        have z := hKF6.length
        rw [List.length_append] at z
        exact z
      have hv1 : kvs5[kvs5.length - 1]? = some (kvs5[kvs5.length - 1]'(by omega)) := List.getElem?_eq_getElem (by omega)
      obtain ⟨g, hg, h1⟩ := paired_at hKF6 hv1
      have eg : kvs5.length - 1 = pre.length := by omega
      rw [eg, List.getElem?_concat_length] at hg
      cases hg
      generalize kvs5[kvs5.length - 1]'(by omega) = v1 at hv1 h1
      refine ⟨_, rfl, .inl ⟨rfl, _, SqL.of hF5⟩, _, rfl, _, rfl, kl, kvs5, -1, v1, rfl, rfl, SqL.of hK5, atI_end hv1 (by omega), lf, _, _, rfl, rfl, hF5, ?_, ?_⟩
      · have z := hFF5.length
        rw [z, sizeLine_eq]
        omega
      · have b6 : But2 lf lf H5 (upd H5 lf (.lst (fvs ++ [v1]))) := But2.refl.putL
        have m6 := b6.sq (K := K) hF5 hF5
        refine ⟨st.put s.many f, kvs5, fvs ++ [v1], _, rfl, same_put sm5 nf0, run', put_ok ok okd.1 ef, ?_, by rw [upd_ne ne0]; exact hK5, frs_map m6 hKF5, upd_same, paired_snoc (frv_map m6 h1) (frs_map m6 hFF5)⟩
        show (st.fs ++ [f]).length = t + 1
        rw [List.length_append, cnt]
        rfl
    · rintro σ H1 ⟨st, kvs, fvs, y3, rfl, sm, run, ok, cnt, hK, hKF, hF, hFF⟩
      rw [List.take_of_length_le (by omega)] at run
      have e := run.symm.trans hrun
      cases e
      exact ⟨_, rfl, q H1 lf fvs sm hF hFF⟩
end
end Sm

set_option Elab.async false
set_option linter.all false
set_option maxRecDepth 100000
set_option maxHeartbeats 8000000
namespace Sm
open PySem PySem.Spec PyProof.Rows L2
/-! ### mathematics of terms put together -/
theorem lok_of {k : Int} {s : Stp} (h : SOk k s) : LOk k s ∧ Ordd s := by
  cases s with
  | emp => exact ⟨trivial, trivial⟩
  | join => exact ⟨trivial, trivial⟩
  | new i =>
    have h : (if inR k i = true then some (Stp.new i) else none) = some (Stp.new i) := h
    by_cases c : inR k i = true
    · exact ⟨c, trivial⟩
    · rw [if_neg c] at h; cases h
  | fgt i =>
    have h : (if inR k i = true then some (Stp.fgt i) else none) = some (Stp.fgt i) := h
    by_cases c : inR k i = true
    · exact ⟨c, trivial⟩
    · rw [if_neg c] at h; cases h
  | edge i j =>
    have h : (if (inR k i && (inR k j && decide (i < j))) = true then some (Stp.edge i j) else none) = some (Stp.edge i j) := h
    by_cases c : (inR k i && (inR k j && decide (i < j))) = true
    · rw [Bool.and_eq_true, Bool.and_eq_true, decide_eq_true_eq] at c
      exact ⟨⟨c.1, c.2.1⟩, c.2.2⟩
    · rw [if_neg c] at h; cases h
def putsF : List Stp → List Fr → Option (List Fr)
  | [], fs => some fs
  | s :: ss, fs => (putF s fs).bind fun fs' => putsF ss fs'
theorem putsF_app : ∀ (a b : List Stp) (fs : List Fr), putsF (a ++ b) fs = (putsF a fs).bind fun fs' => putsF b fs'
  | [], _, _ => rfl
  | x :: a, b, fs => by
    show (putF x fs).bind (fun fs' => putsF (a ++ b) fs') = ((putF x fs).bind fun fs' => putsF a fs').bind _
    cases putF x fs with
    | none => rfl
    | some fs' => exact putsF_app a b fs'
theorem puts_two {a b : List Stp} {fs gs hs : List Fr} (h1 : putsF a fs = some gs) (h2 : putsF b gs = some hs) : putsF (a ++ b) fs = some hs := by
  rw [putsF_app, h1]
  exact h2
theorem puts_one {s : Stp} {fs gs : List Fr} (h : putF s fs = some gs) : putsF [s] fs = some gs := by
  show (putF s fs).bind (fun fs' => some fs') = _
  rw [h]
  rfl
theorem puts_run {k : Int} (hk : k ≤ 12) : ∀ (ss : List Stp) (st st' : WSt), WOk st → (∀ s ∈ ss, SOk k s) → runS ss st = some st' → putsF ss st.frames = some st'.frames
  | [], _, _, _, _, e => by cases e; rfl
  | s :: ss, st, st', ok, h, e => by
    have e : (stepS s st).bind (fun st1 => runS ss st1) = some st' := e
    have hs := lok_of (h s List.mem_cons_self)
    have law := step_put ok hs.2
    cases es : stepS s st with
    | none => rw [es] at e; cases e
    | some st1 =>
      rw [es] at e law
      have law : some st1.frames = putF s st.frames := law
      show (putF s st.frames).bind (fun fs' => putsF ss fs') = _
      rw [← law]
      exact puts_run hk ss st1 st' (stepS_ok ok (lok_okk hk hs.1) es) (fun x hx => h x (List.mem_cons_of_mem _ hx)) e
theorem sp_nil {k : Int} : SP k [] [] := ⟨⟨w0, rfl, w0_ok, rfl⟩, (fun s hs => by cases hs), fun f hf => by cases hf⟩
theorem sp_steps {k : Int} (hk : k ≤ 12) : ∀ (zs : List Stp) {ss : List Stp} {fs fs' : List Fr}, SP k ss fs → (∀ s ∈ zs, LOk k s) → putsF zs fs = some fs' → SP k (ss ++ zs) fs'
  | [], ss, fs, fs', h, _, e => by cases e; rw [List.append_nil]; exact h
  | s :: zs, ss, fs, fs', h, hl, e => by
    have e : (putF s fs).bind (fun gs => putsF zs gs) = some fs' := e
    cases ep : putF s fs with
    | none => rw [ep] at e; cases e
    | some gs =>
      rw [ep] at e
      have z := sp_steps hk zs (sp_put hk h (hl s List.mem_cons_self) ep) (fun x hx => hl x (List.mem_cons_of_mem _ hx)) e
      rw [List.append_assoc] at z
      exact z
theorem sp_is {k : Int} (hk : k ≤ 12) {ss : List Stp} {fs : List Fr} (h : SP k ss fs) : putsF ss [] = some fs := by
  obtain ⟨st, h1, h2, h3⟩ := h.run
  have z := puts_run hk ss w0 st w0_ok h.sok h1
  rw [h3] at z
  exact z
theorem sp_lok {k : Int} {ss : List Stp} {fs : List Fr} (h : SP k ss fs) : ∀ s ∈ ss, LOk k s := fun s hs => (lok_of (h.sok s hs)).1
theorem putF_pre {s : Stp} {fs fs' : List Fr} (pre : List Fr) (h : putF s fs = some fs') : putF s (pre ++ fs) = some (pre ++ fs') := by
  unfold putF at h ⊢
  by_cases c : fs.length < s.many
  · rw [if_pos c] at h; cases h
  · rw [if_neg c] at h
    rw [List.length_append, if_neg (by omega)]
    have e1 : pre.length + fs.length - s.many = pre.length + (fs.length - s.many) := by omega
    rw [e1, List.drop_length_add_append, List.take_length_add_append]
    cases el : lframe s (fs.drop (fs.length - s.many)) with
    | none => rw [el] at h; cases h
    | some g =>
      rw [el] at h
      cases h
      show some (pre ++ fs.take (fs.length - s.many) ++ [g]) = _
      rw [List.append_assoc]
theorem puts_pre (pre : List Fr) : ∀ (ss : List Stp) {fs fs' : List Fr}, putsF ss fs = some fs' → putsF ss (pre ++ fs) = some (pre ++ fs')
  | [], fs, fs', e => by cases e; rfl
  | s :: ss, fs, fs', e => by
    have e : (putF s fs).bind (fun gs => putsF ss gs) = some fs' := e
    show (putF s (pre ++ fs)).bind (fun gs => putsF ss gs) = _
    cases ep : putF s fs with
    | none => rw [ep] at e; cases e
    | some gs =>
      rw [ep] at e
      rw [putF_pre pre ep]
      exact puts_pre pre ss e
/-- a right term is walked, and its last frame is the frame -/
theorem run_tip : ∀ (ss : List Stp) (st st' : WSt), Tip st → runS ss st = some st' → Tip st'
  | [], _, _, t, e => by cases e; exact t
  | s :: ss, st, st', t, e => by
    have e : (stepS s st).bind (fun st1 => runS ss st1) = some st' := e
    cases es : stepS s st with
    | none => rw [es] at e; cases e
    | some st1 =>
      rw [es] at e
      refine run_tip ss st1 st' ?_ e
      unfold stepS at es
      by_cases c : st.stk.length < s.many
      · rw [if_pos c] at es; cases es
      · rw [if_neg c] at es
        cases ef : frameAfter s (st.frs (st.top s.many)) with
        | none => rw [ef] at es; cases es
        | some f =>
          rw [ef] at es
          cases es
          exact tip_put _ _ _
theorem sp_all {k : Int} {ss : List Stp} {f : Fr} (h : SP k ss [f]) : ∃ st, runS ss w0 = some st ∧ WOk st ∧ walkF k (ss.map Stp.av) = .inr st ∧ lastF st = f := by
  obtain ⟨st, h1, h2, h3⟩ := h.run
  have hr := runS_W ss w0 st h.sok h1
  have l1 : st.stk.length = 1 := by
    have := frames_len st
    rw [h3] at this
    simpa using this.symm
  have tip := run_tip ss w0 st (.inl rfl) h1
  have z := tip_last h2 tip l1
  rw [h3] at z
  refine ⟨st, h1, h2, ?_, ?_⟩
  · unfold walkF
    rw [hr]
    exact if_pos l1
  · cases z
    rfl
theorem sp_due {k : Int} (h0 : 0 ≤ k) (h12 : k ≤ 12) {ss : List Stp} {f : Fr} (h : SP k ss [f]) (few : ss.length ≤ 20000) : ctF (some (ss.map Stp.av)) (.int k) = .inr f := by
  obtain ⟨st, _, _, hw, hl⟩ := sp_all h
  rw [asked_due h0 h12 (by rw [List.length_map]; exact few), hw]
  show (Sum.inr (lastF st) : Int ⊕ Fr) = _
  rw [hl]
theorem put_f1 {s : Stp} {f g : Fr} (one : s.many = 1) (e : lframe s [f] = some g) : putF s [f] = some [g] := by
  unfold putF
  rw [one]
  show (lframe s [f]).map _ = _
  rw [e]
  rfl
/-- all labels are forgotten -/
theorem puts_fgt : ∀ (l : List Int) (ps : List Pr), l.Nodup → (∀ q ∈ ps, q.1 ∈ l) → putsF (l.map Stp.fgt) [(l, ps)] = some [([], [])]
  | [], ps, _, h => by
    cases ps with
    | nil => rfl
    | cons q t => cases h q List.mem_cons_self
  | i :: l, ps, nd, h => by
    obtain ⟨ni, nd⟩ := List.nodup_cons.mp nd
    have e1 : (i :: l).filter (fun x => decide (x ≠ i)) = l := by
      rw [List.filter_cons_of_neg (by simp)]
      exact List.filter_eq_self.mpr fun x hx => decide_eq_true fun z => ni (z ▸ hx)
    have e : lframe (.fgt i) [(i :: l, ps)] = some (l, ps.filter fun q => decide (i ≠ q.1 ∧ i ≠ q.2)) := by
      show (if i ∈ i :: l then some ((i :: l).filter (fun x => decide (x ≠ i)), ps.filter fun q => decide (i ≠ q.1 ∧ i ≠ q.2)) else none) = _
      rw [if_pos List.mem_cons_self, e1]
    show (putF (.fgt i) [(i :: l, ps)]).bind (fun fs => putsF (l.map Stp.fgt) fs) = _
    rw [put_f1 rfl e]
    refine puts_fgt l _ nd fun q hq => ?_
    obtain ⟨h1, h2⟩ := List.mem_filter.mp hq
    have h2 := of_decide_eq_true h2
    rcases List.mem_cons.mp (h q h1) with z | z
    · exact absurd z.symm h2.1
    · exact z
/-- labels are given in ascending order -/
theorem puts_new : ∀ (l l0 : List Int), (l0 ++ l).Pairwise (· < ·) → putsF (l.map Stp.new) [(l0, [])] = some [(l0 ++ l, [])]
  | [], l0, _ => by rw [List.append_nil]; rfl
  | i :: l, l0, h => by
    have e0 : l0 ++ i :: l = (l0 ++ [i]) ++ l := by simp
    rw [e0] at h ⊢
    have h1 := (List.pairwise_append.mp h).1
    have ni : i ∉ l0 := fun z => by
      have := (List.pairwise_append.mp h1).2.2 i z i (List.mem_singleton.mpr rfl)
      omega
    have e : lframe (.new i) [(l0, [])] = some (l0 ++ [i], []) := by
      show (if i ∈ l0 then none else some (sI (l0 ++ [i]), [])) = _
      rw [if_neg ni, ← sI_eq (List.Perm.refl _) (List.Pairwise.imp (fun {a b} h => by omega) h1)]
    show (putF (.new i) [(l0, [])]).bind (fun fs => putsF (l.map Stp.new) fs) = _
    rw [put_f1 rfl e]
    exact puts_new l (l0 ++ [i]) h
theorem lex_srt {l : List Pr} (h : l.Pairwise lexlt) : l.Pairwise fun x y => SrtO.lexB y x = false := List.Pairwise.imp (fun {a b} h => by
  have x := SrtO.lexB_iff.mp (show SrtO.lexB a b = true from h)
  exact SrtO.lexB_no.mpr (by omega)) h
def otherS (l : List Int) : List Stp := [Stp.emp] ++ l.map Stp.new
theorem puts_other {l : List Int} (h : l.Pairwise (· < ·)) : putsF (otherS l) [] = some [(l, [])] :=
  puts_two (puts_one (s := .emp) (gs := [([], [])]) rfl) (puts_new l [] h)
theorem put_join1 {f : Fr} (ok : FrOk f) : putF .join [f, (f.1, [])] = some [f] := by
  have e : lframe .join [f, (f.1, [])] = some f := by
    show (if f.1 = f.1 ∧ ∀ q ∈ ([] : List Pr), q ∉ f.2 then some (f.1, sP (f.2 ++ [])) else none) = _
    rw [if_pos ⟨rfl, fun q hq => absurd hq List.not_mem_nil⟩, List.append_nil, ← sP_eq (List.Perm.refl _) (lex_srt ok.prs)]
  unfold putF
  show (lframe .join [f, (f.1, [])]).map _ = _
  rw [e]
  rfl
theorem put_join2 {f : Fr} (ok : FrOk f) : putF .join [(f.1, []), f] = some [f] := by
  have e : lframe .join [(f.1, []), f] = some f := by
    show (if f.1 = f.1 ∧ ∀ q ∈ f.2, q ∉ ([] : List Pr) then some (f.1, sP ([] ++ f.2)) else none) = _
    rw [if_pos ⟨rfl, fun q hq => List.not_mem_nil⟩, List.nil_append, ← sP_eq (List.Perm.refl _) (lex_srt ok.prs)]
  unfold putF
  show (lframe .join [(f.1, []), f]).map _ = _
  rw [e]
  rfl
theorem lok_lab {k : Int} {f : Fr} (h : FrK k f) {i : Int} (hi : i ∈ f.1) : inR k i = true := by
  have h1 := h.ok.vx i hi
  have h2 := h.le i hi
  unfold Vx at h1
  unfold inR
  rw [decide_eq_true h1.1, decide_eq_true (by omega)]
  rfl
theorem lab_lt {l : List Int} (h : l.Pairwise (· < ·)) : l.Nodup := List.Pairwise.imp (fun {a b} h e => by omega) h
theorem sp_ended {k : Int} (hk : k ≤ 12) {ss : List Stp} {f : Fr} (h : SP k ss [f]) : SP k (ss ++ f.1.map Stp.fgt) [([], [])] := by
  have hf := h.frk f (List.mem_singleton.mpr rfl)
  refine sp_steps hk _ h (fun s hs => ?_) (puts_fgt f.1 f.2 (lab_lt hf.ok.lab) fun q hq => (hf.ok.pin q hq).1)
  obtain ⟨i, hi, rfl⟩ := List.mem_map.mp hs
  exact lok_lab hf hi
theorem other_lok {k : Int} {f : Fr} (h : FrK k f) : ∀ s ∈ otherS f.1, LOk k s := fun s hs => by
  rcases List.mem_append.mp hs with z | z
  · rw [List.mem_singleton.mp z]; trivial
  · obtain ⟨i, hi, rfl⟩ := List.mem_map.mp z
    exact lok_lab h hi
theorem sp_both {k : Int} (hk : k ≤ 12) {ss : List Stp} {f : Fr} (h : SP k ss [f]) : SP k (ss ++ (otherS f.1 ++ [.join])) [f] := by
  have hf := h.frk f (List.mem_singleton.mpr rfl)
  refine sp_steps hk _ h (fun s hs => ?_) (puts_two (puts_pre [f] _ (puts_other hf.ok.lab)) (puts_one (put_join1 hf.ok)))
  rcases List.mem_append.mp hs with z | z
  · exact other_lok hf s z
  · rw [List.mem_singleton.mp z]; trivial
theorem sp_back {k : Int} (hk : k ≤ 12) {ss : List Stp} {f : Fr} (h : SP k ss [f]) : SP k (otherS f.1 ++ (ss ++ [.join])) [f] := by
  have hf := h.frk f (List.mem_singleton.mpr rfl)
  have h0 : SP k (otherS f.1) [(f.1, [])] := by
    have z := sp_steps hk (otherS f.1) sp_nil (other_lok hf) (puts_other hf.ok.lab)
    exact z
  refine sp_steps hk _ h0 (fun s hs => ?_) (puts_two (puts_pre [(f.1, [])] _ (sp_is hk h)) (puts_one (put_join2 hf.ok)))
  rcases List.mem_append.mp hs with z | z
  · exact sp_lok h s z
  · rw [List.mem_singleton.mp z]; trivial
/-! ### the term of many joins -/
def joinsS (n : Nat) : List Stp := [Stp.emp, .new 0] ++ (List.replicate n [Stp.emp, .new 0, .join]).flatten
theorem puts_joins : ∀ n : Nat, putsF (List.replicate n [Stp.emp, .new 0, .join]).flatten [([0], [])] = some [([0], [])]
  | 0 => rfl
  | n + 1 => by
    rw [List.replicate_succ, List.flatten_cons]
    exact puts_two (by decide +kernel) (puts_joins n)
theorem sp_joins {k : Int} (h0 : 0 ≤ k) (hk : k ≤ 12) (n : Nat) : SP k (joinsS n) [([0], [])] := by
  have i0 : inR k 0 = true := by
    unfold inR
    rw [decide_eq_true (by omega), decide_eq_true (by omega)]
    rfl
  have z := sp_steps hk (joinsS n) sp_nil (fun s hs => by
    rcases List.mem_append.mp hs with y | y
    · simp only [List.mem_cons, List.not_mem_nil, or_false] at y
      rcases y with rfl | rfl
      · trivial
      · exact i0
    · obtain ⟨l, hl, hs⟩ := List.mem_flatten.mp y
      rw [List.eq_of_mem_replicate hl] at hs
      simp only [List.mem_cons, List.not_mem_nil, or_false] at hs
      rcases hs with rfl | rfl | rfl
      · trivial
      · exact i0
      · trivial) (puts_two (by decide +kernel) (puts_joins n))
  exact z
theorem joins_len (n : Nat) : (joinsS n).length = 2 + n * 3 := by
  unfold joinsS
  rw [List.length_append, PyProof.Rows.lm_len_rep_flat]
  rfl
end Sm

set_option Elab.async false
set_option linter.all false
set_option maxRecDepth 100000
set_option maxHeartbeats 8000000
namespace Sm
open PySem PySem.Spec PyProof.Rows L2
/-! ### terms and lists of operands as data -/
def stD : Stp → PyData
  | .emp => .tuple [.str "empty"]
  | .new i => .tuple [.str "new", .int i]
  | .edge i j => .tuple [.str "edge", .int i, .int j]
  | .fgt i => .tuple [.str "forget", .int i]
  | .join => .tuple [.str "join"]
theorem StV.dp {K : PySem.W.Frag} {H : Hp} {v : V} {s : Stp} (h : StV K H v s) : Dp K H v (stD s) := by
  obtain ⟨a, rfl, h⟩ := h
  cases s with
  | emp => exact .tup h (.cons (.str _) .nil)
  | new i => exact .tup h (.cons (.str _) (.cons (.int _) .nil))
  | edge i j => exact .tup h (.cons (.str _) (.cons (.int _) (.cons (.int _) .nil)))
  | fgt i => exact .tup h (.cons (.str _) (.cons (.int _) .nil))
  | join => exact .tup h (.cons (.str _) .nil)
theorem sts_dp {K : PySem.W.Frag} {H : Hp} : ∀ {vs : List V} {ss : List Stp}, Paired (StV K H) vs ss → DpAll K H vs (ss.map stD)
  | _, _, .nil => .nil
  | _, _, .cons h t => .cons h.dp (sts_dp t)
def trD (ss : List Stp) : PyData := .tuple (ss.map stD)
theorem tr_dp {K : PySem.W.Frag} {H : Hp} {a : Addr} {vs : List V} {ss : List Stp} (h : SqT K H a vs) (p : Paired (StV K H) vs ss) : Dp K H (.ref a) (trD ss) := .tup h (sts_dp p)
theorem stD_lay (s : Stp) : (stD s).canLay0 = true ∧ (stD s).depth ≤ 4 := by
  have e1 : (PyData.str "empty").canLay0 = true := by decide +kernel
  have e2 : (PyData.str "new").canLay0 = true := by decide +kernel
  have e3 : (PyData.str "edge").canLay0 = true := by decide +kernel
  have e4 : (PyData.str "forget").canLay0 = true := by decide +kernel
  have e5 : (PyData.str "join").canLay0 = true := by decide +kernel
  cases s
  · constructor
    · simp only [stD, PyData.canLay0, PyData.canLayAll0, Bool.and_eq_true, and_true]; exact e1
    · simp [stD, PyData.depth, PyData.depthAll]
  · constructor
    · simp only [stD, PyData.canLay0, PyData.canLayAll0, Bool.and_eq_true, and_true]; exact e2
    · simp [stD, PyData.depth, PyData.depthAll]
  · constructor
    · simp only [stD, PyData.canLay0, PyData.canLayAll0, Bool.and_eq_true, and_true]; exact e3
    · simp [stD, PyData.depth, PyData.depthAll]
  · constructor
    · simp only [stD, PyData.canLay0, PyData.canLayAll0, Bool.and_eq_true, and_true]; exact e4
    · simp [stD, PyData.depth, PyData.depthAll]
  · constructor
    · simp only [stD, PyData.canLay0, PyData.canLayAll0, Bool.and_eq_true, and_true]; exact e5
    · simp [stD, PyData.depth, PyData.depthAll]
theorem lay_all {α : Type} (g : α → PyData) (n : Nat) (h : ∀ x, (g x).canLay0 = true ∧ (g x).depth ≤ n) : ∀ l : List α, PyData.canLayAll0 (l.map g) = true ∧ PyData.depthAll (l.map g) ≤ n
  | [] => by simp [PyData.canLayAll0, PyData.depthAll]
  | x :: l => by
    obtain ⟨h1, h2⟩ := lay_all g n h l
    obtain ⟨h3, h4⟩ := h x
    simp only [List.map_cons, PyData.canLayAll0, PyData.depthAll, h1, h3]
    exact ⟨rfl, by omega⟩
theorem trD_sh (ss : List Stp) : SeqAt.shaped (trD ss) = true := by
  obtain ⟨h1, h2⟩ := lay_all stD 4 stD_lay ss
  unfold SeqAt.shaped trD
  rw [show (PyData.tuple (ss.map stD)).canLay0 = true by simp only [PyData.canLay0]; exact h1, decide_eq_true (show (PyData.tuple (ss.map stD)).depth ≤ 64 by simp only [PyData.depth]; omega)]
  rfl
theorem trD_eqv (ss : List Stp) : PyData.eqv (trD ss) (trD ss) = true := SeqAt.eqv_refl _ (by
  have h := trD_sh ss
  unfold SeqAt.shaped at h
  exact (Bool.and_eq_true_iff.mp h).1)
def ixD (l : List Nat) : PyData := .tuple (l.map fun (i : Nat) => PyData.int i)
def tkD (tk : List (List Nat)) : PyData := .list (tk.map ixD)
theorem dp_nats {K : PySem.W.Frag} {H : Hp} : ∀ l : List Nat, DpAll K H (l.map fun (i : Nat) => V.int i) (l.map fun (i : Nat) => PyData.int i)
  | [] => .nil
  | _ :: t => .cons (.int _) (dp_nats t)
theorem ixv_dp {K : PySem.W.Frag} {H : Hp} : ∀ {ts : List Addr} {tk : List (List Nat)}, IxV K H ts tk → DpAll K H (ts.map V.ref) (tk.map ixD)
  | _, _, .nil => .nil
  | _, _, .cons h t => .cons (.tup h (dp_nats _)) (ixv_dp t)
theorem ixD_lay (l : List Nat) : (ixD l).canLay0 = true ∧ (ixD l).depth ≤ 8 := by
  obtain ⟨h1, h2⟩ := lay_all (fun (i : Nat) => PyData.int i) 4 (fun i => by simp [PyData.canLay0, PyData.depth]) l
  unfold ixD
  exact ⟨by simp only [PyData.canLay0]; exact h1, by simp only [PyData.depth]; omega⟩
theorem tkD_sh (tk : List (List Nat)) : SeqAt.shaped (tkD tk) = true := by
  obtain ⟨h1, h2⟩ := lay_all ixD 8 ixD_lay tk
  unfold SeqAt.shaped tkD
  rw [show (PyData.list (tk.map ixD)).canLay0 = true by simp only [PyData.canLay0]; exact h1, decide_eq_true (show (PyData.list (tk.map ixD)).depth ≤ 64 by simp only [PyData.depth]; omega)]
  rfl
theorem tkD_eqv (tk : List (List Nat)) : PyData.eqv (tkD tk) (tkD tk) = true := SeqAt.eqv_refl _ (by
  have h := tkD_sh tk
  unfold SeqAt.shaped at h
  exact (Bool.and_eq_true_iff.mp h).1)
/-- a tuple of steps is kept by a name, as the last statement of a block -/
theorem asg_sx1 {K : PySem.W.Frag} {σ : L2.St} {t : TE} {ss : List Stp} {i : Nat} {D : Ends} {H : Hp} (h : Sx K t σ ss) (q : ∀ H' r (vs : List V), Same H H' → SqT K H' r vs → Paired (StV K H') vs ss → D.nx (σ.set i (some (.ref r))) H') : tAsg t (gName i) D σ H := h H _ fun H' r vs s h1 h2 => q H' r vs s h1 h2
theorem sx_joins {K : PySem.W.Frag} {σ : L2.St} : Sx K (tOp (rCatA K) (tTup (tCons (tTup (tCons (tC (.str "empty")) tNil)) (tCons (tTup (tCons (tC (.str "new")) (tCons (tC (.int 0)) tNil))) tNil)))
    (tOp (rRepB K) (tTup (tCons (tTup (tCons (tC (.str "empty")) tNil)) (tCons (tTup (tCons (tC (.str "new")) (tCons (tC (.int 0)) tNil))) (tCons (tTup (tCons (tC (.str "join")) tNil)) tNil)))) (tC (.int (130 : Nat))))) σ (joinsS 130) := by
  have a := sx_tup (K := K) (σ := σ) (ss_cons (se_tup (s := .emp) (fk_cons fk_nil)) (ss_cons (se_tup (s := .new 0) (fk_cons (fk_cons fk_nil))) ss_nil)) (by decide)
  have b := sx_rep (n := 130) (sx_tup (K := K) (σ := σ) (ss_cons (se_tup (s := .emp) (fk_cons fk_nil)) (ss_cons (se_tup (s := .new 0) (fk_cons (fk_cons fk_nil))) (ss_cons (se_tup (s := .join) (fk_cons fk_nil)) ss_nil))) (by decide)) (by decide) (by omega) (by show 130 * 3 ≤ 1000000; omega)
  have l : (List.replicate 130 [Stp.emp, .new 0, .join]).flatten.length = 130 * 3 := by rw [PyProof.Rows.lm_len_rep_flat]; rfl
  exact sx_cat a b (by rw [l]; show 2 + 130 * 3 ≤ 30000; omega)
/-- the list of steps over the labels -/
theorem lc_lab {K : PySem.W.Frag} {x0 x1 x2 x3 x4 x6 x7 x8 x9 x10 x11 : Option V} {H : Hp} {w : Str} {mk : Int → Stp} (hmk : ∀ lb, (mk lb).vals = [.str w, .int lb]) {ta : Addr} {labs : List Int} (ht : SqT K H ta (labs.map V.int)) (few : labs.length ≤ 100) (Q : VK)
    (q : ∀ H' D (ys : List V), Same H H' → H' D = some (.lst ys) → Paired (StV K H') ys (labs.map mk) → Q (.ref D) H') :
    tLc (iTup K (tVar 5)) (gName 10) tYes (tTup (tCons (tC (.str w)) (tCons (tVar 10) tNil))) [10] [x0, x1, x2, x3, x4, some (.ref ta), x6, x7, x8, x9, x10, x11] H Q := by
  refine ⟨_, rfl, ta, rfl, ⟨_, ht⟩, fun D nD => ?_⟩
  refine lc_tup (K := K) (a := ta) (xs := labs.map V.int) (fun t H' => Same H H' ∧ ∃ ys : List V, H' D = some (.lst ys) ∧ Paired (StV K H') ys ((labs.take t).map mk)) ⟨same_upd nD, [], upd_same, .nil⟩ (fun t H' _ h => same_sqT h.1 ht) ?_ ?_
  · rintro i x H' hx ⟨sm, ys, hD, hp⟩
    rw [List.getElem?_map] at hx
    cases ea : labs[i]? with
    | none => rw [ea] at hx; cases hx
    | some lb =>
      rw [ea] at hx
      cases hx
      have lys : ys.length = ((labs.take i).map mk).length := hp.length
      rw [List.length_map, List.length_take] at lys
      refine ⟨rfl, _, rfl, few_size (by simp), fun p np => ?_⟩
      have s2 := same_upd (o := .tup [V.str w, V.int lb]) np
      refine ⟨_, s2 _ _ hD, few_size (by omega), same_put (sm.trans s2) nD, ys ++ [.ref p], upd_same, ?_⟩
      have bt : But2 D D H' (upd (upd H' p (.tup [V.str w, V.int lb])) D (.lst (ys ++ [.ref p]))) := (But2.of s2).putL
      rw [L2.take_next ea, List.map_append]
      have pD : p ≠ D := fun z => by rw [z, hD] at np; cases np
      exact paired_app (.cons ⟨p, rfl, SqT.of (by rw [upd_ne pD, upd_same, hmk])⟩ .nil) (stv_map (bt.sq hD hD) hp)
  · rintro H' ⟨sm, ys, hD, hp⟩
    rw [List.length_map, List.take_length] at hp
    exact q H' D ys sm hD hp
/-- the tuple of it -/
theorem tup_lab {K : PySem.W.Frag} {x0 x1 x2 x3 x4 x6 x7 x8 x9 x10 x11 : Option V} {H : Hp} {w : Str} {mk : Int → Stp} (hmk : ∀ lb, (mk lb).vals = [.str w, .int lb]) {ta : Addr} {labs : List Int} (ht : SqT K H ta (labs.map V.int)) (few : labs.length ≤ 100) (Q : VK)
    (q : ∀ H' t (ys : List V), Same H H' → SqT K H' t ys → Paired (StV K H') ys (labs.map mk) → Q (.ref t) H') :
    tCB (rTupOf K) (tCons (tLc (iTup K (tVar 5)) (gName 10) tYes (tTup (tCons (tC (.str w)) (tCons (tVar 10) tNil))) [10]) tNil) [x0, x1, x2, x3, x4, some (.ref ta), x6, x7, x8, x9, x10, x11] H Q := by
  unfold tCB tCons tNil
  exact lc_lab hmk ht few _ fun H8 D8 ys8 s8 hD8 hY8 => ⟨D8, ys8, rfl, .inl ⟨SqL.of hD8, fun t8 nt8 => q _ t8 ys8 (s8.trans (same_upd nt8)) (SqT.of upd_same) (sts_same (same_upd nt8) hY8)⟩⟩
end Sm

set_option Elab.async false
set_option linter.all false
set_option maxRecDepth 100000
set_option maxHeartbeats 8000000
namespace Sm
open PySem PySem.Spec PyProof.Rows L2
abbrev sLaw : Stmt := topS 36
abbrev lawN : List Str := ["script", "number", "k", "term", "frames", "labels", "told", "most", "other", "both", "label", "frame"]
def spLaw (K : PySem.W.Frag) : Sp := fun vs H Q _ => ∃ (a : Addr) (ns : List Int), vs = [.ref a] ∧ SqL K H a (ns.map V.int) ∧ ∀ H', Q (.bl true) H'
section
variable {P : Program} {w : World} {K : PySem.W.Frag} {mg : Str → Option Value} {base : Heap}
theorem scLaw : FnScope lawN ["script"] (defScope sLaw) := ⟨rfl, rfl, rfl, by decide +kernel, rfl, by decide +kernel, by decide +kernel⟩
theorem ok_law {f CT fC fT fF fO fP fE fH fM fI fJ : Addr} {fd fdC fdT fdF fdO fdP fdE fdH fdM fdI fdJ : FuncData} (F : Fun K "law" "law" sLaw f fd) (TX : TxA mg) (ml : mg "list" = none) (mx : mg "max" = none)
    (GC : FnOk P w K mg base CX0 1 fC fdC ["script", "k"] (spCel K)) (kC : PySem.W.keepIn K (.ref fC) = true) (bC : Binds K fdC ["script", "k"] []) (gC : mg "_law_cell" = some (.ref fC))
    (GT : FnOk P w K mg base CX0 4 fT fdT ["cell", "k", "most"] (spTm K)) (kT : PySem.W.keepIn K (.ref fT) = true) (bT : Binds K fdT ["cell", "k", "most"] []) (gT : mg "_law_term" = some (.ref fT))
    (GF : FnOk P w K mg base CX0 3 fF fdF ["term"] (spLfs K)) (kF : PySem.W.keepIn K (.ref fF) = true) (bF : Binds K fdF ["term"] []) (gF : mg "_law_frames" = some (.ref fF))
    (GO : FnOk P w K mg base CX0 6 fO fdO ["term", "k"] (spOpd K)) (kO : PySem.W.keepIn K (.ref fO) = true) (bO : Binds K fdO ["term", "k"] []) (gO : mg "operands" = some (.ref fO))
    (GP : FnOk P w K mg base CX0 1 fP fdP ["term"] (spLop K)) (kP : PySem.W.keepIn K (.ref fP) = true) (bP : Binds K fdP ["term"] []) (gP : mg "_law_operands" = some (.ref fP))
    (GE : FnOk P w K mg base CX0 6 fE fdE ["term", "k"] (spEnd K)) (kE : PySem.W.keepIn K (.ref fE) = true) (bE : Binds K fdE ["term", "k"] []) (gE : mg "ended" = some (.ref fE))
    (GH : FnOk P w K mg base (L2N.CX P w) 6 fH fdH ["term", "k"] (spCt K CT)) (kH : PySem.W.keepIn K (.ref fH) = true) (bH : Binds K fdH ["term", "k"] []) (gH : mg "check_term" = some (.ref fH))
    (GM : FnOk P w K mg base CX0 6 fM fdM ["term", "k"] (spMst K)) (kM : PySem.W.keepIn K (.ref fM) = true) (bM : Binds K fdM ["term", "k"] []) (gM : mg "most_labels" = some (.ref fM))
    (GI : FnOk P w K mg base CX0 1 fI fdI ["actual"] spIsG) (kI : PySem.W.keepIn K (.ref fI) = true) (bI : Binds K fdI ["actual"] []) (gI : mg "_law_is_integer" = some (.ref fI))
    (GJ : FnOk P w K mg base CX0 1 fJ fdJ ["first", "second"] (spJnd K)) (kJ : PySem.W.keepIn K (.ref fJ) = true) (bJ : Binds K fdJ ["first", "second"] []) (gJ : mg "joined" = some (.ref fJ)) :
    FnOk P w K mg base CX0 7 f fd ["script"] (spLaw K) := by
  refine F.ok scLaw (fun vs H Q E h => ?_) (fun cdv A outer s H vs Q E hr h => ?_)
  · obtain ⟨a, ns, rfl, _⟩ := h
    rfl
  · obtain ⟨a, ns, rfl, hS, q⟩ := h
    have hr1 : Room 1 _ := hr.mono (by decide)
    have hr3 : Room 3 _ := hr.mono (by decide)
    have hr4 : Room 4 _ := hr.mono (by decide)
    have hr6 : Room 6 _ := hr.mono (by decide)
    have hu : _ + 64 < cLine := hr.units
    refine ⟨_, (pss_cons (ps_set (i := 1) scLaw.nd rfl (.inl rfl) (pe_op op_mod (pe_callTy call_int1 (by rfl) TX.int (by decide +kernel) (pa_cons (pe_call GC hr1 (by rfl) gC kC bC .nil pass0 (pa_cons (pv 0) (pa_cons pe_int pa_nil))) pa_nil)) pe_int))
      (pss_cons (ps_set (i := 2) scLaw.nd rfl (.inl rfl) (pe_ix ix_list (pe_lst (pa_cons (pe_op op_mod (pv 1) pe_int) (pa_cons (pe_op op_add pe_int (pe_op op_mod (pe_op op_fdiv (pv 1) pe_int) pe_int)) pa_nil))) (pe_callTy call_int1 (by rfl) TX.int (by decide +kernel) (pa_cons (pe_cmpR op_eq (pe_op op_mod (pe_op op_fdiv (pv 1) pe_int) pe_int) pe_int (nomark _)) pa_nil)) (fun _ _ => rfl)))
      (pss_cons (ps_set (i := 3) scLaw.nd rfl (.inl rfl) (pe_call GT hr4 (by rfl) gT kT bT .nil pass0 (pa_cons (pe_call GC hr1 (by rfl) gC kC bC .nil pass0 (pa_cons (pv 0) (pa_cons pe_int pa_nil))) (pa_cons (pv 2) (pa_cons pe_int pa_nil)))))
      (C8.pss_cut (ps_if (pt_cmpR op_eq (pe_op op_mod (pe_op op_fdiv (pv 1) pe_int) pe_int) pe_int (nomark _)) (pss_one (ps_set (i := 3) scLaw.nd rfl (.inl rfl) (pe_op op_catA (pe_tup (pa_cons (pe_tup (pa_cons pe_str pa_nil)) (pa_cons (pe_tup (pa_cons pe_str (pa_cons pe_int pa_nil))) pa_nil))) (pe_op op_repB (pe_tup (pa_cons (pe_tup (pa_cons pe_str pa_nil)) (pa_cons (pe_tup (pa_cons pe_str (pa_cons pe_int pa_nil))) (pa_cons (pe_tup (pa_cons pe_str pa_nil)) pa_nil)))) pe_int)))) pss_nil)
      (pss_cons (ps_set (i := 4) scLaw.nd rfl (.inl rfl) (pe_call GF hr3 (by rfl) gF kF bF .nil pass0 (pa_cons (pv 3) pa_nil)))
      (pss_cons (ps_set (i := 5) scLaw.nd rfl (.inl rfl) (pe_ix ix_tup (pe_ix ix_list (pv 4) (pe_un un_neg pe_int) (fun _ _ => rfl)) pe_int (fun _ _ => rfl)))
      (pss_cons (ps_set (i := 6) scLaw.nd rfl (.inl rfl) (pe_call GO hr6 (by rfl) gO kO bO .nil pass0 (pa_cons (pv 3) (pa_cons (pv 2) pa_nil))))
      (C8.pss_cut (ps_if (PW.pt (pw_or (pt_not (pt_val (pe_callB call_isi (by rfl) TX.isi (by decide +kernel) (pa_cons (pv 6) (pa_cons (pe_bltn (v := .ty "list") (by rfl) ml (by decide +kernel) rfl) pa_nil))))) (pw_or1 (pt_cmpR (op_neD hu) (pv 6) (pe_call GP hr1 (by rfl) gP kP bP .nil pass0 (pa_cons (pv 3) pa_nil)) (nomark _))))) (pss_one (ps_ret pe_bl)) pss_nil)
      (C8.pss_cut (ps_if (PW.pt (pw_or (pt_cmpR (op_neD hu) (pe_call GE hr6 (by rfl) gE kE bE .nil pass0 (pa_cons (pv 3) (pa_cons (pv 2) pa_nil))) (pe_op op_catA (pv 3) (pe_callTy call_tuple_of (by rfl) TX.tuple (by decide +kernel) (pa_cons (pe_lc (own := [("label", 10)]) (g := gName 10) (by rfl) scLaw.nd (pi_tup (pv 5)) (blkOk_by (own := [("label", 10)]) (N := lawN) (sc := defScope sLaw) (by decide +kernel)) (fun _ _ _ _ _ => pg_name (i := 10) scLaw.nd rfl (Or.inl rfl)) (fun _ _ _ _ _ => pts_nil) (fun _ _ _ _ _ => (pe_tup (pa_cons pe_str (pa_cons (pv 10) pa_nil))))) pa_nil))) (nomark _)) (pw_or1 (pt_cmpR (op_neD hu) (pe_call GH hr (by rfl) gH kH bH .nil (pass_anyN 12 rfl takes0N) (pa_cons (pe_call GE hr6 (by rfl) gE kE bE .nil pass0 (pa_cons (pv 3) (pa_cons (pv 2) pa_nil))) (pa_cons (pv 2) pa_nil))) (pe_tup (pa_cons (pe_tup pa_nil) (pa_cons (pe_tup pa_nil) pa_nil))) (nomark _))))) (pss_one (ps_ret pe_bl)) pss_nil)
      (pss_cons (ps_set (i := 7) scLaw.nd rfl (.inl rfl) (pe_call GM hr6 (by rfl) gM kM bM .nil pass0 (pa_cons (pv 3) (pa_cons (pv 2) pa_nil))))
      (C8.pss_cut (ps_if (PW.pt (pw_or (pt_not (pt_val (pe_call GI hr1 (by rfl) gI kI bI .nil pass0 (pa_cons (pv 7) pa_nil)))) (pw_or1 (pt_cmpR op_ne (pv 7) (pe_callB (cr_max rfl) (by rfl) mx (by decide +kernel) (pa_cons (pe_lc (own := [("frame", 11)]) (g := gName 11) (by rfl) scLaw.nd (pi_list (pv 4)) (blkOk_by (own := [("frame", 11)]) (N := lawN) (sc := defScope sLaw) (by decide +kernel)) (fun _ _ _ _ _ => pg_name (i := 11) scLaw.nd rfl (Or.inl rfl)) (fun _ _ _ _ _ => pts_nil) (fun _ _ _ _ _ => pe_callB (len_at (K := K) rfl) (by rfl) TX.len PySem.boot_len (pa_cons (pe_ix (ixTup_at (K := K) rfl) (pv 11) pe_int (fun _ _ => rfl)) pa_nil))) pa_nil)) (nomark _))))) (pss_one (ps_ret pe_bl)) pss_nil)
      (pss_cons (ps_set (i := 8) scLaw.nd rfl (.inl rfl) (pe_op op_catA (pe_tup (pa_cons (pe_tup (pa_cons pe_str pa_nil)) pa_nil)) (pe_callTy call_tuple_of (by rfl) TX.tuple (by decide +kernel) (pa_cons (pe_lc (own := [("label", 10)]) (g := gName 10) (by rfl) scLaw.nd (pi_tup (pv 5)) (blkOk_by (own := [("label", 10)]) (N := lawN) (sc := defScope sLaw) (by decide +kernel)) (fun _ _ _ _ _ => pg_name (i := 10) scLaw.nd rfl (Or.inl rfl)) (fun _ _ _ _ _ => pts_nil) (fun _ _ _ _ _ => (pe_tup (pa_cons pe_str (pa_cons (pv 10) pa_nil))))) pa_nil))))
      (pss_cons (ps_set (i := 9) scLaw.nd rfl (.inl rfl) (pe_call GJ hr1 (by rfl) gJ kJ bJ .nil pass0 (pa_cons (pv 3) (pa_cons (pv 8) pa_nil))))
      (pss_one (ps_ret (pe_and (pe_cmpR (op_eqD hu) (pv 9) (pe_op op_catA (pe_op op_catA (pv 3) (pv 8)) (pe_tup (pa_cons (pe_tup (pa_cons pe_str pa_nil)) pa_nil))) (nomark _)) (pe_and (pe_cmpR (op_eqD hu) (pe_call GH hr (by rfl) gH kH bH .nil (pass_anyN 12 rfl takes0N) (pa_cons (pv 9) (pa_cons (pv 2) pa_nil))) (pe_ix ix_list (pv 4) (pe_un un_neg pe_int) (fun _ _ => rfl)) (nomark _)) (pe_one (pe_cmpR (op_eqD hu) (pe_call GH hr (by rfl) gH kH bH .nil (pass_anyN 12 rfl takes0N) (pa_cons (pe_call GJ hr1 (by rfl) gJ kJ bJ .nil pass0 (pa_cons (pv 8) (pa_cons (pv 3) pa_nil))) (pa_cons (pv 2) pa_nil))) (pe_ix ix_list (pv 4) (pe_un un_neg pe_int) (fun _ _ => rfl)) (nomark _)))))))))))))))))))), ?_⟩
    refine ⟨_, rfl, a, ns, 0, rfl, hS, fun c0 => .inl ⟨_, rfl, _, _, rfl, rfl, (by decide : (0 : Int) < 90000), ?_⟩⟩
    have hN : 0 ≤ c0 % 90000 ∧ c0 % 90000 < 90000 := ⟨Int.emod_nonneg _ (by decide), Int.emod_lt_of_pos _ (by decide)⟩
    refine gname_eq (congrArg V.int (rfl : c0 % 90000 = c0 % 90000)) ?_
    generalize c0 % 90000 = N at hN ⊢
    refine ⟨_, rfl, _, _, rfl, rfl, (by decide : (0 : Int) < 5), _, rfl, _, _, rfl, rfl, (⟨by decide, by decide⟩ : CDiv _ 5), _, _, rfl, rfl, (by decide : (0 : Int) < 8), _, _, rfl, rfl, (by show 2 ≤ sizeLine; decide), fun l nl => ?_⟩
    refine ⟨_, rfl, _, _, rfl, rfl, (⟨by decide, by decide⟩ : CDiv _ 40), _, _, rfl, rfl, (by decide : (0 : Int) < 4), rfl, ?_⟩
    obtain ⟨kk, hk0, hk12, hkk⟩ : ∃ kk : Int, 0 ≤ kk ∧ kk ≤ 12 ∧ atI [V.int (N % 5), V.int (5 + N / 5 % 8)] (if decide (V.int (N / 40 % 4) = V.int 1) = true then 1 else 0) = some (.int kk) := by
      by_cases c : V.int (N / 40 % 4) = V.int 1
      · refine ⟨5 + N / 5 % 8, by omega, by omega, ?_⟩
        rw [if_pos (decide_eq_true c)]
        rfl
      · refine ⟨N % 5, by omega, by omega, ?_⟩
        rw [if_neg (by rw [decide_eq_false c]; exact Bool.false_ne_true)]
        rfl
    refine .inr ⟨_, rfl, l, _, _, _, rfl, rfl, SqL.of upd_same, hkk, ?_⟩
    have s1 : Same H (upd H l (.lst [V.int (N % 5), V.int (5 + N / 5 % 8)])) := same_upd nl
    have hS1 := s1.seq hS
    generalize (upd H l (.lst [V.int (N % 5), V.int (5 + N / 5 % 8)])) = H1 at s1 hS1 ⊢
    refine ⟨_, rfl, a, ns, 1, rfl, hS1, fun c1 => ⟨_, rfl, c1, kk, 28, rfl, hk0, hk12, by decide, fun H2 r ss f2 svs s2 hr2 hp2 hsp hlen => ?_⟩⟩
    refine ⟨fun σ H' => ∃ (r : Addr) (svs : List V) (ss : List Stp) (f : Fr), σ = [some (.ref a), some (.int N), some (.int kk), some (.ref r), none, none, none, none, none, none, none, none] ∧ SqT K H' r svs ∧ Paired (StV K H') svs ss ∧ SP kk ss [f] ∧ ss.length ≤ 9000, ?_, ?_⟩
    · refine ⟨_, rfl, _, _, rfl, rfl, ⟨by decide, by decide⟩, _, _, rfl, rfl, (by decide : (0 : Int) < 30), rfl, _, rfl, ?_⟩
      refine ite2 (fun _ => ?_) (fun _ => ⟨r, svs, ss, f2, rfl, hr2, hp2, hsp, hlen⟩)
      refine asg_sx1 sx_joins fun H3 r3 vs3 s3 h3 p3 => ?_
      exact ⟨r3, vs3, _, _, rfl, h3, p3, sp_joins hk0 hk12 130, by rw [joins_len]; decide⟩
    clear hr2 hp2 hsp hlen
    clear s2 f2 svs ss r
    rintro σ H3 ⟨r, svs, ss, f, rfl, hT3, hP3, hsp, hlen⟩
    obtain ⟨st, hrun, wok, hwalk, hlast⟩ := sp_all hsp
    have hff := hsp.frk f (List.mem_singleton.mpr rfl)
    have len3 : svs.length = ss.length := hP3.length
    have oks : ∀ s ∈ ss, s.okk ∧ Ordd s := fun s hs => ⟨lok_okk hk12 (sp_lok hsp s hs), (lok_of (hsp.sok s hs)).2⟩
    have pos := walk_pos hwalk wok
    refine ⟨_, rfl, r, svs, ss, st, rfl, hT3, hP3, by omega, oks, hrun, fun H4 lf fvs s4 hF4 hFF4 => ?_⟩
    have lfv : fvs.length = st.fs.length := hFF4.length
    have hl := lastF_eq pos
    rw [hlast] at hl
    obtain ⟨fv, hfv, fa, ta, pa, ps, rfl, hfa, hta, hpa, hps⟩ := paired_at2 hFF4 (i := st.fs.length - 1) (by omega)
    rw [← hl] at hta hps
    have hFV : FrV K H4 (.ref fa) f := ⟨fa, ta, pa, ps, rfl, hfa, hta, hpa, hps⟩
    refine ⟨_, rfl, _, rfl, lf, fvs, -1, .ref fa, rfl, rfl, SqL.of hF4, atI_end (by rw [lfv]; exact hfv) (by rw [lfv]; exact pos), fa, _, 0, .ref ta, rfl, rfl, hfa, rfl, ?_⟩
    have WK : ∀ {H'}, Same H3 H' → WkIn K H' r kk svs (ss.map Stp.av) st := fun s => ⟨same_sqT s hT3, any_sames s (sts_any hP3), by omega, hk0, hk12, hwalk⟩
    refine ⟨_, rfl, _, rfl, r, kk, svs, _, st, rfl, WK s4, fun H5 to ts s5 hO5 hI5 => ?_⟩
    refine ⟨fun σ H' => σ = [some (.ref a), some (.int N), some (.int kk), some (.ref r), some (.ref lf), some (.ref ta), some (.ref to), none, none, none, none, none] ∧ Same H5 H', ?_, ?_⟩
    · refine ⟨_, rfl, _, .ty "list", .type "list", .type "list", true, rfl, .ty "list", .base (.lst hO5), kit_ty (by decide +kernel), true, rfl, iteF ?_⟩
      refine ⟨_, rfl, _, rfl, r, svs, ss, st, rfl, same_sqT (s4.trans s5) hT3, sts_same (s4.trans s5) hP3, by omega, (fun s hs => (oks s hs).1), hrun, fun H6 t6 ts6 s6 hT6 hI6 => ?_⟩
      refine ⟨tkD st.tk, tkD st.tk, .lst (SqL.of (s6 _ _ hO5)) (ixv_dp (ixv_map (fun _ _ h => same_sqT s6 h) hI5)), .lst (SqL.of hT6) (ixv_dp hI6), tkD_sh _, tkD_sh _, _, rfl, ?_⟩
      rw [tkD_eqv]
      exact iteF ⟨rfl, s6⟩
    rintro σ H6 ⟨rfl, s6⟩
    have s36 := (s4.trans s5).trans s6
    have hT6 := same_sqT s36 hT3
    have hP6 := sts_same s36 hP3
    have hta6 := same_sqT (s5.trans s6) hta
    have hF6 := (s5.trans s6) _ _ hF4
    have hFF6 := frs_same (s5.trans s6) hFF4
    have WK6 : ∀ {H'}, Same H6 H' → WkIn K H' r kk svs (ss.map Stp.av) st := fun s => WK (s36.trans s)
    have few1 : f.1.length ≤ 100 := Nat.le_trans hff.ok.len1 (by decide)
    have spE := sp_ended hk12 hsp
    have lenE : (ss ++ f.1.map Stp.fgt).length ≤ 9100 := by rw [List.length_append, List.length_map]; omega
    refine ⟨fun σ H' => σ = [some (.ref a), some (.int N), some (.int kk), some (.ref r), some (.ref lf), some (.ref ta), some (.ref to), none, none, none, none, none] ∧ Same H6 H', ?_, ?_⟩
    · refine ⟨_, rfl, _, rfl, r, kk, svs, _, st, rfl, WK6 (Same.refl _), fun H7 e7 ys7 s7 hE7 hY7 => ?_⟩
      rw [hlast] at hY7
      refine ⟨_, rfl, tup_lab (K := K) (mk := Stp.fgt) (fun _ => rfl) (same_sqT s7 hta6) few1 _ fun H9 t8 ys8 s79 h9 hY8 => ?_⟩
      have ly8 : ys8.length = (f.1.map Stp.fgt).length := hY8.length
      rw [List.length_map] at ly8
      refine catA_q (same_sqT (s7.trans s79) hT6) h9 (by rw [sizeLine_eq]; omega) fun H10 r10 s10 h10 => ?_
      have s7a := s79.trans s10
      refine ⟨trD (ss ++ f.1.map Stp.fgt), trD (ss ++ f.1.map Stp.fgt), tr_dp (same_sqT s7a hE7) (paired_app (sts_same s7a hY7) (sts_same (s7.trans s7a) hP6)), tr_dp h10 (paired_app (sts_same s10 hY8) (sts_same (s7.trans s7a) hP6)), trD_sh _, trD_sh _, _, rfl, ?_⟩
      rw [trD_eqv]
      refine iteF ?_
      have s6a := s7.trans s7a
      refine ⟨_, rfl, _, rfl, r, kk, svs, _, st, rfl, WK6 s6a, fun H11 e11 ys11 s11 hE11 hY11 => ?_⟩
      rw [hlast] at hY11
      have pE : Paired (StV K H11) (svs ++ ys11) (ss ++ f.1.map Stp.fgt) := paired_app hY11 (sts_same (s6a.trans s11) hP6)
      have lE : (svs ++ ys11).length = (ss ++ f.1.map Stp.fgt).length := pE.length
      have due := sp_due hk0 hk12 spE (by omega)
      refine ⟨_, rfl, .ref e11, .int kk, some ((ss ++ f.1.map Stp.fgt).map Stp.av), rfl, .tup hE11 (sts_any pE) (by omega), .int kk, (fun i hi => by rw [due] at hi; cases hi), fun g hg okg H12 v12 s12 hv12 => ?_⟩
      rw [due] at hg
      cases hg
      refine ⟨few_size (by simp), fun p1 np1 => ⟨few_size (by simp), fun p2 np2 => ⟨few_size (by simp), fun p3 np3 => ?_⟩⟩⟩
      have t1 := same_upd (o := .tup []) np1
      have g1 : SqT K (upd H12 p1 (.tup [])) p1 [] := SqT.of upd_same
      generalize upd H12 p1 (.tup []) = H13 at np2 np3 t1 g1 ⊢
      have t2 := same_upd (o := .tup []) np2
      have g2 : SqT K (upd H13 p2 (.tup [])) p2 [] := SqT.of upd_same
      have g12 := same_sqT t2 g1
      generalize upd H13 p2 (.tup []) = H14 at np3 t2 g2 g12 ⊢
      have t3 := same_upd (o := .tup [V.ref p1, V.ref p2]) np3
      have g3 : SqT K (upd H14 p3 (.tup [V.ref p1, V.ref p2])) p3 [V.ref p1, V.ref p2] := SqT.of upd_same
      have g13 := same_sqT t3 g12
      have g23 := same_sqT t3 g2
      have t9 := (t1.trans t2).trans t3
      generalize upd H14 p3 (.tup [V.ref p1, V.ref p2]) = H15 at t3 g3 g13 g23 t9 ⊢
      refine ⟨outD (.inr ([], [])), outD (.inr ([], [])), (FrV.same t9 hv12).dp, .tup g3 (.cons (.tup g13 .nil) (.cons (.tup g23 .nil) .nil)), outD_shaped _, outD_shaped _, _, rfl, ?_⟩
      rw [outD_eqv]
      exact iteF ⟨rfl, ((s6a.trans s11).trans s12).trans t9⟩
    rintro σ H7 ⟨rfl, s7⟩
    refine ⟨_, rfl, _, rfl, r, kk, svs, _, st, rfl, WK6 s7, fun H8 m s8 hm1 hm2 => ?_⟩
    have s68 := s7.trans s8
    refine ⟨fun σ H' => σ = [some (.ref a), some (.int N), some (.int kk), some (.ref r), some (.ref lf), some (.ref ta), some (.ref to), some (.int m), none, none, none, none] ∧ Same H8 H', ?_, ?_⟩
    · refine ⟨_, rfl, .int m, rfl, .int m, _, rfl, iteF ?_⟩
      refine ⟨_, rfl, _, rfl, lf, rfl, ⟨_, SqL.of (s68 _ _ hF6)⟩, fun D nD => ?_⟩
      refine lc_list (K := K) (a := lf) (xs := fvs) (fun i H' => Same H8 H' ∧ H' D = some (.lst (((st.fs.map fun f => (f.1.length : Int)).take i).map V.int))) ⟨same_upd nD, upd_same⟩ (fun i H' _ h => SqL.of (h.1 _ _ (s68 _ _ hF6))) ?_ ?_
      · rintro i x H' hx ⟨sm, hD⟩
        obtain ⟨g, hgi, ga, gt, gp, gps, rfl, hga, hgt, hgp, hgs⟩ := paired_at (frs_same s68 hFF6) hx
        have dk : (st.fs.map fun f => (f.1.length : Int))[i]? = some (g.1.length : Int) := by rw [List.getElem?_map, hgi]; rfl
        have len1 : (g.1.map V.int).length = g.1.length := List.length_map ..
        have il : i < st.fs.length := (List.getElem?_eq_some_iff.mp hgi).1
        have cnt := walk_cnt hwalk
        rw [List.length_map] at cnt
        refine ⟨rfl, _, rfl, ga, _, 0, .ref gt, rfl, rfl, same_sqT sm hga, rfl, gt, _, rfl, .inr (same_sqT sm hgt), _, hD, ?_, same_put sm nD, ?_⟩
        · rw [List.length_map, List.length_take, List.length_map, sizeLine_eq]
          omega
        · rw [upd_same, L2.take_next dk, List.map_append, len1]
          rfl
      · rintro H' ⟨sm, hD⟩
        rw [lfv, ← List.length_map (f := fun f : Fr => (f.1.length : Int)), List.take_length] at hD
        refine ⟨D, _, rfl, SqL.of hD, ?_, fun m2 h1 h2 => ?_⟩
        · rw [List.length_map]
          exact pos
        have em : m = m2 := by
          have z1 := hm2 _ h1
          have z2 := h2 _ hm1
          omega
        subst em
        exact ⟨rfl, _, rfl, iteNS rfl ⟨rfl, sm⟩⟩
    rintro σ H9 ⟨rfl, s9⟩
    have s69 := s68.trans s9
    have s39 := s36.trans s69
    have hT9 := same_sqT s69 hT6
    have hP9 := sts_same s69 hP6
    have hta9 := same_sqT s69 hta6
    have s49 := ((s5.trans s6).trans s69)
    refine ⟨few_size (by simp), fun p1 np1 => ⟨few_size (by simp), fun p2 np2 => ?_⟩⟩
    have t1 := same_upd (o := .tup [V.str "empty"]) np1
    have g1 : StV K (upd H9 p1 (.tup [V.str "empty"])) (.ref p1) .emp := ⟨p1, rfl, SqT.of upd_same⟩
    generalize upd H9 p1 (.tup [V.str "empty"]) = H10 at np2 t1 g1 ⊢
    have t2 := same_upd (o := .tup [V.ref p1]) np2
    have g2 : SqT K (upd H10 p2 (.tup [V.ref p1])) p2 [V.ref p1] := SqT.of upd_same
    have g12 := g1.same t2
    have t12 := t1.trans t2
    generalize upd H10 p2 (.tup [V.ref p1]) = H11 at t2 g2 g12 t12 ⊢
    refine tup_lab (K := K) (mk := Stp.new) (fun _ => rfl) (same_sqT t12 hta9) few1 _ fun H12 t8 ys8 s12 h8 hY8 => ?_
    have ly8 : ys8.length = (f.1.map Stp.new).length := hY8.length
    rw [List.length_map] at ly8
    refine catA_q (same_sqT s12 g2) h8 (by rw [sizeLine_eq]; show 1 + _ ≤ _; omega) fun H13 o s13 hO => ?_
    have pO : Paired (StV K H13) ([V.ref p1] ++ ys8) (otherS f.1) := paired_app (sts_same s13 hY8) (.cons ((g12.same s12).same s13) .nil)
    have s9c := t12.trans (s12.trans s13)
    have hT13 := same_sqT s9c hT9
    have hP13 := sts_same s9c hP9
    have s4d := s49.trans s9c
    have lO : ([V.ref p1] ++ ys8).length ≤ 101 := by rw [List.length_append]; show 1 + _ ≤ _; omega
    have lOs : (otherS f.1).length ≤ 101 := by have z : _ = _ := pO.length; omega
    generalize [V.ref p1] ++ ys8 = ovs at hO pO lO
    refine ⟨_, rfl, _, rfl, r, o, svs, ovs, rfl, hT13, hO, by omega, by omega, fun H14 b vj s14 hB hj => ?_⟩
    have pB : Paired (StV K H14) (svs ++ (ovs ++ [vj])) (ss ++ (otherS f.1 ++ [Stp.join])) := paired_app (paired_app (.cons hj .nil) (sts_same s14 pO)) (sts_same s14 hP13)
    have lB : (ss ++ (otherS f.1 ++ [Stp.join])).length ≤ 9200 := by rw [List.length_append, List.length_append]; show _ + (_ + 1) ≤ _; omega
    have lBv : (svs ++ (ovs ++ [vj])).length = (ss ++ (otherS f.1 ++ [Stp.join])).length := pB.length
    refine ⟨_, rfl, _, rfl, _, rfl, catA_q (same_sqT s14 hT13) (same_sqT s14 hO) (by rw [sizeLine_eq]; omega) fun H15 c1 s15 hC1 => ?_⟩
    refine ⟨few_size (by simp), fun p3 np3 => ⟨few_size (by simp), fun p4 np4 => ?_⟩⟩
    have t3 := same_upd (o := .tup [V.str "join"]) np3
    have g3 : StV K (upd H15 p3 (.tup [V.str "join"])) (.ref p3) .join := ⟨p3, rfl, SqT.of upd_same⟩
    generalize upd H15 p3 (.tup [V.str "join"]) = H16 at np4 t3 g3 ⊢
    have t4 := same_upd (o := .tup [V.ref p3]) np4
    have g4 : SqT K (upd H16 p4 (.tup [V.ref p3])) p4 [V.ref p3] := SqT.of upd_same
    have g34 := g3.same t4
    have t34 := t3.trans t4
    generalize upd H16 p4 (.tup [V.ref p3]) = H17 at t4 g4 g34 t34 ⊢
    refine catA_q (same_sqT t34 hC1) g4 (by rw [sizeLine_eq, List.length_append]; show _ + 1 ≤ _; omega) fun H18 c2 s18 hC2 => ?_
    have s14h := (s15.trans t34).trans s18
    have pC : Paired (StV K H18) (svs ++ ovs ++ [V.ref p3]) (ss ++ otherS f.1 ++ [Stp.join]) := paired_app (.cons (g34.same s18) .nil) (paired_app (sts_same (s14.trans s14h) pO) (sts_same (s14.trans s14h) hP13))
    have eC : ss ++ otherS f.1 ++ [Stp.join] = ss ++ (otherS f.1 ++ [Stp.join]) := List.append_assoc ..
    rw [eC] at pC
    refine ⟨trD (ss ++ (otherS f.1 ++ [Stp.join])), trD (ss ++ (otherS f.1 ++ [Stp.join])), tr_dp (same_sqT s14h hB) (sts_same s14h pB), tr_dp hC2 pC, trD_sh _, trD_sh _, _, rfl, ?_⟩
    rw [trD_eqv]
    refine iteT ?_
    have due1 := sp_due hk0 hk12 (sp_both hk12 hsp) (by omega)
    refine ⟨_, rfl, _, rfl, .ref b, .int kk, some ((ss ++ (otherS f.1 ++ [Stp.join])).map Stp.av), rfl, .tup (same_sqT s14h hB) (sts_any (sts_same s14h pB)) (by omega), .int kk, (fun i hi => by rw [due1] at hi; cases hi), fun g hg okg H19 v19 s19 hv19 => ?_⟩
    rw [due1] at hg
    cases hg
    have s4j := ((s4d.trans s14).trans s14h).trans s19
    refine ⟨_, rfl, _, rfl, lf, fvs, -1, .ref fa, rfl, rfl, SqL.of (s4j _ _ hF4), atI_end (by rw [lfv]; exact hfv) (by rw [lfv]; exact pos), outD (.inr f), outD (.inr f), hv19.dp, (FrV.same s4j hFV).dp, outD_shaped _, outD_shaped _, _, rfl, ?_⟩
    rw [outD_eqv]
    refine iteT ?_
    have s13j := (s14.trans s14h).trans s19
    refine ⟨_, rfl, _, rfl, o, r, ovs, svs, rfl, same_sqT s13j hO, same_sqT s13j hT13, by omega, by omega, fun H20 b2 vj2 s20 hB2 hj2 => ?_⟩
    have pB2 : Paired (StV K H20) (ovs ++ (svs ++ [vj2])) (otherS f.1 ++ (ss ++ [Stp.join])) := paired_app (paired_app (.cons hj2 .nil) (sts_same (s13j.trans s20) hP13)) (sts_same (s13j.trans s20) pO)
    have lB2 : (otherS f.1 ++ (ss ++ [Stp.join])).length ≤ 9200 := by rw [List.length_append, List.length_append]; show _ + (_ + 1) ≤ _; omega
    have lB2v : (ovs ++ (svs ++ [vj2])).length = (otherS f.1 ++ (ss ++ [Stp.join])).length := pB2.length
    have due2 := sp_due hk0 hk12 (sp_back hk12 hsp) (by omega)
    refine ⟨_, rfl, .ref b2, .int kk, some ((otherS f.1 ++ (ss ++ [Stp.join])).map Stp.av), rfl, .tup hB2 (sts_any pB2) (by omega), .int kk, (fun i hi => by rw [due2] at hi; cases hi), fun g hg okg H21 v21 s21 hv21 => ?_⟩
    rw [due2] at hg
    cases hg
    have s4l := (s4j.trans s20).trans s21
    refine ⟨_, rfl, _, rfl, lf, fvs, -1, .ref fa, rfl, rfl, SqL.of (s4l _ _ hF4), atI_end (by rw [lfv]; exact hfv) (by rw [lfv]; exact pos), outD (.inr f), outD (.inr f), hv21.dp, (FrV.same s4l hFV).dp, outD_shaped _, outD_shaped _, ?_⟩
    rw [outD_eqv]
    exact q _

end
end Sm

set_option Elab.async false
set_option linter.all false
set_option maxRecDepth 100000
set_option maxHeartbeats 8000000
namespace Sm
open PySem PySem.Spec PyProof.Rows L2
theorem all_mk {l : PySem.W.OpenLaw} {w : World} {K : PySem.W.Frag} {h : Heap} {mg : Str → Option Value} {fa CT : Addr} {t_MOST_STEPS t_MOST_LABEL : Tok} (X : K.In h) (G : h.Ns mainGlobals mg) (hfa : mg "law" = some (.ref fa))
    {fCel : Addr} {odCel anCel : Option Addr} {slCel : Array (Option Value)} {ocCel kVCel dcCel pmCel cdCel ctCel : Value}
    {fMix : Addr} {odMix anMix : Option Addr} {slMix : Array (Option Value)} {ocMix kVMix dcMix pmMix cdMix ctMix : Value}
    {fDig : Addr} {odDig anDig : Option Addr} {slDig : Array (Option Value)} {ocDig kVDig dcDig pmDig cdDig ctDig : Value}
    {fLfr : Addr} {odLfr anLfr : Option Addr} {slLfr : Array (Option Value)} {ocLfr kVLfr dcLfr pmLfr cdLfr ctLfr : Value}
    {fPut : Addr} {odPut anPut : Option Addr} {slPut : Array (Option Value)} {ocPut kVPut dcPut pmPut cdPut ctPut : Value}
    {fPj : Addr} {odPj anPj : Option Addr} {slPj : Array (Option Value)} {ocPj kVPj dcPj pmPj cdPj ctPj : Value}
    {fTm : Addr} {odTm anTm : Option Addr} {slTm : Array (Option Value)} {ocTm kVTm dcTm pmTm cdTm ctTm : Value}
    {fLfs : Addr} {odLfs anLfs : Option Addr} {slLfs : Array (Option Value)} {ocLfs kVLfs dcLfs pmLfs cdLfs ctLfs : Value}
    {fNum : Addr} {odNum anNum : Option Addr} {slNum : Array (Option Value)} {ocNum kVNum dcNum pmNum cdNum ctNum : Value}
    {fVtx : Addr} {odVtx anVtx : Option Addr} {slVtx : Array (Option Value)} {ocVtx kVVtx dcVtx pmVtx cdVtx ctVtx : Value}
    {fEdg : Addr} {odEdg anEdg : Option Addr} {slEdg : Array (Option Value)} {ocEdg kVEdg dcEdg pmEdg cdEdg ctEdg : Value}
    {fStp : Addr} {odStp anStp : Option Addr} {slStp : Array (Option Value)} {ocStp kVStp dcStp pmStp cdStp ctStp : Value}
    {fGtk : Addr} {odGtk anGtk : Option Addr} {slGtk : Array (Option Value)} {ocGtk kVGtk dcGtk pmGtk cdGtk ctGtk : Value}
    {fJf : Addr} {odJf anJf : Option Addr} {slJf : Array (Option Value)} {ocJf kVJf dcJf pmJf cdJf ctJf : Value}
    {fFwl : Addr} {odFwl anFwl : Option Addr} {slFwl : Array (Option Value)} {ocFwl kVFwl dcFwl pmFwl cdFwl ctFwl : Value}
    {fFol : Addr} {odFol anFol : Option Addr} {slFol : Array (Option Value)} {ocFol kVFol dcFol pmFol cdFol ctFol : Value}
    {fFwp : Addr} {odFwp anFwp : Option Addr} {slFwp : Array (Option Value)} {ocFwp kVFwp dcFwp pmFwp cdFwp ctFwp : Value}
    {fFaf : Addr} {odFaf anFaf : Option Addr} {slFaf : Array (Option Value)} {ocFaf kVFaf dcFaf pmFaf cdFaf ctFaf : Value}
    {fWk : Addr} {odWk anWk : Option Addr} {slWk : Array (Option Value)} {ocWk kVWk dcWk pmWk cdWk ctWk : Value}
    {fOpd : Addr} {odOpd anOpd : Option Addr} {slOpd : Array (Option Value)} {ocOpd kVOpd dcOpd pmOpd cdOpd ctOpd : Value}
    {fLop : Addr} {odLop anLop : Option Addr} {slLop : Array (Option Value)} {ocLop kVLop dcLop pmLop cdLop ctLop : Value}
    {fEnd : Addr} {odEnd anEnd : Option Addr} {slEnd : Array (Option Value)} {ocEnd kVEnd dcEnd pmEnd cdEnd ctEnd : Value}
    {fCt : Addr} {odCt anCt : Option Addr} {slCt : Array (Option Value)} {ocCt kVCt dcCt pmCt cdCt ctCt : Value}
    {fMst : Addr} {odMst anMst : Option Addr} {slMst : Array (Option Value)} {ocMst kVMst dcMst pmMst cdMst ctMst : Value}
    {fIsi : Addr} {odIsi anIsi : Option Addr} {slIsi : Array (Option Value)} {ocIsi kVIsi dcIsi pmIsi cdIsi ctIsi : Value}
    {fJnd : Addr} {odJnd anJnd : Option Addr} {slJnd : Array (Option Value)} {ocJnd kVJnd dcJnd pmJnd cdJnd ctJnd : Value}
    {fLaw : Addr} {odLaw anLaw : Option Addr} {slLaw : Array (Option Value)} {ocLaw kVLaw dcLaw pmLaw cdLaw ctLaw : Value}
    {fBtI : Addr} {odBtI anBtI : Option Addr} {slBtI : Array (Option Value)} {ocBtI kVBtI dcBtI pmBtI cdBtI ctBtI : Value}
    (aCT : PySem.W.nsIn K mainGlobals "BadTerm" = some (some (.ref CT)))
    (aCel : PySem.W.nsIn K mainGlobals "_law_cell" = some (some (.ref fCel)))
    (aMix : PySem.W.nsIn K mainGlobals "_law_mixed" = some (some (.ref fMix)))
    (aDig : PySem.W.nsIn K mainGlobals "_law_digits" = some (some (.ref fDig)))
    (aLfr : PySem.W.nsIn K mainGlobals "_law_frame" = some (some (.ref fLfr)))
    (aPut : PySem.W.nsIn K mainGlobals "_law_put" = some (some (.ref fPut)))
    (aPj : PySem.W.nsIn K mainGlobals "_law_put_join" = some (some (.ref fPj)))
    (aTm : PySem.W.nsIn K mainGlobals "_law_term" = some (some (.ref fTm)))
    (aLfs : PySem.W.nsIn K mainGlobals "_law_frames" = some (some (.ref fLfs)))
    (aNum : PySem.W.nsIn K mainGlobals "is_number" = some (some (.ref fNum)))
    (aVtx : PySem.W.nsIn K mainGlobals "is_vertex" = some (some (.ref fVtx)))
    (aEdg : PySem.W.nsIn K mainGlobals "is_edge" = some (some (.ref fEdg)))
    (aStp : PySem.W.nsIn K mainGlobals "is_step" = some (some (.ref fStp)))
    (aGtk : PySem.W.nsIn K mainGlobals "graphs_taken" = some (some (.ref fGtk)))
    (aJf : PySem.W.nsIn K mainGlobals "joined_frame" = some (some (.ref fJf)))
    (aFwl : PySem.W.nsIn K mainGlobals "frame_with_label" = some (some (.ref fFwl)))
    (aFol : PySem.W.nsIn K mainGlobals "frame_without_label" = some (some (.ref fFol)))
    (aFwp : PySem.W.nsIn K mainGlobals "frame_with_pair" = some (some (.ref fFwp)))
    (aFaf : PySem.W.nsIn K mainGlobals "frame_after" = some (some (.ref fFaf)))
    (aWk : PySem.W.nsIn K mainGlobals "walk" = some (some (.ref fWk)))
    (aOpd : PySem.W.nsIn K mainGlobals "operands" = some (some (.ref fOpd)))
    (aLop : PySem.W.nsIn K mainGlobals "_law_operands" = some (some (.ref fLop)))
    (aEnd : PySem.W.nsIn K mainGlobals "ended" = some (some (.ref fEnd)))
    (aCt : PySem.W.nsIn K mainGlobals "check_term" = some (some (.ref fCt)))
    (aMst : PySem.W.nsIn K mainGlobals "most_labels" = some (some (.ref fMst)))
    (aIsi : PySem.W.nsIn K mainGlobals "_law_is_integer" = some (some (.ref fIsi)))
    (aJnd : PySem.W.nsIn K mainGlobals "joined" = some (some (.ref fJnd)))
    (aLaw : PySem.W.nsIn K mainGlobals "law" = some (some (.ref fLaw)))
    (aBtI : PySem.W.findIn K (.ref CT) "__init__" = some (some (.ref fBtI)))
    (iBtI : PySem.W.typeIn K (.ref fBtI) = some (.type "function"))
    (lCel : K.lookup fCel = some ⟨ocCel, odCel, .func (PySem.W.fnOf "_law_cell" "_law_cell" (defArgs sCel) (defBody sCel) (defScope sCel) .none kVCel dcCel pmCel anCel cdCel ctCel), slCel⟩)
    (cCel : PySem.W.codeIn K cdCel "_law_cell" = true)
    (kCel : PySem.W.keepIn K (.ref fCel) = true)
    (lMix : K.lookup fMix = some ⟨ocMix, odMix, .func (PySem.W.fnOf "_law_mixed" "_law_mixed" (defArgs sMix) (defBody sMix) (defScope sMix) .none kVMix dcMix pmMix anMix cdMix ctMix), slMix⟩)
    (cMix : PySem.W.codeIn K cdMix "_law_mixed" = true)
    (kMix : PySem.W.keepIn K (.ref fMix) = true)
    (lDig : K.lookup fDig = some ⟨ocDig, odDig, .func (PySem.W.fnOf "_law_digits" "_law_digits" (defArgs sDig) (defBody sDig) (defScope sDig) .none kVDig dcDig pmDig anDig cdDig ctDig), slDig⟩)
    (cDig : PySem.W.codeIn K cdDig "_law_digits" = true)
    (kDig : PySem.W.keepIn K (.ref fDig) = true)
    (lLfr : K.lookup fLfr = some ⟨ocLfr, odLfr, .func (PySem.W.fnOf "_law_frame" "_law_frame" (defArgs sLfr) (defBody sLfr) (defScope sLfr) .none kVLfr dcLfr pmLfr anLfr cdLfr ctLfr), slLfr⟩)
    (cLfr : PySem.W.codeIn K cdLfr "_law_frame" = true)
    (kLfr : PySem.W.keepIn K (.ref fLfr) = true)
    (lPut : K.lookup fPut = some ⟨ocPut, odPut, .func (PySem.W.fnOf "_law_put" "_law_put" (defArgs sPut) (defBody sPut) (defScope sPut) .none kVPut dcPut pmPut anPut cdPut ctPut), slPut⟩)
    (cPut : PySem.W.codeIn K cdPut "_law_put" = true)
    (kPut : PySem.W.keepIn K (.ref fPut) = true)
    (lPj : K.lookup fPj = some ⟨ocPj, odPj, .func (PySem.W.fnOf "_law_put_join" "_law_put_join" (defArgs sPj) (defBody sPj) (defScope sPj) .none kVPj dcPj pmPj anPj cdPj ctPj), slPj⟩)
    (cPj : PySem.W.codeIn K cdPj "_law_put_join" = true)
    (kPj : PySem.W.keepIn K (.ref fPj) = true)
    (lTm : K.lookup fTm = some ⟨ocTm, odTm, .func (PySem.W.fnOf "_law_term" "_law_term" (defArgs sTm) (defBody sTm) (defScope sTm) .none kVTm dcTm pmTm anTm cdTm ctTm), slTm⟩)
    (cTm : PySem.W.codeIn K cdTm "_law_term" = true)
    (kTm : PySem.W.keepIn K (.ref fTm) = true)
    (lLfs : K.lookup fLfs = some ⟨ocLfs, odLfs, .func (PySem.W.fnOf "_law_frames" "_law_frames" (defArgs sLfs) (defBody sLfs) (defScope sLfs) .none kVLfs dcLfs pmLfs anLfs cdLfs ctLfs), slLfs⟩)
    (cLfs : PySem.W.codeIn K cdLfs "_law_frames" = true)
    (kLfs : PySem.W.keepIn K (.ref fLfs) = true)
    (lNum : K.lookup fNum = some ⟨ocNum, odNum, .func (PySem.W.fnOf "is_number" "is_number" (defArgs sNum) (defBody sNum) (defScope sNum) .none kVNum dcNum pmNum anNum cdNum ctNum), slNum⟩)
    (cNum : PySem.W.codeIn K cdNum "is_number" = true)
    (kNum : PySem.W.keepIn K (.ref fNum) = true)
    (lVtx : K.lookup fVtx = some ⟨ocVtx, odVtx, .func (PySem.W.fnOf "is_vertex" "is_vertex" (defArgs sVtx) (defBody sVtx) (defScope sVtx) .none kVVtx dcVtx pmVtx anVtx cdVtx ctVtx), slVtx⟩)
    (cVtx : PySem.W.codeIn K cdVtx "is_vertex" = true)
    (kVtx : PySem.W.keepIn K (.ref fVtx) = true)
    (lEdg : K.lookup fEdg = some ⟨ocEdg, odEdg, .func (PySem.W.fnOf "is_edge" "is_edge" (defArgs sEdg) (defBody sEdg) (defScope sEdg) .none kVEdg dcEdg pmEdg anEdg cdEdg ctEdg), slEdg⟩)
    (cEdg : PySem.W.codeIn K cdEdg "is_edge" = true)
    (kEdg : PySem.W.keepIn K (.ref fEdg) = true)
    (lStp : K.lookup fStp = some ⟨ocStp, odStp, .func (PySem.W.fnOf "is_step" "is_step" (defArgs sStp) (defBody sStp) (defScope sStp) .none kVStp dcStp pmStp anStp cdStp ctStp), slStp⟩)
    (cStp : PySem.W.codeIn K cdStp "is_step" = true)
    (kStp : PySem.W.keepIn K (.ref fStp) = true)
    (lGtk : K.lookup fGtk = some ⟨ocGtk, odGtk, .func (PySem.W.fnOf "graphs_taken" "graphs_taken" (defArgs sGtk) (defBody sGtk) (defScope sGtk) .none kVGtk dcGtk pmGtk anGtk cdGtk ctGtk), slGtk⟩)
    (cGtk : PySem.W.codeIn K cdGtk "graphs_taken" = true)
    (kGtk : PySem.W.keepIn K (.ref fGtk) = true)
    (lJf : K.lookup fJf = some ⟨ocJf, odJf, .func (PySem.W.fnOf "joined_frame" "joined_frame" (defArgs sJf) (defBody sJf) (defScope sJf) .none kVJf dcJf pmJf anJf cdJf ctJf), slJf⟩)
    (cJf : PySem.W.codeIn K cdJf "joined_frame" = true)
    (kJf : PySem.W.keepIn K (.ref fJf) = true)
    (lFwl : K.lookup fFwl = some ⟨ocFwl, odFwl, .func (PySem.W.fnOf "frame_with_label" "frame_with_label" (defArgs sFwl) (defBody sFwl) (defScope sFwl) .none kVFwl dcFwl pmFwl anFwl cdFwl ctFwl), slFwl⟩)
    (cFwl : PySem.W.codeIn K cdFwl "frame_with_label" = true)
    (kFwl : PySem.W.keepIn K (.ref fFwl) = true)
    (lFol : K.lookup fFol = some ⟨ocFol, odFol, .func (PySem.W.fnOf "frame_without_label" "frame_without_label" (defArgs sFol) (defBody sFol) (defScope sFol) .none kVFol dcFol pmFol anFol cdFol ctFol), slFol⟩)
    (cFol : PySem.W.codeIn K cdFol "frame_without_label" = true)
    (kFol : PySem.W.keepIn K (.ref fFol) = true)
    (lFwp : K.lookup fFwp = some ⟨ocFwp, odFwp, .func (PySem.W.fnOf "frame_with_pair" "frame_with_pair" (defArgs sFwp) (defBody sFwp) (defScope sFwp) .none kVFwp dcFwp pmFwp anFwp cdFwp ctFwp), slFwp⟩)
    (cFwp : PySem.W.codeIn K cdFwp "frame_with_pair" = true)
    (kFwp : PySem.W.keepIn K (.ref fFwp) = true)
    (lFaf : K.lookup fFaf = some ⟨ocFaf, odFaf, .func (PySem.W.fnOf "frame_after" "frame_after" (defArgs sFaf) (defBody sFaf) (defScope sFaf) .none kVFaf dcFaf pmFaf anFaf cdFaf ctFaf), slFaf⟩)
    (cFaf : PySem.W.codeIn K cdFaf "frame_after" = true)
    (kFaf : PySem.W.keepIn K (.ref fFaf) = true)
    (lWk : K.lookup fWk = some ⟨ocWk, odWk, .func (PySem.W.fnOf "walk" "walk" (defArgs sWk) (defBody sWk) (defScope sWk) .none kVWk dcWk pmWk anWk cdWk ctWk), slWk⟩)
    (cWk : PySem.W.codeIn K cdWk "walk" = true)
    (kWk : PySem.W.keepIn K (.ref fWk) = true)
    (lOpd : K.lookup fOpd = some ⟨ocOpd, odOpd, .func (PySem.W.fnOf "operands" "operands" (defArgs sOpd) (defBody sOpd) (defScope sOpd) .none kVOpd dcOpd pmOpd anOpd cdOpd ctOpd), slOpd⟩)
    (cOpd : PySem.W.codeIn K cdOpd "operands" = true)
    (kOpd : PySem.W.keepIn K (.ref fOpd) = true)
    (lLop : K.lookup fLop = some ⟨ocLop, odLop, .func (PySem.W.fnOf "_law_operands" "_law_operands" (defArgs sLop) (defBody sLop) (defScope sLop) .none kVLop dcLop pmLop anLop cdLop ctLop), slLop⟩)
    (cLop : PySem.W.codeIn K cdLop "_law_operands" = true)
    (kLop : PySem.W.keepIn K (.ref fLop) = true)
    (lEnd : K.lookup fEnd = some ⟨ocEnd, odEnd, .func (PySem.W.fnOf "ended" "ended" (defArgs sEnd) (defBody sEnd) (defScope sEnd) .none kVEnd dcEnd pmEnd anEnd cdEnd ctEnd), slEnd⟩)
    (cEnd : PySem.W.codeIn K cdEnd "ended" = true)
    (kEnd : PySem.W.keepIn K (.ref fEnd) = true)
    (lCt : K.lookup fCt = some ⟨ocCt, odCt, .func (PySem.W.fnOf "check_term" "check_term" (defArgs sCt) (defBody sCt) (defScope sCt) .none kVCt dcCt pmCt anCt cdCt ctCt), slCt⟩)
    (cCt : PySem.W.codeIn K cdCt "check_term" = true)
    (kCt : PySem.W.keepIn K (.ref fCt) = true)
    (lMst : K.lookup fMst = some ⟨ocMst, odMst, .func (PySem.W.fnOf "most_labels" "most_labels" (defArgs sMst) (defBody sMst) (defScope sMst) .none kVMst dcMst pmMst anMst cdMst ctMst), slMst⟩)
    (cMst : PySem.W.codeIn K cdMst "most_labels" = true)
    (kMst : PySem.W.keepIn K (.ref fMst) = true)
    (lIsi : K.lookup fIsi = some ⟨ocIsi, odIsi, .func (PySem.W.fnOf "_law_is_integer" "_law_is_integer" (defArgs sIsi) (defBody sIsi) (defScope sIsi) .none kVIsi dcIsi pmIsi anIsi cdIsi ctIsi), slIsi⟩)
    (cIsi : PySem.W.codeIn K cdIsi "_law_is_integer" = true)
    (kIsi : PySem.W.keepIn K (.ref fIsi) = true)
    (lJnd : K.lookup fJnd = some ⟨ocJnd, odJnd, .func (PySem.W.fnOf "joined" "joined" (defArgs sJnd) (defBody sJnd) (defScope sJnd) .none kVJnd dcJnd pmJnd anJnd cdJnd ctJnd), slJnd⟩)
    (cJnd : PySem.W.codeIn K cdJnd "joined" = true)
    (kJnd : PySem.W.keepIn K (.ref fJnd) = true)
    (lLaw : K.lookup fLaw = some ⟨ocLaw, odLaw, .func (PySem.W.fnOf "law" "law" (defArgs sLaw) (defBody sLaw) (defScope sLaw) .none kVLaw dcLaw pmLaw anLaw cdLaw ctLaw), slLaw⟩)
    (cLaw : PySem.W.codeIn K cdLaw "law" = true)
    (kLaw : PySem.W.keepIn K (.ref fLaw) = true)
    (lBtI : K.lookup fBtI = some ⟨ocBtI, odBtI, .func (PySem.W.fnOf "__init__" "BadTerm.__init__" (defArgs sBtI) (defBody sBtI) (defScope sBtI) .none kVBtI dcBtI pmBtI anBtI cdBtI ctBtI), slBtI⟩)
    (cBtI : PySem.W.codeIn K cdBtI "BadTerm.__init__" = true)
    (kBtI : PySem.W.keepIn K (.ref fBtI) = true)
    (oc : ∃ nm q N bs bm sn sub ab col dd k0 k1 k2 k3 k5, K.lookup CT = some (excClassObj nm q CT N bs bm true sn sub ab col dd k0 k1 k2 k3 k5 "ValueError.__new__") ∧ PySem.HandSPX.refsVE bm = true)
    (osa : PySem.W.findIn K (.ref CT) "__setattr__" = some (some (.builtin "object.__setattr__")))
    (ose : PySem.W.subIn K (.ref CT) (.type "BaseException") = some true)
    (oty : PySem.W.typeIn K (.ref CT) = some (.type "type"))
    (okc : PySem.W.keepIn K (.ref CT) = true)
    (onx : PySem.W.findIn K (.ref CT) "index" = some none)
    (v_MOST_STEPS : PySem.W.nsIn K mainGlobals "MOST_STEPS" = some (some (.int 20000 t_MOST_STEPS)))
    (v_MOST_LABEL : PySem.W.nsIn K mainGlobals "MOST_LABEL" = some (some (.int 12 t_MOST_LABEL)))
    (z_len : PySem.W.nsIn K mainGlobals "len" = some none)
    (z_int : PySem.W.nsIn K mainGlobals "int" = some none)
    (z_range : PySem.W.nsIn K mainGlobals "range" = some none)
    (z_tuple : PySem.W.nsIn K mainGlobals "tuple" = some none)
    (z_sorted : PySem.W.nsIn K mainGlobals "sorted" = some none)
    (z_min : PySem.W.nsIn K mainGlobals "min" = some none)
    (z_max : PySem.W.nsIn K mainGlobals "max" = some none)
    (z_str : PySem.W.nsIn K mainGlobals "str" = some none)
    (z_any : PySem.W.nsIn K mainGlobals "any" = some none)
    (z_enumerate : PySem.W.nsIn K mainGlobals "enumerate" = some none)
    (z_list : PySem.W.nsIn K mainGlobals "list" = some none)
    (z_isinstance : PySem.W.nsIn K mainGlobals "isinstance" = some none)
    (z_bool : PySem.W.nsIn K mainGlobals "bool" = some none)
    : ∃ fd : FuncData, (∀ (s : Shared) (v : Value), BindsTo s fd ⟨[v], []⟩ [("script", v)]) ∧ ∀ base : Heap, K.In base → base.Ns mainGlobals mg → FnOk l.prog w K mg base CX0 7 fa fd ["script"] (spLaw K) := by
  have e := hfa.symm.trans (PySem.W.mg_of X G aLaw)
  cases e
  have m_len := PySem.W.mg_none_of X G z_len
  have m_int := PySem.W.mg_none_of X G z_int
  have m_range := PySem.W.mg_none_of X G z_range
  have m_tuple := PySem.W.mg_none_of X G z_tuple
  have m_sorted := PySem.W.mg_none_of X G z_sorted
  have m_min := PySem.W.mg_none_of X G z_min
  have m_max := PySem.W.mg_none_of X G z_max
  have m_str := PySem.W.mg_none_of X G z_str
  have m_any := PySem.W.mg_none_of X G z_any
  have m_enumerate := PySem.W.mg_none_of X G z_enumerate
  have m_list := PySem.W.mg_none_of X G z_list
  have m_isinstance := PySem.W.mg_none_of X G z_isinstance
  have m_bool := PySem.W.mg_none_of X G z_bool
  have FCel := fun_mk (st := sCel) lCel cCel kCel
  have bCel := FCel.binds (ps := ["script", "k"]) fun _ _ _ _ _ _ us hl => match us, hl with | [_, _], _ => rfl
  have FMix := fun_mk (st := sMix) lMix cMix kMix
  have bMix := FMix.binds (ps := ["cell", "k"]) fun _ _ _ _ _ _ us hl => match us, hl with | [_, _], _ => rfl
  have FDig := fun_mk (st := sDig) lDig cDig kDig
  have bDig := FDig.binds (ps := ["cell", "count", "many"]) fun _ _ _ _ _ _ us hl => match us, hl with | [_, _, _], _ => rfl
  have FLfr := fun_mk (st := sLfr) lLfr cLfr kLfr
  have bLfr := FLfr.binds (ps := ["step", "frames"]) fun _ _ _ _ _ _ us hl => match us, hl with | [_, _], _ => rfl
  have FPut := fun_mk (st := sPut) lPut cPut kPut
  have bPut := FPut.binds (ps := ["steps", "stack", "step"]) fun _ _ _ _ _ _ us hl => match us, hl with | [_, _, _], _ => rfl
  have FPj := fun_mk (st := sPj) lPj cPj kPj
  have bPj := FPj.binds (ps := ["steps", "stack", "k"]) fun _ _ _ _ _ _ us hl => match us, hl with | [_, _, _], _ => rfl
  have FTm := fun_mk (st := sTm) lTm cTm kTm
  have bTm := FTm.binds (ps := ["cell", "k", "most"]) fun _ _ _ _ _ _ us hl => match us, hl with | [_, _, _], _ => rfl
  have FLfs := fun_mk (st := sLfs) lLfs cLfs kLfs
  have bLfs := FLfs.binds (ps := ["term"]) fun _ _ _ _ _ _ us hl => match us, hl with | [_], _ => rfl
  have FNum := fun_mk (st := sNum) lNum cNum kNum
  have bNum := FNum.binds (ps := ["value"]) fun _ _ _ _ _ _ us hl => match us, hl with | [_], _ => rfl
  have FVtx := fun_mk (st := sVtx) lVtx cVtx kVtx
  have bVtx := FVtx.binds (ps := ["value", "size"]) fun _ _ _ _ _ _ us hl => match us, hl with | [_, _], _ => rfl
  have FEdg := fun_mk (st := sEdg) lEdg cEdg kEdg
  have bEdg := FEdg.binds (ps := ["value", "size"]) fun _ _ _ _ _ _ us hl => match us, hl with | [_, _], _ => rfl
  have FStp := fun_mk (st := sStp) lStp cStp kStp
  have bStp := FStp.binds (ps := ["value", "k"]) fun _ _ _ _ _ _ us hl => match us, hl with | [_, _], _ => rfl
  have FGtk := fun_mk (st := sGtk) lGtk cGtk kGtk
  have bGtk := FGtk.binds (ps := ["step"]) fun _ _ _ _ _ _ us hl => match us, hl with | [_], _ => rfl
  have FJf := fun_mk (st := sJf) lJf cJf kJf
  have bJf := FJf.binds (ps := ["first", "second"]) fun _ _ _ _ _ _ us hl => match us, hl with | [_, _], _ => rfl
  have FFwl := fun_mk (st := sFwl) lFwl cFwl kFwl
  have bFwl := FFwl.binds (ps := ["frame", "label"]) fun _ _ _ _ _ _ us hl => match us, hl with | [_, _], _ => rfl
  have FFol := fun_mk (st := sFol) lFol cFol kFol
  have bFol := FFol.binds (ps := ["frame", "label"]) fun _ _ _ _ _ _ us hl => match us, hl with | [_, _], _ => rfl
  have FFwp := fun_mk (st := sFwp) lFwp cFwp kFwp
  have bFwp := FFwp.binds (ps := ["frame", "pair"]) fun _ _ _ _ _ _ us hl => match us, hl with | [_, _], _ => rfl
  have FFaf := fun_mk (st := sFaf) lFaf cFaf kFaf
  have bFaf := FFaf.binds (ps := ["step", "taken"]) fun _ _ _ _ _ _ us hl => match us, hl with | [_, _], _ => rfl
  have FWk := fun_mk (st := sWk) lWk cWk kWk
  have bWk := FWk.binds (ps := ["term", "k"]) fun _ _ _ _ _ _ us hl => match us, hl with | [_, _], _ => rfl
  have FOpd := fun_mk (st := sOpd) lOpd cOpd kOpd
  have bOpd := FOpd.binds (ps := ["term", "k"]) fun _ _ _ _ _ _ us hl => match us, hl with | [_, _], _ => rfl
  have FLop := fun_mk (st := sLop) lLop cLop kLop
  have bLop := FLop.binds (ps := ["term"]) fun _ _ _ _ _ _ us hl => match us, hl with | [_], _ => rfl
  have FEnd := fun_mk (st := sEnd) lEnd cEnd kEnd
  have bEnd := FEnd.binds (ps := ["term", "k"]) fun _ _ _ _ _ _ us hl => match us, hl with | [_, _], _ => rfl
  have FCt := fun_mk (st := sCt) lCt cCt kCt
  have bCt := FCt.binds (ps := ["term", "k"]) fun _ _ _ _ _ _ us hl => match us, hl with | [_, _], _ => rfl
  have FMst := fun_mk (st := sMst) lMst cMst kMst
  have bMst := FMst.binds (ps := ["term", "k"]) fun _ _ _ _ _ _ us hl => match us, hl with | [_, _], _ => rfl
  have FIsi := fun_mk (st := sIsi) lIsi cIsi kIsi
  have bIsi := FIsi.binds (ps := ["actual"]) fun _ _ _ _ _ _ us hl => match us, hl with | [_], _ => rfl
  have FJnd := fun_mk (st := sJnd) lJnd cJnd kJnd
  have bJnd := FJnd.binds (ps := ["first", "second"]) fun _ _ _ _ _ _ us hl => match us, hl with | [_, _], _ => rfl
  have FLaw := fun_mk (st := sLaw) lLaw cLaw kLaw
  have bLaw := FLaw.binds (ps := ["script"]) fun _ _ _ _ _ _ us hl => match us, hl with | [_], _ => rfl
  have FBtI := fun_mk (st := sBtI) lBtI cBtI kBtI
  have bBtI := FBtI.binds (ps := ["self", "index"]) fun _ _ _ _ _ _ us hl => match us, hl with | [_, _], _ => rfl
  have gCel := PySem.W.mg_of X G aCel
  have gMix := PySem.W.mg_of X G aMix
  have gDig := PySem.W.mg_of X G aDig
  have gLfr := PySem.W.mg_of X G aLfr
  have gPut := PySem.W.mg_of X G aPut
  have gPj := PySem.W.mg_of X G aPj
  have gTm := PySem.W.mg_of X G aTm
  have gLfs := PySem.W.mg_of X G aLfs
  have gNum := PySem.W.mg_of X G aNum
  have gVtx := PySem.W.mg_of X G aVtx
  have gEdg := PySem.W.mg_of X G aEdg
  have gStp := PySem.W.mg_of X G aStp
  have gGtk := PySem.W.mg_of X G aGtk
  have gJf := PySem.W.mg_of X G aJf
  have gFwl := PySem.W.mg_of X G aFwl
  have gFol := PySem.W.mg_of X G aFol
  have gFwp := PySem.W.mg_of X G aFwp
  have gFaf := PySem.W.mg_of X G aFaf
  have gWk := PySem.W.mg_of X G aWk
  have gOpd := PySem.W.mg_of X G aOpd
  have gLop := PySem.W.mg_of X G aLop
  have gEnd := PySem.W.mg_of X G aEnd
  have gCt := PySem.W.mg_of X G aCt
  have gMst := PySem.W.mg_of X G aMst
  have gIsi := PySem.W.mg_of X G aIsi
  have gJnd := PySem.W.mg_of X G aJnd
  have gLaw := PySem.W.mg_of X G aLaw
  have TA : TxA mg := ⟨m_isinstance, m_int, m_bool, m_tuple, m_len⟩
  have TB : TxB K mg CT fBtI := ⟨PySem.W.mg_of X G aCT, ⟨oc, osa, ose, oty, okc⟩, aBtI, iBtI, onx⟩
  refine ⟨PySem.W.fnOf "law" "law" (defArgs sLaw) (defBody sLaw) (defScope sLaw) .none kVLaw dcLaw pmLaw anLaw cdLaw ctLaw, fun s v => .of_eq rfl, fun base _ _ => ?_⟩
  have GCel : FnOk l.prog w K mg base CX0 1 fCel _ ["script", "k"] (spCel K) := ok_cel FCel m_len
  have GMix : FnOk l.prog w K mg base CX0 1 fMix _ ["cell", "k"] spMix := ok_mix FMix m_int
  have GDig : FnOk l.prog w K mg base CX0 2 fDig _ ["cell", "count", "many"] (spDig K) := ok_dig FDig m_range m_int GMix kMix bMix gMix
  have GLfr : FnOk l.prog w K mg base CX0 1 fLfr _ ["step", "frames"] (spLfr K) := ok_lfr FLfr m_len m_tuple m_sorted
  have GPut : FnOk l.prog w K mg base CX0 2 fPut _ ["steps", "stack", "step"] (spPut K) := ok_put FPut m_len m_range GLfr kLfr bLfr gLfr
  have GPj : FnOk l.prog w K mg base CX0 3 fPj _ ["steps", "stack", "k"] (spPj K) := ok_pj FPj m_range GPut kPut bPut gPut
  have GTm : FnOk l.prog w K mg base CX0 4 fTm _ ["cell", "k", "most"] (spTm K) := ok_tm FTm m_range m_len m_min m_max m_tuple GDig kDig bDig gDig GPut kPut bPut gPut GPj kPj bPj gPj
  have GLfs : FnOk l.prog w K mg base CX0 3 fLfs _ ["term"] (spLfs K) := ok_lfs FLfs GPut kPut bPut gPut
  have GBtI : FnOk l.prog w K mg base CX0 1 fBtI _ ["self", "index"] (spBt K CT) := ok_bti FBtI TB
  have GNum : FnOk l.prog w K mg base CX0 1 fNum _ ["value"] spNum := ok_num FNum TA
  have GVtx : FnOk l.prog w K mg base CX0 2 fVtx _ ["value", "size"] spVtx := ok_vtx FVtx GNum kNum bNum gNum
  have GEdg : FnOk l.prog w K mg base CX0 3 fEdg _ ["value", "size"] (spEdg K) := ok_edg FEdg GVtx kVtx bVtx gVtx TA
  have GStp : FnOk l.prog w K mg base CX0 4 fStp _ ["value", "k"] (spStp K) := ok_stp FStp TA m_str GVtx kVtx bVtx gVtx GEdg kEdg bEdg gEdg
  have GGtk : FnOk l.prog w K mg base CX0 1 fGtk _ ["step"] (spGtk K) := ok_gtk FGtk
  have GJf : FnOk l.prog w K mg base CX0 1 fJf _ ["first", "second"] (spJf K) := ok_jf FJf m_tuple m_sorted m_any
  have GFwl : FnOk l.prog w K mg base CX0 1 fFwl _ ["frame", "label"] (spFwl K) := ok_fwl FFwl m_tuple m_sorted
  have GFol : FnOk l.prog w K mg base CX0 1 fFol _ ["frame", "label"] (spFol K) := ok_fol FFol m_tuple
  have GFwp : FnOk l.prog w K mg base CX0 1 fFwp _ ["frame", "pair"] (spFwp K) := ok_fwp FFwp m_tuple m_sorted
  have GFaf : FnOk l.prog w K mg base CX0 2 fFaf _ ["step", "taken"] (spFaf K) := ok_faf FFaf GJf kJf bJf gJf GFwl kFwl bFwl gFwl GFol kFol bFol gFol GFwp kFwp bFwp gFwp
  have GWk : FnOk l.prog w K mg base (L2N.CX l.prog w) 5 fWk _ ["term", "k"] (spWk K CT) := ok_wk FWk TB m_enumerate m_len m_tuple GBtI bBtI GStp kStp bStp gStp GGtk kGtk bGtk gGtk GFaf kFaf bFaf gFaf
  have GOpd : FnOk l.prog w K mg base CX0 6 fOpd _ ["term", "k"] (spOpd K) := ok_opd FOpd GWk kWk bWk gWk
  have GLop : FnOk l.prog w K mg base CX0 1 fLop _ ["term"] (spLop K) := ok_lop FLop m_range m_len m_tuple
  have GEnd : FnOk l.prog w K mg base CX0 6 fEnd _ ["term", "k"] (spEnd K) := ok_end FEnd GWk kWk bWk gWk
  have GCt : FnOk l.prog w K mg base (L2N.CX l.prog w) 6 fCt _ ["term", "k"] (spCt K CT) := ok_ct FCt TB TA GBtI bBtI GVtx kVtx bVtx gVtx GWk kWk bWk gWk (PySem.W.mg_of X G v_MOST_STEPS) (PySem.W.mg_of X G v_MOST_LABEL)
  have GMst : FnOk l.prog w K mg base CX0 6 fMst _ ["term", "k"] (spMst K) := ok_mst FMst m_len m_max GWk kWk bWk gWk
  have GIsi : FnOk l.prog w K mg base CX0 1 fIsi _ ["actual"] spIsG := ok_isg FIsi TA
  have GJnd : FnOk l.prog w K mg base CX0 1 fJnd _ ["first", "second"] (spJnd K) := ok_jnd FJnd
  exact ok_law FLaw TA m_list m_max GCel kCel bCel gCel GTm kTm bTm gTm GLfs kLfs bLfs gLfs GOpd kOpd bOpd gOpd GLop kLop bLop gLop GEnd kEnd bEnd gEnd GCt kCt bCt gCt GMst kMst bMst gMst GIsi kIsi bIsi gIsi GJnd kJnd bJnd gJnd
end Sm

open PySem PySem.W PyProof.Rows
set_option Elab.async false
set_option maxRecDepth 100000 in
set_option maxHeartbeats 0 in
theorem PySem.Challenge.cw_smallwidth_k12_terms_put_together_holds : PySem.Challenge.rw_smallwidth_k12_terms_put_together.Holds := by
  w_on; o_law; k_head; (case hw => w_witness2)
  k_fill
  refine L2.walk_of (l := PySem.Challenge.rw_smallwidth_k12_terms_put_together) (n := 63) (k := 7) (x := "script") (CX := fun _ => L2.CX0) (sp := fun w => Sm.spLaw _) rfl (by decide) rfl ⟨rfl, by decide, by decide⟩ (fun w h Y => PySem.W.kIn_of Y) ?F (fun _ _ a ns hl _ hS => ⟨a, ns, rfl, hS, fun _ => rfl⟩) (fun _ _ _ _ _ h => h)
  case F =>
    intro w mg fa h KX G hmg
    refine' Sm.all_mk KX G hmg ?aCT ?aCel ?aMix ?aDig ?aLfr ?aPut ?aPj ?aTm ?aLfs ?aNum ?aVtx ?aEdg ?aStp ?aGtk ?aJf ?aFwl ?aFol ?aFwp ?aFaf ?aWk ?aOpd ?aLop ?aEnd ?aCt ?aMst ?aIsi ?aJnd ?aLaw ?aBtI ?iBtI ?lCel ?cCel ?kCel ?lMix ?cMix ?kMix ?lDig ?cDig ?kDig ?lLfr ?cLfr ?kLfr ?lPut ?cPut ?kPut ?lPj ?cPj ?kPj ?lTm ?cTm ?kTm ?lLfs ?cLfs ?kLfs ?lNum ?cNum ?kNum ?lVtx ?cVtx ?kVtx ?lEdg ?cEdg ?kEdg ?lStp ?cStp ?kStp ?lGtk ?cGtk ?kGtk ?lJf ?cJf ?kJf ?lFwl ?cFwl ?kFwl ?lFol ?cFol ?kFol ?lFwp ?cFwp ?kFwp ?lFaf ?cFaf ?kFaf ?lWk ?cWk ?kWk ?lOpd ?cOpd ?kOpd ?lLop ?cLop ?kLop ?lEnd ?cEnd ?kEnd ?lCt ?cCt ?kCt ?lMst ?cMst ?kMst ?lIsi ?cIsi ?kIsi ?lJnd ?cJnd ?kJnd ?lLaw ?cLaw ?kLaw ?lBtI ?cBtI ?kBtI ?oc ?osa ?ose ?oty ?okc ?onx ?v_MOST_STEPS ?v_MOST_LABEL ?z_len ?z_int ?z_range ?z_tuple ?z_sorted ?z_min ?z_max ?z_str ?z_any ?z_enumerate ?z_list ?z_isinstance ?z_bool
    (case aCT => first | k_is | rfl)
    (case aCel => first | k_is | rfl)
    (case aMix => first | k_is | rfl)
    (case aDig => first | k_is | rfl)
    (case aLfr => first | k_is | rfl)
    (case aPut => first | k_is | rfl)
    (case aPj => first | k_is | rfl)
    (case aTm => first | k_is | rfl)
    (case aLfs => first | k_is | rfl)
    (case aNum => first | k_is | rfl)
    (case aVtx => first | k_is | rfl)
    (case aEdg => first | k_is | rfl)
    (case aStp => first | k_is | rfl)
    (case aGtk => first | k_is | rfl)
    (case aJf => first | k_is | rfl)
    (case aFwl => first | k_is | rfl)
    (case aFol => first | k_is | rfl)
    (case aFwp => first | k_is | rfl)
    (case aFaf => first | k_is | rfl)
    (case aWk => first | k_is | rfl)
    (case aOpd => first | k_is | rfl)
    (case aLop => first | k_is | rfl)
    (case aEnd => first | k_is | rfl)
    (case aCt => first | k_is | rfl)
    (case aMst => first | k_is | rfl)
    (case aIsi => first | k_is | rfl)
    (case aJnd => first | k_is | rfl)
    (case aLaw => first | k_is | rfl)
    (case aBtI => first | k_is | rfl)
    (case iBtI => first | k_is | rfl)
    (case lCel => first | k_is | rfl)
    (case cCel => first | k_is | rfl)
    (case kCel => first | k_is | rfl)
    (case lMix => first | k_is | rfl)
    (case cMix => first | k_is | rfl)
    (case kMix => first | k_is | rfl)
    (case lDig => first | k_is | rfl)
    (case cDig => first | k_is | rfl)
    (case kDig => first | k_is | rfl)
    (case lLfr => first | k_is | rfl)
    (case cLfr => first | k_is | rfl)
    (case kLfr => first | k_is | rfl)
    (case lPut => first | k_is | rfl)
    (case cPut => first | k_is | rfl)
    (case kPut => first | k_is | rfl)
    (case lPj => first | k_is | rfl)
    (case cPj => first | k_is | rfl)
    (case kPj => first | k_is | rfl)
    (case lTm => first | k_is | rfl)
    (case cTm => first | k_is | rfl)
    (case kTm => first | k_is | rfl)
    (case lLfs => first | k_is | rfl)
    (case cLfs => first | k_is | rfl)
    (case kLfs => first | k_is | rfl)
    (case lNum => first | k_is | rfl)
    (case cNum => first | k_is | rfl)
    (case kNum => first | k_is | rfl)
    (case lVtx => first | k_is | rfl)
    (case cVtx => first | k_is | rfl)
    (case kVtx => first | k_is | rfl)
    (case lEdg => first | k_is | rfl)
    (case cEdg => first | k_is | rfl)
    (case kEdg => first | k_is | rfl)
    (case lStp => first | k_is | rfl)
    (case cStp => first | k_is | rfl)
    (case kStp => first | k_is | rfl)
    (case lGtk => first | k_is | rfl)
    (case cGtk => first | k_is | rfl)
    (case kGtk => first | k_is | rfl)
    (case lJf => first | k_is | rfl)
    (case cJf => first | k_is | rfl)
    (case kJf => first | k_is | rfl)
    (case lFwl => first | k_is | rfl)
    (case cFwl => first | k_is | rfl)
    (case kFwl => first | k_is | rfl)
    (case lFol => first | k_is | rfl)
    (case cFol => first | k_is | rfl)
    (case kFol => first | k_is | rfl)
    (case lFwp => first | k_is | rfl)
    (case cFwp => first | k_is | rfl)
    (case kFwp => first | k_is | rfl)
    (case lFaf => first | k_is | rfl)
    (case cFaf => first | k_is | rfl)
    (case kFaf => first | k_is | rfl)
    (case lWk => first | k_is | rfl)
    (case cWk => first | k_is | rfl)
    (case kWk => first | k_is | rfl)
    (case lOpd => first | k_is | rfl)
    (case cOpd => first | k_is | rfl)
    (case kOpd => first | k_is | rfl)
    (case lLop => first | k_is | rfl)
    (case cLop => first | k_is | rfl)
    (case kLop => first | k_is | rfl)
    (case lEnd => first | k_is | rfl)
    (case cEnd => first | k_is | rfl)
    (case kEnd => first | k_is | rfl)
    (case lCt => first | k_is | rfl)
    (case cCt => first | k_is | rfl)
    (case kCt => first | k_is | rfl)
    (case lMst => first | k_is | rfl)
    (case cMst => first | k_is | rfl)
    (case kMst => first | k_is | rfl)
    (case lIsi => first | k_is | rfl)
    (case cIsi => first | k_is | rfl)
    (case kIsi => first | k_is | rfl)
    (case lJnd => first | k_is | rfl)
    (case cJnd => first | k_is | rfl)
    (case kJnd => first | k_is | rfl)
    (case lLaw => first | k_is | rfl)
    (case cLaw => first | k_is | rfl)
    (case kLaw => first | k_is | rfl)
    (case lBtI => first | k_is | rfl)
    (case cBtI => first | k_is | rfl)
    (case kBtI => first | k_is | rfl)
    (case oc => exact ⟨_, _, _, _, _, _, _, _, _, _, _, _, _, _, _, by first | k_is | rfl, by first | k_is | rfl | decide +kernel⟩)
    (case osa => first | k_is | rfl)
    (case ose => first | k_is | rfl)
    (case oty => first | k_is | rfl)
    (case okc => first | k_is | rfl)
    (case onx => first | k_is | rfl)
    (case v_MOST_STEPS => first | k_is | rfl)
    (case v_MOST_LABEL => first | k_is | rfl)
    (case z_len => first | k_is | rfl)
    (case z_int => first | k_is | rfl)
    (case z_range => first | k_is | rfl)
    (case z_tuple => first | k_is | rfl)
    (case z_sorted => first | k_is | rfl)
    (case z_min => first | k_is | rfl)
    (case z_max => first | k_is | rfl)
    (case z_str => first | k_is | rfl)
    (case z_any => first | k_is | rfl)
    (case z_enumerate => first | k_is | rfl)
    (case z_list => first | k_is | rfl)
    (case z_isinstance => first | k_is | rfl)
    (case z_bool => first | k_is | rfl)

