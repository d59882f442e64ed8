import PyProof.Rows.All
import Wide.All
import OpenK.AllK
import Wide.FinOn
import HandS.ForMost
import HandS.Set
import HandS.Strs
import HandS.TupSets
import HandS.SortRule
import HandS.SortInts
import HandS.ForExc
import HandS.IsInst
import HandS.Deep
import HandS.Flow
import HandS.ExcIs
import HandS.Walk
import KE.KSetDisp
import KE.GoesSet
import HandS.Conv
import HandS.TupLe
import HandS.Star
import HandS.DictComp
import KE.DataMinMax
import PyProof.Rows.CallKwBuiltin
import HandS.ExcInit
import HandS.ExcCtx
import HandS.HotCalls
import HandS.ExcField
import HandS.Text
import HandS.StrMore
import KE.IntTextLaws
import HandS.Codes
import HandS.Steps
import KE.KUnpackStar
import HandS.FStr
import HandS.ExcInitHot
import HandS.ExcOwn
import PySem.Challenge.RW_smallwidth_k05_texts_of_graphs
set_option Elab.async false
set_option linter.all false
set_option maxRecDepth 100000
set_option maxHeartbeats 2000000
/-! Sets of tuples of ints that grow by add, asked by in, sorted; up to 75 members. -/
namespace Sm
open PySem PySem.Spec PyProof.Rows L2
section
variable {P : Program} {w : World} {A : Around} {E : Value → Shared → Prop} {s : Shared}
/-- where the search for a hash begins -/
abbrev walk0 (m : Nat) (h : Int) : SetTable.Probe := runAt m (SetTable.bits h % (m + 1)) (SetTable.bits h)
/-- at a stands a set whose members are the tuples of L (its address, its ints) -/
structure TW (P : Program) (w : World) (h : Heap) (a : Addr) (L : List (Addr × List Int)) (es : Array (Int × Value)) (ep : Nat) (t : SetTable) : Prop where
  obj : ∃ o, h.get? a = some o ∧ o.ExactSet ∧ o.data = .set es ep t
  rws : es.toList = rowsOf P w L
  tbl : TabOk t (L.map fun p => thash P w p.2)
  dif : (L.map (·.2)).Nodup
  mem : ∀ p ∈ L, IsT P w h p.2 p.1
  pln : t.plain = true
  ld : w.params.followText "set-order" = true ∨ t.led = true
  fit : L.length * 5 < t.mask * 3
variable {a : Addr} {L : List (Addr × List Int)} {es : Array (Int × Value)} {ep : Nat} {t : SetTable}
theorem TW.len (R : TW P w s.heap a L es ep t) : es.size = L.length := by
  have q : es.toList.length = (rowsOf P w L).length := by rw [R.rws]
  rw [Array.length_toList, rowsOf, List.length_map] at q
  exact q
theorem TW.few (R : TW P w s.heap a L es ep t) : L.length ≤ 76 := by
  have q := R.fit
  rcases R.tbl.mok with e | e | e <;> omega
theorem TW.holds (R : TW P w s.heap a L es ep t) : t.fits es.size = true := by
  have q1 := R.tbl.sz
  rw [List.length_map] at q1
  have q2 := R.len
  have q3 := R.fit
  simp only [SetTable.fits, SetTable.fill, R.tbl.dm, Bool.and_eq_true, beq_iff_eq, decide_eq_true_eq]
  refine ⟨by omega, ?_⟩
  show t.place.size + 0 ≤ t.mask
  omega
theorem TW.at (R : TW P w s.heap a L es ep t) {i : Nat} {p : Addr × List Int} (h : L[i]? = some p) : es[i]? = some (thash P w p.2, Value.ref p.1) := by
  have q : es.toList[i]? = (rowsOf P w L)[i]? := by rw [R.rws]
  rw [Array.getElem?_toList] at q
  rw [q, rowsOf, List.getElem?_map, h]
  rfl
theorem nth_clean (m : Nat) : ∀ (n : Nat) (p : SetTable.Probe), p.dummy = none → (nth m p n).dummy = none
  | 0, _, h => h
  | n + 1, p, h => nth_clean m n (adv m p) (by unfold adv; split <;> exact h)
/-- the search from the c-th place of its way on, whether one adds or asks -/
theorem tw_from (R : TW P w s.heap a L es ep t) {x : Addr} {k : List Int} (hx : IsT P w s.heap k x) (hu : A.units < cLine) (adding : Bool) {K : Nat} (hKf : K < 10 * SetTable.turns t.mask)
    (hK : way t.mask (thash P w k) K ∉ t.place.toList) (hKb : ∀ c, c < K → way t.mask (thash P w k) c ∈ t.place.toList) {Q : SetFound → Shared → Prop}
    (hin : k ∈ L.map (·.2) → ∀ r : Option Nat, (adding = false → r.isSome = true) → Q (.there r) s)
    (hout : k ∉ L.map (·.2) → Q (.free (way t.mask (thash P w k) K) false) s) (f : Nat) :
    ∀ (c : Nat) (stand : Option SetTable.Probe), stand.getD (t.probeStart (thash P w k)) = nth t.mask (walk0 t.mask (thash P w k)) c → c ≤ K → K < c + f →
      (∀ (i : Nat) p, L[i]? = some p → p.2 = k → ∃ c', c ≤ c' ∧ c' < K ∧ t.place.toList[i]? = some (way t.mask (thash P w k) c')) →
      wpAny (model P w) A (setSearchFrom a (.ref x) (thash P w k) adding f stand) Q E s := by
  induction f with
  | zero => intro c _ _ h1 h2 _; omega
  | succ f ih =>
    intro c stand hst hc hf hre
    have ⟨o, ho, hex, hd⟩ := R.obj
    have hashes : ∀ (i : Nat) p, L[i]? = some p → (es[i]?.map (·.1)).getD 0 = thash P w p.2 := fun i p hp => by rw [R.at hp]; rfl
    have later : ∀ q, nth t.mask (nth t.mask (walk0 t.mask (thash P w k)) c) q = nth t.mask (walk0 t.mask (thash P w k)) (c + q) := fun q => (nth_add t.mask c _ q).symm
    have lj : ∀ q, (nth t.mask (nth t.mask (walk0 t.mask (thash P w k)) c) q).j = way t.mask (thash P w k) (c + q) := fun q => congrArg SetTable.Probe.j (later q)
    have met := go_spec t R.tbl.ris R.tbl.dm (fun i => (es[i]?.map (·.1)).getD 0) (thash P w k) (10 * SetTable.turns t.mask) (K - c) (nth t.mask (walk0 t.mask (thash P w k)) c)
      (nth_clean _ _ _ rfl) (by omega) (fun q hq => by rw [lj]; exact hKb (c + q) (by omega)) (by rw [lj, show c + (K - c) = K from by omega]; exact hK)
    rw [setSearchFrom_succ]
    refine wpAny_bind (wpAny_setState_of ho hd R.holds ?_)
    dsimp only
    have ngw : ¬ t.gaveWay = true := by
      unfold SetTable.gaveWay
      rw [mask_odd R.tbl.mok]
      decide
    refine wp_if_neg ngw ?_
    try refine wpAny_bind (wpAny_pure ?_)
    rcases met with ⟨q, i, hq, hi, hh, hno, hpr⟩ | ⟨hno, hpr⟩
    · rw [lj] at hi
      have pr : t.probe (fun i => (es[i]?.map (·.1)).getD 0) (thash P w k) (stand.getD (t.probeStart (thash P w k))) =
          some (.candidate (way t.mask (thash P w k) (c + q)) i (nth t.mask (walk0 t.mask (thash P w k)) (c + (q + 1)))) := by
        rw [hst, ← lj, ← later]
        exact hpr
      rw [pr]
      dsimp only
      have il : i < L.length := by
        have z1 : i < t.place.toList.length := (List.getElem?_eq_some_iff.mp hi).1
        have z2 := R.tbl.sz
        rw [List.length_map] at z2
        rw [Array.length_toList] at z1
        omega
      obtain ⟨p, hp⟩ : ∃ p, L[i]? = some p := ⟨_, List.getElem?_eq_getElem il⟩
      have pm : p ∈ L := List.mem_of_getElem? hp
      have tail : wpAny (model P w) A (searchRest a (.ref x) (thash P w k) adding f es t (way t.mask (thash P w k) (c + q)) i (nth t.mask (walk0 t.mask (thash P w k)) (c + (q + 1)))) Q E s := by
        unfold searchRest
        rw [R.at hp]
        dsimp only
        refine wpAny_bind (wpAny_holding (wpAny_eqBool_tuple hu (R.mem p pm) hx ?_))
        refine wpAny_bind (wpAny_setState_of ho hd R.holds ?_)
        dsimp only
        have sl : t.slot (way t.mask (thash P w k) (c + q)) = .live i := slot_live R.tbl.ris hi
        by_cases same : p.2 = k
        · have there : k ∈ L.map (·.2) := List.mem_map.mpr ⟨p, pm, same⟩
          cases adding with
          | true =>
            refine wp_if_pos (by simp [same]) ?_
            exact wpAny_pure (hin there none (fun z => by cases z))
          | false =>
            refine wp_if_neg (by simp) ?_
            try refine wpAny_bind (wpAny_pure ?_)
            rw [sameMem]
            dsimp only
            simp only [if_true, sl, R.at hp]
            refine wpAny_bind (wpAny_isSame_ref_self (wpAny_bind (wpAny_pure ?_)))
            simp only [if_true]
            refine wp_if_pos (by simp [same]) ?_
            exact wpAny_pure (hin there (some i) (fun _ => rfl))
        · refine wp_if_neg (by simp [same]) ?_
          try refine wpAny_bind (wpAny_pure ?_)
          rw [sameMem]
          dsimp only
          simp only [if_true, sl, R.at hp]
          refine wpAny_bind (wpAny_isSame_ref_self (wpAny_bind (wpAny_pure ?_)))
          simp only [if_true]
          refine wp_if_neg (by simp [same]) ?_
          refine ih (c + (q + 1)) _ rfl (by omega) (by omega) fun i0 p0 h0 k0 => ?_
          obtain ⟨c', a1, a2, a3⟩ := hre i0 p0 h0 k0
          refine ⟨c', ?_, a2, a3⟩
          have ne1 : ¬ c' < c + q := fun z => by
            refine hno (c' - c) i0 (by omega) (by rw [lj, show c + (c' - c) = c' from by omega]; exact a3) ?_
            exact (hashes i0 p0 h0).trans (congrArg (thash P w) k0)
          have ne2 : c' ≠ c + q := fun z => by
            rw [z] at a3
            have s0 := slot_live R.tbl.ris a3
            rw [sl] at s0
            cases s0
            rw [hp] at h0
            exact same ((congrArg Prod.snd (Option.some.inj h0)).trans k0)
          omega
      by_cases hl : t.led = true
      · refine wp_if_neg (by simp [hl]) ?_
        try refine wpAny_bind (wpAny_pure ?_)
        exact tail
      · refine wp_if_pos (by simp [hl]) ?_
        refine wpAny_bind (seen_tup hx (fun y hy => ?_) ?_)
        · obtain ⟨e, he, ee⟩ := List.mem_map.mp hy
          have he1 : e ∈ es ∧ e.1 = thash P w k := by simpa using he
          have he2 : e ∈ es.toList := by simpa using he1.1
          rw [R.rws] at he2
          obtain ⟨p2, hp2, e2⟩ := List.mem_map.mp he2
          exact ⟨p2.2, p2.1, by rw [← ee, ← e2], R.mem p2 hp2⟩
        · refine wp_if_neg (by decide) ?_
          try refine wpAny_bind (wpAny_pure ?_)
          exact tail
    · have pr : t.probe (fun i => (es[i]?.map (·.1)).getD 0) (thash P w k) (stand.getD (t.probeStart (thash P w k))) = some (.empty (way t.mask (thash P w k) K) none) := by
        have z := hpr
        rw [lj, show c + (K - c) = K from by omega] at z
        rw [hst]
        exact z
      rw [pr]
      dsimp only
      refine wpAny_pure (hout fun hm => ?_)
      obtain ⟨p0, h0, k0⟩ := List.mem_map.mp hm
      obtain ⟨i0, hi0, e0⟩ := List.getElem_of_mem h0
      have h00 : L[i0]? = some p0 := by rw [List.getElem?_eq_getElem hi0, e0]
      obtain ⟨c', a1, a2, a3⟩ := hre i0 p0 h00 k0
      refine hno (c' - c) i0 (by omega) (by rw [lj, show c + (c' - c) = c' from by omega]; exact a3) ?_
      exact (hashes i0 p0 h00).trans (congrArg (thash P w) k0)
theorem tw_search (R : TW P w s.heap a L es ep t) {x : Addr} {k : List Int} (hx : IsT P w s.heap k x) (hu : A.units < cLine) (adding : Bool) {Q : SetFound → Shared → Prop}
    (hin : k ∈ L.map (·.2) → ∀ r : Option Nat, (adding = false → r.isSome = true) → Q (.there r) s)
    (hout : ∀ K, k ∉ L.map (·.2) → way t.mask (thash P w k) K ∉ t.place.toList → (∀ c, c < K → way t.mask (thash P w k) c ∈ t.place.toList) → Q (.free (way t.mask (thash P w k) K) false) s) :
    wpAny (model P w) A (setSearch a (.ref x) (thash P w k) adding) Q E s := by
  have fit := R.fit
  obtain ⟨K, h1, h2, h3⟩ := R.tbl.first (by rw [List.length_map]; omega) (thash P w k)
  have small : K < 100000 := by
    have z : 10 * SetTable.turns t.mask ≤ 1420 := by
      unfold SetTable.turns
      rcases R.tbl.mok with e | e | e <;> omega
    omega
  unfold setSearch
  refine tw_from R hx hu adding h1 h2 h3 hin (fun hn => hout K hn h2 h3) 100000 0 none rfl (Nat.zero_le _) (by omega) fun i p hp hk => ?_
  have hi : (L.map fun p => thash P w p.2)[i]? = some (thash P w k) := by rw [List.getElem?_map, hp, ← hk]; rfl
  have il : i < t.place.toList.length := by
    have z1 : i < L.length := (List.getElem?_eq_some_iff.mp hp).1
    have z2 := R.tbl.sz
    rw [List.length_map] at z2
    rw [Array.length_toList]
    omega
  obtain ⟨c, hc, e⟩ := R.tbl.before h2 hi (List.getElem?_eq_getElem il)
  exact ⟨c, Nat.zero_le _, hc, by rw [List.getElem?_eq_getElem il, e]⟩
end
end Sm

set_option Elab.async false
set_option linter.all false
set_option maxRecDepth 100000
set_option maxHeartbeats 2000000
namespace Sm
open PySem PySem.Spec PyProof.Rows L2
section
variable {P : Program} {w : World} {A : Around} {E : Value → Shared → Prop} {s : Shared} {a : Addr} {L : List (Addr × List Int)} {es : Array (Int × Value)} {ep : Nat} {t : SetTable}
theorem TW.of (R : SetTR P w s.heap a L es ep t) : TW P w s.heap a L es ep t := ⟨R.ob, R.rows, R.tab, R.nd, R.tup, R.plain, R.led, R.room⟩
/-- one more tuple put in -/
theorem tw_add (R : TW P w s.heap a L es ep t) {x : Addr} {k : List Int} (hx : IsT P w s.heap k x) (hu : A.units < cLine) (room : L.length < 75) (hno : k ∉ L.map (·.2)) {Q : Bool → Shared → Prop}
    (hQ : ∀ h' L' es' ep' t', Heap.SameBut a s.heap h' → TW P w h' a L' es' ep' t' → L'.Perm ((x, k) :: L) → Q true { s with heap := h' }) :
    wpAny (model P w) A (setAddHashed a (.ref x) (thash P w k)) Q E s := by
  have ⟨o, ho, hex, hd⟩ := R.obj
  have len := R.len
  have fit := R.fit
  unfold setAddHashed
  refine wpAny_holding ?_
  rw [show (100000 : Nat) = 99999 + 1 from rfl, setAddHashedIn_succ]
  refine wpAny_bind (wpAny_setState_of ho hd R.holds ?_)
  dsimp only
  refine wp_if_neg (by simp [byScan, Value.scannable]) ?_
  try refine wpAny_bind (wpAny_pure ?_)
  refine wpAny_bind (tw_search R hx hu true (fun hm => absurd hm hno) fun K _ hK hb => ?_)
  dsimp only
  refine wpAny_bind (wpAny_setState_of ho hd R.holds ?_)
  dsimp only
  obtain ⟨q1, q2, q3, q4, q5, q6, q7, q8, q9⟩ := R.tbl.put hK hb
  have pl1 : (t.put (way t.mask (thash P w k) K)).1.plain = true := by rw [q6]; exact R.pln
  generalize hpt : t.put (way t.mask (thash P w k) K) = pt at q1 q3 q4 q5 q6 q7 q8 q9 pl1 ⊢
  obtain ⟨t1, j⟩ := pt
  dsimp only at q1 q3 q4 q5 q6 q7 q8 q9 pl1 ⊢
  subst q1
  first
    | (refine wpAny_bind ?_; refine wp_if_pos pl1 ?_; refine hashBy_tup hx ?_)
    | refine wp_if_pos pl1 (wpAny_bind (hashBy_tup hx ?_))
  simp only [if_true]
  have rows1 : (SetTable.insertAt es (SetTable.below t.place (way t.mask (thash P w k) K)) (thash P w k, Value.ref x)).toList =
      rowsOf P w (L.take (SetTable.below t.place (way t.mask (thash P w k) K)) ++ (x, k) :: L.drop (SetTable.below t.place (way t.mask (thash P w k) K))) := by
    rw [SetTable.toList_insertAt, rows_put, R.rws]
  generalize hpp : SetTable.below t.place (way t.mask (thash P w k) K) = j at q2 q3 rows1 ⊢
  have pm := put_perm L j (x, k)
  have n1 : (L.take j ++ (x, k) :: L.drop j).length = L.length + 1 := pm.length_eq
  have hash1 : (L.take j ++ (x, k) :: L.drop j).map (fun p => thash P w p.2) = (L.map fun p => thash P w p.2).take j ++ thash P w k :: (L.map fun p => thash P w p.2).drop j := by
    rw [List.map_append, List.map_cons, List.map_take, List.map_drop]
  rw [← hash1] at q3
  have dif1 : ((L.take j ++ (x, k) :: L.drop j).map (·.2)).Nodup := by
    refine (pm.map (·.2)).nodup_iff.mpr ?_
    rw [List.map_cons]
    exact List.nodup_cons.mpr ⟨hno, R.dif⟩
  have z1 : (SetTable.insertAt es j (thash P w k, Value.ref x)).size = L.length + 1 := by
    have q := congrArg List.length rows1
    rw [rowsOf, Array.length_toList, List.length_map, n1] at q
    exact q
  generalize SetTable.insertAt es j (thash P w k, Value.ref x) = es1 at rows1 z1 ⊢
  generalize L.take j ++ (x, k) :: L.drop j = L1 at pm n1 q3 dif1 rows1
  refine wpAny_bind (wpAny_storeSet_of ho hd ?_ (by rw [z1, sizeLine_eq]; omega))
  have but : Heap.SameBut a s.heap (s.heap.update a (Obj.putSet es1 t1)) := Heap.SameBut.update ..
  have ho1 := store_at (es' := es1) (t' := t1) ho hd
  generalize s.heap.update a (Obj.putSet es1 t1) = h1 at but ho1 ⊢
  have mem1 : ∀ p ∈ L1, IsT P w h1 p.2 p.1 := fun p hp => by
    rcases List.mem_cons.mp (pm.mem_iff.mp hp) with e | hp
    · rw [e]; exact isT_same hx ho hd but
    · exact isT_same (R.mem p hp) ho hd but
  have ld1 : w.params.followText "set-order" = true ∨ t1.led = true := by rw [q5]; exact R.ld
  have fill1 : t1.fill = L.length + 1 := by rw [q9, List.length_map]
  by_cases full : t1.tooFull = true
  · first
      | (refine wpAny_bind ?_; refine wp_if_pos (by simp [full]) ?_)
      | (refine wp_if_pos (by simp [full]) ?_; refine wpAny_bind ?_)
    have over : (L.length + 1) * 5 ≥ t1.mask * 3 := by
      have q := full
      simp only [SetTable.tooFull, decide_eq_true_eq, fill1] at q
      exact q
    rw [len]
    have place1 : t1.place.size = es1.size := by rw [q3.sz, List.length_map, n1, z1]
    have which : (t.mask = 7 ∧ L.length = 4) ∨ (t.mask = 31 ∧ L.length = 18) := by
      rcases R.tbl.mok with e | e | e
      · rw [q4, e] at over; rw [e] at fit; exact .inl ⟨e, by omega⟩
      · rw [q4, e] at over; rw [e] at fit; exact .inr ⟨e, by omega⟩
      · exfalso; rw [q4, e] at over; omega
    have grow : ∀ M, SetTable.sizeAbove (SetTable.grown (L.length + 1)) - 1 = M → MaskOk M → SetTable.sizeAbove (SetTable.grown (L.length + 1)) ≤ 128 → (L.length + 1) * 5 < M * 3 →
        wpAny (model P w) A (setRelay a (SetTable.grown (L.length + 1))) (fun _ s' => wpAny (model P w) A (pure true) Q E s') E { s with heap := h1 } := fun M m1 m2 m3 m4 => by
      refine relay_at (s := { s with heap := h1 }) ho1 ⟨hex.1, hex.2.1, hex.2.2⟩ rfl rows1 place1 q3.dm (by rw [z1, q4]; rcases which with ⟨e, e2⟩ | ⟨e, e2⟩ <;> omega) dif1 mem1 pl1 ld1 (by omega) m1 m2 m3 (by rw [n1]; exact m4) ?_
      intro h2 L2 es2 ep2 t2 but2 R2 pm2
      exact wpAny_pure (hQ h2 L2 es2 ep2 t2 (but.trans but2) ⟨R2.ob, R2.rows, R2.tab, R2.nd, R2.tup, R2.plain, R2.led, R2.room⟩ (pm2.trans pm))
    rcases which with ⟨_, e2⟩ | ⟨_, e2⟩
    · exact grow 31 (by rw [e2, size_20]) (.inr (.inl rfl)) (by rw [e2, size_20]; decide) (by omega)
    · exact grow 127 (by rw [e2, size_76]) (.inr (.inr rfl)) (by rw [e2, size_76]; decide) (by omega)
  · first
      | refine wp_if_neg (by simp [full]) ?_
      | (refine wpAny_bind ?_; refine wp_if_neg (by simp [full]) ?_; refine wpAny_pure ?_)
    refine wpAny_pure (hQ h1 L1 es1 (ep + 1) t1 but ⟨⟨_, ho1, ⟨hex.1, hex.2.1, hex.2.2⟩, rfl⟩, rows1, q3, dif1, mem1, pl1, ld1, ?_⟩ pm)
    have q := full
    simp only [SetTable.tooFull, decide_eq_true_eq, fill1] at q
    rw [n1]
    omega
/-- set.add(t), t not yet in -/
theorem tw_call_add (R : TW P w s.heap a L es ep t) {x : Addr} {k : List Int} (hx : IsT P w s.heap k x) (hu : A.units + 8 < cLine) (room : L.length < 75) (hno : k ∉ L.map (·.2)) {Q : Value → Shared → Prop}
    (hQ : ∀ h' tk L' es' ep' t', Heap.SameBut a s.heap h' → TW P w h' a L' es' ep' t' → L'.Perm ((x, k) :: L) → Q .none { s with heap := h', toks := tk }) :
    wpAny (model P w) A (call (.builtin "set.add") [.ref a, .ref x]) Q E s := by
  have ⟨o, ho, hex, hd⟩ := R.obj
  have ty : s.TypeIs (.ref a) "set" := ⟨o, ho, hex.1⟩
  refine wpAny_call_entry F.slot_set_add ty F.entry_set_add ?_ (F.args_set_add_2 _ _)
  unfold Builtin.«set.add» Builtin.Frozenset.oneOther
  simp only [List.isEmpty_nil, bind_assoc]
  unfold Builtin.Frozenset.addrOf setAdd
  refine wpAny_bind (wpAny_pure ?_)
  try dsimp only
  refine wpAny_bind (wpAny_pure ?_)
  try dsimp only
  refine wpAny_bind ?_
  refine wpAny_holding ?_
  refine wpAny_bind (wpAny_pyHash_tuple (knd := intKind P w) (by show A.units + _ < cLine; omega) hx ?_)
  refine tw_add (s := { s with toks := s.toks + (k.length + 1) }) ⟨R.obj, R.rws, R.tbl, R.dif, R.mem, R.pln, R.ld, R.fit⟩ hx (by show A.units + _ < cLine; omega) room hno fun h' L' es' ep' t' b1 b2 b3 => ?_
  show wpAny _ _ (ret Value.none) _ _ _
  exact wpAny_pure ⟨_, rfl, hQ h' (s.toks + (k.length + 1)) L' es' ep' t' b1 b2 b3⟩
/-- t in set -/
theorem tw_in (R : TW P w s.heap a L es ep t) {x : Addr} {k : List Int} (hx : IsT P w s.heap k x) (hu : A.units + 8 < cLine) {Q : Value → Shared → Prop}
    (hQ : ∀ tk, Q (.bool (decide (k ∈ L.map (·.2)))) { s with toks := tk }) :
    wpAny (model P w) A (compareOp .In (.ref x) (.ref a)) Q E s := by
  have ⟨o, ho, hex, hd⟩ := R.obj
  have ty : s.TypeIs (.ref a) "set" := ⟨o, ho, hex.1⟩
  show wpAny _ _ (do return .bool (← contains (.ref a) (.ref x))) Q E s
  refine wpAny_bind ?_
  unfold contains
  try with_reducible refine wpAny_holding ?_
  refine wpAny_bind (wpAny_specialOf ty F.slot_set_contains.lookup ?_)
  show wpAny _ _ (if (some (Value.builtin "set.__contains__") == some Value.none) = true then _ else _) _ E s
  rw [if_neg (by rw [beq_builtin_none]; exact Bool.false_ne_true)]
  refine wpAny_bind (wpAny_callSpecialUnlessNone?_slot (name := Str.ofString "__contains__") ty F.slot_set_contains
    (wpAny_call_entry F.slot_set_contains ty entry_set_contains ?_ (F.args_set_contains_2 _ _)))
  unfold Builtin.«frozenset.__contains__» Builtin.Frozenset.oneOther
  simp only [List.isEmpty_nil, bind_assoc]
  unfold Builtin.Frozenset.addrOf Builtin.Frozenset.withSetAsKey setContains
  refine wpAny_bind (wpAny_pure ?_)
  try dsimp only
  refine wpAny_bind (wpAny_pure ?_)
  try dsimp only
  refine wpAny_bind (wpAny_tryCatch ?_)
  refine wpAny_holding ?_
  refine wpAny_bind (wpAny_pyHash_tuple (knd := intKind P w) (by show A.units + _ < cLine; omega) hx ?_)
  have R1 : TW P w ({ s with toks := s.toks + (k.length + 1) } : Shared).heap a L es ep t := ⟨R.obj, R.rws, R.tbl, R.dif, R.mem, R.pln, R.ld, R.fit⟩
  have fin : ∀ r : Option Nat, r.isSome = decide (k ∈ L.map (·.2)) → ∀ (E' : Value → Shared → Prop) (A' : Around) (Q' : Value → Shared → Prop), (∀ tk, Q' (.bool (decide (k ∈ L.map (·.2)))) { s with toks := tk }) → Q' (.bool r.isSome) { s with toks := s.toks + (k.length + 1) } := fun r e _ _ _ q => by
    rw [e]; exact q _
  unfold setFind
  rw [show (100000 : Nat) = 99999 + 1 from rfl]
  unfold setFindIn
  refine wpAny_bind (wpAny_bind (wpAny_setState_of ho hd R1.holds ?_))
  dsimp only
  refine wp_if_neg (by simp [byScan, Value.scannable]) ?_
  try refine wpAny_bind (wpAny_pure ?_)
  refine wpAny_bind (tw_search R1 hx (by show A.units + _ < cLine; omega) false (fun hm r hr => ?_) fun K hm _ _ => ?_)
  · dsimp only
    refine wpAny_pure (wpAny_pure ?_)
    show wpAny _ _ (ret (Value.bool r.isSome)) _ _ _
    rw [hr rfl, show true = decide (k ∈ L.map (·.2)) from (decide_eq_true hm).symm]
    exact wpAny_pure ⟨_, rfl, wpAny_truthy_bool (wpAny_pure (hQ _))⟩
  · dsimp only
    refine wpAny_pure (wpAny_pure ?_)
    show wpAny _ _ (ret (Value.bool false)) _ _ _
    rw [show false = decide (k ∈ L.map (·.2)) from (decide_eq_false hm).symm]
    exact wpAny_pure ⟨_, rfl, wpAny_truthy_bool (wpAny_pure (hQ _))⟩
end
end Sm

set_option Elab.async false
set_option linter.all false
set_option maxRecDepth 100000
set_option maxHeartbeats 2000000
namespace Sm
open PySem PySem.Spec PyProof.Rows L2
/-- the set without its members' own objects -/
structure TW0 (P : Program) (w : World) (h : Heap) (a : Addr) (L : List (Addr × List Int)) : Prop where
  ex : ∃ (es : Array (Int × Value)) (ep : Nat) (t : SetTable), (∃ o, h.get? a = some o ∧ o.ExactSet ∧ o.data = .set es ep t) ∧ es.toList = rowsOf P w L ∧ TabOk t (L.map fun p => thash P w p.2) ∧
    (L.map (·.2)).Nodup ∧ t.plain = true ∧ (w.params.followText "set-order" = true ∨ t.led = true) ∧ L.length * 5 < t.mask * 3
def TSet (P : Program) (w : World) (a : Addr) (L : List (Addr × List Int)) : HO := .ext fun h => TW0 P w h a L
theorem TW.bare {P : Program} {w : World} {h : Heap} {a : Addr} {L : List (Addr × List Int)} {es : Array (Int × Value)} {ep : Nat} {t : SetTable} (R : TW P w h a L es ep t) : TW0 P w h a L :=
  ⟨es, ep, t, R.obj, R.rws, R.tbl, R.dif, R.pln, R.ld, R.fit⟩
theorem TW0.with {P : Program} {w : World} {h : Heap} {a : Addr} {L : List (Addr × List Int)} (R : TW0 P w h a L) (hm : ∀ p ∈ L, IsT P w h p.2 p.1) : ∃ es ep t, TW P w h a L es ep t := by
  obtain ⟨es, ep, t, h1, h2, h3, h4, h5, h6, h7⟩ := R.ex
  exact ⟨es, ep, t, h1, h2, h3, h4, hm, h5, h6, h7⟩
theorem tset_ok {P : Program} {w : World} {H : Hp} {h : Heap} {a : Addr} {L : List (Addr × List Int)} (R : TW0 P w h a L) : ObjOk P w H h a (TSet P w a L) := by
  have ⟨es, ep, t, ⟨o, ho, r⟩, q⟩ := R.ex
  refine ⟨R, ⟨o, ho⟩, fun h1 h2 p k => ?_⟩
  have ⟨es', ep', t', ⟨o', ho', r'⟩, q'⟩ := TW0.ex p
  exact ⟨es', ep', t', ⟨o', k o' ho', r'⟩, q'⟩
section
variable {X : Cx} {pins : List (Addr × Obj)} {σ : L2.St} {H : Hp} {s : Shared}
theorem tset_get {a : Addr} {L : List (Addr × List Int)} (I : Inv X pins σ H s) (ha : H a = some (TSet X.prog X.w a L)) (hm : ∀ p ∈ L, SqT X.K H p.1 (p.2.map V.int)) : ∃ es ep t, TW X.prog X.w s.heap a L es ep t :=
  TW0.with (I.hok a _ ha).1 fun p hp => I.isT (hm p hp)
/-- set() -/
def rSet0T (P : Program) (w : World) : List V → Hp → VK → Prop := fun xs H Q => xs = [] ∧ ∀ p, H p = none → Q (.ref p) (upd H p (TSet P w p []))
theorem cr_set0T : CallR X (.type "set") (rSet0T X.prog X.w) := by
  intro pins s σ H xs us Q I r h
  obtain ⟨rfl, q⟩ := h
  cases r
  refine setR_new fun _ => ?_
  have R : TW X.prog X.w (s.heap.push { cls := .type "set", dict := none, data := .set #[] 0 (.fresh 0 0 (!X.w.params.followText "set-order")) }) s.heap.objs.size [] #[] 0 (.fresh 0 0 (!X.w.params.followText "set-order")) := by
    have S := setTR_fresh (P := X.prog) (w := X.w) (Heap.get?_push_size s.heap (o := { cls := .type "set", dict := none, data := .set #[] 0 (.fresh 0 0 (!X.w.params.followText "set-order")) }) rfl)
    exact ⟨S.ob, S.rows, S.tab, S.nd, S.tup, S.plain, S.led, S.room⟩
  exact ⟨.ref _, upd H s.heap.objs.size (TSet X.prog X.w s.heap.objs.size []), I.laid (t' := s.toks) (fun b u e => Heap.get?_push_of_some _ e) (Nat.le_refl _) (tset_ok R.bare), rfl, q _ (I.hok.fresh (Nat.le_refl _))⟩
/-- s.add(t), t not yet a member -/
def rAddT (K : PySem.W.Frag) (P : Program) (w : World) : V → List V → Hp → VK → Prop := fun x xs H Q => ∃ (a b : Addr) (k : List Int) (L : List (Addr × List Int)), x = V.ref a ∧ xs = [V.ref b] ∧ H a = some (TSet P w a L) ∧
  (∀ p ∈ L, SqT K H p.1 (p.2.map V.int)) ∧ SqT K H b (k.map V.int) ∧ L.length < 75 ∧ k ∉ L.map (·.2) ∧ ∀ L' : List (Addr × List Int), L'.Perm ((b, k) :: L) → Q .non (upd H a (TSet P w a L'))
theorem mt_addT (hu : X.A.units + 64 < cLine) : MtR X "set.add" (rAddT X.K X.prog X.w) := by
  intro pins s σ H x xs v us Q I rx rxs h
  obtain ⟨a, b, k, L, rfl, rfl, ha, hm, hb, room, hno, q⟩ := h
  cases rx
  cases rxs with
  | cons ry rt =>
    cases rt
    cases ry
    obtain ⟨es, ep, t, R⟩ := tset_get I ha hm
    refine tw_call_add R (I.isT hb) (by omega) room hno fun h' tk L' es' ep' t' sb R' pm => ?_
    have he : ∃ u, h'.get? a = some u := by
      obtain ⟨o, ho, _⟩ := R'.obj
      exact ⟨o, ho⟩
    exact ⟨.non, upd H a (TSet X.prog X.w a L'), I.write (e := a) (t' := tk) (by rw [ha]; trivial) (.inl rfl) (fun b u hb hu => (sb.2 b hb).trans hu) he (tset_ok R'.bare), rfl, q L' pm⟩
def tAddT (K : PySem.W.Frag) (P : Program) (w : World) (to : TE) (t : TA) : TE := fun σ H Q => to σ H fun x H1 => (∃ a L, x = V.ref a ∧ H1 a = some (TSet P w a L)) ∧ t σ H1 fun xs H2 => rAddT K P w x xs H2 Q
variable {o e : Expr} {es : List Expr} {to : TE} {t : TA} {apos cpos : Pos}
theorem pe_addT (hu : X.A.units + 64 < cLine) (ho : PE X o to) (ha : PA X (e :: es) t)
    (h1 : attributeBase o "add" X.env (eval o X.env) = eval o X.env := by rfl)
    (h2 : ((backTo cpos (starEach (e :: es) X.env)).all (fun x => !x.1) && (backToKw cpos (keywordEach [] X.env)).all (fun x => x.1.isSome)
      && decide ((e :: es).length + ([] : List Keyword).length + (if ([] : List Keyword).isEmpty then 0 else 1) < 30)) = true := by rfl)
    (h3 : (apos.endLine == cpos.line) = true := by rfl) (h4 : starEach (e :: es) X.env = (false, eval e X.env) :: starEach es X.env := by rfl) (h5 : (backTo cpos (starEach es X.env)).any (·.1) = false := by rfl) :
    PE X (.Call (.Attribute o "add" apos) (e :: es) [] cpos) (tAddT X.K X.prog X.w to t) := by
  refine ⟨fun pins s σ H Q I h => ?_⟩
  refine wpAny_Call_method_late h1 h2 h3 rfl (thn (ho.run pins s σ H _ I h) fun v s1 ⟨x, H1, I1, r1, ty, q1⟩ => ?_)
  obtain ⟨a, L, rfl, hka⟩ := ty
  obtain ⟨es0, ep0, t0, ⟨ob, hob, hex, hdt⟩, _⟩ := (show TW0 X.prog X.w s1.heap a L from (I1.hok a _ hka).1).ex
  cases r1
  refine ⟨"set", "set.add", F.plainAttrs_set, F.slot_set_add, F.type_set_add, ⟨ob, hob, hex.1⟩, fun b e => by cases e; exact ⟨ob, hob, hex.2.1⟩, ?_⟩
  have hA := ha.run cpos pins s1 σ H1 _ I1 q1
  rw [h4] at hA ⊢
  refine Calls.callWith_builtin (by show (false || (backTo cpos (starEach es X.env)).any (·.1)) = false; rw [h5] <;> rfl) (Calls.evalArgs_plain ?_)
  exact thn hA fun us s2 ⟨vs, H2, I2, r2, q2⟩ => mt_addT hu pins s2 σ H2 (.ref a) vs (.ref a) us Q I2 rfl r2 q2
/-- t in s -/
def rInT (K : PySem.W.Frag) (P : Program) (w : World) : V → V → Hp → VK → Prop := fun x y H Q => ∃ (b a : Addr) (k : List Int) (L : List (Addr × List Int)), x = V.ref b ∧ y = V.ref a ∧ H a = some (TSet P w a L) ∧
  (∀ p ∈ L, SqT K H p.1 (p.2.map V.int)) ∧ SqT K H b (k.map V.int) ∧ Q (.bl (decide (k ∈ L.map (·.2)))) H
theorem or_inT (hu : X.A.units + 64 < cLine) : OpR X (compareOp .In) (rInT X.K X.prog X.w) := by
  intro pins s σ H x y v u Q I rx ry h
  obtain ⟨b, a, k, L, rfl, rfl, ha, hm, hb, q⟩ := h
  cases rx
  cases ry
  obtain ⟨es, ep, t, R⟩ := tset_get I ha hm
  exact tw_in R (I.isT hb) (by omega) fun tk => ⟨.bl _, H, I.tok _, rfl, q⟩
/-- sorted(s), the members pairs of ints: the keys in ascending order -/
def pairOf (k : List Int) : Int × Int := (k.getD 0 0, k.getD 1 0)
def rSortT (K : PySem.W.Frag) (P : Program) (w : World) : List V → Hp → VK → Prop := fun vs H Q => ∃ (a : Addr) (L : List (Addr × List Int)), vs = [V.ref a] ∧ H a = some (TSet P w a L) ∧ (∀ p ∈ L, SqT K H p.1 (p.2.map V.int)) ∧ (∀ p ∈ L, p.2.length = 2) ∧
  ∀ (L' : List (Addr × List Int)) (p : Addr), L'.Perm L → L'.Pairwise (fun q r => SrtO.lexB (pairOf q.2) (pairOf r.2) = true) → H p = none → Q (.ref p) (upd H p (.lst (L'.map fun q => V.ref q.1)))
end
section
variable {P : Program} {w : World} {A : Around} {E : Value → Shared → Prop} {s : Shared}
theorem tw_sorted {a : Addr} {L : List (Addr × List Int)} {es : Array (Int × Value)} {ep : Nat} {t : SetTable} {Q : Value → Shared → Prop} (R : TW P w s.heap a L es ep t) (hh : A.handled = none) (two : ∀ p ∈ L, p.2.length = 2)
    (hQ : ∀ s' p (out : List Value) (c : Nat) (L' : List (Addr × List Int)), (∀ b o, s.heap.get? b = some o → s'.heap.get? b = some o) → s'.gens = s.gens → s'.os = s.os → s.heap.objs.size ≤ p →
      s'.heap.get? p = some (seqObj "list" out.toArray c) → out = L'.map (fun q => Value.ref q.1) → L'.Perm L → L'.Pairwise (fun q r => SrtO.lexB (pairOf q.2) (pairOf r.2) = true) → Q (.ref p) s') :
    wpAny (model P w) A (call (.builtin "sorted") [.ref a]) Q E s := by
  have ⟨o, ho, hex, hd⟩ := R.obj
  have len := R.len
  have few := R.few
  refine Calls.call_function_entry kind_sorted plain_sorted entry_sorted (args_sorted1 _) ?_
  unfold Builtin.«sorted»
  refine wpAny_bind (m := checkCount "sorted" 1 1 _) (wpAny_pure ?_)
  refine wpAny_bind (collect_set (A := A.in1) hh ⟨o, ho, hex.1, hd⟩ R.holds (by unfold scanBound; omega) R.tbl.ris R.ld fun s1 vs k1 hz g1 o1 pm => ?_)
  have vals : es.toList.map (·.2) = L.map fun q => Value.ref q.1 := by
    rw [R.rws, rowsOf, List.map_map]
    rfl
  rw [vals] at pm
  have pick : ∀ vs : List Value, (∀ v ∈ vs, ∃ q ∈ L, v = Value.ref q.1) → ∃ M : List (Addr × List Int), vs = M.map (fun q => Value.ref q.1) ∧ ∀ q ∈ M, q ∈ L := by
    intro vs
    induction vs with
    | nil => exact fun _ => ⟨[], rfl, fun q hq => nomatch hq⟩
    | cons v vs ih =>
      intro hv
      obtain ⟨q, hq, e⟩ := hv v List.mem_cons_self
      obtain ⟨M, e1, hs⟩ := ih fun u hu => hv u (List.mem_cons_of_mem _ hu)
      exact ⟨q :: M, by rw [List.map_cons, e, e1], fun r hr => (List.mem_cons.mp hr).elim (fun z => z ▸ hq) (hs r)⟩
  have inj : ∀ q ∈ L, ∀ r ∈ L, q.1 = r.1 → q = r := fun q hq r hr e => by
    have a1 := R.mem q hq
    rw [e] at a1
    exact Prod.ext e (a1.inj (R.mem r hr))
  have ndL : L.Nodup := nodup_of_map R.dif
  have back : ∀ M : List (Addr × List Int), (∀ q ∈ M, q ∈ L) → (M.map (fun q => Value.ref q.1)).Perm (L.map fun q => Value.ref q.1) → M.Perm L := by
    intro M hs pm1
    have nref : (L.map fun q => Value.ref q.1).Nodup := by
      refine List.pairwise_map.mpr (List.Pairwise.imp_of_mem (fun {q r} hq hr hne e => ?_) ndL)
      exact hne (inj q hq r hr (Value.ref.inj e))
    have nM : M.Nodup := nodup_of_map (pm1.nodup_iff.mpr nref)
    refine (List.perm_ext_iff_of_nodup nM ndL).mpr fun q => ⟨hs q, fun hq => ?_⟩
    obtain ⟨r, hr, e⟩ := List.mem_map.mp (pm1.mem_iff.mpr (List.mem_map.mpr ⟨q, hq, rfl⟩))
    rw [← inj r (hs r hr) q hq (Value.ref.inj e)]
    exact hr
  have vlen : vs.length = L.length := by rw [pm.length_eq, List.length_map]
  refine wpAny_bind (wpAny_newList ?_ (by rw [vlen, sizeLine_eq]; omega))
  have hoL : (s1.heap.push (seqObj "list" vs.toArray 0)).get? s1.heap.objs.size = some (seqObj "list" vs.toArray 0) := Heap.get?_push_size _ rfl
  -- which pair of ints a value is
  have keyed : ∃ k : Value → Int × Int, ∀ q ∈ L, k (.ref q.1) = pairOf q.2 := by
    refine ⟨fun v => match v with | .ref b => (match L.find? (fun q => q.1 == b) with | some q => pairOf q.2 | none => (0, 0)) | _ => (0, 0), fun q hq => ?_⟩
    dsimp only
    cases e : L.find? (fun r => r.1 == q.1) with
    | none =>
      exact absurd (beq_self_eq_true q.1) (by simpa using List.find?_eq_none.mp e q hq)
    | some r =>
      have e1 : r.1 = q.1 := by simpa using List.find?_some e
      have e2 : r ∈ L := List.mem_of_find?_eq_some e
      rw [inj r e2 q hq e1]
  obtain ⟨k, hk⟩ := keyed
  have isPair : ∀ v ∈ vs, Srt.IsPair (s1.heap.push (seqObj "list" vs.toArray 0)) v (k v).1 (k v).2 := fun v hv => by
    obtain ⟨q, hq, e⟩ := List.mem_map.mp (pm.mem_iff.mp hv)
    rw [← e, hk q hq]
    obtain ⟨o', items, n, h1, h2, h3, h4⟩ := R.mem q hq
    have l2 := two q hq
    match hq2 : q.2, l2 with
    | [x, y], _ =>
      rw [hq2] at h4
      generalize hit : items.toList = il at h4
      cases h4 with
      | @cons _ v1 _ r1 z1 z2 =>
        cases z2 with
        | @cons _ v2 _ r2 z3 z4 =>
          cases z4
          obtain ⟨t1, rfl⟩ := Value.isInt_shape z1
          obtain ⟨t2, rfl⟩ := Value.isInt_shape z3
          refine ⟨q.1, o', t1, t2, n, rfl, Heap.get?_push_of_some _ (k1 _ _ h1), h2, ?_⟩
          rw [h3]
          have : items = #[Value.int x t1, Value.int y t2] := by
            apply Array.ext'
            rw [hit]
          rw [this]
          rfl
  refine wpAny_bind (wpAny_holding (wpAny_call_entry slot_list_sort ⟨_, hoL, rfl⟩ entry_list_sort (SrtO.list_sort_ord (s := { s1 with heap := s1.heap.push (seqObj "list" vs.toArray 0) }) (SrtO.swo_lex k) hoL (by rw [vlen, sizeLine_eq]; omega)
    (fun h2 => SrtO.pairs_sortableO (by omega) isPair fun o e => ?_) fun out hs hb => ⟨_, rfl, ?_⟩) (args_list_sort _)))
  · have e' : some o = some (seqObj "list" vs.toArray 0) := e.symm.trans hoL
    cases e'
    intro c
    exact absurd (Value.type.inj c) (by decide)
  · obtain ⟨c, hc⟩ := sortedHeap_at (vs := vs) (out := out.toArray) hoL
    obtain ⟨M, e', hsub⟩ := pick out fun v hv => by
      obtain ⟨q, hq, e⟩ := List.mem_map.mp (pm.mem_iff.mp (hb.perm.mem_iff.mp hv))
      exact ⟨q, hq, e.symm⟩
    have pL : M.Perm L := back M hsub (by rw [← e']; exact hb.perm.trans pm)
    have pw : M.Pairwise (fun q r => SrtO.lexB (pairOf q.2) (pairOf r.2) = true) := by
      have z : (M.map (fun q => Value.ref q.1)).Pairwise (fun x y => SrtO.lexB (k y) (k x) = false) := by rw [← e']; exact hs
      have ndM : M.Nodup := pL.nodup_iff.mpr ndL
      have both := List.Pairwise.and (List.pairwise_map.mp z) ndM
      refine List.Pairwise.imp_of_mem (fun {q r} hq hr hle => ?_) both
      obtain ⟨h1, h2⟩ := hle
      have mq := hsub q hq
      have mr := hsub r hr
      rw [hk q mq, hk r mr] at h1
      have n1 := SrtO.lexB_no.mp h1
      refine SrtO.lexB_iff.mpr ?_
      by_cases c1 : (pairOf q.2).1 = (pairOf r.2).1
      · by_cases c2 : (pairOf q.2).2 = (pairOf r.2).2
        · exfalso
          have l1 := two q mq
          have l2 := two r mr
          have ek : q.2 = r.2 := by
            match e1 : q.2, e2 : r.2, l1, l2 with
            | [x, y], [x', y'], _, _ =>
              rw [e1, e2] at c1 c2
              have d1 : x = x' := c1
              have d2 : y = y' := c2
              rw [d1, d2]
          have nd2 : (L.map (·.2)).Nodup := R.dif
          have : q = r := by
            by_cases hqr : q = r
            · exact hqr
            · exact absurd ek (fun z => by
                have w1 := (List.pairwise_map.mp nd2)
                exact hqr (by
                  obtain ⟨i, hi, ei⟩ := List.getElem_of_mem mq
                  obtain ⟨j, hj, ej⟩ := List.getElem_of_mem mr
                  have g := List.pairwise_iff_getElem.mp w1
                  rcases Nat.lt_trichotomy i j with c | c | c
                  · exact absurd z (by have := g i j hi hj c; rw [ei, ej] at this; exact this)
                  · subst c; rw [← ei, ← ej]
                  · exact absurd z.symm (by have := g j i hj hi c; rw [ei, ej] at this; exact this)))
          exact h2 this
        · exact .inr ⟨c1, by omega⟩
      · exact .inl (by omega)
    refine wpAny_pure ⟨_, rfl, hQ _ s1.heap.objs.size out c M (fun b u e => ?_) g1 o1 hz hc e' pL pw⟩
    have q := k1 b u e
    have hlt := Heap.lt_size q
    show (sortedHeap (s1.heap.push (seqObj "list" vs.toArray 0)) s1.heap.objs.size vs out.toArray).get? b = some u
    rw [sortedHeap_old (Nat.ne_of_lt hlt) (by rw [size_push']; exact Nat.lt_succ_of_lt hlt)]
    exact Heap.get?_push_of_some _ q
end
section
variable {X : Cx}
theorem cr_sortT2 (hc : X.calm = true) : CallR X (.builtin "sorted") (rSortT X.K X.prog X.w) := by
  intro pins s σ H vs us Q I r h
  obtain ⟨a, L, rfl, ha, hm, two, q⟩ := h
  obtain ⟨es, ep, t, R⟩ := tset_get I ha hm
  rw [Vals.ref1 r]
  refine tw_sorted R (I.ok.hd hc) two fun s' p out c L' k g o hp hg hout pm pw => ?_
  have few : L'.length ≤ 76 := by rw [pm.length_eq]; exact R.few
  have hlen : (L'.map fun q => V.ref q.1).length ≤ sizeLine := by rw [List.length_map, sizeLine_eq]; omega
  have hn : H p = none := I.hok.fresh hp
  have hv : Vals (L'.map fun q => V.ref q.1) out := by rw [hout]; exact vals_of_refs L'
  have J : Inv X pins σ (upd H p (.lst (L'.map fun q => V.ref q.1))) { s with heap := s'.heap, gens := s'.gens, drawn := s'.drawn, toks := s'.toks } :=
    I.call (ch := []) (Un.laid k hp hn) (I.hok.laid k hp ⟨hlen, out, c, hv, hg⟩) (by rw [g]; exact I.bare) (fun _ z => nomatch z)
  have e : s' = { s with heap := s'.heap, gens := s'.gens, drawn := s'.drawn, toks := s'.toks } := by
    cases s'
    cases s
    cases o
    rfl
  rw [e]
  exact ⟨.ref p, _, J, rfl, q L' p pm pw hn⟩
end
end Sm

set_option Elab.async false
set_option linter.all false
set_option maxRecDepth 100000
set_option maxHeartbeats 2000000
/-! The numbers, vertices and edges of smallwidth.graph. -/
namespace Sm
open PySem PySem.Spec PyProof.Rows L2
def topS (i : Nat) : Stmt := PySem.Challenge.pw_smallwidth_k05_texts_of_graphs.main.body.getD i (.Pass ⟨0, 0, 0, 0⟩)
abbrev sNum : Stmt := topS 7
abbrev sVtx : Stmt := topS 8
abbrev sEdg : Stmt := topS 9
/-! ### what a value may be -/
inductive IB : V → Option Int → Prop where
  | int (i : Int) : IB (.int i) (some i)
  | bl (b : Bool) : IB (.bl b) none
inductive EdgeV (K : PySem.W.Frag) (H : Hp) : V → Option (Option Int × Option Int) → Prop where
  | pair {a : Addr} {x y : V} {i j : Option Int} : SqT K H a [x, y] → IB x i → IB y j → EdgeV K H (.ref a) (some (i, j))
  | tup {a : Addr} {xs : List V} : SqT K H a xs → xs.length ≠ 2 → EdgeV K H (.ref a) none
  | lst {a : Addr} {xs : List V} : H a = some (.lst xs) → EdgeV K H (.ref a) none
  | non : EdgeV K H .non none
def vtxB (n : Int) : Option Int → Bool
  | some i => decide (0 ≤ i) && decide (i < n)
  | none => false
def edgB (n : Int) : Option (Option Int × Option Int) → Bool
  | some (some i, some j) => vtxB n (some i) && (vtxB n (some j) && decide (i < j))
  | _ => false
theorem same_sqT {K : PySem.W.Frag} {H H' : Hp} {a : Addr} {xs : List V} (e : Same H H') (h : SqT K H a xs) : SqT K H' a xs := by
  rcases h with (h | ⟨o, h⟩) | h
  · exact .inl (.inl (e _ _ h))
  · exact .inl (.inr ⟨o, e _ _ h⟩)
  · exact .inr h
theorem EdgeV.same {K : PySem.W.Frag} {H H' : Hp} {v : V} {e : Option (Option Int × Option Int)} (s : Same H H') (h : EdgeV K H v e) : EdgeV K H' v e := by
  cases h with
  | pair h1 h2 h3 => exact .pair (same_sqT s h1) h2 h3
  | tup h1 h2 => exact .tup (same_sqT s h1) h2
  | lst h => exact .lst (s _ _ h)
  | non => exact .non
theorem iteN {c A B : Prop} [Decidable c] (hc : ¬ c) (h : A) : if (!decide c) = true then A else B := by
  rw [decide_eq_false hc]
  exact iteT h
theorem iteY {c A B : Prop} [Decidable c] (hc : c) (h : A) : if decide c = true then A else B := by
  rw [decide_eq_true hc]
  exact iteT h
theorem iteD {c A B : Prop} [Decidable c] (hc : ¬ c) (h : B) : if decide c = true then A else B := by
  rw [decide_eq_false hc]
  exact iteF h
theorem tyx_T {K : PySem.W.Frag} {H : Hp} {a : Addr} {xs : List V} (h : SqT K H a xs) : TyX K H (.ref a) (.type "tuple") := by
  rcases h with (h | ⟨o, h⟩) | ⟨o, its, n, h1, h2, _⟩
  · exact .base (.tup h)
  · exact .fTuple h
  · exact .kTuple h1 h2
/-! ### what the top has bound, as far as these defs ask -/
structure TxA (mg : Str → Option Value) : Prop where
  isi : mg "isinstance" = none
  int : mg "int" = none
  bool : mg "bool" = none
  tuple : mg "tuple" = none
  len : mg "len" = none
def spNum : Sp := fun vs H Q _ => ∃ v i, vs = [v] ∧ IB v i ∧ Q (.bl i.isSome) H
def spVtx : Sp := fun vs H Q _ => ∃ v i n, vs = [v, .int n] ∧ IB v i ∧ Q (.bl (vtxB n i)) H
def spEdg (K : PySem.W.Frag) : Sp := fun vs H Q _ => ∃ v e n, vs = [v, .int n] ∧ EdgeV K H v e ∧ Q (.bl (edgB n e)) H
section
variable {P : Program} {w : World} {K : PySem.W.Frag} {mg : Str → Option Value} {base : Heap}
theorem scNum : FnScope ["value"] ["value"] (defScope sNum) := ⟨rfl, rfl, rfl, by decide +kernel, rfl, by decide +kernel, by decide +kernel⟩
theorem ok_num {f : Addr} {fd : FuncData} (F : Fun K "is_number" "is_number" sNum f fd) (T : TxA mg) : FnOk P w K mg base CX0 1 f fd ["value"] spNum := by
  refine F.ok scNum (fun vs H Q E h => ?_) (fun cdv A outer s H vs Q E hr h => ?_)
  · obtain ⟨v, i, rfl, _⟩ := h
    rfl
  · obtain ⟨v, i, rfl, hv, q⟩ := h
    refine ⟨_, pss_one (ps_ret (pe_and (pe_callB call_isi (by rfl) T.isi (by decide +kernel) (pa_cons (pv 0) (pa_cons (pe_bltn (v := .ty "int") (by rfl) T.int (by decide +kernel) rfl) pa_nil)))
      (pe_one (pe_not (pe_callB call_isi (by rfl) T.isi (by decide +kernel) (pa_cons (pv 0) (pa_cons (pe_bltn (v := .ty "bool") (by rfl) T.bool (by decide +kernel) rfl) pa_nil))))))), ?_⟩
    cases hv with
    | int i =>
      refine ⟨_, rfl, .int i, .ty "int", .type "int", .type "int", true, rfl, .ty "int", .base (.int i), kit_ty (by decide +kernel), true, rfl, iteT ?_⟩
      exact ⟨_, rfl, .int i, .ty "bool", .type "int", .type "bool", false, rfl, .ty "bool", .base (.int i), kit_ty (by decide +kernel), false, rfl, q⟩
    | bl b =>
      refine ⟨_, rfl, .bl b, .ty "int", .type "bool", .type "int", true, rfl, .ty "int", .base (.bl b), kit_ty (by decide +kernel), true, rfl, iteT ?_⟩
      exact ⟨_, rfl, .bl b, .ty "bool", .type "bool", .type "bool", true, rfl, .ty "bool", .base (.bl b), kit_ty (by decide +kernel), true, rfl, q⟩
theorem scVtx : FnScope ["value", "size"] ["value", "size"] (defScope sVtx) := ⟨rfl, rfl, rfl, by decide +kernel, rfl, by decide +kernel, by decide +kernel⟩
theorem ok_vtx {f fN : Addr} {fd fdN : FuncData} (F : Fun K "is_vertex" "is_vertex" sVtx f fd) (FN : Fun K "is_number" "is_number" sNum fN fdN) (bN : Binds K fdN ["value"] []) (gN : mg "is_number" = some (.ref fN)) (T : TxA mg) :
    FnOk P w K mg base CX0 2 f fd ["value", "size"] spVtx := by
  have GN : FnOk P w K mg base CX0 1 fN fdN ["value"] spNum := ok_num FN T
  refine F.ok scVtx (fun vs H Q E h => ?_) (fun cdv A outer s H vs Q E hr h => ?_)
  · obtain ⟨v, i, n, rfl, _⟩ := h
    rfl
  · obtain ⟨v, i, n, rfl, hv, q⟩ := h
    refine ⟨_, pss_one (ps_ret (pe_and (pe_call GN hr (by rfl) gN FN.kp bN .nil pass0 (pa_cons (pv 0) pa_nil)) (pe_one (pe_chain op_le op_lt pe_int (pv 0) (pv 1))))), ?_⟩
    refine ⟨v, rfl, v, i, rfl, hv, i.isSome, rfl, ?_⟩
    cases hv with
    | int i =>
      refine iteT ⟨_, rfl, _, _, rfl, rfl, _, rfl, ?_⟩
      by_cases c : 0 ≤ i
      · rw [decide_eq_true c]
        refine iteT ⟨_, rfl, _, _, rfl, rfl, ?_⟩
        have e : vtxB n (some i) = decide (i < n) := by simp [vtxB, c]
        rw [e] at q
        exact q
      · rw [decide_eq_false c]
        refine iteF ?_
        have e : vtxB n (some i) = false := by simp only [vtxB, decide_eq_false c, Bool.false_and]
        rw [e] at q
        exact q
    | bl b => exact iteF q
theorem scEdg : FnScope ["value", "size", "u", "v"] ["value", "size"] (defScope sEdg) := ⟨rfl, rfl, rfl, by decide +kernel, rfl, by decide +kernel, by decide +kernel⟩
theorem ok_edg {f fV : Addr} {fd fdV : FuncData} (F : Fun K "is_edge" "is_edge" sEdg f fd) (GV : FnOk P w K mg base CX0 2 fV fdV ["value", "size"] spVtx) (kV : PySem.W.keepIn K (.ref fV) = true) (bV : Binds K fdV ["value", "size"] []) (gV : mg "is_vertex" = some (.ref fV)) (T : TxA mg) :
    FnOk P w K mg base CX0 3 f fd ["value", "size"] (spEdg K) := by
  refine F.ok scEdg (fun vs H Q E h => ?_) (fun cdv A outer s H vs Q E hr h => ?_)
  · obtain ⟨v, e, n, rfl, _⟩ := h
    rfl
  · obtain ⟨v, e, n, rfl, hv, q⟩ := h
    refine ⟨_, pss_cons (ps_if (PW.pt (pw_or (pt_not (pt_val (pe_callB call_isi (by rfl) T.isi (by decide +kernel) (pa_cons (pv 0) (pa_cons (pe_bltn (v := .ty "tuple") (by rfl) T.tuple (by decide +kernel) rfl) pa_nil)))))
        (pw_or1 (pt_cmpR op_ne (pe_callB call_len_seq (by rfl) T.len PySem.boot_len (pa_cons (pv 0) pa_nil)) pe_int (nomark _))))) (pss_one (ps_ret pe_bl)) pss_nil)
      (pss_cons (ps_asg (pv 0) (pg_tup (by rfl) (pgs_cons (pg_name (i := 2) scEdg.nd rfl (.inl rfl)) (pgs_cons (pg_name (i := 3) scEdg.nd rfl (.inl rfl)) pgs_nil))))
      (pss_one (ps_ret (pe_and (pe_call GV hr (by rfl) gV kV bV .nil pass0 (pa_cons (pv 2) (pa_cons (pv 1) pa_nil)))
        (pe_and (pe_call GV hr (by rfl) gV kV bV .nil pass0 (pa_cons (pv 3) (pa_cons (pv 1) pa_nil))) (pe_one (pe_cmpR op_lt (pv 2) (pv 3) (nomark _)))))))), ?_⟩
    cases hv with
    | non =>
      refine ⟨_, rfl, .non, .ty "tuple", .type "NoneType", .type "tuple", false, rfl, .ty "tuple", .base .non, kit_ty (by decide +kernel), false, rfl, iteT ?_⟩
      exact iteT q
    | lst h =>
      refine ⟨_, rfl, _, .ty "tuple", .type "list", .type "tuple", false, rfl, .ty "tuple", .base (.lst h), kit_ty (by decide +kernel), false, rfl, iteT ?_⟩
      exact iteT q
    | tup h ne =>
      refine ⟨_, rfl, _, .ty "tuple", .type "tuple", .type "tuple", true, rfl, .ty "tuple", tyx_T h, kit_ty (by decide +kernel), true, rfl, iteF ?_⟩
      refine ⟨_, rfl, _, _, rfl, .inr h, rfl, _, rfl, ?_⟩
      exact iteN (fun e => ne (Int.ofNat.inj (V.int.inj e))) q
    | @pair a x y i j h hx hy =>
      refine ⟨_, rfl, _, .ty "tuple", .type "tuple", .type "tuple", true, rfl, .ty "tuple", tyx_T h, kit_ty (by decide +kernel), true, rfl, iteF ?_⟩
      refine ⟨_, rfl, _, _, rfl, .inr h, rfl, _, rfl, ?_⟩
      refine iteNS rfl ?_
      refine ⟨_, rfl, a, [x, y], rfl, h, rfl, x, [y], rfl, y, [], rfl, rfl, ?_⟩
      refine ⟨x, rfl, .int n, rfl, x, i, n, rfl, hx, vtxB n i, rfl, ?_⟩
      cases ci : vtxB n i with
      | false =>
        refine iteF ?_
        have z : edgB n (some (i, j)) = false := by
          cases i with
          | none => rfl
          | some i => cases j with
            | none => rfl
            | some j => simp only [edgB, ci, Bool.false_and]
        rw [z] at q
        exact q
      | true =>
        refine iteT ⟨y, rfl, .int n, rfl, y, j, n, rfl, hy, vtxB n j, rfl, ?_⟩
        cases cj : vtxB n j with
        | false =>
          refine iteF ?_
          have z : edgB n (some (i, j)) = false := by
            cases i with
            | none => rfl
            | some i => cases j with
              | none => rfl
              | some j => simp only [edgB, cj, Bool.false_and, Bool.and_false]
          rw [z] at q
          exact q
        | true =>
          refine iteT ?_
          cases hx with
          | bl b => cases ci
          | int i =>
            cases hy with
            | bl b => cases cj
            | int j =>
              refine ⟨_, rfl, _, rfl, i, j, rfl, rfl, ?_⟩
              have z : edgB n (some (some i, some j)) = decide (i < j) := by simp only [edgB, ci, cj, Bool.true_and]
              rw [z] at q
              exact q
end
end Sm

set_option Elab.async false
set_option linter.all false
set_option maxRecDepth 100000
set_option maxHeartbeats 2000000
namespace Sm
open PySem PySem.Spec PyProof.Rows L2
abbrev Pr := Int × Int
/-! ### lists of pairs, lists of neighbours -/
abbrev PairsAt (K : PySem.W.Frag) (H : Hp) : List Addr → List Pr → Prop := Paired fun a q => SqT K H a [.int q.1, .int q.2]
theorem PairsAt.same {K : PySem.W.Frag} {H H' : Hp} (s : Same H H') : ∀ {as : List Addr} {qs : List Pr}, PairsAt K H as qs → PairsAt K H' as qs
  | _, _, .nil => .nil
  | _, _, .cons h t => .cons (same_sqT s h) (PairsAt.same s t)
theorem PairsAt.get {K : PySem.W.Frag} {H : Hp} : ∀ {as : List Addr} {qs : List Pr} {i : Nat} {a : Addr}, PairsAt K H as qs → as[i]? = some a → ∃ q, qs[i]? = some q ∧ SqT K H a [.int q.1, .int q.2]
  | _, _, _, _, .nil, e => by simp at e
  | _, _, 0, _, .cons h _, e => by simp at e; subst e; exact ⟨_, rfl, h⟩
  | _, _, i + 1, a, .cons _ t, e => by
    obtain ⟨q, h1, h2⟩ := PairsAt.get (i := i) (a := a) t (by simpa using e)
    exact ⟨q, by simpa using h1, h2⟩
def nearOf (qs : List Pr) (i : Int) : List Int := qs.flatMap fun q => (if q.1 = i then [q.2] else []) ++ (if q.2 = i then [q.1] else [])
theorem nearOf_len (qs : List Pr) (i : Int) : (nearOf qs i).length ≤ 2 * qs.length := by
  unfold nearOf
  induction qs with
  | nil => simp
  | cons q r ih =>
    rw [List.flatMap_cons, List.length_append, List.length_cons, List.length_append]
    have h1 : (if q.1 = i then [q.2] else ([] : List Int)).length ≤ 1 := by split <;> simp
    have h2 : (if q.2 = i then [q.1] else ([] : List Int)).length ≤ 1 := by split <;> simp
    omega
theorem nearOf_more {qs : List Pr} {t : Nat} {q : Pr} (h : qs[t]? = some q) (i : Int) : nearOf (qs.take (t + 1)) i = nearOf (qs.take t) i ++ ((if q.1 = i then [q.2] else []) ++ (if q.2 = i then [q.1] else [])) := by
  unfold nearOf
  rw [L2.take_next h, List.flatMap_append, List.flatMap_singleton]
def NLists (H : Hp) (nts : List Addr) (f : Nat → List Int) : Prop := ∀ i a, nts[i]? = some a → H a = some (.lst ((f i).map V.int))
theorem NLists.put {H : Hp} {nts : List Addr} {f : Nat → List Int} {u : Nat} {a : Addr} (h : NLists H nts f) (nd : nts.Nodup) (hu : nts[u]? = some a) (v : Int) :
    NLists (upd H a (.lst ((f u).map V.int ++ [.int v]))) nts (fun i => if i = u then f u ++ [v] else f i) := by
  intro i b hb
  by_cases e : i = u
  · subst e
    rw [hu] at hb
    cases hb
    have e2 : (fun i' => if i' = i then f i ++ [v] else f i') i = f i ++ [v] := if_pos rfl
    rw [upd_same, e2, List.map_append]
    rfl
  · have ne : b ≠ a := fun z => by
      subst z
      have h1 := (List.getElem?_eq_some_iff.mp hb)
      have h2 := (List.getElem?_eq_some_iff.mp hu)
      obtain ⟨l1, e1⟩ := h1
      obtain ⟨l2, e2⟩ := h2
      exact e ((List.getElem_inj nd).mp (e1.trans e2.symm))
    have e2 : (fun i' => if i' = u then f u ++ [v] else f i') i = f i := if_neg e
    rw [upd_ne ne, e2]
    exact h i b hb
theorem same_upd {H : Hp} {p : Addr} {o : HO} (h : H p = none) : Same H (upd H p o) := fun b x e => by
  rw [upd_ne (ne_of_none e h)]
  exact e
theorem same_put {H H' : Hp} {p : Addr} {o : HO} (s : Same H H') (h : H p = none) : Same H (upd H' p o) := fun b x e => by
  rw [upd_ne (ne_of_none e h)]
  exact s _ _ e
theorem NLists.same {H H' : Hp} {nts : List Addr} {f : Nat → List Int} (s : Same H H') (h : NLists H nts f) : NLists H' nts f := fun i a e => s _ _ (h i a e)
abbrev sNls : Stmt := topS 11
def spNls (K : PySem.W.Frag) : Sp := fun vs H Q _ => ∃ (n : Nat) (et : Addr) (ets : List Addr) (qs : List Pr), vs = [.int n, .ref et] ∧ n ≤ 60 ∧ SqT K H et (ets.map V.ref) ∧ PairsAt K H ets qs ∧ qs.length ≤ 100 ∧
  (∀ q ∈ qs, 0 ≤ q.1 ∧ q.1 < n ∧ 0 ≤ q.2 ∧ q.2 < n ∧ q.1 ≠ q.2) ∧
  ∀ (H' : Hp) (nt : Addr) (nts : List Addr), Same H H' → H nt = none → H' nt = some (.lst (nts.map V.ref)) → nts.length = n → (nts.Nodup ∧ ∀ a ∈ nts, H a = none) → NLists H' nts (fun i => nearOf qs i) → Q (.ref nt) H'
section
variable {P : Program} {w : World} {K : PySem.W.Frag} {mg : Str → Option Value} {base : Heap}
theorem scNls : FnScope ["size", "edges", "near", "u", "v", "_"] ["size", "edges"] (defScope sNls) := ⟨rfl, rfl, rfl, by decide +kernel, rfl, by decide +kernel, by decide +kernel⟩
theorem ok_nls {f : Addr} {fd : FuncData} (F : Fun K "near_lists" "near_lists" sNls f fd) (mr : mg "range" = none) : FnOk P w K mg base CX0 1 f fd ["size", "edges"] (spNls K) := by
  refine F.ok scNls (fun vs H Q E h => ?_) (fun cdv A outer s H vs Q E hr h => ?_)
  · obtain ⟨n, et, ets, qs, rfl, _⟩ := h
    rfl
  · obtain ⟨n, et, ets, qs, rfl, hn, hT, hP, hl, hb, q⟩ := h
    refine ⟨_, pss_cons (ps_setLc (i := 2) (own := [("_", 5)]) (g := gName 5) (tt := tYes) (by rfl) scNls.nd rfl rfl (sw_true rfl rfl rfl (by decide +kernel)) (pi_range1 rfl mr (pa_cons (pv 0) pa_nil))
        (blkOk_by (own := [("_", 5)]) (N := ["size", "edges", "near", "u", "v", "_"]) (sc := defScope sNls) (by decide +kernel)) (fun _ _ _ _ _ => pg_name (i := 5) scNls.nd rfl (Or.inl rfl)) (fun _ _ _ _ _ => pts_nil) (fun _ _ _ _ _ => pe_lst pa_nil))
      (pss_cons (ps_for PassesOwn.never rfl (pi_tup (pv 1)) (pg_tup rfl (pgs_cons (pg_name (i := 3) scNls.nd rfl (.inl rfl)) (pgs_cons (pg_name (i := 4) scNls.nd rfl (.inl rfl)) pgs_nil)))
        (pss_cons (ps_expr (pe_bm PySem.F.plainAttrs_list PySem.F.slot_list_append PySem.F.type_list_append mt_append (pe_ix ix_list (pv 2) (pv 3) (fun _ _ => rfl)) (pa_cons (pv 4) pa_nil)))
        (pss_one (ps_expr (pe_bm PySem.F.plainAttrs_list PySem.F.slot_list_append PySem.F.type_list_append mt_append (pe_ix ix_list (pv 2) (pv 4) (fun _ _ => rfl)) (pa_cons (pv 3) pa_nil))))))
      (pss_one (ps_ret (pv 2)))), ?_⟩
    refine ⟨_, rfl, n, rfl, by omega, by omega, fun D hD => ?_⟩
    have toNat : ((n : Int)).toNat = n := by omega
    refine lc_range (lo := 0) (n := ((n : Int)).toNat) (fun i H' => Same H H' ∧ ∃ nts : List Addr, nts.length = i ∧ H' D = some (.lst (nts.map V.ref)) ∧ nts.Nodup ∧ ∀ a ∈ nts, H' a = some (.lst []) ∧ a ≠ D ∧ H a = none) ?_ ?_ ?_
    · exact ⟨same_upd hD, [], rfl, upd_same, List.nodup_nil, fun a ha => nomatch ha⟩
    · rintro i H' hi ⟨sm, nts, hlen, eD, nd, hall⟩
      refine ⟨rfl, ⟨Nat.zero_le _, fun p np => ?_⟩⟩
      have npD : p ≠ D := fun z => by rw [z, eD] at np; cases np
      have npH : H p = none := sm.free np
      refine ⟨_, by rw [upd_ne npD.symm]; exact eD, by rw [List.length_map]; exact small1000 (by omega), ?_⟩
      refine ⟨same_put (same_put sm npH) hD, nts ++ [p], by rw [List.length_append, hlen]; rfl, by rw [upd_same, List.map_append]; rfl, ?_, fun a ha => ?_⟩
      · refine List.nodup_append.mpr ⟨nd, List.nodup_cons.mpr ⟨(by simp), List.nodup_nil⟩, fun a ha b hb e => ?_⟩
        rw [List.mem_singleton.mp hb] at e
        subst e
        rw [(hall _ ha).1] at np
        cases np
      · rcases List.mem_append.mp ha with z | z
        · obtain ⟨h1, h2, h3⟩ := hall a z
          refine ⟨?_, h2, h3⟩
          rw [upd_ne h2, upd_ne (ne_of_none h1 np)]
          exact h1
        · rw [List.mem_singleton.mp z]
          refine ⟨?_, npD, npH⟩
          rw [upd_ne npD, upd_same]
    · rintro H1 ⟨sm, nts, hlen, eD, nd, hall⟩
      rw [toNat] at hlen
      refine ⟨.ref et, rfl, et, rfl, ⟨_, same_sqT sm hT⟩, for_tup (K := K) (a := et) (xs := ets.map V.ref) (fun t σ H' => ∃ y3 y4, σ = [some (.int n), some (.ref et), some (.ref D), y3, y4, none] ∧ Same H H' ∧ H' D = some (.lst (nts.map V.ref)) ∧
        NLists H' nts (fun i => nearOf (qs.take t) i)) ⟨none, none, rfl, sm, eD, fun i a e => (hall a (List.mem_of_getElem? e)).1⟩ (fun t σ H' _ ⟨_, _, _, s', _⟩ => same_sqT s' hT) ?_ ?_⟩
      · rintro t x σ H' hx ⟨y3, y4, rfl, sm', eD', nl⟩
        rw [List.getElem?_map] at hx
        cases ea : ets[t]? with
        | none => rw [ea] at hx; cases hx
        | some a =>
          rw [ea] at hx
          cases hx
          obtain ⟨⟨u, v⟩, hq, hs⟩ := (hP.same sm').get ea
          have hm : (u, v) ∈ qs := List.mem_of_getElem? hq
          obtain ⟨u0, un, v0, vn, uv⟩ := hb _ hm
          have tq : t < qs.length := (List.getElem?_eq_some_iff.mp hq).1
          dsimp only at u0 un v0 vn uv hs
          obtain ⟨u', rfl⟩ : ∃ k : Nat, u = k := ⟨u.toNat, by omega⟩
          obtain ⟨v', rfl⟩ : ∃ k : Nat, v = k := ⟨v.toNat, by omega⟩
          have uv' : u' ≠ v' := fun z => uv (by rw [z])
          obtain ⟨au, hau⟩ : ∃ a, nts[u']? = some a := ⟨_, List.getElem?_eq_getElem (by omega)⟩
          obtain ⟨av, hav⟩ : ∃ a, nts[v']? = some a := ⟨_, List.getElem?_eq_getElem (by omega)⟩
          have mu := hall au (List.mem_of_getElem? hau)
          have mv := hall av (List.mem_of_getElem? hav)
          have ixu : (nts.map V.ref)[u']? = some (.ref au) := by rw [List.getElem?_map, hau]; rfl
          have ixv : (nts.map V.ref)[v']? = some (.ref av) := by rw [List.getElem?_map, hav]; rfl
          have lu := nearOf_len (qs.take t) u'
          have lv := nearOf_len (qs.take t) v'
          rw [List.length_take] at lu lv
          have hu0 := nl u' au hau
          have nl1 := nl.put nd hau v'
          have hv1 := nl1 v' av hav
          dsimp only at hv1
          rw [if_neg (fun z => uv' z.symm)] at hv1
          have nl2 := nl1.put nd hav u'
          refine ⟨a, _, rfl, hs, rfl, _, _, rfl, _, _, rfl, rfl, ?_⟩
          refine ⟨_, rfl, _, rfl, D, _, _, .ref au, rfl, rfl, SqL.of eD', atI_nat ixu, .inl ⟨rfl, _, SqL.of hu0⟩, _, rfl, au, _, _, rfl, rfl, hu0, by rw [List.length_map]; exact small1000 (show (nearOf (List.take t qs) u').length ≤ 1000 by omega), ?_⟩
          refine ⟨_, rfl, _, rfl, D, _, _, .ref av, rfl, rfl, SqL.of (by rw [upd_ne (fun z => mu.2.1 z.symm)]; exact eD'), atI_nat ixv, .inl ⟨rfl, _, SqL.of hv1⟩, _, rfl, av, _, _, rfl, rfl, hv1, by rw [List.length_map]; exact small1000 (show (nearOf (List.take t qs) v').length ≤ 1000 by omega), ?_⟩
          refine ⟨some (.int u'), some (.int v'), rfl, same_put (same_put sm' mu.2.2) mv.2.2, ?_, fun i b hb' => ?_⟩
          · rw [upd_ne (fun z => mv.2.1 z.symm), upd_ne (fun z => mu.2.1 z.symm)]
            exact eD'
          · have z := nl2 i b hb'
            dsimp only at z ⊢
            rw [if_neg (fun z => uv' z.symm)] at z
            rw [z, nearOf_more hq]
            dsimp only
            congr 3
            by_cases c1 : i = u'
            · subst c1
              rw [if_neg uv', if_pos rfl, if_pos rfl, if_neg (by omega), List.append_nil]
            · rw [if_neg c1]
              by_cases c2 : i = v'
              · subst c2
                rw [if_pos rfl, if_neg (by omega), if_pos rfl, List.nil_append]
              · rw [if_neg c2, if_neg (by omega), if_neg (by omega), List.append_nil, List.append_nil]
      · rintro σ H' ⟨y3, y4, rfl, sm', eD', nl⟩
        have lenq : qs.length = ets.length := hP.length.symm
        rw [List.length_map, ← lenq, List.take_length] at nl
        exact ⟨_, rfl, q H' D nts sm' hD eD' hlen ⟨nd, fun a ha => (hall a ha).2.2⟩ nl⟩
end
end Sm

set_option Elab.async false
set_option linter.all false
set_option maxRecDepth 100000
set_option maxHeartbeats 4000000
namespace Sm
open PySem PySem.Spec PyProof.Rows L2
abbrev EV := Option (Option Int × Option Int)
def prOf : EV → Pr
  | some (some i, some j) => (i, j)
  | _ => (0, 0)
def toL (q : Pr) : List Int := [q.1, q.2]
theorem toL_inj {p q : Pr} (h : toL p = toL q) : p = q := by
  obtain ⟨a, b⟩ := p
  obtain ⟨c, d⟩ := q
  simp only [toL, List.cons.injEq, and_true] at h
  rw [h.1, h.2]
/-- the edges that are taken, in the order of the list; none if one is refused -/
def scan (n : Int) : List Pr → List EV → Option (List Pr)
  | seen, [] => some seen
  | seen, e :: r => if edgB n e = true ∧ prOf e ∉ seen then scan n (seen ++ [prOf e]) r else none
def mkE (n : Int) (es : List EV) : Option (List Pr) := if 0 ≤ n ∧ n ≤ 60 then scan n [] es else none
theorem scan_app (n : Int) : ∀ (l r : List EV) (seen : List Pr), scan n seen (l ++ r) = (scan n seen l).bind fun s => scan n s r
  | [], r, seen => rfl
  | e :: l, r, seen => by
    show (if edgB n e = true ∧ prOf e ∉ seen then scan n (seen ++ [prOf e]) (l ++ r) else none) = (if edgB n e = true ∧ prOf e ∉ seen then scan n (seen ++ [prOf e]) l else none).bind _
    by_cases c : edgB n e = true ∧ prOf e ∉ seen
    · rw [if_pos c, if_pos c]
      exact scan_app n l r _
    · rw [if_neg c, if_neg c]
      rfl
def Okp (n : Int) (q : Pr) : Prop := 0 ≤ q.1 ∧ q.1 < q.2 ∧ q.2 < n
theorem edgB_ok {n : Int} {e : EV} (h : edgB n e = true) : ∃ i j, e = some (some i, some j) ∧ Okp n (i, j) := by
  match e, h with
  | some (some i, some j), h =>
    simp only [edgB, vtxB, Bool.and_eq_true, decide_eq_true_eq] at h
    exact ⟨i, j, rfl, h.1.1, h.2.2, h.2.1.2⟩
theorem split_at {α : Type} {l : List α} {t : Nat} {e : α} (h : l[t]? = some e) : l = l.take t ++ e :: l.drop (t + 1) := by
  obtain ⟨hl, rfl⟩ := List.getElem?_eq_some_iff.mp h
  conv => lhs; rw [← List.take_append_drop t l, List.drop_eq_getElem_cons hl]
theorem scan_ok (n : Int) : ∀ (es : List EV) (seen ps : List Pr), scan n seen es = some ps → (∀ q ∈ seen, Okp n q) → seen.Nodup → (∀ q ∈ ps, Okp n q) ∧ ps.Nodup ∧ ps.length = seen.length + es.length
  | [], seen, ps, h, a, b => by
    cases h
    exact ⟨a, b, rfl⟩
  | e :: r, seen, ps, h, a, b => by
    have h' : (if edgB n e = true ∧ prOf e ∉ seen then scan n (seen ++ [prOf e]) r else none) = some ps := h
    by_cases c : edgB n e = true ∧ prOf e ∉ seen
    · rw [if_pos c] at h'
      obtain ⟨i, j, rfl, ok⟩ := edgB_ok c.1
      obtain ⟨h1, h2, h3⟩ := scan_ok n r _ ps h' (fun q hq => by
        rcases List.mem_append.mp hq with z | z
        · exact a q z
        · rw [List.mem_singleton.mp z]; exact ok) (List.nodup_append.mpr ⟨b, by simp, fun x hx y hy e => by
          rw [List.mem_singleton.mp hy] at e
          exact c.2 (e ▸ hx)⟩)
      refine ⟨h1, h2, ?_⟩
      rw [h3, List.length_append, List.length_cons, List.length_cons, List.length_nil]
      omega
    · rw [if_neg c] at h'
      cases h'
abbrev lexlt (p q : Pr) : Prop := SrtO.lexB p q = true
def gflds (n : Int) (et nt : Addr) : List (Str × V) := putF "_near" (.ref nt) (putF "edges" (.ref et) (putF "size" (.int n) []))
theorem gf_size (n : Int) (et nt : Addr) : (gflds n et nt).lookup ("size" : Str) = some (.int n) := by
  unfold gflds
  rw [lookup_putF, if_neg (by decide +kernel), lookup_putF, if_neg (by decide +kernel), lookup_putF, if_pos rfl]
theorem gf_edges (n : Int) (et nt : Addr) : (gflds n et nt).lookup ("edges" : Str) = some (.ref et) := by
  unfold gflds
  rw [lookup_putF, if_neg (by decide +kernel), lookup_putF, if_pos rfl]
theorem gf_near (n : Int) (et nt : Addr) : (gflds n et nt).lookup ("_near" : Str) = some (.ref nt) := by
  unfold gflds
  rw [lookup_putF, if_pos rfl]
theorem gf_no (n : Int) (et nt : Addr) {m : Str} (h1 : ¬ m = "_near") (h2 : ¬ m = "edges") (h3 : ¬ m = "size") : (gflds n et nt).lookup m = none := by
  unfold gflds
  rw [lookup_putF, if_neg h1, lookup_putF, if_neg h2, lookup_putF, if_neg h3]
  rfl
/-- a graph stands at p -/
structure GraphAt (K : PySem.W.Frag) (C : Addr) (H : Hp) (p : Addr) (n : Nat) (qs : List Pr) : Prop where
  ob : ∃ dx et nt, H p = some (.ins C dx (gflds n et nt)) ∧ (∃ ets : List Addr, SqT K H et (ets.map V.ref) ∧ PairsAt K H ets qs) ∧ ∃ nts : List Addr, H nt = some (.lst (nts.map V.ref)) ∧ nts.length = n ∧ NLists H nts (fun i => nearOf qs i)
  lim : n ≤ 60
  few : qs.length ≤ 75
  ok : ∀ q ∈ qs, Okp n q
  srt : qs.Pairwise lexlt
theorem GraphAt.same {K : PySem.W.Frag} {C : Addr} {H H' : Hp} {p : Addr} {n : Nat} {qs : List Pr} (s : Same H H') (g : GraphAt K C H p n qs) : GraphAt K C H' p n qs := by
  obtain ⟨dx, et, nt, h1, ⟨ets, h2, h3⟩, nts, h4, h5, h6⟩ := g.ob
  exact ⟨⟨dx, et, nt, s _ _ h1, ⟨ets, same_sqT s h2, h3.same s⟩, nts, s _ _ h4, h5, h6.same s⟩, g.lim, g.few, g.ok, g.srt⟩
/-- all as it was but at p -/
def But (p : Addr) (H H' : Hp) : Prop := ∀ b o, H b = some o → b ≠ p → H' b = some o
theorem But.sqT {K : PySem.W.Frag} {p C dx a : Addr} {fs : List (Str × V)} {H H' : Hp} {xs : List V} (s : But p H H') (hp : H p = some (.ins C dx fs)) (h : SqT K H a xs) : SqT K H' a xs := by
  rcases h with (h | ⟨o, h⟩) | h
  · exact .inl (.inl (s _ _ h (fun z => by rw [z, hp] at h; cases h)))
  · exact .inl (.inr ⟨o, s _ _ h (fun z => by rw [z, hp] at h; cases h)⟩)
  · exact .inr h
theorem Same.but {p : Addr} {H H' : Hp} (s : Same H H') : But p H H' := fun b o e _ => s b o e
theorem But.put {p : Addr} {H H' : Hp} {o : HO} (s : But p H H') : But p H (upd H' p o) := fun b x e n => by
  rw [upd_ne n]
  exact s b x e n
theorem But.new {p q : Addr} {H H' : Hp} {o : HO} (s : But p H H') (h : H q = none) : But p H (upd H' q o) := fun b x e n => by
  rw [upd_ne (ne_of_none e h)]
  exact s b x e n
theorem But.same {p : Addr} {H H1 H2 : Hp} (s : But p H H1) (t : Same H1 H2) : But p H H2 := fun b x e n => t _ _ (s b x e n)
/-- an exception's class, as the top has made it -/
structure TxE (K : PySem.W.Frag) (mg : Str → Option Value) (x : Str) (C : Addr) : Prop where
  g : mg x = some (.ref C)
  x : PySem.W.excIn K C [.type "ValueError", .type "Exception", .type "BaseException", .type "object"] "ValueError.__new__" = true
  k : PySem.W.keepIn K (.ref C) = true
  b : PySem.W.subIn K (.ref C) (.type "BaseException") = some true
  t : PySem.W.typeIn K (.ref C) = some (.type "type")
/-- what the class Graph says -/
structure TxG (K : PySem.W.Frag) (mg : Str → Option Value) (C : Addr) : Prop where
  cl : Cls K C
  nS : NoAttr K C "size"
  nE : NoAttr K C "edges"
  nN : NoAttr K C "_near"
  g : mg "Graph" = some (.ref C)
abbrev sInit : Stmt := inClass (topS 10) 0
abbrev sHas : Stmt := inClass (topS 10) 1
abbrev sNear : Stmt := inClass (topS 10) 2
abbrev sChk : Stmt := inClass (topS 10) 3
theorem pairs_keep {K : PySem.W.Frag} {H H' : Hp} (k : ∀ (a : Addr) (xs : List V), SqT K H a xs → SqT K H' a xs) : ∀ {as : List Addr} {qs : List Pr}, PairsAt K H as qs → PairsAt K H' as qs
  | _, _, .nil => .nil
  | _, _, .cons h t => .cons (k _ _ h) (pairs_keep k t)
def spInit (K : PySem.W.Frag) (C CB : Addr) : Sp := fun vs H Q E => ∃ (p dx : Addr) (n : Int) (a : Addr) (xs : List V) (es : List EV), vs = [.ref p, .int n, .ref a] ∧ H p = some (.ins C dx []) ∧ SqL K H a xs ∧ Paired (EdgeV K H) xs es ∧ es.length ≤ 75 ∧
  (mkE n es = none → ∀ H', Same H H' → E (.ref CB) none H') ∧
  (∀ ps, mkE n es = some ps → ∀ (H' : Hp) (qs : List Pr), (∀ b o, H b = some o → b ≠ p → H' b = some o) → qs.Perm ps → GraphAt K C H' p n.toNat qs → (∀ (S : Addr → Prop) (H'' : Hp), (∀ D, S D → ∃ x, H D = some (.lst x)) → (∀ b o, H' b = some o → ¬ S b → H'' b = some o) → GraphAt K C H'' p n.toNat qs) → Q .non H')
theorem ev_get {K : PySem.W.Frag} {H : Hp} : ∀ {xs : List V} {es : List EV} {i : Nat} {x : V}, Paired (EdgeV K H) xs es → xs[i]? = some x → ∃ e, es[i]? = some e ∧ EdgeV K H x e
  | _, _, _, _, .nil, e => by simp at e
  | _, _, 0, _, .cons h _, e => by simp at e; subst e; exact ⟨_, rfl, h⟩
  | _, _, i + 1, x, .cons _ t, e => by
    obtain ⟨q, h1, h2⟩ := ev_get (i := i) (x := x) t (by simpa using e)
    exact ⟨q, by simpa using h1, h2⟩
theorem edgeV_pair {K : PySem.W.Frag} {H : Hp} {v : V} {i j : Int} (h : EdgeV K H v (some (some i, some j))) : ∃ a, v = .ref a ∧ SqT K H a [.int i, .int j] := by
  cases h with
  | pair h hx hy =>
    cases hx
    cases hy
    exact ⟨_, rfl, h⟩
theorem pairs_of {K : PySem.W.Frag} {H : Hp} : ∀ {L : List (Addr × List Int)} {qs : List Pr}, L.map (·.2) = qs.map toL → (∀ p ∈ L, SqT K H p.1 (p.2.map V.int)) → PairsAt K H (L.map (·.1)) qs
  | [], [], _, _ => .nil
  | [], _ :: _, e, _ => by cases e
  | _ :: _, [], e, _ => by cases e
  | p :: L, q :: qs, e, h => by
    have e1 : p.2 = toL q := (List.cons.inj e).1
    have h1 := h p List.mem_cons_self
    rw [e1] at h1
    exact .cons h1 (pairs_of (List.cons.inj e).2 fun r hr => h r (List.mem_cons_of_mem _ hr))
section
variable {P : Program} {w : World} {K : PySem.W.Frag} {mg : Str → Option Value} {base : Heap}
theorem scInit : FnScope ["self", "size", "edges", "seen", "edge"] ["self", "size", "edges"] (defScope sInit) := ⟨rfl, rfl, rfl, by decide +kernel, rfl, by decide +kernel, by decide +kernel⟩
theorem ok_init {f C CB fN fE fL : Addr} {fd fdN fdE fdL : FuncData} (F : Fun K "__init__" "Graph.__init__" sInit f fd) (T : TxG K mg C) (B : TxE K mg "BadGraph" CB)
    (GN : FnOk P w K mg base CX0 1 fN fdN ["value"] spNum) (gN : mg "is_number" = some (.ref fN)) (kN : PySem.W.keepIn K (.ref fN) = true) (bN : Binds K fdN ["value"] [])
    (GE : FnOk P w K mg base CX0 3 fE fdE ["value", "size"] (spEdg K)) (gE : mg "is_edge" = some (.ref fE)) (kE : PySem.W.keepIn K (.ref fE) = true) (bE : Binds K fdE ["value", "size"] [])
    (GL : FnOk P w K mg base CX0 1 fL fdL ["size", "edges"] (spNls K)) (gL : mg "near_lists" = some (.ref fL)) (kL : PySem.W.keepIn K (.ref fL) = true) (bL : Binds K fdL ["size", "edges"] [])
    {tm : Tok} (gM : mg "MOST_VERTICES" = some (.int 60 tm)) (mset : mg "set" = none) (mtup : mg "tuple" = none) (msort : mg "sorted" = none) :
    FnOk P w K mg base (L2.CX P w) 4 f fd ["self", "size", "edges"] (spInit K C CB) := by
  refine F.okX scInit (fun vs H Q E h => ?_) (fun cdv A outer s H vs Q E hr h => ?_)
  · obtain ⟨p, dx, n, a, xs, es, rfl, _⟩ := h
    rfl
  · obtain ⟨p, dx, n, a, xs, es, rfl, hp, hS, hE, hlen, kE0, kQ⟩ := h
    have hr1 : Room 1 _ := hr.mono (by decide)
    have hu : _ + 64 < cLine := hr.units
    refine ⟨_, pss_cons (ps_if (PW.pt (pw_or (pt_not (pt_val (pe_call GN hr1 (by rfl) gN kN bN .nil pass0 (pa_cons (pv 1) pa_nil)))) (pw_or1 (pt_not (pt_chain op_le op_le pe_int (pv 1) (pe_glob (v := .int 60) rfl gM ⟨_, rfl⟩))))))
        (pss_one (ps_raise rfl (takes_of rfl rfl rfl rfl) (pmk_own PySem.F.excBase_ValueError B.x B.g B.k (raises_own B.b B.t) (by exact rfl)))) pss_nil)
      (pss_cons (ps_set (i := 3) scInit.nd rfl (.inl rfl) (pe_callTy0 cr_set0T (by rfl) mset (by decide +kernel)))
      (pss_cons (ps_for (passes_of rfl) rfl (pi_list (pv 2)) (pg_name (i := 4) scInit.nd rfl (.inl rfl))
        (pss_cons (ps_if (pt_not (pt_val (pe_call GE hr (by rfl) gE kE bE .nil pass0 (pa_cons (pv 4) (pa_cons (pv 1) pa_nil)))))
          (pss_one (ps_raise rfl (takes_of rfl rfl rfl rfl) (pmk_own PySem.F.excBase_ValueError B.x B.g B.k (raises_own B.b B.t) (by exact rfl)))) pss_nil)
        (pss_cons (ps_if (pt_cmpR (or_inT hu) (pv 4) (pv 3) (by rfl))
          (pss_one (ps_raise rfl (takes_of rfl rfl rfl rfl) (pmk_own PySem.F.excBase_ValueError B.x B.g B.k (raises_own B.b B.t) (by exact rfl)))) pss_nil)
        (pss_one (ps_expr (pe_addT hu (pv 3) (pa_cons (pv 4) pa_nil)))))))
      (pss_cons (ps_fld (pv 0) (pv 1) rfl)
      (pss_cons (ps_fld (pv 0) (pe_callTy call_tuple_of (by rfl) mtup (by decide +kernel) (pa_cons (pe_callB (cr_sortT2 rfl) (by rfl) msort (by decide +kernel) (pa_cons (pv 3) pa_nil)) pa_nil)) rfl)
      (pss_one (ps_fld (pv 0) (pe_call GL hr1 (by rfl) gL kL bL .nil pass0 (pa_cons (pv 1) (pa_cons (pe_fld (pv 0) rfl) pa_nil))) rfl)))))), ?_⟩
    refine ⟨_, rfl, _, some n, rfl, .int n, true, rfl, iteF ?_⟩
    refine ⟨_, rfl, _, _, rfl, rfl, _, rfl, ?_⟩
    have bad : ¬ (0 ≤ n ∧ n ≤ 60) → E (.ref CB) none H := fun c => kE0 (by unfold mkE; rw [if_neg c]) H (Same.refl H)
    refine ite2 (fun c0 => ?_) (fun c0 => ?_)
    rotate_left
    · refine ⟨_, rfl, ?_⟩
      exact iteT (bad fun z => c0 (decide_eq_true z.1))
    refine ⟨_, _, rfl, rfl, _, rfl, ?_⟩
    have n0 : 0 ≤ n := of_decide_eq_true c0
    by_cases c1 : n ≤ 60
    rotate_left
    · exact iteN c1 (bad fun z => c1 z.2)
    refine iteNS c1 ?_
    -- seen = set()
    refine ⟨rfl, fun S nS => ?_⟩
    have s1 : Same H (upd H S (TSet P w S [])) := same_upd nS
    have noS : ∀ {b : Addr} {o : HO}, H b = some o → b ≠ S := fun e => ne_of_none e nS
    have hxl : xs.length = es.length := hE.length
    refine ⟨_, rfl, a, rfl, ⟨_, s1.seq hS⟩, for_list (K := K) (a := a) (xs := xs) (fun t σ H' => ∃ (y4 : Option V) (seen : List Pr) (L : List (Addr × List Int)), σ = [some (.ref p), some (.int n), some (.ref a), some (.ref S), y4] ∧ Same H H' ∧
      H' S = some (TSet P w S L) ∧ scan n [] (es.take t) = some seen ∧ (L.map (·.2)).Perm (seen.map toL) ∧ (∀ r ∈ L, SqT K H r.1 (r.2.map V.int)) ∧ L.length ≤ t)
      ⟨none, [], [], rfl, s1, upd_same, by rw [List.take_zero]; rfl, List.Perm.refl _, (fun r hr => by cases hr), Nat.le_refl _⟩ (fun t σ H' _ ⟨_, _, _, _, s', _⟩ => s'.seq hS) ?_ ?_⟩
    · rintro t x σ H' hx ⟨y4, seen, L, rfl, sm, eS, hsc, pm, hm, hl⟩
      obtain ⟨e, he, hv⟩ := ev_get hE hx
      have tl : t < es.length := (List.getElem?_eq_some_iff.mp he).1
      have stop : ¬ (edgB n e = true ∧ prOf e ∉ seen) → ∀ H2, Same H H2 → E (.ref CB) none H2 := fun c => by
        refine kE0 ?_
        unfold mkE
        rw [if_pos ⟨n0, c1⟩]
        rw [split_at he, scan_app, hsc]
        show (if edgB n e = true ∧ prOf e ∉ seen then _ else none) = none
        rw [if_neg c]
      refine ⟨_, rfl, _, rfl, _, e, n, rfl, hv.same sm, edgB n e, rfl, ?_⟩
      cases ce : edgB n e with
      | false => exact iteT (stop (by rw [ce]; simp) H' sm)
      | true =>
        refine iteF ?_
        obtain ⟨i, j, rfl, ok⟩ := edgB_ok ce
        obtain ⟨b, rfl, hb⟩ := edgeV_pair hv
        have hm' : ∀ r ∈ L, SqT K H' r.1 (r.2.map V.int) := fun r hr => same_sqT sm (hm r hr)
        have hmem : toL (i, j) ∈ L.map (·.2) ↔ (i, j) ∈ seen := by
          rw [pm.mem_iff]
          constructor
          · intro z
            obtain ⟨q, hq, e⟩ := List.mem_map.mp z
            rw [← toL_inj e]
            exact hq
          · intro z
            exact List.mem_map.mpr ⟨_, z, rfl⟩
        refine ⟨_, rfl, _, rfl, b, S, toL (i, j), L, rfl, rfl, eS, hm', same_sqT sm hb, _, rfl, ?_⟩
        refine ite2 (fun c => ?_) (fun c => ?_)
        · have c' : (i, j) ∈ seen := hmem.mp (of_decide_eq_true c)
          exact stop (fun z => z.2 c') H' sm
        · have c' : (i, j) ∉ seen := fun z => c (decide_eq_true (hmem.mpr z))
          refine ⟨_, rfl, ⟨S, L, rfl, eS⟩, _, rfl, S, b, toL (i, j), L, rfl, rfl, eS, hm', same_sqT sm hb, by omega, fun z => c' (hmem.mp z), fun L' pm' => ?_⟩
          refine ⟨_, seen ++ [(i, j)], L', rfl, same_put sm nS, upd_same, ?_, ?_, fun r hr => ?_, ?_⟩
          · rw [L2.take_next he, scan_app, hsc]
            show (if edgB n (some (some i, some j)) = true ∧ prOf (some (some i, some j)) ∉ seen then scan n (seen ++ [prOf (some (some i, some j))]) [] else none) = _
            rw [if_pos ⟨ce, c'⟩]
            rfl
          · refine (pm'.map (·.2)).trans ?_
            rw [List.map_cons, List.map_append]
            exact (List.Perm.cons _ pm).trans (List.perm_append_singleton _ _).symm
          · rcases List.mem_cons.mp (pm'.mem_iff.mp hr) with z | z
            · rw [z]; exact hb
            · exact hm r z
          · rw [pm'.length_eq, List.length_cons]; omega
    · rintro σ H' ⟨y4, seen, L, rfl, sm, eS, hsc, pm, hm, hl⟩
      rw [hxl, List.take_length] at hsc
      have hmk : mkE n es = some seen := by unfold mkE; rw [if_pos ⟨n0, c1⟩]; exact hsc
      obtain ⟨ok, nd, sl⟩ := scan_ok n es [] seen hsc (fun q hq => by cases hq) List.nodup_nil
      have hp1 := sm _ _ hp
      have pS : p ≠ S := noS hp
      -- self.size = size
      refine ⟨_, rfl, _, rfl, p, C, dx, [], rfl, hp1, T.cl, T.nS, (by show 0 < 1000; decide), ?_⟩
      -- self.edges = tuple(sorted(seen))
      refine ⟨_, rfl, S, L, rfl, by rw [upd_ne pS.symm]; exact eS, fun r hr => ?_, fun r hr => ?_, fun L2' l2 pm2 srt2 nl2 => ?_⟩
      · exact (But.put (Same.but sm)).sqT hp (hm r hr)
      · have := (pm.mem_iff.mp (List.mem_map.mpr ⟨r, hr, rfl⟩))
        obtain ⟨q, _, e⟩ := List.mem_map.mp this
        rw [← e]
        rfl
      · obtain ⟨k, rfl⟩ : ∃ k : Nat, n = (k : Int) := ⟨n.toNat, by omega⟩
        -- the pairs in their order
        have two : ∀ r ∈ L, ∃ q, q ∈ seen ∧ r.2 = toL q := fun r hr => by
          obtain ⟨q, hq, e⟩ := List.mem_map.mp (pm.mem_iff.mp (List.mem_map.mpr ⟨r, hr, rfl⟩))
          exact ⟨q, hq, e.symm⟩
        have keyP : ∀ r ∈ L, r.2 = toL (pairOf r.2) := fun r hr => by
          obtain ⟨q, _, e⟩ := two r hr
          rw [e]
          rfl
        have eqs : L2'.map (·.2) = (L2'.map fun r => pairOf r.2).map toL := by
          rw [List.map_map]
          exact List.map_congr_left fun r hr => keyP r (pm2.mem_iff.mp hr)
        have pq : (L2'.map fun r => pairOf r.2).Perm seen := by
          have z : ((L.map (·.2)).map pairOf).Perm ((seen.map toL).map pairOf) := pm.map pairOf
          rw [List.map_map, List.map_map] at z
          have e1 : seen.map (pairOf ∘ toL) = seen := by
            rw [show (pairOf ∘ toL) = id from funext fun q => rfl]
            exact List.map_id _
          rw [e1] at z
          exact (pm2.map _).trans z
        have srtq : (L2'.map fun r => pairOf r.2).Pairwise lexlt := List.pairwise_map.mpr srt2
        have okq : ∀ q ∈ L2'.map fun r => pairOf r.2, Okp k q := fun q hq => ok q (pq.mem_iff.mp hq)
        have fewq : (L2'.map fun r => pairOf r.2).length ≤ 75 := by rw [pq.length_eq, sl, List.length_nil]; omega
        generalize hqs : (L2'.map fun r => pairOf r.2) = qs at eqs pq srtq okq fewq
        have bt0 : But p H (upd H' p (.ins C dx (putF "size" (.int k) []))) := But.put (Same.but sm)
        have nl2H : H l2 = none := by
          cases e : H l2 with
          | none => rfl
          | some o =>
            have z := bt0 l2 o e (fun y => by rw [y] at nl2; rw [upd_same] at nl2; cases nl2)
            rw [z] at nl2
            cases nl2
        have pl2 : p ≠ l2 := fun z => by rw [← z, upd_same] at nl2; cases nl2
        refine ⟨l2, _, rfl, .inl ⟨SqL.of upd_same, fun et net => ?_⟩⟩
        have bt1 : But p H (upd (upd H' p (.ins C dx (putF "size" (.int k) []))) l2 (.lst (L2'.map fun q => V.ref q.1))) := bt0.new nl2H
        have at1 : (upd (upd H' p (.ins C dx (putF "size" (.int k) []))) l2 (.lst (L2'.map fun q => V.ref q.1))) p = some (.ins C dx (putF "size" (.int k) [])) := by rw [upd_ne pl2, upd_same]
        generalize (upd (upd H' p (.ins C dx (putF "size" (.int k) []))) l2 (.lst (L2'.map fun q => V.ref q.1))) = H2 at net bt1 at1 ⊢
        have netH : H et = none := by
          cases e : H et with
          | none => rfl
          | some o =>
            have z := bt1 et o e (fun y => by rw [y, at1] at net; cases net)
            rw [z] at net
            cases net
        have pet : p ≠ et := fun z => by rw [← z, at1] at net; cases net
        refine ⟨_, rfl, p, C, dx, _, rfl, by rw [upd_ne pet]; exact at1, T.cl, T.nE, (by show 1 < 1000; decide), ?_⟩
        -- self._near = near_lists(size, self.edges)
        have bt2 : But p H (upd (upd H2 et (.tup (L2'.map fun q => V.ref q.1))) p (.ins C dx (putF "edges" (.ref et) (putF "size" (.int k) [])))) := (bt1.new netH).put
        have et2 : (upd (upd H2 et (.tup (L2'.map fun q => V.ref q.1))) p (.ins C dx (putF "edges" (.ref et) (putF "size" (.int k) [])))) et = some (.tup (L2'.map fun q => V.ref q.1)) := by rw [upd_ne pet.symm, upd_same]
        have at2 : (upd (upd H2 et (.tup (L2'.map fun q => V.ref q.1))) p (.ins C dx (putF "edges" (.ref et) (putF "size" (.int k) [])))) p = some (.ins C dx (putF "edges" (.ref et) (putF "size" (.int k) []))) := upd_same
        generalize (upd (upd H2 et (.tup (L2'.map fun q => V.ref q.1))) p (.ins C dx (putF "edges" (.ref et) (putF "size" (.int k) [])))) = H3 at bt2 et2 at2 ⊢
        have mapref : (L2'.map fun q => V.ref q.1) = (L2'.map (·.1)).map V.ref := by rw [List.map_map]; rfl
        have hm3 : ∀ r ∈ L2', SqT K H r.1 (r.2.map V.int) := fun r hr => hm r (pm2.mem_iff.mp hr)
        have pa0 : PairsAt K H (L2'.map (·.1)) qs := pairs_of eqs hm3
        have pa3 : PairsAt K H3 (L2'.map (·.1)) qs := pairs_of eqs fun r hr => bt2.sqT hp (hm3 r hr)
        rw [mapref] at et2
        refine ⟨_, rfl, _, rfl, p, C, dx, _, .ref et, rfl, at2, T.cl, T.nE, by rw [lookup_putF, if_pos rfl], ?_⟩
        refine ⟨k, et, L2'.map (·.1), qs, rfl, by omega, SqT.of et2, pa3, by omega, fun q hq => ?_, fun H4 nt nts sm4 nnt ent lnt ndn nl => ?_⟩
        · obtain ⟨z1, z2, z3⟩ := okq q hq
          exact ⟨z1, by omega, by omega, z3, by omega⟩
        · have at4 := sm4 _ _ at2
          refine ⟨_, rfl, p, C, dx, _, rfl, at4, T.cl, T.nN, (by show 2 < 1000; decide), ?_⟩
          have pnt : p ≠ nt := fun z => by rw [z] at at2; rw [at2] at nnt; cases nnt
          have sb : But p H4 (upd H4 p (.ins C dx (gflds k et nt))) := But.put (Same.but (Same.refl _))
          have g1 : SqT K (upd H4 p (.ins C dx (gflds k et nt))) et ((L2'.map (·.1)).map V.ref) := sb.sqT at4 (SqT.of (sm4 _ _ et2))
          have g2 : PairsAt K (upd H4 p (.ins C dx (gflds k et nt))) (L2'.map (·.1)) qs := pairs_of eqs fun r hr => sb.sqT at4 (same_sqT sm4 (bt2.sqT hp (hm3 r hr)))
          have ent' : upd H4 p (.ins C dx (gflds k et nt)) nt = some (.lst (nts.map V.ref)) := by rw [upd_ne pnt.symm]; exact ent
          have nl' : ∀ (i : Nat) a, nts[i]? = some a → upd H4 p (.ins C dx (gflds k et nt)) a = some (.lst ((nearOf qs i).map V.int)) := fun i a e => by
            have z := nl i a e
            rw [upd_ne (fun y => by rw [y, at4] at z; cases z)]
            exact z
          have down : ∀ q : Addr, H3 q = none → H q = none := fun q h => by
            cases e : H q with
            | none => rfl
            | some o =>
              have z := bt2 q o e (fun y => by rw [y, at2] at h; cases h)
              rw [z] at h
              cases h
          have bt5 : But p H (upd H4 p (.ins C dx (gflds k et nt))) := (bt2.same sm4).put
          refine kQ seen hmk (upd H4 p (.ins C dx (gflds k et nt))) qs bt5 pq ⟨⟨dx, et, nt, upd_same, ⟨_, g1, g2⟩, nts, ent', lnt, nl'⟩, by omega, fewq, okq, srtq⟩ fun S H'' hS bD => ?_
          have noS : ∀ b o, upd H4 p (.ins C dx (gflds k et nt)) b = some o → b ≠ p → (∀ x, o ≠ .lst x) → ¬ S b := fun b o e bp no hs => by
            obtain ⟨x, hx⟩ := hS b hs
            have z := bt5 b _ hx bp
            rw [e] at z
            exact no x (Option.some.inj z)
          have pS : ¬ S p := fun hs => by
            obtain ⟨x, hx⟩ := hS p hs
            rw [hp] at hx
            cases hx
          have keepT : ∀ {a : Addr} {xs : List V}, SqT K (upd H4 p (.ins C dx (gflds k et nt))) a xs → SqT K H'' a xs := fun {a xs} h => by
            have ap : ∀ o, upd H4 p (.ins C dx (gflds k et nt)) a = some o → (∀ c d f, o ≠ .ins c d f) → a ≠ p := fun o e no z => by
              rw [z, upd_same] at e
              exact no _ _ _ (Option.some.inj e).symm
            rcases h with (h | ⟨o, h⟩) | h
            · exact .inl (.inl (bD _ _ h (noS _ _ h (ap _ h (fun _ _ _ => HO.noConfusion)) (fun _ => HO.noConfusion))))
            · exact .inl (.inr ⟨o, bD _ _ h (noS _ _ h (ap _ h (fun _ _ _ => HO.noConfusion)) (fun _ => HO.noConfusion))⟩)
            · exact .inr h
          refine ⟨⟨dx, et, nt, bD _ _ upd_same pS, ⟨_, keepT g1, pairs_keep (fun a xs => keepT) g2⟩, nts, bD _ _ ent' (fun hs => ?_), lnt, fun i a e => bD _ _ (nl' i a e) (fun hs => ?_)⟩, by omega, fewq, okq, srtq⟩
          · obtain ⟨x, hx⟩ := hS _ hs
            rw [down nt nnt] at hx
            cases hx
          · obtain ⟨x, hx⟩ := hS _ hs
            rw [down a (ndn.2 a (List.mem_of_getElem? e))] at hx
            cases hx
end
end Sm

set_option Elab.async false
set_option linter.all false
set_option maxRecDepth 100000
set_option maxHeartbeats 4000000
namespace Sm
open PySem PySem.Spec PyProof.Rows L2
theorem vtxB_nat {n : Nat} {i : Option Int} (h : vtxB n i = true) : ∃ u : Nat, i = some (u : Int) ∧ u < n := by
  match i, h with
  | some i, h =>
    simp only [vtxB, Bool.and_eq_true, decide_eq_true_eq] at h
    exact ⟨i.toNat, by rw [show ((i.toNat : Nat) : Int) = i by omega], by omega⟩
theorem vtxB_of {n u : Nat} (h : u < n) : vtxB n (some (u : Int)) = true := by
  simp only [vtxB, Bool.and_eq_true, decide_eq_true_eq]
  omega
theorem inV_int (x : Int) : ∀ l : List Int, inV (.int x) (l.map V.int) = decide (x ∈ l)
  | [] => by simp [inV]
  | y :: l => by
    have ih := inV_int x l
    unfold inV at ih ⊢
    rw [List.map_cons, List.any_cons, ih]
    by_cases c : y = x
    · simp [eqV, c]
    · have c' : ¬ x = y := fun z => c z.symm
      simp [eqV, c, c']
theorem flat_ints : ∀ l : List Int, (l.map V.int).all flatV = true
  | [] => rfl
  | _ :: l => by rw [List.map_cons, List.all_cons, flat_ints l]; rfl
section
variable {P : Program} {w : World} {K : PySem.W.Frag} {mg : Str → Option Value} {base : Heap}
end
end Sm

set_option Elab.async false
set_option linter.all false
set_option maxRecDepth 100000
set_option maxHeartbeats 2000000
/-! {e}: a set displayed with one number; a def's body that knows its code object. -/
namespace Sm
open PySem PySem.Spec PyProof.Rows L2
theorem kds_of_code {K : PySem.W.Frag} {cd : Value} {q : Str} (h : PySem.W.codeIn K cd q = true) : PySem.W.kdsCode K cd = true := by
  unfold PySem.W.codeIn at h
  unfold PySem.W.kdsCode
  split at h
  · split at h
    · rename_i e
      dsimp only
      rw [e]
    · cases h
  · cases h
section
variable {X : Cx} {e : Expr} {te : TE} {pos : Pos}
def tSet1 (w : World) (te : TE) : TE := fun σ H Q => ∀ p, H p = none → te σ (upd H p (SetO w p (fun _ => false) 0)) fun x H1 => ∃ i, x = .int i ∧ H1 p = some (SetO w p (fun _ => false) 0) ∧ Q (.ref p) (upd H1 p (SetO w p (fun j => decide (j = i)) 1))
theorem pe_set1 (he : PE X e te) (hcd : PySem.W.kdsCode X.K X.env.code = true) (hs : starEach [e] X.env = [(false, eval e X.env)] := by rfl) : PE X (.Set [e] 0 pos) (tSet1 X.w te) := by
  refine ⟨fun pins s σ H Q I h => ?_⟩
  rw [arm_eval_Set]
  refine wpAny_bind (wpAny_standAt ?_)
  refine wpAny_bind (PySem.W.kds_main I.kIn hcd fun b => ?_)
  rw [hs]
  show wpAny _ _ (setDisplay .oneByOne b [(false, do let v ← eval e X.env; standAt pos; pure v)]) _ _ _
  unfold setDisplay
  try dsimp only
  rw [if_neg (by decide)]
  refine wpAny_bind (PySem.wpAny_newSet_raw fun led hled => ?_)
  subst hled
  dsimp only
  have new : SetR X.w (s.heap.push { cls := .type "set", dict := none, data := .set #[] 0 (.fresh 0 0 (!X.w.params.followText "set-order")) }) s.heap.objs.size (fun _ => false) 0 := setR_fresh X.w
  have I1 : Inv X pins σ (upd H s.heap.objs.size (SetO X.w s.heap.objs.size (fun _ => false) 0)) { s with heap := s.heap.push { cls := .type "set", dict := none, data := .set #[] 0 (.fresh 0 0 (!X.w.params.followText "set-order")) } } :=
    I.laid (t' := s.toks) (fun b u e => Heap.get?_push_of_some _ e) (Nat.le_refl _) (setO_new new)
  have h1 := h s.heap.objs.size (I.hok.fresh (Nat.le_refl _))
  have hn : ∀ u : Sem Value, (if [(false, u)].length > 30 then 0 else (List.findIdx? (fun (x : Bool × Sem Value) => x.1) [(false, u)]).getD [(false, u)].length) = 1 := fun u => by simp
  rw [hn]
  refine wpAny_bind (wpAny_holding ?_)
  refine wpAny_bind ?_
  show wpAny _ _ ((eval e X.env >>= fun v => standAt pos >>= fun _ => pure v) >>= fun v => holding [v] (evalAll []) >>= fun r => pure (v :: r)) _ _ _
  refine wpAny_bind (wpAny_bind (thn (he.run pins _ σ _ _ I1 h1) fun v s2 ⟨x, H2, I2, rx, i, ex, hp, q⟩ => ?_))
  subst ex
  obtain ⟨tk, rfl⟩ := rx
  refine wpAny_bind (wpAny_standAt (wpAny_pure ?_))
  refine wpAny_bind (wpAny_holding (wpAny_pure (wpAny_pure ?_)))
  refine wpAny_bind (wpAny_holding ?_)
  have R := setO_get I2 hp
  have fin : ∀ s', (∃ h', Heap.SameBut s.heap.objs.size s2.heap h' ∧ SetR X.w h' s.heap.objs.size (fun j => decide (j = i)) 1 ∧ s' = { s2 with heap := h', toks := s2.toks + 1 }) → EP X pins σ Q (.ref s.heap.objs.size) s' := by
    rintro s' ⟨h', sb, r, rfl⟩
    have he' : ∃ u, h'.get? s.heap.objs.size = some u := by
      have ⟨o, _, _, _, ho, _⟩ := r
      exact ⟨o, ho⟩
    exact ⟨.ref s.heap.objs.size, _, I2.write (e := s.heap.objs.size) (t' := s2.toks + 1) (by rw [hp]; trivial) (.inl rfl) (fun b u hb hu => (sb.2 b hb).trans hu) he' (setO_new r), rfl, q⟩
  refine wpAny_bind ?_
  rw [List.forIn_cons]
  refine wpAny_bind (wpAny_bind ?_)
  unfold setAdd
  refine wpAny_holding ?_
  refine wpAny_bind ((intKind X.prog X.w).pyHash (intKind_is X.prog X.w i tk) ?_)
  refine setR_add_hashed (s := { s2 with toks := s2.toks + 1 }) R (by unfold scanBound; omega) fun h' sb r => ?_
  refine wpAny_pure ?_
  dsimp only
  rw [List.forIn_nil]
  refine wpAny_pure ?_
  rw [if_neg (by decide)]
  refine wpAny_pure ?_
  refine wpAny_bind ?_
  show wpAny _ _ (forIn ([] : List (Bool × Sem Value)) PUnit.unit _) _ _ _
  rw [List.forIn_nil]
  refine wpAny_pure (wpAny_pure (wpAny_pure (fin _ ⟨h', sb, r, rfl⟩)))
end
section
variable {P : Program} {w : World} {K : PySem.W.Frag} {mg : Str → Option Value} {base : Heap}
/-- a def's body, its code object known -/
theorem okXc {x qual : Str} {st : Stmt} {f : Addr} {fd : FuncData} {N ps : List Str} {k : Nat} {sp : Sp} (F : Fun K x qual st f fd) (S : FnScope N ps (defScope st)) (len : ∀ vs H Q E, sp vs H Q E → vs.length = ps.length)
    (hbody : ∀ (cdv : Value) (A : Around) (outer : List Env) (s : Shared) (H : Hp) (vs : List V) (Q : VK) (E : XK), PySem.W.kdsCode K cdv = true → Room k (A.deeper (envOfC qual (defScope st) s.heap.objs.size f cdv)) → sp vs H Q E →
      ∃ t, PSs (cxOf (L2.CX P w) P w K mg base N qual (defScope st) f cdv A outer s H E) (defBody st) t ∧ t { nx := fun _ H' => Q .non H', rt := Q } (start N vs) H) : FnOk P w K mg base (L2.CX P w) (k + 1) f fd ps sp := by
  obtain ⟨oc, od, kV, doc, pm, an, cdv, ct, osl, rfl, lk, hcd⟩ := F.ex
  exact fn_of lk hcd S len fun A outer s H vs Q E hr hsp => hbody cdv A outer s H vs Q E (kds_of_code hcd) hr hsp
end
end Sm

set_option Elab.async false
set_option linter.all false
set_option maxRecDepth 100000
set_option maxHeartbeats 4000000
namespace Sm
open PySem PySem.Spec PyProof.Rows L2

theorem valV_ne {kvs : List (Key × V)} {k : Key} (h : k ∈ kvs.map (·.1)) : valV kvs k ≠ none := fun z => by
  obtain ⟨p, hp, e⟩ := List.mem_map.mp h
  have q := valV_any k kvs
  rw [z] at q
  have r : (kvs.any fun kv => decide (kv.1 = k)) = true := List.any_eq_true.mpr ⟨p, hp, decide_eq_true e⟩
  rw [r] at q
  cases q
theorem u65 {k : Nat} {A : Around} (r : Room k A) : A.units + 65 < cLine := by have := r.un; omega
theorem neD_at {X : Cx} {A : Around} {K : PySem.W.Frag} (hA : X.A = A) (hK : X.K = K) (hu : A.units + 64 < cLine) : OpR X (compareOp .NotEq) (rNeD K) := by
  subst hA
  subst hK
  exact op_neD hu
def pD (q : Pr) : PyData := .tuple [.int q.1, .int q.2]
theorem pD_lay (q : Pr) : (pD q).canLay0 = true := by simp [pD, PyData.canLay0, PyData.canLayAll0]
theorem pD_depth (q : Pr) : (pD q).depth = 1 := by simp [pD, PyData.depth, PyData.depthAll]
theorem pDs_lay : ∀ qs : List Pr, PyData.canLayAll0 (qs.map pD) = true
  | [] => by simp [PyData.canLayAll0]
  | q :: qs => by simp [PyData.canLayAll0, pD_lay q, pDs_lay qs]
theorem pDs_depth : ∀ qs : List Pr, PyData.depthAll (qs.map pD) ≤ 1
  | [] => by simp [PyData.depthAll]
  | q :: qs => by
    have h1 := pDs_depth qs
    have h2 := pD_depth q
    simp only [List.map_cons, PyData.depthAll]
    omega
theorem pD_shaped (q : Pr) : SeqAt.shaped (pD q) = true := by
  have h := pD_depth q
  unfold SeqAt.shaped
  rw [Bool.and_eq_true]
  exact ⟨pD_lay q, decide_eq_true (by omega)⟩
theorem pDs_shapedT (qs : List Pr) : SeqAt.shaped (.tuple (qs.map pD)) = true := by
  have h1 := pDs_depth qs
  unfold SeqAt.shaped
  rw [Bool.and_eq_true]
  refine ⟨by simp only [PyData.canLay0]; exact pDs_lay qs, decide_eq_true ?_⟩
  simp only [PyData.depth]
  omega
theorem pDs_shapedL (qs : List Pr) : SeqAt.shaped (.list (qs.map pD)) = true := by
  have h1 := pDs_depth qs
  unfold SeqAt.shaped
  rw [Bool.and_eq_true]
  refine ⟨by simp only [PyData.canLay0]; exact pDs_lay qs, decide_eq_true ?_⟩
  simp only [PyData.depth]
  omega
theorem pD_eqv (p q : Pr) : PyData.eqv (pD p) (pD q) = decide (p = q) := by
  obtain ⟨a, b⟩ := p
  obtain ⟨c, d⟩ := q
  have e : PyData.eqv (pD (a, b)) (pD (c, d)) = ((a == c) && ((b == d) && true)) := by simp only [pD, PyData.eqv, PyData.eqvAll]
  rw [e]
  by_cases h1 : a = c
  · by_cases h2 : b = d
    · simp [h1, h2]
    · simp [h1, h2]
  · simp [h1]
theorem pDs_any (q : Pr) : ∀ qs : List Pr, ((qs.map pD).any fun z => PyData.eqv z (pD q)) = decide (q ∈ qs)
  | [] => by simp
  | p :: qs => by
    rw [List.map_cons, List.any_cons, pDs_any q qs, pD_eqv]
    by_cases c : p = q
    · simp [c]
    · have c' : ¬ q = p := fun z => c z.symm
      simp [c, c']
theorem dp_pair {K : PySem.W.Frag} {H : Hp} {a : Addr} {i j : Int} (h : SqT K H a [.int i, .int j]) : Dp K H (.ref a) (pD (i, j)) := .tup h (.cons (.int i) (.cons (.int j) .nil))
theorem dp_pairs {K : PySem.W.Frag} {H : Hp} : ∀ {as : List Addr} {qs : List Pr}, PairsAt K H as qs → DpAll K H (as.map V.ref) (qs.map pD)
  | _, _, .nil => .nil
  | _, _, .cons h t => .cons (dp_pair h) (dp_pairs t)
section
variable {X : Cx}
def rInDT (K : PySem.W.Frag) (neg : Bool) : R2 := fun x y H Q => ∃ d ds, Dp K H x d ∧ Dp K H y (.tuple ds) ∧ SeqAt.shaped d = true ∧ SeqAt.shaped (.tuple ds) = true ∧ Q (.bl (if neg then !(ds.any fun z => PyData.eqv z d) else ds.any fun z => PyData.eqv z d)) H
theorem op_inDT (hu : X.A.units + 65 < cLine) : OpR X (compareOp .In) (rInDT X.K false) := by
  intro pins s σ H x y v u Q I rx ry ⟨d, ds, hd, he, sd, se, q⟩
  obtain ⟨as, r1⟩ := Dp.reads I d x v hd rx
  obtain ⟨bs, r2⟩ := Dp.reads I (.tuple ds) y u he ry
  exact SeqAt.in_tuple_reads r2 r1 (SeqAt.canLay_of_shaped se) (SeqAt.canLay_of_shaped sd) (room_in_shaped sd hu) ⟨.bl _, H, I, rfl, q⟩
theorem op_notInDT (hu : X.A.units + 65 < cLine) : OpR X (compareOp .NotIn) (rInDT X.K true) := by
  intro pins s σ H x y v u Q I rx ry ⟨d, ds, hd, he, sd, se, q⟩
  obtain ⟨as, r1⟩ := Dp.reads I d x v hd rx
  obtain ⟨bs, r2⟩ := Dp.reads I (.tuple ds) y u he ry
  exact SeqAt.notIn_tuple_reads r2 r1 (SeqAt.canLay_of_shaped se) (SeqAt.canLay_of_shaped sd) (room_in_shaped sd hu) ⟨.bl _, H, I, rfl, q⟩
end
theorem cut_take (ns : List Int) (m : Nat) : cutV (ns.map V.int) none (some (m : Int)) = (ns.take m).map V.int := by
  unfold cutV
  rw [HT.sIx_none, HT.sIx_nat, List.drop_zero, Nat.sub_zero, List.length_map, ← List.map_take]
  congr 1
  by_cases h : m ≤ ns.length
  · rw [Nat.min_eq_left h]
  · rw [Nat.min_eq_right (by omega), List.take_length, List.take_of_length_le (by omega)]
def rowP (n u : Nat) : List Pr := (List.range (n - (u + 1))).map fun i => ((u : Int), ((u + 1 + i : Nat) : Int))
def pairsL (n : Nat) : List Pr := (List.range n).flatMap fun u => rowP n u
theorem rowP_len (n u : Nat) : (rowP n u).length = n - (u + 1) := by unfold rowP; rw [List.length_map, List.length_range]
theorem flat_len (n : Nat) : ∀ k, k ≤ n → ((List.range k).flatMap fun u => rowP n u).length ≤ k * n
  | 0, _ => by simp
  | k + 1, h => by
    rw [List.range_succ, List.flatMap_append, List.length_append, List.flatMap_singleton, rowP_len]
    have := flat_len n k (by omega)
    rw [Nat.succ_mul]
    omega
theorem mem_rowP {n u : Nat} {q : Pr} (h : q ∈ rowP n u) (hu : u < n) : Okp n q := by
  obtain ⟨i, hi, rfl⟩ := List.mem_map.mp h
  have := List.mem_range.mp hi
  refine ⟨?_, ?_, ?_⟩ <;> dsimp only <;> omega
theorem mem_pairs {n : Nat} {q : Pr} (h : q ∈ pairsL n) : Okp n q := by
  obtain ⟨u, hu, h2⟩ := List.mem_flatMap.mp h
  exact mem_rowP h2 (List.mem_range.mp hu)
theorem But.sqL {K : PySem.W.Frag} {p a : Addr} {H H' : Hp} {xs ys : List V} (s : But p H H') (hp : H p = some (.lst ys)) (h : SqL K H a xs) (ne : a ≠ p) : SqL K H' a xs := by
  rcases h with (h | ⟨o, h⟩) | h
  · exact .inl (.inl (s _ _ h ne))
  · exact .inl (.inr ⟨o, s _ _ h ne⟩)
  · exact .inr h
theorem But.trans {p : Addr} {H H1 H2 : Hp} (s : But p H H1) (t : But p H1 H2) : But p H H2 := fun b o e n => t b o (s b o e n) n
theorem But.sqTl {K : PySem.W.Frag} {p a : Addr} {H H' : Hp} {xs ys : List V} (s : But p H H') (hp : H p = some (.lst ys)) (h : SqT K H a xs) : SqT K H' a xs := by
  rcases h with (h | ⟨o, h⟩) | h
  · exact .inl (.inl (s _ _ h (fun z => by rw [z, hp] at h; cases h)))
  · exact .inl (.inr ⟨o, s _ _ h (fun z => by rw [z, hp] at h; cases h)⟩)
  · exact .inr h
theorem But.pairs {K : PySem.W.Frag} {p : Addr} {H H' : Hp} {ys : List V} (s : But p H H') (hp : H p = some (.lst ys)) : ∀ {as : List Addr} {qs : List Pr}, PairsAt K H as qs → PairsAt K H' as qs
  | _, _, .nil => .nil
  | _, _, .cons h t => .cons (s.sqTl hp h) (But.pairs s hp t)
theorem PairsAt.snoc {K : PySem.W.Frag} {H : Hp} {a : Addr} {q : Pr} (h : SqT K H a [.int q.1, .int q.2]) : ∀ {as : List Addr} {qs : List Pr}, PairsAt K H as qs → PairsAt K H (as ++ [a]) (qs ++ [q])
  | _, _, .nil => .cons h .nil
  | _, _, .cons h' t => .cons h' (PairsAt.snoc h t)
theorem But.free {p q : Addr} {H H' : Hp} {o : HO} (s : But p H H') (hp : H' p = some o) (h : H' q = none) : H q = none := by
  cases e : H q with
  | none => rfl
  | some o' =>
    by_cases z : q = p
    · rw [z, hp] at h; cases h
    · rw [s _ _ e z] at h; cases h
def evs (es : List Pr) : List EV := es.map fun q => some (some q.1, some q.2)
theorem ev_pairs {K : PySem.W.Frag} {H : Hp} : ∀ {as : List Addr} {es : List Pr}, PairsAt K H as es → Paired (EdgeV K H) (as.map V.ref) (evs es)
  | _, _, .nil => .nil
  | _, _, .cons h t => .cons (.pair h (.int _) (.int _)) (ev_pairs t)
theorem scan_evs {n : Int} : ∀ (es seen : List Pr), (∀ q ∈ es, Okp n q) → (∀ q ∈ es, q ∉ seen) → es.Nodup → scan n seen (evs es) = some (seen ++ es)
  | [], seen, _, _, _ => by rw [List.append_nil]; rfl
  | q :: es, seen, h1, h2, h3 => by
    obtain ⟨a, b, c⟩ := h1 q List.mem_cons_self
    have e : edgB n (some (some q.1, some q.2)) = true := by
      simp only [edgB, vtxB, Bool.and_eq_true, decide_eq_true_eq]
      omega
    show (if edgB n (some (some q.1, some q.2)) = true ∧ prOf (some (some q.1, some q.2)) ∉ seen then scan n (seen ++ [prOf (some (some q.1, some q.2))]) (evs es) else none) = _
    rw [if_pos ⟨e, h2 q List.mem_cons_self⟩]
    obtain ⟨d1, d2⟩ := List.nodup_cons.mp h3
    rw [scan_evs es _ (fun r hr => h1 r (List.mem_cons_of_mem _ hr)) (fun r hr hm => ?_) d2]
    · show some (seen ++ [q] ++ es) = _
      rw [List.append_assoc]
      rfl
    · rcases List.mem_append.mp hm with z | z
      · exact h2 r (List.mem_cons_of_mem _ hr) z
      · rw [List.mem_singleton.mp z] at hr
        exact d1 hr
theorem mk_evs {n : Nat} {es : List Pr} (h : n ≤ 60) (h1 : ∀ q ∈ es, Okp n q) (h3 : es.Nodup) : mkE n (evs es) = some es := by
  unfold mkE
  rw [if_pos ⟨by omega, by omega⟩]
  exact scan_evs es [] h1 (fun q _ => by simp) h3
theorem pD_inj : ∀ {ps qs : List Pr}, ps.map pD = qs.map pD → ps = qs
  | [], [], _ => rfl
  | [], _ :: _, h => by cases h
  | _ :: _, [], h => by cases h
  | p :: ps, q :: qs, h => by
    have h1 := (List.cons.inj h).1
    have h2 := pD_inj (List.cons.inj h).2
    obtain ⟨a, b⟩ := p
    obtain ⟨c, d⟩ := q
    unfold pD at h1
    injection h1 with h1
    have e1 := (List.cons.inj h1).1
    have e2 := (List.cons.inj (List.cons.inj h1).2).1
    injection e1 with e1
    injection e2 with e2
    rw [h2]
    dsimp only at e1 e2
    rw [e1, e2]
theorem pDs_eqv : ∀ ps qs : List Pr, PyData.eqvAll (ps.map pD) (qs.map pD) = decide (ps = qs)
  | [], [] => by simp [PyData.eqvAll]
  | [], q :: qs => by simp [PyData.eqvAll]
  | p :: ps, [] => by simp [PyData.eqvAll]
  | p :: ps, q :: qs => by
    have e : PyData.eqvAll ((p :: ps).map pD) ((q :: qs).map pD) = (PyData.eqv (pD p) (pD q) && PyData.eqvAll (ps.map pD) (qs.map pD)) := by simp only [List.map_cons, PyData.eqvAll]
    rw [e, pDs_eqv ps qs, pD_eqv]
    by_cases h1 : p = q
    · by_cases h2 : ps = qs
      · simp [h1, h2]
      · simp [h1, h2]
    · simp [h1]
theorem fld_at {X : Cx} {K : PySem.W.Frag} {e : Expr} {f : Str} {pos : Pos} {ta : TE} (hK : X.K = K) (he : PE X e ta) (hb : attributeBase e f X.env (eval e X.env) = eval e X.env) : PE X (.Attribute e f pos) (tFld K ta f) := by
  subst hK
  exact pe_fld he hb
theorem mem_near {qs : List Pr} {u v : Int} : v ∈ nearOf qs u ↔ (u, v) ∈ qs ∨ (v, u) ∈ qs := by
  unfold nearOf
  rw [List.mem_flatMap]
  constructor
  · rintro ⟨q, hq, h⟩
    rcases List.mem_append.mp h with z | z
    · by_cases c : q.1 = u
      · rw [if_pos c] at z
        have e := List.mem_singleton.mp z
        exact .inl (by rw [show (u, v) = q from Prod.ext c.symm e]; exact hq)
      · rw [if_neg c] at z; cases z
    · by_cases c : q.2 = u
      · rw [if_pos c] at z
        have e := List.mem_singleton.mp z
        exact .inr (by rw [show (v, u) = q from Prod.ext e c.symm]; exact hq)
      · rw [if_neg c] at z; cases z
  · rintro (h | h)
    · exact ⟨_, h, List.mem_append_left _ (by rw [if_pos rfl]; exact List.mem_singleton.mpr rfl)⟩
    · exact ⟨_, h, List.mem_append_right _ (by rw [if_pos rfl]; exact List.mem_singleton.mpr rfl)⟩
theorem near_sym {qs : List Pr} {u v : Int} (h : v ∈ nearOf qs u) : u ∈ nearOf qs v := mem_near.mpr ((mem_near.mp h).symm)
inductive Rch (qs : List Pr) (s : Int) : Int → Prop where
  | refl : Rch qs s s
  | step {u v : Int} : Rch qs s u → v ∈ nearOf qs u → Rch qs s v
theorem Rch.trans {qs : List Pr} {a b c : Int} (h : Rch qs a b) (h' : Rch qs b c) : Rch qs a c := by
  induction h' with
  | refl => exact h
  | step _ hn ih => exact .step ih hn
theorem Rch.symm {qs : List Pr} {a b : Int} (h : Rch qs a b) : Rch qs b a := by
  induction h with
  | refl => exact .refl
  | step _ hn ih => exact (Rch.step .refl (near_sym hn)).trans ih
def Vx (n : Nat) (k : Int) : Prop := 0 ≤ k ∧ k < n
theorem near_vx {n : Nat} {qs : List Pr} (ok : ∀ q ∈ qs, Okp n q) {u v : Int} (h : v ∈ nearOf qs u) : Vx n v := by
  unfold Vx
  rcases mem_near.mp h with z | z
  · obtain ⟨a, b, c⟩ := ok _ z
    dsimp only at a b c
    omega
  · obtain ⟨a, b, c⟩ := ok _ z
    dsimp only at a b c
    omega
theorem Rch.vx {n : Nat} {qs : List Pr} (ok : ∀ q ∈ qs, Okp n q) {s k : Int} (hs : Vx n s) (h : Rch qs s k) : Vx n k := by
  cases h with
  | refl => exact hs
  | step _ hn => exact near_vx ok hn
/-- numbers below n, none twice -/
theorem few_vx {n : Nat} {l : List Int} (nd : l.Nodup) (h : ∀ k ∈ l, Vx n k) : l.length ≤ n := by
  have nd2 : (l.map Int.toNat).Nodup := by
    refine List.pairwise_map.mpr (List.Pairwise.imp_of_mem (fun {a b} ha hb ne e => ne ?_) nd)
    have x := h a ha
    have y := h b hb
    unfold Vx at x y
    omega
  have z := nat_nodup_len (l.map Int.toNat) (List.range n) nd2 fun x hx => by
    obtain ⟨k, hk, rfl⟩ := List.mem_map.mp hx
    have y := h k hk
    unfold Vx at y
    exact List.mem_range.mpr (by omega)
  rw [List.length_map, List.length_range] at z
  exact z
theorem near_len {n : Nat} {qs : List Pr} (few : qs.length ≤ 75) (u : Int) : (nearOf qs u).length ≤ 150 := by
  have := nearOf_len qs u
  omega
/-- the edges that no vertex of G bears -/
def cutE (qs : List Pr) (G : List Int) : List Pr := qs.filter fun q => decide (q.1 ∉ G) && decide (q.2 ∉ G)
theorem mem_cutE {qs : List Pr} {G : List Int} {q : Pr} : q ∈ cutE qs G ↔ q ∈ qs ∧ q.1 ∉ G ∧ q.2 ∉ G := by
  unfold cutE
  rw [List.mem_filter, Bool.and_eq_true, decide_eq_true_eq, decide_eq_true_eq]
theorem cutE_nil (qs : List Pr) : cutE qs [] = qs := List.filter_eq_self.mpr fun q _ => by simp
theorem near_cut {qs : List Pr} {G : List Int} {u v : Int} : v ∈ nearOf (cutE qs G) u ↔ v ∈ nearOf qs u ∧ u ∉ G ∧ v ∉ G := by
  rw [mem_near, mem_near, mem_cutE, mem_cutE]
  constructor
  · rintro (⟨a, b, c⟩ | ⟨a, b, c⟩)
    · exact ⟨.inl a, b, c⟩
    · exact ⟨.inr a, c, b⟩
  · rintro ⟨a | a, b, c⟩
    · exact .inl ⟨a, b, c⟩
    · exact .inr ⟨a, c, b⟩
theorem valV_keys {kvs : List (Key × V)} {S : List Int} (e : kvs.map (·.1) = S.map Sum.inl) (k : Int) : (valV kvs (Sum.inl k : Key)).isSome = decide (k ∈ S) := by
  have h : (Sum.inl k : Key) ∈ kvs.map (·.1) ↔ k ∈ S := by
    rw [e, List.mem_map]
    exact ⟨fun ⟨j, hj, z⟩ => by rw [← Sum.inl.inj z]; exact hj, fun hk => ⟨k, hk, rfl⟩⟩
  unfold valV
  rw [Option.isSome_map, Bool.eq_iff_iff, List.find?_isSome, decide_eq_true_eq, ← h, List.mem_map]
  exact ⟨fun ⟨x, hx, z⟩ => ⟨x, hx, of_decide_eq_true z⟩, fun ⟨x, hx, z⟩ => ⟨x, hx, decide_eq_true z⟩⟩
theorem valV_no {kvs : List (Key × V)} {S : List Int} (e : kvs.map (·.1) = S.map Sum.inl) {k : Int} (h : k ∉ S) : valV kvs (Sum.inl k : Key) = none := by
  have z := valV_keys e k
  rw [decide_eq_false h] at z
  cases y : valV kvs (Sum.inl k : Key) with
  | none => rfl
  | some v => rw [y] at z; cases z
theorem putK_keys {kvs : List (Key × V)} {S : List Int} (e : kvs.map (·.1) = S.map Sum.inl) {k : Int} (h : k ∉ S) (v : V) : (putK kvs (Sum.inl k : Key) v).map (·.1) = (S ++ [k]).map Sum.inl := by
  rw [putK_new _ (valV_no e h), List.map_append, e, List.map_append]
  rfl
theorem lt_of_le {l : List Int} (h : l.Pairwise (· ≤ ·)) (nd : l.Nodup) : l.Pairwise (· < ·) := List.Pairwise.imp (fun {a b} h => by omega) (List.Pairwise.and h nd)
theorem lt_ext : ∀ {l m : List Int}, l.Pairwise (· < ·) → m.Pairwise (· < ·) → (∀ k, k ∈ l ↔ k ∈ m) → l = m
  | [], [], _, _, _ => rfl
  | [], b :: m, _, _, h => by have z := (h b).mpr List.mem_cons_self; cases z
  | a :: l, [], _, _, h => by have z := (h a).mp List.mem_cons_self; cases z
  | a :: l, b :: m, hl, hm, h => by
    obtain ⟨l1, l2⟩ := List.pairwise_cons.mp hl
    obtain ⟨m1, m2⟩ := List.pairwise_cons.mp hm
    have e : a = b := by
      rcases List.mem_cons.mp ((h a).mp List.mem_cons_self) with z | z
      · exact z
      · rcases List.mem_cons.mp ((h b).mpr List.mem_cons_self) with y | y
        · exact y.symm
        · have := m1 a z
          have := l1 b y
          omega
    subst e
    refine congrArg (a :: ·) (lt_ext l2 m2 fun k => ?_)
    constructor
    · intro hk
      rcases List.mem_cons.mp ((h k).mp (List.mem_cons_of_mem _ hk)) with z | z
      · have := l1 k hk
        omega
      · exact z
    · intro hk
      rcases List.mem_cons.mp ((h k).mpr (List.mem_cons_of_mem _ hk)) with z | z
      · have := m1 k hk
        omega
      · exact z
def vxs (n : Nat) : List Int := (List.range n).map fun (i : Nat) => (i : Int)
theorem vxs_lt (n : Nat) : (vxs n).Pairwise (· < ·) := List.pairwise_map.mpr (List.Pairwise.imp (fun {a b} h => by omega) List.pairwise_lt_range)
theorem mem_vxs {n : Nat} {k : Int} : k ∈ vxs n ↔ Vx n k := by
  unfold vxs Vx
  rw [List.mem_map]
  constructor
  · rintro ⟨i, hi, rfl⟩
    have := List.mem_range.mp hi
    omega
  · intro h
    exact ⟨k.toNat, List.mem_range.mpr (by omega), by omega⟩
open Classical in
noncomputable def compL (n : Nat) (qs : List Pr) (u : Int) : List Int := (vxs n).filter fun k => decide (Rch qs u k)
open Classical in
theorem compL_lt (n : Nat) (qs : List Pr) (u : Int) : (compL n qs u).Pairwise (· < ·) := (vxs_lt n).filter _
open Classical in
theorem mem_compL {n : Nat} {qs : List Pr} (ok : ∀ q ∈ qs, Okp n q) {u k : Int} (hu : Vx n u) : k ∈ compL n qs u ↔ Rch qs u k := by
  unfold compL
  rw [List.mem_filter, mem_vxs, decide_eq_true_eq]
  exact ⟨fun h => h.2, fun h => ⟨h.vx ok hu, h⟩⟩
abbrev ListsAt (H : Hp) : List Addr → List (List Int) → Prop := Paired fun a c => H a = some (.lst (c.map V.int))
theorem ListsAt.keep {H H' : Hp} (h : ∀ a c, H a = some (.lst c) → H' a = some (.lst c)) : ∀ {ps : List Addr} {cs : List (List Int)}, ListsAt H ps cs → ListsAt H' ps cs
  | _, _, .nil => .nil
  | _, _, .cons e t => .cons (h _ _ e) (ListsAt.keep h t)
theorem ListsAt.keep2 {H H' : Hp} {f : Addr} (h : ∀ a c, a ≠ f → H a = some (.lst c) → H' a = some (.lst c)) : ∀ {ps : List Addr} {cs : List (List Int)}, (∀ a ∈ ps, a ≠ f) → ListsAt H ps cs → ListsAt H' ps cs
  | _, _, _, .nil => .nil
  | _, _, n, .cons e t => .cons (h _ _ (n _ List.mem_cons_self) e) (ListsAt.keep2 h (fun a ha => n a (List.mem_cons_of_mem _ ha)) t)
theorem ListsAt.snoc {H : Hp} {a : Addr} {c : List Int} (e : H a = some (.lst (c.map V.int))) : ∀ {ps : List Addr} {cs : List (List Int)}, ListsAt H ps cs → ListsAt H (ps ++ [a]) (cs ++ [c])
  | _, _, .nil => .cons e .nil
  | _, _, .cons e' t => .cons e' (ListsAt.snoc e t)
open Classical in
/-- the components of what is left without G, of the least vertices below i -/
noncomputable def compG (n : Nat) (qs : List Pr) (G : List Int) (i : Nat) : List (List Int) := ((List.range i).filter fun (u : Nat) => decide ((u : Int) ∉ G ∧ ∀ v : Nat, v < u → ¬ Rch (cutE qs G) v u)).map fun (u : Nat) => compL n (cutE qs G) (u : Int)
open Classical in
theorem compG_no {n i : Nat} {qs : List Pr} {G : List Int} (h : (i : Int) ∈ G ∨ ∃ v : Nat, v < i ∧ Rch (cutE qs G) v i) : compG n qs G (i + 1) = compG n qs G i := by
  unfold compG
  rw [List.range_succ, List.filter_append, List.filter_cons_of_neg, List.filter_nil, List.append_nil]
  simp only [decide_eq_true_eq]
  rintro ⟨z1, z2⟩
  rcases h with h | ⟨v, hv, hr⟩
  · exact z1 h
  · exact z2 v hv hr
open Classical in
theorem compG_yes {n i : Nat} {qs : List Pr} {G : List Int} (h1 : (i : Int) ∉ G) (h : ¬ ∃ v : Nat, v < i ∧ Rch (cutE qs G) v i) : compG n qs G (i + 1) = compG n qs G i ++ [compL n (cutE qs G) (i : Int)] := by
  unfold compG
  rw [List.range_succ, List.filter_append, List.filter_cons_of_pos, List.filter_nil, List.map_append]
  · rfl
  · simp only [decide_eq_true_eq]
    exact ⟨h1, fun v hv hr => h ⟨v, hv, hr⟩⟩
theorem Rch.stay {qs : List Pr} {G : List Int} {a b : Int} (h : Rch (cutE qs G) a b) (ha : a ∉ G) : b ∉ G := by
  cases h with
  | refl => exact ha
  | step _ hn => exact (near_cut.mp hn).2.2
theorem Rch.stuck {qs : List Pr} {G : List Int} {a b : Int} (h : Rch (cutE qs G) a b) (ha : a ∈ G) : b = a := by
  induction h with
  | refl => rfl
  | step _ hn ih => subst ih; exact absurd ha (near_cut.mp hn).2.1
theorem rg_vxs (n : Nat) : rgV 0 (n : Int) = (vxs n).map V.int := by
  unfold rgV vxs
  rw [List.map_map]
  have e : ((n : Int) - 0).toNat = n := by omega
  rw [e]
  exact List.map_congr_left fun i _ => by
    show V.int (0 + (i : Int)) = V.int (i : Int)
    rw [Int.zero_add]
theorem erase_perm {l : List Int} {k : Nat} {y : Int} (h : l[k]? = some y) : (y :: l.eraseIdx k).Perm l := by
  obtain ⟨hk, e⟩ := List.getElem?_eq_some_iff.mp h
  rw [List.eraseIdx_eq_take_drop_succ]
  have z := split_at h
  conv => rhs; rw [z]
  exact List.perm_middle.symm
theorem same_of_but {p : Addr} {H Hs H' : Hp} (s : Same H Hs) (np : H p = none) (b : But p Hs H') : Same H H' := fun c o e => b _ _ (s _ _ e) (ne_of_none e np)
theorem lt_of_le_nd {l : List Int} (h : l.Pairwise (· ≤ ·)) (nd : l.Nodup) : l.Pairwise (· < ·) := List.Pairwise.imp (fun {a b} h => by have := h.1; have := h.2; omega) (List.Pairwise.and h nd)
theorem notInS_at {X : Cx} {K : PySem.W.Frag} (hK : X.K = K) : OpR X (compareOp .NotIn) (rIn K true) := by
  subst hK
  exact op_notIn_seq
theorem iteIn {x : Int} {l : List Int} {A B : Prop} (h1 : x ∈ l → A) (h2 : x ∉ l → B) : if (if false = true then !inV (.int x) (l.map V.int) else inV (.int x) (l.map V.int)) = true then A else B := by
  rw [if_neg Bool.false_ne_true, inV_int]
  by_cases c : x ∈ l
  · rw [decide_eq_true c]; exact iteT (h1 c)
  · rw [decide_eq_false c]; exact iteF (h2 c)
theorem iteNIn {x : Int} {l : List Int} {A B : Prop} (h1 : x ∉ l → A) (h2 : x ∈ l → B) : if (if true = true then !inV (.int x) (l.map V.int) else inV (.int x) (l.map V.int)) = true then A else B := by
  rw [if_pos rfl, inV_int]
  by_cases c : x ∈ l
  · rw [decide_eq_true c]; exact iteF (h2 c)
  · rw [decide_eq_false c]; exact iteT (h1 c)
theorem sorted_uniq {qs es : List Pr} (h1 : qs.Pairwise lexlt) (h2 : es.Pairwise fun x y => SrtO.lexB y x = false) (pm : es.Perm qs) : es = qs := by
  refine List.Perm.eq_of_pairwise (le := fun x y => SrtO.lexB y x = false) (fun a b _ _ h h' => ?_) h2 (List.Pairwise.imp (fun {a b} h => ?_) h1) pm
  · have x := SrtO.lexB_no.mp h
    have y := SrtO.lexB_no.mp h'
    have e1 : a.1 = b.1 := by omega
    have e2 : a.2 = b.2 := by omega
    exact Prod.ext e1 e2
  · have x := SrtO.lexB_iff.mp h
    refine SrtO.lexB_no.mpr ?_
    omega
theorem inD_at {X : Cx} {A : Around} {K : PySem.W.Frag} (hA : X.A = A) (hK : X.K = K) (hu : A.units + 65 < cLine) : OpR X (compareOp .In) (rInD K) := by
  subst hA
  subst hK
  exact op_inD hu
theorem nearOf_lt {n : Nat} {qs : List Pr} (ok : ∀ q ∈ qs, Okp n q) (srt : qs.Pairwise lexlt) (u : Int) : (nearOf qs u).Pairwise (· < ·) := by
  unfold nearOf
  refine List.pairwise_flatMap.mpr ⟨fun q hq => ?_, List.Pairwise.imp_of_mem (fun {q r} hq hr h x hx y hy => ?_) srt⟩
  · obtain ⟨a, b, c⟩ := ok q hq
    by_cases c1 : q.1 = u
    · by_cases c2 : q.2 = u
      · omega
      · rw [if_pos c1, if_neg c2]
        exact List.pairwise_singleton _ _
    · rw [if_neg c1]
      by_cases c2 : q.2 = u
      · rw [if_pos c2]
        exact List.pairwise_singleton _ _
      · rw [if_neg c2]
        exact List.Pairwise.nil
  · obtain ⟨a, b, c⟩ := ok q hq
    obtain ⟨a', b', c'⟩ := ok r hr
    have l := SrtO.lexB_iff.mp h
    have kx : (q.1 = u ∧ x = q.2) ∨ (q.2 = u ∧ x = q.1) := by
      rcases List.mem_append.mp hx with z | z
      · by_cases c1 : q.1 = u
        · rw [if_pos c1] at z; exact .inl ⟨c1, List.mem_singleton.mp z⟩
        · rw [if_neg c1] at z; cases z
      · by_cases c1 : q.2 = u
        · rw [if_pos c1] at z; exact .inr ⟨c1, List.mem_singleton.mp z⟩
        · rw [if_neg c1] at z; cases z
    have ky : (r.1 = u ∧ y = r.2) ∨ (r.2 = u ∧ y = r.1) := by
      rcases List.mem_append.mp hy with z | z
      · by_cases c1 : r.1 = u
        · rw [if_pos c1] at z; exact .inl ⟨c1, List.mem_singleton.mp z⟩
        · rw [if_neg c1] at z; cases z
      · by_cases c1 : r.2 = u
        · rw [if_pos c1] at z; exact .inr ⟨c1, List.mem_singleton.mp z⟩
        · rw [if_neg c1] at z; cases z
    omega
/-- what the law takes for the neighbours of u -/
def lnear (n : Nat) (es : List Pr) (u : Int) : List Int := (vxs n).filter fun v => decide ((if v < u then v else u, if v > u then v else u) ∈ es)
theorem mm_mem {es : List Pr} {n : Nat} (ok : ∀ q ∈ es, Okp n q) {u v : Int} : (if v < u then v else u, if v > u then v else u) ∈ es ↔ v ∈ nearOf es u := by
  rw [mem_near]
  by_cases c : v < u
  · rw [if_pos c, if_neg (by omega)]
    exact ⟨.inr, fun h => h.elim (fun z => by have := (ok _ z).2.1; dsimp only at this; omega) id⟩
  · rw [if_neg c]
    by_cases c2 : v > u
    · rw [if_pos c2]
      exact ⟨.inl, fun h => h.elim id (fun z => by have := (ok _ z).2.1; dsimp only at this; omega)⟩
    · rw [if_neg c2]
      have e : u = v := by omega
      subst e
      exact ⟨.inl, fun h => h.elim id id⟩
theorem near_perm {qs es : List Pr} (pm : qs.Perm es) {u v : Int} : v ∈ nearOf qs u ↔ v ∈ nearOf es u := by
  rw [mem_near, mem_near, pm.mem_iff, pm.mem_iff]
theorem near_lnear {n : Nat} {qs es : List Pr} (ok : ∀ q ∈ qs, Okp n q) (srt : qs.Pairwise lexlt) (pm : qs.Perm es) (u : Int) : nearOf qs u = lnear n es u := by
  refine lt_ext (nearOf_lt ok srt u) ((vxs_lt n).filter _) fun k => ?_
  have ok' : ∀ q ∈ es, Okp n q := fun q hq => ok q (pm.mem_iff.mpr hq)
  unfold lnear
  rw [List.mem_filter, mem_vxs, decide_eq_true_eq, mm_mem ok', ← near_perm pm]
  exact ⟨fun h => ⟨near_vx ok h, h⟩, fun h => h.2⟩
theorem ints_eqv : ∀ l : List Int, PyData.eqvAll (l.map PyData.int) (l.map PyData.int) = true
  | [] => by simp [PyData.eqvAll]
  | i :: l => by simp only [List.map_cons, PyData.eqvAll, ints_eqv l, PyData.eqv]; simp
theorem dp_ints {K : PySem.W.Frag} {H : Hp} : ∀ l : List Int, DpAll K H (l.map V.int) (l.map PyData.int)
  | [] => .nil
  | i :: l => .cons (.int i) (dp_ints l)
theorem ints_lay : ∀ l : List Int, PyData.canLayAll0 (l.map PyData.int) = true
  | [] => by simp [PyData.canLayAll0]
  | i :: l => by simp only [List.map_cons, PyData.canLayAll0, ints_lay l, PyData.canLay0]; simp
theorem ints_depth : ∀ l : List Int, PyData.depthAll (l.map PyData.int) ≤ 0
  | [] => by simp [PyData.depthAll]
  | i :: l => by
    have z := ints_depth l
    simp only [List.map_cons, PyData.depthAll, PyData.depth]
    omega
theorem flt1 {p : Int → Bool} {a : Int} (h : p a = true) : [a].filter p = [a] := List.filter_cons_of_pos h
theorem flt0 {p : Int → Bool} {a : Int} (h : p a = false) : [a].filter p = [] := List.filter_cons_of_neg (by rw [h]; decide)
theorem ints_shaped (l : List Int) : SeqAt.shaped (.list (l.map PyData.int)) = true := by
  have h1 := ints_depth l
  unfold SeqAt.shaped
  rw [Bool.and_eq_true]
  refine ⟨by simp only [PyData.canLay0]; exact ints_lay l, decide_eq_true ?_⟩
  simp only [PyData.depth]
  omega
theorem memRow {n u : Nat} {q : Pr} : q ∈ rowP n u ↔ ∃ i, i < n - (u + 1) ∧ ((u : Int), ((u + 1 + i : Nat) : Int)) = q := by
  unfold rowP
  rw [List.mem_map]
  constructor
  · rintro ⟨i, hi, e⟩
    exact ⟨i, List.mem_range.mp hi, e⟩
  · rintro ⟨i, hi, e⟩
    exact ⟨i, List.mem_range.mpr hi, e⟩
theorem mem_pairsL {n : Nat} {q : Pr} : q ∈ pairsL n ↔ Okp n q := by
  refine ⟨mem_pairs, fun ⟨a, b, c⟩ => ?_⟩
  unfold pairsL
  refine List.mem_flatMap.mpr ⟨q.1.toNat, List.mem_range.mpr (by omega), memRow.mpr ⟨(q.2 - q.1 - 1).toNat, by omega, Prod.ext ?_ ?_⟩⟩
  · show ((q.1.toNat : Nat) : Int) = q.1
    omega
  · show ((q.1.toNat + 1 + (q.2 - q.1 - 1).toNat : Nat) : Int) = q.2
    omega
theorem pairsL_lt (n : Nat) : (pairsL n).Pairwise lexlt := by
  unfold pairsL
  refine List.pairwise_flatMap.mpr ⟨fun u _ => ?_, List.Pairwise.imp (fun {u v} h x hx y hy => ?_) List.pairwise_lt_range⟩
  · unfold rowP
    refine List.pairwise_map.mpr (List.Pairwise.imp (R := (· < ·)) (fun {i j} h => ?_) List.pairwise_lt_range)
    refine SrtO.lexB_iff.mpr (.inr ⟨rfl, ?_⟩)
    show ((u + 1 + i : Nat) : Int) < ((u + 1 + j : Nat) : Int)
    omega
  · obtain ⟨i, _, rfl⟩ := memRow.mp hx
    obtain ⟨j, _, rfl⟩ := memRow.mp hy
    refine SrtO.lexB_iff.mpr (.inl ?_)
    show ((u : Nat) : Int) < ((v : Nat) : Int)
    omega
theorem lex_le {es : List Pr} (h : es.Pairwise lexlt) : es.Pairwise fun x y => SrtO.lexB y x = false := List.Pairwise.imp (fun {a b} h => by
  have x := SrtO.lexB_iff.mp h
  refine SrtO.lexB_no.mpr ?_
  omega) h
theorem lex_eq {qs es : List Pr} (h1 : qs.Pairwise lexlt) (h2 : es.Pairwise lexlt) (pm : qs.Perm es) : qs = es := (sorted_uniq h1 (lex_le h2) pm.symm).symm
theorem getD_at {s : List Int} {i : Nat} {v : Int} (h : s[i]? = some v) : s.getD i 0 = v := by
  rw [List.getD_eq_getElem?_getD, h]
  rfl
theorem vx_perm {n : Nat} {os : List Int} (pm : os.Perm (vxs n)) : (∀ x ∈ os, Vx n x) ∧ os.Nodup ∧ os.length = n := by
  refine ⟨fun x hx => mem_vxs.mp (pm.mem_iff.mp hx), pm.symm.nodup (List.Pairwise.imp (fun {a b} h e => by omega) (vxs_lt n)), ?_⟩
  rw [pm.length_eq]
  unfold vxs
  rw [List.length_map, List.length_range]
end Sm

set_option Elab.async false
set_option linter.all false
set_option maxRecDepth 100000
set_option maxHeartbeats 4000000
namespace Sm
open PySem PySem.Spec PyProof.Rows L2
/-! ### a dict comprehension that a local name takes -/
section
variable {X : Cx}
theorem sw_dict {kx vx : Expr} {gens : List Comprehension} {sc : Scope} {at1 at2 : Pos} {nm : Str} {ln : Nat} {en : Env}
    (e1 : en.scope.kind = .function) (e2 : en.scope.names.lookup nm = some .local) (e3 : (at2.line == at1.line) = true)
    (e4 : (sc.names.any fun (n, k) => n == nm && (k == .local || k == .cell)) = false) :
    swapsWith (.DictComp kx vx gens sc at1) (some (.Name nm at2)) ln en = pure true := by
  have z1 : en.kindOf nm = some .local := e2
  have z2 : en.blockKind = .function := by
    unfold Env.blockKind
    rw [e1]
    rfl
  unfold swapsWith
  simp only [z2, z1, e4, e3, Expr.pos]
  rfl
abbrev BlkFam (X : Cx) (sc : Scope) (p : Cx → Prop) : Prop := ∀ (s : Shared) (H : Hp) (C : Addr) (cl : List (Str × Addr)) (fp : List Addr), p (X.blk s H sc (compEnvC sc cl C X.env) fp)
theorem ps_setDc {i : Nat} {nm : Str} {at2 : Pos} {kx vx tg iter : Expr} {ifs : List Expr} {sc : Scope} {own : List (Str × Nat)} {at1 at0 : Pos} {wi : TI} {g : TG} {tt : TT} {tk tv : TE}
    (hc : X.calm = true) (hN : X.N.Nodup) (hy : X.N[i]? = some nm) (hyl : X.env.scope.names.lookup nm = some .local)
    (hsw : swapsWith (.DictComp kx vx [⟨tg, iter, ifs, 0⟩] sc at1) (some (.Name nm at2)) at0.line X.env = pure true)
    (hi : PI X tg iter wi) (ok : BlkOk X.N X.env.scope sc own)
    (hg : BlkFam X sc fun Y => PG Y tg g) (ht : BlkFam X sc fun Y => PTs Y ifs tt) (hk : BlkFam X sc fun Y => PE Y kx tk) (he : BlkFam X sc fun Y => PE Y vx tv)
    (hs : ∀ x, foldedSetIterable iter X.env x = pure x := by intro _; rfl) :
    PS X (.Assign [.Name nm at2] (.DictComp kx vx [⟨tg, iter, ifs, 0⟩] sc at1) at0) (tAsg (tDc wi g tt tk tv (own.map (·.2))) (gName i)) := by
  constructor
  intro pins s σ H D I h
  rw [exec_Assign_Name_used _ _ _ _ hsw]
  refine wpAny_bind (wpAny_standAt (wpAny_bind ?_))
  show wpAny _ X.A (do
    let _ ← comprehension (.DictComp kx vx [⟨tg, iter, ifs, 0⟩] sc at1) sc X.env (firstIterPos [⟨tg, iter, ifs, 0⟩] at1) newDict false (eval iter X.env) (some (assign (.Name nm at2) X.env))) _ _ s
  have h1 : tDc wi g tt tk tv (own.map (·.2)) σ H (fun x H1 => gName i x σ H1 D.nx) := h
  refine wpAny_bind (thn (dc_core (Qf := fun _ s' => SP X pins D .next s') hc hN I hi ok hg ht hk he hs h1 ?_) fun _ s' hq => wpAny_pure (wpAny_pure hq))
  rintro L C s' m H' I' q hn ⟨f0, f1, f2, f3, f4, f5⟩
  show wpAny _ _ (assign (.Name nm at2) X.env (.ref L)) _ _ _
  refine wpAny_assign_Name (store_ok2 (v := V.ref L) I' hN hy (.inl hyl) rfl ?_ (.inr hyl))
  rintro s2 I2 ⟨a, sb, ha⟩
  have ne : C ≠ a := by
    rcases ha with z | z
    · rw [z]
      exact f1
    · intro e
      exact f4 nm a z e.symm
  refine ⟨m, hn.sameBut sb ne, fun h3 sb3 => ⟨_, H', ?_, q⟩⟩
  exact I2.turned (t' := s2.toks) (fun b o hb e => (sb3.2 b hb).trans e) f0 f1 f3 f4 f5
end
end Sm

set_option Elab.async false
set_option linter.all false
set_option maxRecDepth 100000
set_option maxHeartbeats 4000000
namespace Sm
open PySem PySem.Spec PyProof.Rows L2
/-- a dict comprehension over any walk -/
theorem dc_it {J : It} {n : Nat} {G : Hp → Prop} {Y : Nat → Hp → V → Hp → Prop} (w : Walk J n G Y) {g : TG} {tt : TT} {tk tv : TE} {vs : List Nat} {σ : L2.St} {H1 : Hp} {D : Addr} {Qd : Hp → Prop} (Pv : Nat → Hp → Prop) (start : Pv 0 (upd H1 D (.dK []))) (keeps : ∀ i H, i ≤ n → Pv i H → G H)
    (turn : ∀ i x H H', i < n → Pv i H → Y i H x H' → g x (wipe σ vs) H' fun σ2 H2 => wipe σ2 vs = wipe σ vs ∧ tt σ2 H2 fun b H3 =>
      if b = true then tk σ2 H3 fun y H4 => tv σ2 H4 fun z H5 => ∃ kvs k, y = kV k ∧ H5 D = some (.dK kvs) ∧ kvs.length < sizeLine ∧ Pv (i + 1) (upd H5 D (.dK (putK kvs k z))) else Pv (i + 1) H3) (last : ∀ H, Pv n H → Qd H) :
    ∃ W : Nat → Nat → Hp → Prop, (∃ m, W 0 m (upd H1 D (.dK []))) ∧ ∀ i m H, W i m H →
      (J.stop i H ∧ Qd H) ∨ (J.go i H ∧ ∃ Nx : Hp → Prop, (∀ H', Nx H' → ∃ m', m' < m ∧ W (i + 1) m' H') ∧ ∀ x H', J.yld i H x H' → g x (wipe σ vs) H' fun σ2 H2 => wipe σ2 vs = wipe σ vs ∧ tt σ2 H2 fun b H3 =>
        if b = true then tk σ2 H3 fun y H4 => tv σ2 H4 fun z H5 => ∃ kvs k, y = kV k ∧ H5 D = some (.dK kvs) ∧ kvs.length < sizeLine ∧ Nx (upd H5 D (.dK (putK kvs k z))) else Nx H3) := by
  refine ⟨fun i m H => m + i = n ∧ Pv i H, ⟨n, Nat.add_zero n, start⟩, fun i m H hw => ?_⟩
  obtain ⟨hm, p⟩ := hw
  have q := keeps i H (by omega) p
  cases m with
  | zero =>
    have e : i = n := by omega
    subst e
    exact .inl ⟨w.stops H q, last H p⟩
  | succ m =>
    have lt : i < n := by omega
    exact .inr ⟨w.goes i H lt q, Pv (i + 1), fun H' p' => ⟨m, Nat.lt_succ_self m, by omega, p'⟩, fun x H' y => turn i x H H' lt p (w.yields i H x H' lt q y)⟩
end Sm

set_option Elab.async false
set_option linter.all false
set_option maxRecDepth 100000
set_option maxHeartbeats 4000000
namespace Sm
open PySem PySem.Spec PyProof.Rows L2
/-! ### taking vertices away -/
abbrev Rel := Int → Int → Bool
def r0 (qs : List Pr) : Rel := fun u w => decide ((u, w) ∈ qs) || decide ((w, u) ∈ qs)
def elim (R : Rel) (v : Int) : Rel := fun u w => !decide (u = v) && !decide (w = v) && !decide (u = w) && (R u w || (R v u && R v w))
/-- who are neighbours when the first t vertices of an order are taken away -/
def relT (qs : List Pr) (o : Nat → Int) : Nat → Rel
  | 0 => r0 qs
  | t + 1 => elim (relT qs o t) (o t)
def arT (n : Nat) (qs : List Pr) (o : Nat → Int) (t : Nat) : List Int := (vxs n).filter fun w => relT qs o t (o t) w
def bagT (n : Nat) (qs : List Pr) (o : Nat → Int) (t : Nat) : List Int := (vxs n).filter fun w => decide (w = o t) || relT qs o t (o t) w
theorem elim_iff {R : Rel} {v u w : Int} : elim R v u w = true ↔ u ≠ v ∧ w ≠ v ∧ u ≠ w ∧ (R u w = true ∨ (R v u = true ∧ R v w = true)) := by
  unfold elim
  simp only [Bool.and_eq_true, Bool.or_eq_true, Bool.not_eq_true', decide_eq_false_iff_not, and_assoc, ne_eq]
theorem r0_iff {qs : List Pr} {u w : Int} : r0 qs u w = true ↔ (u, w) ∈ qs ∨ (w, u) ∈ qs := by
  unfold r0
  simp only [Bool.or_eq_true, decide_eq_true_eq]
structure Ord (n : Nat) (o : Nat → Int) : Prop where
  vx : ∀ t, t < n → Vx n (o t)
  inj : ∀ s t, s < n → t < n → o s = o t → s = t
  all : ∀ v, Vx n v → ∃ t, t < n ∧ o t = v
section
variable {n : Nat} {qs : List Pr} {o : Nat → Int}
theorem rel_sym : ∀ {t : Nat} {u w : Int}, relT qs o t u w = true → relT qs o t w u = true
  | 0, u, w, h => r0_iff.mpr (r0_iff.mp h).symm
  | t + 1, u, w, h => by
    obtain ⟨a, b, c, d⟩ := elim_iff.mp h
    exact elim_iff.mpr ⟨b, a, fun e => c e.symm, d.imp rel_sym fun z => ⟨z.2, z.1⟩⟩
theorem rel_irr (ok : ∀ q ∈ qs, Okp n q) : ∀ {t : Nat} {u w : Int}, relT qs o t u w = true → u ≠ w
  | 0, u, w, h => by
    rintro rfl
    rcases r0_iff.mp h with z | z
    · have := (ok _ z).2.1
      omega
    · have := (ok _ z).2.1
      omega
  | t + 1, u, w, h => (elim_iff.mp h).2.2.1
theorem rel_vx (ok : ∀ q ∈ qs, Okp n q) : ∀ {t : Nat} {u w : Int}, relT qs o t u w = true → Vx n u ∧ Vx n w
  | 0, u, w, h => by
    unfold Vx
    rcases r0_iff.mp h with z | z
    · obtain ⟨a, b, c⟩ := ok _ z
      dsimp only at a b c
      omega
    · obtain ⟨a, b, c⟩ := ok _ z
      dsimp only at a b c
      omega
  | t + 1, u, w, h => by
    obtain ⟨_, _, _, d⟩ := elim_iff.mp h
    rcases d with d | ⟨d, e⟩
    · exact rel_vx ok d
    · exact ⟨(rel_vx ok d).2, (rel_vx ok e).2⟩
theorem rel_dead : ∀ {t s : Nat} {u w : Int}, relT qs o t u w = true → s < t → u ≠ o s ∧ w ≠ o s
  | 0, s, u, w, h, hs => by omega
  | t + 1, s, u, w, h, hs => by
    obtain ⟨a, b, c, d⟩ := elim_iff.mp h
    by_cases e : s = t
    · subst e
      exact ⟨a, b⟩
    · have hs' : s < t := by omega
      rcases d with d | ⟨d, e⟩
      · exact rel_dead d hs'
      · exact ⟨(rel_dead d hs').2, (rel_dead e hs').2⟩
theorem rel_grow (ok : ∀ q ∈ qs, Okp n q) {s : Nat} {u w : Int} (h : relT qs o s u w = true) : ∀ {t : Nat}, s ≤ t → (∀ x, s ≤ x → x < t → u ≠ o x ∧ w ≠ o x) → relT qs o t u w = true
  | 0, hs, _ => by
    have e : s = 0 := by omega
    rw [← e]
    exact h
  | t + 1, hs, hx => by
    by_cases e : s = t + 1
    · rw [← e]
      exact h
    · have ih := rel_grow ok h (t := t) (by omega) fun x a b => hx x a (by omega)
      obtain ⟨a, b⟩ := hx t (by omega) (by omega)
      exact elim_iff.mpr ⟨a, b, rel_irr ok ih, .inl ih⟩
theorem mem_arT (ok : ∀ q ∈ qs, Okp n q) {t : Nat} {w : Int} : w ∈ arT n qs o t ↔ relT qs o t (o t) w = true := by
  unfold arT
  rw [List.mem_filter, mem_vxs]
  exact ⟨fun h => h.2, fun h => ⟨(rel_vx ok h).2, h⟩⟩
theorem mem_bagT (ok : ∀ q ∈ qs, Okp n q) (O : Ord n o) {t : Nat} (ht : t < n) {w : Int} : w ∈ bagT n qs o t ↔ w = o t ∨ relT qs o t (o t) w = true := by
  unfold bagT
  rw [List.mem_filter, mem_vxs, Bool.or_eq_true, decide_eq_true_eq]
  constructor
  · exact fun h => h.2
  · intro h
    refine ⟨?_, h⟩
    rcases h with h | h
    · rw [h]
      exact O.vx t ht
    · exact (rel_vx ok h).2
/-- who is a neighbour then is taken away later -/
theorem ar_later (ok : ∀ q ∈ qs, Okp n q) (O : Ord n o) {t : Nat} {w : Int} (h : relT qs o t (o t) w = true) : ∃ s, t < s ∧ s < n ∧ o s = w := by
  obtain ⟨s, hs, rfl⟩ := O.all w (rel_vx ok h).2
  refine ⟨s, ?_, hs, rfl⟩
  by_cases c : t < s
  · exact c
  · exfalso
    by_cases e : s = t
    · subst e
      exact rel_irr ok h rfl
    · exact (rel_dead h (s := s) (by omega)).2 rfl
end
def minOr (d : Int) : List Int → Int
  | [] => d
  | a :: l => l.foldl min a
def maxOr (d : Int) : List Int → Int
  | [] => d
  | a :: l => l.foldl max a
theorem foldl_min_spec : ∀ (l : List Int) (a : Int), l.foldl min a ∈ a :: l ∧ ∀ x ∈ a :: l, l.foldl min a ≤ x
  | [], a => ⟨List.mem_cons_self, fun x hx => by rw [List.mem_singleton.mp hx]; exact Int.le_refl a⟩
  | b :: l, a => by
    obtain ⟨h1, h2⟩ := foldl_min_spec l (min a b)
    have hm : min a b = a ∨ min a b = b := by omega
    refine ⟨?_, fun x hx => ?_⟩
    · show l.foldl min (min a b) ∈ _
      rcases List.mem_cons.mp h1 with z | z
      · rw [z]
        rcases hm with y | y
        · rw [y]; exact List.mem_cons_self
        · rw [y]; exact List.mem_cons_of_mem _ List.mem_cons_self
      · exact List.mem_cons_of_mem _ (List.mem_cons_of_mem _ z)
    · show l.foldl min (min a b) ≤ x
      have z0 := h2 _ List.mem_cons_self
      rcases List.mem_cons.mp hx with z | z
      · omega
      · rcases List.mem_cons.mp z with y | y
        · omega
        · exact h2 x (List.mem_cons_of_mem _ y)
theorem foldl_max_spec : ∀ (l : List Int) (a : Int), l.foldl max a ∈ a :: l ∧ ∀ x ∈ a :: l, x ≤ l.foldl max a
  | [], a => ⟨List.mem_cons_self, fun x hx => by rw [List.mem_singleton.mp hx]; exact Int.le_refl a⟩
  | b :: l, a => by
    obtain ⟨h1, h2⟩ := foldl_max_spec l (max a b)
    have hm : max a b = a ∨ max a b = b := by omega
    refine ⟨?_, fun x hx => ?_⟩
    · show l.foldl max (max a b) ∈ _
      rcases List.mem_cons.mp h1 with z | z
      · rw [z]
        rcases hm with y | y
        · rw [y]; exact List.mem_cons_self
        · rw [y]; exact List.mem_cons_of_mem _ List.mem_cons_self
      · exact List.mem_cons_of_mem _ (List.mem_cons_of_mem _ z)
    · show x ≤ l.foldl max (max a b)
      have z0 := h2 _ List.mem_cons_self
      rcases List.mem_cons.mp hx with z | z
      · omega
      · rcases List.mem_cons.mp z with y | y
        · omega
        · exact h2 x (List.mem_cons_of_mem _ y)
theorem minOr_spec {d : Int} {l : List Int} : (l = [] ∧ minOr d l = d) ∨ (minOr d l ∈ l ∧ ∀ x ∈ l, minOr d l ≤ x) := by
  cases l with
  | nil => exact .inl ⟨rfl, rfl⟩
  | cons a l => exact .inr (foldl_min_spec l a)
theorem maxOr_spec {d : Int} {l : List Int} : (l = [] ∧ maxOr d l = d) ∨ (maxOr d l ∈ l ∧ ∀ x ∈ l, x ≤ maxOr d l) := by
  cases l with
  | nil => exact .inl ⟨rfl, rfl⟩
  | cons a l => exact .inr (foldl_max_spec l a)
/-! ### decompositions -/
/-- the numbers of the bags in which a vertex lies -/
def lyn (bs : List (List Int)) (v : Int) : List Int := ((List.range bs.length).filter fun i => decide (v ∈ bs.getD i [])).map fun (i : Nat) => (i : Int)
theorem mem_lyn {bs : List (List Int)} {v x : Int} : x ∈ lyn bs v ↔ ∃ i : Nat, i < bs.length ∧ v ∈ bs.getD i [] ∧ x = i := by
  unfold lyn
  rw [List.mem_map]
  constructor
  · rintro ⟨i, hi, rfl⟩
    obtain ⟨a, b⟩ := List.mem_filter.mp hi
    exact ⟨i, List.mem_range.mp a, of_decide_eq_true b, rfl⟩
  · rintro ⟨i, hi, hv, rfl⟩
    exact ⟨i, List.mem_filter.mpr ⟨List.mem_range.mpr hi, decide_eq_true hv⟩, rfl⟩
theorem lyn_nodup (bs : List (List Int)) (v : Int) : (lyn bs v).Nodup := by
  refine List.pairwise_map.mpr (List.Pairwise.imp (fun {a b} h e => h ?_) (List.nodup_range.filter _))
  omega
structure Good (n : Nat) (qs : List Pr) (bs : List (List Int)) (ps : List Int) : Prop where
  len : bs.length = ps.length
  root : ps[0]? = some (-1)
  bag : ∀ b ∈ bs, b.Pairwise (· < ·) ∧ ∀ k ∈ b, Vx n k
  par : ∀ (i : Nat) (p : Int), 0 < i → ps[i]? = some p → 0 ≤ p ∧ p < i
  vert : ∀ v, Vx n v → lyn bs v ≠ []
  edge : ∀ q ∈ qs, ∃ x ∈ lyn bs q.1, x ∈ lyn bs q.2
  one : ∀ v, Vx n v → ((lyn bs v).filter fun x => decide (ps.getD x.toNat 0 ∉ lyn bs v)).length = 1
theorem one_of {l : List Int} {p : Int → Bool} (nd : l.Nodup) {a : Int} (ha : a ∈ l) (pa : p a = true) (h : ∀ x ∈ l, p x = true → x = a) : (l.filter p).length = 1 := by
  have e : l.filter p = [a] := by
    have nd2 := nd.filter p
    have m : ∀ x, x ∈ l.filter p ↔ x = a := fun x => by
      rw [List.mem_filter]
      exact ⟨fun z => h x z.1 z.2, fun z => by rw [z]; exact ⟨ha, pa⟩⟩
    cases hl : l.filter p with
    | nil =>
      have z := (m a).mpr rfl
      rw [hl] at z
      cases z
    | cons b r =>
      rw [hl] at nd2 m
      have hb : b = a := (m b).mp List.mem_cons_self
      cases r with
      | nil => rw [hb]
      | cons c r =>
        have hc : c = a := (m c).mp (List.mem_cons_of_mem _ List.mem_cons_self)
        exfalso
        have := (List.nodup_cons.mp nd2).1
        exact this (by rw [hb, ← hc]; exact List.mem_cons_self)
  rw [e]
  rfl
/-- the bags and parents of an order, from the last vertex on; pl tells the place of a vertex -/
def bagsL (n : Nat) (qs : List Pr) (o : Nat → Int) : List (List Int) := (List.range n).map fun i => bagT n qs o (n - 1 - i)
def minT (n : Nat) (qs : List Pr) (o : Nat → Int) (pl : Int → Int) (t : Nat) : Int := minOr ((n : Int) - 1) ((arT n qs o t).map pl)
def parsL (n : Nat) (qs : List Pr) (o : Nat → Int) (pl : Int → Int) : List Int := (List.range n).map fun i => if i = 0 then -1 else (n : Int) - 1 - minT n qs o pl (n - 1 - i)
theorem good_order {n : Nat} {qs : List Pr} {o : Nat → Int} {pl : Int → Int} (ok : ∀ q ∈ qs, Okp n q) (O : Ord n o) (hpl : ∀ t, t < n → pl (o t) = t) (hn : 0 < n) : Good n qs (bagsL n qs o) (parsL n qs o pl) := by
  have lb : (bagsL n qs o).length = n := by unfold bagsL; rw [List.length_map, List.length_range]
  have gb : ∀ i, i < n → (bagsL n qs o).getD i [] = bagT n qs o (n - 1 - i) := fun i hi => by
    unfold bagsL
    rw [List.getD_eq_getElem?_getD, List.getElem?_map, List.getElem?_range hi]
    rfl
  have gp : ∀ i, i < n → (parsL n qs o pl)[i]? = some (if i = 0 then -1 else (n : Int) - 1 - minT n qs o pl (n - 1 - i)) := fun i hi => by
    unfold parsL
    rw [List.getElem?_map, List.getElem?_range hi]
    rfl
  -- the least place of a neighbour
  have mt : ∀ t, t < n → (arT n qs o t = [] ∧ minT n qs o pl t = (n : Int) - 1) ∨ ∃ s, t < s ∧ s < n ∧ minT n qs o pl t = s ∧ relT qs o t (o t) (o s) = true ∧ ∀ x, x < n → relT qs o t (o t) (o x) = true → s ≤ x := fun t ht => by
    rcases minOr_spec (d := (n : Int) - 1) (l := (arT n qs o t).map pl) with ⟨h1, h2⟩ | ⟨h1, h2⟩
    · exact .inl ⟨List.map_eq_nil_iff.mp h1, h2⟩
    · refine .inr ?_
      obtain ⟨w, hw, e⟩ := List.mem_map.mp h1
      have hr := (mem_arT ok).mp hw
      obtain ⟨s, a, b, rfl⟩ := ar_later ok O hr
      rw [hpl s b] at e
      refine ⟨s, a, b, e.symm, hr, fun x hx hrx => ?_⟩
      have z := h2 _ (List.mem_map.mpr ⟨o x, (mem_arT ok).mpr hrx, rfl⟩)
      rw [← e, hpl x hx] at z
      omega
  have mb : ∀ t, t < n → (t : Int) < minT n qs o pl t ∨ t = n - 1 ∧ minT n qs o pl t = (n : Int) - 1 := fun t ht => by
    rcases mt t ht with ⟨_, e⟩ | ⟨s, a, b, e, _⟩
    · by_cases c : t = n - 1
      · exact .inr ⟨c, e⟩
      · left; omega
    · left; omega
  have mle : ∀ t, t < n → minT n qs o pl t ≤ (n : Int) - 1 := fun t ht => by
    rcases mt t ht with ⟨_, e⟩ | ⟨s, a, b, e, _⟩
    · omega
    · omega
  -- in which bags a vertex lies
  have inb : ∀ {x : Nat} {i : Nat}, x < n → i < n → (o x ∈ (bagsL n qs o).getD i [] ↔ x = n - 1 - i ∨ relT qs o (n - 1 - i) (o (n - 1 - i)) (o x) = true) := fun {x i} hx hi => by
    rw [gb i hi, mem_bagT ok O (by omega)]
    exact or_congr ⟨fun e => O.inj _ _ hx (by omega) e, fun e => by rw [e]⟩ Iff.rfl
  have inl : ∀ {x : Nat} {y : Int}, x < n → (y ∈ lyn (bagsL n qs o) (o x) ↔ ∃ i : Nat, i < n ∧ y = i ∧ (x = n - 1 - i ∨ relT qs o (n - 1 - i) (o (n - 1 - i)) (o x) = true)) := fun {x y} hx => by
    rw [mem_lyn, lb]
    exact ⟨fun ⟨i, hi, h, e⟩ => ⟨i, hi, e, (inb hx hi).mp h⟩, fun ⟨i, hi, e, h⟩ => ⟨i, hi, (inb hx hi).mpr h, e⟩⟩
  refine ⟨?_, ?_, ?_, ?_, ?_, ?_, ?_⟩
  · rw [lb]
    unfold parsL
    rw [List.length_map, List.length_range]
  · rw [gp 0 hn, if_pos rfl]
  · intro b hb
    unfold bagsL at hb
    obtain ⟨i, _, rfl⟩ := List.mem_map.mp hb
    exact ⟨(vxs_lt n).filter _, fun k hk => mem_vxs.mp (List.mem_filter.mp hk).1⟩
  · intro i p hi hp
    have hin : i < n := by
      have := (List.getElem?_eq_some_iff.mp hp).1
      unfold parsL at this
      rw [List.length_map, List.length_range] at this
      exact this
    rw [gp i hin, if_neg (by omega)] at hp
    have e := Option.some.inj hp
    have h1 := mb (n - 1 - i) (by omega)
    have h2 := mle (n - 1 - i) (by omega)
    omega
  · intro v hv e
    obtain ⟨t, ht, rfl⟩ := O.all v hv
    have z : (((n - 1 - t : Nat)) : Int) ∈ lyn (bagsL n qs o) (o t) := (inl ht).mpr ⟨n - 1 - t, by omega, rfl, .inl (by omega)⟩
    rw [e] at z
    cases z
  · rintro ⟨u, w⟩ hq
    obtain ⟨a, b, c⟩ := ok _ hq
    dsimp only at a b c
    obtain ⟨tu, hu, rfl⟩ := O.all u (by unfold Vx; omega)
    obtain ⟨tw, hw, rfl⟩ := O.all w (by unfold Vx; omega)
    have base : relT qs o 0 (o tu) (o tw) = true := r0_iff.mpr (.inl hq)
    have ne : tu ≠ tw := fun e => by rw [e] at b; omega
    -- the one that is taken away first
    have key : ∀ {x y : Nat}, x < n → y < n → x < y → relT qs o 0 (o x) (o y) = true → ((n - 1 - x : Nat) : Int) ∈ lyn (bagsL n qs o) (o x) ∧ ((n - 1 - x : Nat) : Int) ∈ lyn (bagsL n qs o) (o y) := fun {x y} hx hy hxy h => by
      have g := rel_grow ok h (t := x) (by omega) fun z _ hz => ⟨fun e => by have := O.inj _ _ hx (by omega) e; omega, fun e => by have := O.inj _ _ hy (by omega) e; omega⟩
      have e1 : n - 1 - (n - 1 - x) = x := by omega
      refine ⟨(inl hx).mpr ⟨n - 1 - x, by omega, rfl, .inl e1.symm⟩, (inl hy).mpr ⟨n - 1 - x, by omega, rfl, .inr ?_⟩⟩
      rw [e1]
      exact g
    by_cases c2 : tu < tw
    · exact ⟨_, (key hu hw c2 base).1, (key hu hw c2 base).2⟩
    · exact ⟨_, (key hw hu (by omega) (rel_sym base)).2, (key hw hu (by omega) (rel_sym base)).1⟩
  · intro v hv
    obtain ⟨t, ht, rfl⟩ := O.all v hv
    have gpd : ∀ i, i < n → (parsL n qs o pl).getD (i : Int).toNat 0 = if i = 0 then -1 else (n : Int) - 1 - minT n qs o pl (n - 1 - i) := fun i hi => by
      rw [Int.toNat_natCast, List.getD_eq_getElem?_getD, gp i hi]
      rfl
    refine one_of (lyn_nodup _ _) (a := ((n - 1 - t : Nat) : Int)) ((inl ht).mpr ⟨n - 1 - t, by omega, rfl, .inl (by omega)⟩) ?_ ?_
    · rw [decide_eq_true_eq, gpd _ (by omega)]
      intro hin
      by_cases c0 : n - 1 - t = 0
      · rw [if_pos c0] at hin
        obtain ⟨i, _, e, _⟩ := (inl ht).mp hin
        omega
      · rw [if_neg c0, show n - 1 - (n - 1 - t) = t by omega] at hin
        obtain ⟨i, hi, e, h⟩ := (inl ht).mp hin
        have h1 := mb t ht
        have h2 := mle t ht
        -- the parent's vertex is taken away later
        rcases h with h | h
        · omega
        · have := (rel_dead h (s := t) (by omega)).2
          exact this rfl
    · intro x hx hp
      obtain ⟨i, hi, rfl, h⟩ := (inl ht).mp hx
      rw [decide_eq_true_eq, gpd i hi] at hp
      rcases h with h | h
      · omega
      · exfalso
        obtain ⟨s', a', b', e'⟩ := ar_later ok O h
        have es : s' = t := O.inj _ _ b' ht e'
        subst es
        have c0 : i ≠ 0 := by omega
        rw [if_neg c0] at hp
        apply hp
        rcases mt (n - 1 - i) (by omega) with ⟨z, _⟩ | ⟨s, a, b, e, hr, hmin⟩
        · have y := (mem_arT ok).mpr h
          rw [z] at y
          cases y
        · rw [e]
          have hst := hmin s' ht h
          refine (inl ht).mpr ⟨n - 1 - s, by omega, by omega, ?_⟩
          rw [show n - 1 - (n - 1 - s) = s by omega]
          by_cases c1 : s' = s
          · exact .inl c1
          · right
            have f : relT qs o (n - 1 - i + 1) (o s) (o s') = true := elim_iff.mpr ⟨fun z => by have := O.inj _ _ b (by omega) z; omega, fun z => by have := O.inj _ _ ht (by omega) z; omega, fun z => c1 (O.inj _ _ ht b z.symm), .inr ⟨hr, h⟩⟩
            exact rel_grow ok f (t := s) (by omega) fun x hx1 hx2 => ⟨fun z => by have := O.inj _ _ b (by omega) z; omega, fun z => by have := O.inj _ _ ht (by omega) z; omega⟩
end Sm

set_option Elab.async false
set_option linter.all false
set_option maxRecDepth 100000
set_option maxHeartbeats 4000000
namespace Sm
open PySem PySem.Spec PyProof.Rows L2
/-! ### max and min of a list of integers, with what is told for an empty one -/
section
variable {X : Cx}
def tMxD (K : PySem.W.Frag) (f : Int → List Int → Int) (ta tk : TA) : TE := fun σ H Q => ta σ H fun vs H1 => tk σ H1 fun zs H2 => ∃ (a : Addr) (ns : List Int) (d : Int), vs = [V.ref a] ∧ zs = [.int d] ∧ SqL K H2 a (ns.map V.int) ∧ Q (.int (f d ns)) H2
theorem reads_ints {h : Heap} : ∀ {its : List Value} {ns : List Int}, IntsAre its ns → ReadsAll h its (ns.map PyData.int) []
  | _, _, .nil => .nil
  | _, _, .cons n t r => .cons (.int n t) (reads_ints r)
theorem alike_ints (ns : List Int) : PySem.W.AlikeAll (ns.map PyData.int) := by
  refine ⟨fun x hx y hy => ?_, fun x hx => ?_⟩
  · obtain ⟨i, _, rfl⟩ := List.mem_map.mp hx
    obtain ⟨j, _, rfl⟩ := List.mem_map.mp hy
    rfl
  · obtain ⟨i, _, rfl⟩ := List.mem_map.mp hx
    intro z
    cases z
theorem read_int {h : Heap} {v : Value} {m : Int} {bs : List Addr} (r : Reads h v (.int m) bs) : ∃ t, v = .int m t := by
  cases r
  exact ⟨_, rfl⟩
theorem pe_maxD {p pos kp : Pos} {e kx : Expr} {ta tk : TA} (hg : Gl X "max") (hm : X.mg "max" = none) (hc : X.calm = true) (hu : X.A.units + 64 < cLine)
    (ha : PA X [e] ta) (hk : PK X [⟨some "default", kx, kp⟩] tk)
    (he : starEach [e] X.env = (false, eval e X.env) :: starEach [] X.env := by rfl) :
    PE X (.Call (.Name "max" p) [e] [⟨some "default", kx, kp⟩] pos) (tMxD X.K maxOr ta tk) := by
  constructor
  intro pins s σ H Q I h
  refine wpAny_Call_Name_kw (ld_blt I hg hm (by rfl) ?_ (by decide) (by decide))
  refine PyProof.Rows.callWith_kw (thn (ha.run pos pins s σ H _ I h) ?_) (by rw [he]; rfl) (by rw [he]; rfl)
  rintro us s1 ⟨vs, H1, I1, r1, q1⟩
  refine thn (hk.run pos pins s1 σ H1 _ I1 q1) ?_
  rintro ws s2 ⟨zs, H2, I2, r2, a, ns, d, rfl, rfl, hs, q⟩
  rw [Vals.ref1 r1]
  obtain ⟨its, rv, hl, _⟩ := I2.list hs
  cases r2 with
  | cons rd rn =>
    cases rn
    obtain ⟨t, rfl⟩ := rd
    have hR : ReadsAll s2.heap its.toArray.toList (ns.map PyData.int) [] := reads_ints rv.ints
    refine PySem.W.max_list_default (I2.ok.hd hc) hl.isList hR (alike_ints ns) (by have := ints_depth ns; omega) (fun z h' tk' hk' => ?_) (fun y ys i v h' tk' bs e1 ev er hk' => ?_)
    · have e0 : ns = [] := List.map_eq_nil_iff.mp z
      subst e0
      exact ⟨.int _, H2, I2.kept hk', ⟨_, rfl⟩, q⟩
    · cases ns with
      | nil => cases e1
      | cons n ns =>
        rw [List.map_cons] at e1
        obtain ⟨rfl, rfl⟩ := List.cons.inj e1
        rw [PySem.W.maxD_ints] at er
        obtain ⟨u, rfl⟩ := read_int er
        exact ⟨.int _, H2, I2.kept hk', ⟨_, rfl⟩, q⟩
theorem pe_minD {p pos kp : Pos} {e kx : Expr} {ta tk : TA} (hg : Gl X "min") (hm : X.mg "min" = none) (hc : X.calm = true) (hu : X.A.units + 64 < cLine)
    (ha : PA X [e] ta) (hk : PK X [⟨some "default", kx, kp⟩] tk)
    (he : starEach [e] X.env = (false, eval e X.env) :: starEach [] X.env := by rfl) :
    PE X (.Call (.Name "min" p) [e] [⟨some "default", kx, kp⟩] pos) (tMxD X.K minOr ta tk) := by
  constructor
  intro pins s σ H Q I h
  refine wpAny_Call_Name_kw (ld_blt I hg hm (by rfl) ?_ (by decide) (by decide))
  refine PyProof.Rows.callWith_kw (thn (ha.run pos pins s σ H _ I h) ?_) (by rw [he]; rfl) (by rw [he]; rfl)
  rintro us s1 ⟨vs, H1, I1, r1, q1⟩
  refine thn (hk.run pos pins s1 σ H1 _ I1 q1) ?_
  rintro ws s2 ⟨zs, H2, I2, r2, a, ns, d, rfl, rfl, hs, q⟩
  rw [Vals.ref1 r1]
  obtain ⟨its, rv, hl, _⟩ := I2.list hs
  cases r2 with
  | cons rd rn =>
    cases rn
    obtain ⟨t, rfl⟩ := rd
    have hR : ReadsAll s2.heap its.toArray.toList (ns.map PyData.int) [] := reads_ints rv.ints
    refine PySem.W.min_list_default (I2.ok.hd hc) hl.isList hR (alike_ints ns) (by have := ints_depth ns; omega) (fun z h' tk' hk' => ?_) (fun y ys i v h' tk' bs e1 ev er hk' => ?_)
    · have e0 : ns = [] := List.map_eq_nil_iff.mp z
      subst e0
      exact ⟨.int _, H2, I2.kept hk', ⟨_, rfl⟩, q⟩
    · cases ns with
      | nil => cases e1
      | cons n ns =>
        rw [List.map_cons] at e1
        obtain ⟨rfl, rfl⟩ := List.cons.inj e1
        rw [PySem.W.minD_ints] at er
        obtain ⟨u, rfl⟩ := read_int er
        exact ⟨.int _, H2, I2.kept hk', ⟨_, rfl⟩, q⟩
end
end Sm

set_option Elab.async false
set_option linter.all false
set_option maxRecDepth 100000
set_option maxHeartbeats 4000000
namespace Sm
open PySem PySem.Spec PyProof.Rows L2
def rTupOf (K : PySem.W.Frag) : List V → Hp → VK → Prop := fun xs H Q => ∃ p ys, xs = [.ref p] ∧ ((SqL K H p ys ∧ ∀ l, H l = none → Q (.ref l) (upd H l (.tup ys))) ∨ (SqT K H p ys ∧ Q (.ref p) H))
theorem tuple_at {X : Cx} {K : PySem.W.Frag} (hK : X.K = K) : CallR X (.type "tuple") (rTupOf K) := by
  subst hK
  exact call_tuple_of
def rLenOf (K : PySem.W.Frag) : List V → Hp → VK → Prop := fun xs H Q => ∃ p ys, xs = [.ref p] ∧ (SqL K H p ys ∨ SqT K H p ys) ∧ Q (.int ys.length) H
theorem len_at {X : Cx} {K : PySem.W.Frag} (hK : X.K = K) : CallR X (.builtin "len") (rLenOf K) := by
  subst hK
  exact call_len_seq
section
variable {P : Program} {w : World} {K : PySem.W.Frag} {mg : Str → Option Value} {base : Heap}
end
end Sm

set_option Elab.async false
set_option linter.all false
set_option maxRecDepth 100000
set_option maxHeartbeats 4000000
namespace Sm
open PySem PySem.Spec PyProof.Rows L2
section
variable {X : Cx}
end
/-! ### pairs as data -/
section
variable {P : Program} {w : World} {K : PySem.W.Frag} {mg : Str → Option Value} {base : Heap}
end
end Sm

set_option Elab.async false
set_option linter.all false
set_option maxRecDepth 100000
set_option maxHeartbeats 4000000
namespace Sm
open PySem PySem.Spec PyProof.Rows L2
abbrev sNums : Stmt := topS 21
abbrev sTake : Stmt := topS 22
abbrev sPrs : Stmt := topS 23
abbrev sGr : Stmt := topS 24
/-- a number as the law draws it -/
def Dig (x : Int) : Prop := 0 ≤ x ∧ x < 1000
def spNums (K : PySem.W.Frag) : Sp := fun vs H Q _ => ∃ (a : Addr) (ns : List Int) (m : Nat), vs = [.ref a, .int m] ∧ SqL K H a (ns.map V.int) ∧ ns.length ≤ 63 ∧
  ∀ (H' : Hp) (p : Addr) (out : List Int), Same H H' → H p = none → H' p = some (.lst (out.map V.int)) → (∀ x ∈ out, Dig x) → out.length ≤ m → Q (.ref p) H'
section
variable {P : Program} {w : World} {K : PySem.W.Frag} {mg : Str → Option Value} {base : Heap}
theorem scNums : FnScope ["script", "many", "numbers", "k", "cell", "j", "mixed"] ["script", "many"] (defScope sNums) := ⟨rfl, rfl, rfl, by decide +kernel, rfl, by decide +kernel, by decide +kernel⟩
theorem dig_mod (x : Int) : Dig (x % 1000) := ⟨by omega, by omega⟩
theorem dig_more {out : List Int} {x : Int} (h : ∀ x ∈ out, Dig x) (hx : Dig x) : ∀ y ∈ out ++ [x], Dig y := fun y hy => by
  rcases List.mem_append.mp hy with z | z
  · exact h y z
  · rw [List.mem_singleton.mp z]; exact hx
theorem ok_nums {f : Addr} {fd : FuncData} (F : Fun K "_law_numbers" "_law_numbers" sNums f fd) (mr : mg "range" = none) (ml : mg "len" = none) (ma : mg "abs" = none) (mi : mg "int" = none) : FnOk P w K mg base CX0 1 f fd ["script", "many"] (spNums K) := by
  refine F.ok scNums (fun vs H Q E h => ?_) (fun cdv A outer s H vs Q E hr h => ?_)
  · obtain ⟨a, ns, m, rfl, _⟩ := h
    rfl
  · obtain ⟨a, ns, m, rfl, hS, hlen, q⟩ := h
    refine ⟨_, pss_cons (ps_set (i := 2) scNums.nd rfl (.inl rfl) (pe_lst pa_nil))
      (pss_cons (ps_for PassesOwn.never rfl (pi_range1 rfl mr (pa_cons (pe_callB call_len_seq (by rfl) ml PySem.boot_len (pa_cons (pv 0) pa_nil)) pa_nil)) (pg_name (i := 3) scNums.nd rfl (.inl rfl))
        (pss_cons (ps_set (i := 4) scNums.nd rfl (.inl rfl) (pe_callB call_abs (by rfl) ma (by decide +kernel) (pa_cons (pe_ix ix_list (pv 0) (pv 3) (fun _ _ => rfl)) pa_nil)))
        (pss_one (ps_if (pt_cmpR op_ge (pv 4) (pe_op op_pow pe_int pe_int) (nomark _))
          (pss_one (ps_for PassesOwn.never rfl (pi_range1 rfl mr (pa_cons pe_int pa_nil)) (pg_name (i := 5) scNums.nd rfl (.inl rfl))
            (pss_one (ps_if (PW.pt (pw_and (pt_cmpR op_gt (pv 4) pe_int (nomark _)) (pw_and1 (pt_cmpR op_lt (pe_callB call_len_seq (by rfl) ml PySem.boot_len (pa_cons (pv 2) pa_nil)) (pv 1) (nomark _)))))
              (pss_cons (ps_expr (pe_bm PySem.F.plainAttrs_list PySem.F.slot_list_append PySem.F.type_list_append mt_append (pv 2) (pa_cons (pe_op op_mod (pv 4) pe_int) pa_nil)))
              (pss_one (ps_set (i := 4) scNums.nd rfl (.inl rfl) (pe_op op_fdiv (pv 4) pe_int)))) pss_nil))))
          (pss_one (ps_for PassesOwn.never rfl (pi_range1 rfl mr (pa_cons pe_int pa_nil)) (pg_name (i := 5) scNums.nd rfl (.inl rfl))
            (pss_cons (ps_set (i := 6) scNums.nd rfl (.inl rfl) (pe_op op_mod (pe_callTy call_int1 (by rfl) mi (by decide +kernel) (pa_cons (pe_op op_add (pe_op op_add (pe_op op_add (pe_op op_mul (pv 4) pe_int) (pe_op op_mul (pv 3) pe_int)) (pe_op op_mul (pv 5) pe_int)) pe_int) pa_nil)) pe_int))
            (pss_cons (ps_set (i := 6) scNums.nd rfl (.inl rfl) (pe_op op_mod (pe_callTy call_int1 (by rfl) mi (by decide +kernel) (pa_cons (pe_op op_add (pe_op op_mul (pv 6) (pv 6)) (pv 5)) pa_nil)) pe_int))
            (pss_one (ps_expr (pe_bm PySem.F.plainAttrs_list PySem.F.slot_list_append PySem.F.type_list_append mt_append (pv 2) (pa_cons (pe_op op_mod (pe_op op_fdiv (pv 6) pe_int) pe_int) pa_nil))))))))))))
      (pss_one (ps_ret (pe_slice sl_list (pv 2) po_none (po_some (pv 1)))))), ?_⟩
    refine ⟨Nat.zero_le _, fun p np => ?_⟩
    have s1 : Same H (upd H p (.lst [])) := same_upd np
    refine ⟨_, rfl, a, _, rfl, .inl (s1.seq hS), _, rfl, by rw [List.length_map]; omega, by rw [List.length_map]; omega, ?_⟩
    have toNat : ((((ns.map V.int).length : Nat) : Int)).toNat = ns.length := by rw [List.length_map]; omega
    rw [toNat]
    refine for_range (lo := 0) (n := ns.length) (fun i σ H' => ∃ (y3 y4 y5 y6 : Option V) (out : List Int), σ = [some (.ref a), some (.int m), some (.ref p), y3, y4, y5, y6] ∧ Same H H' ∧ H' p = some (.lst (out.map V.int)) ∧ (∀ x ∈ out, Dig x) ∧ out.length ≤ 60 * i)
      ⟨none, none, none, none, [], rfl, s1, upd_same, (fun x hx => by cases hx), by simp⟩ ?_ ?_
    · rintro i σ H' hi ⟨y3, y4, y5, y6, out, rfl, sm, ep, hd, hl⟩
      have hA := sm.seq hS
      have gi : (ns.map V.int)[i]? = some (.int ns[i]) := by rw [List.getElem?_map, List.getElem?_eq_getElem hi]; rfl
      generalize ns[i] = z at gi
      refine ⟨_, rfl, _, rfl, a, _, _, _, rfl, rfl, hA, (by rw [show (0 : Int) + i = (i : Int) by omega]; exact atI_nat gi), _, rfl, ?_⟩
      have cell0 : 0 ≤ (if z < 0 then -z else z) := by split <;> omega
      generalize (if z < 0 then -z else z) = cell at cell0
      refine ⟨_, rfl, _, _, rfl, rfl, ⟨by decide, by decide, by decide⟩, _, _, rfl, rfl, _, rfl, ?_⟩
      refine ite2 (fun _ => ?_) (fun c => ?_)
      · refine ⟨60, rfl, by decide, by decide, ?_⟩
        refine for_range (lo := 0) (n := 60) (fun j σ H2 => ∃ (y5 y6 : Option V) (cell : Int) (out : List Int), σ = [some (.ref a), some (.int m), some (.ref p), some (.int (0 + (i : Int))), some (.int cell), y5, y6] ∧ Same H H2 ∧ H2 p = some (.lst (out.map V.int)) ∧ (∀ x ∈ out, Dig x) ∧ out.length ≤ 60 * i + j ∧ 0 ≤ cell)
          ⟨_, _, cell, out, rfl, sm, ep, hd, by omega, cell0⟩ ?_ ?_
        · rintro j σ H2 hj ⟨y5, y6, cell, out, rfl, sm, ep, hd, hl, cell0⟩
          refine ⟨_, rfl, _, _, rfl, rfl, _, rfl, ?_⟩
          refine ite2 (fun _ => ?_) (fun _ => ?_)
          · refine ⟨_, rfl, p, _, rfl, .inl (SqL.of ep), _, rfl, _, _, rfl, rfl, _, rfl, ?_⟩
            refine ite2 (fun _ => ?_) (fun _ => ?_)
            · refine ⟨_, rfl, .inl ⟨rfl, _, SqL.of ep⟩, _, rfl, _, _, rfl, rfl, (by show (0 : Int) < 1000; decide), p, _, _, rfl, rfl, ep, by rw [List.length_map, sizeLine_eq]; omega, ?_⟩
              refine ⟨_, rfl, _, _, rfl, rfl, ⟨by decide, by decide⟩, ?_⟩
              exact ⟨_, _, cell / 1000, out ++ [cell % 1000], rfl, same_put sm np, by rw [upd_same, List.map_append]; rfl, dig_more hd (dig_mod _), by rw [List.length_append]; simp only [List.length_cons, List.length_nil]; omega, by omega⟩
            · exact ⟨_, _, cell, out, rfl, sm, ep, hd, by omega, cell0⟩
          · exact ⟨_, _, cell, out, rfl, sm, ep, hd, by omega, cell0⟩
        · rintro σ H2 ⟨y5, y6, cell, out, rfl, sm, ep, hd, hl, cell0⟩
          exact ⟨_, _, _, _, out, rfl, sm, ep, hd, by omega⟩
      · have cl : cell < 10 ^ 18 := Int.not_le.mp fun z => c (decide_eq_true z)
        refine ⟨5, rfl, by decide, by decide, ?_⟩
        refine for_range (lo := 0) (n := 5) (fun j σ H2 => ∃ (y5 y6 : Option V) (out : List Int), σ = [some (.ref a), some (.int m), some (.ref p), some (.int (0 + (i : Int))), some (.int cell), y5, y6] ∧ Same H H2 ∧ H2 p = some (.lst (out.map V.int)) ∧ (∀ x ∈ out, Dig x) ∧ out.length ≤ 60 * i + j)
          ⟨_, _, out, rfl, sm, ep, hd, by omega⟩ ?_ ?_
        · rintro j σ H2 hj ⟨y5, y6, out, rfl, sm, ep, hd, hl⟩
          refine ⟨_, rfl, _, _, rfl, rfl, .inl ⟨by omega, by omega⟩, ?_⟩
          refine ⟨_, rfl, _, _, rfl, rfl, .inl ⟨by omega, by omega⟩, _, _, rfl, rfl, ?_⟩
          refine ⟨_, rfl, _, _, rfl, rfl, .inl ⟨by omega, by omega⟩, _, _, rfl, rfl, _, _, rfl, rfl, .inl ⟨_, rfl, _, _, rfl, rfl, (by show (0 : Int) < 2147483647; decide), ?_⟩⟩
          have m0 : ∀ x : Int, 0 ≤ x % 2147483647 ∧ x % 2147483647 < 2147483647 := fun x => by omega
          generalize hm : (cell * 48271 + (0 + (i : Int)) * 69621 + (0 + (j : Int)) * 16807 + 11) % 2147483647 = mixed
          obtain ⟨mx0, mx1⟩ : 0 ≤ mixed ∧ mixed < 2147483647 := by rw [← hm]; exact m0 _
          refine ⟨_, rfl, _, rfl, _, _, rfl, rfl, .inl ⟨by omega, by omega⟩, _, rfl, _, _, rfl, rfl, .inl ⟨_, rfl, _, _, rfl, rfl, (by show (0 : Int) < 2147483629; decide), ?_⟩⟩
          refine ⟨_, rfl, .inl ⟨rfl, _, SqL.of ep⟩, _, rfl, _, _, rfl, rfl, ⟨by decide, by decide⟩, _, _, rfl, rfl, (by show (0 : Int) < 1000; decide), p, _, _, rfl, rfl, ep, by rw [List.length_map, sizeLine_eq]; omega, ?_⟩
          exact ⟨_, _, out ++ [_], rfl, same_put sm np, by rw [upd_same, List.map_append]; rfl, dig_more hd (dig_mod _), by rw [List.length_append]; simp only [List.length_cons, List.length_nil]; omega⟩
        · rintro σ H2 ⟨y5, y6, out, rfl, sm, ep, hd, hl⟩
          exact ⟨_, _, _, _, out, rfl, sm, ep, hd, by omega⟩
    · rintro σ H' ⟨y3, y4, y5, y6, out, rfl, sm, ep, hd, hl⟩
      refine ⟨_, rfl, _, rfl, _, rfl, p, _, rfl, SqL.of ep, fun l nl => ?_⟩
      rw [cut_take]
      exact q _ l (out.take m) (same_put sm (sm.free nl)) (sm.free nl) upd_same (fun x hx => hd x (List.mem_of_mem_take hx)) (by rw [List.length_take]; omega)
end
end Sm

set_option Elab.async false
set_option linter.all false
set_option maxRecDepth 100000
set_option maxHeartbeats 4000000
namespace Sm
open PySem PySem.Spec PyProof.Rows L2
/-- all as it was but at b, which is a list of one number that counts -/
def spTake (K : PySem.W.Frag) : Sp := fun vs H Q _ => ∃ (a b : Addr) (ns : List Int) (i : Nat), vs = [.ref a, .ref b] ∧ a ≠ b ∧ SqL K H a (ns.map V.int) ∧ (∀ x ∈ ns, Dig x) ∧ H b = some (.lst [.int i]) ∧
  ∀ (x : Int) (i' : Nat) (H' : Hp), Dig x → But b H H' → (∀ c, H c = none → H' c = none) → H' b = some (.lst [.int i']) → Q (.int x) H'
def spPrs (K : PySem.W.Frag) : Sp := fun vs H Q _ => ∃ n : Nat, vs = [.int n] ∧ n ≤ 60 ∧ ∀ (H' : Hp) (p : Addr) (as : List Addr), Same H H' → H p = none → H' p = some (.lst (as.map V.ref)) → PairsAt K H' as (pairsL n) → (∀ a ∈ as, a ≠ p) → Q (.ref p) H'
def spGr (K : PySem.W.Frag) : Sp := fun vs H Q _ => ∃ (a b : Addr) (ns : List Int) (i m : Nat), vs = [.ref a, .ref b, .int m] ∧ a ≠ b ∧ SqL K H a (ns.map V.int) ∧ (∀ x ∈ ns, Dig x) ∧ H b = some (.lst [.int i]) ∧ m ≤ 20 ∧
  ∀ (H' : Hp) (t e : Addr) (as : List Addr) (n i' : Nat) (es : List Pr), n ≤ m → But b H H' → H' b = some (.lst [.int i']) → H t = none → H e = none → H' t = some (.tup [.int n, .ref e]) → H' e = some (.lst (as.map V.ref)) → PairsAt K H' as es → es.Sublist (pairsL n) → Q (.ref t) H'
theorem Dig.nat {x : Int} (h : Dig x) (m : Nat) : ∃ k : Nat, x % ((m : Int) + 1) = k ∧ k ≤ m := by
  refine ⟨(x % ((m : Int) + 1)).toNat, ?_, ?_⟩
  · have := Int.emod_nonneg x (b := (m : Int) + 1) (by omega)
    omega
  · have := Int.emod_lt_of_pos x (b := (m : Int) + 1) (by omega)
    omega
section
variable {P : Program} {w : World} {K : PySem.W.Frag} {mg : Str → Option Value} {base : Heap}
theorem scTake : FnScope ["numbers", "place"] ["numbers", "place"] (defScope sTake) := ⟨rfl, rfl, rfl, by decide +kernel, rfl, by decide +kernel, by decide +kernel⟩
theorem ok_take {f : Addr} {fd : FuncData} (F : Fun K "_law_take" "_law_take" sTake f fd) (ml : mg "len" = none) : FnOk P w K mg base CX0 1 f fd ["numbers", "place"] (spTake K) := by
  refine F.ok scTake (fun vs H Q E h => ?_) (fun cdv A outer s H vs Q E hr h => ?_)
  · obtain ⟨a, b, ns, i, rfl, _⟩ := h
    rfl
  · obtain ⟨a, b, ns, i, rfl, ne, hS, hd, hb, q⟩ := h
    refine ⟨_, pss_cons (ps_if (pt_cmpR op_lt (pe_ix ix_list (pv 1) pe_int (fun _ _ => rfl)) (pe_callB call_len_seq (by rfl) ml PySem.boot_len (pa_cons (pv 0) pa_nil)) (nomark _))
        (pss_cons (ps_asg (pe_op op_add (pe_ix ix_list (pv 1) pe_int (fun _ _ => rfl)) pe_int) (pg_sub (pv 1) pe_int set_list))
        (pss_one (ps_ret (pe_ix ix_list (pv 0) (pe_op op_sub (pe_ix ix_list (pv 1) pe_int (fun _ _ => rfl)) pe_int) (fun _ _ => rfl))))) pss_nil)
      (pss_one (ps_ret pe_int)), ?_⟩
    refine ⟨_, rfl, b, _, 0, .int i, rfl, rfl, SqL.of hb, atI_nat (j := 0) rfl, _, rfl, a, _, rfl, .inl hS, _, _, rfl, rfl, _, rfl, ?_⟩
    refine ite2 (fun c => ?_) (fun c => ?_)
    · have il : i < ns.length := by
        have z := of_decide_eq_true c
        rw [List.length_map] at z
        omega
      refine ⟨_, rfl, b, _, 0, .int i, rfl, rfl, SqL.of hb, atI_nat (j := 0) rfl, _, _, rfl, rfl, ?_⟩
      refine ⟨_, rfl, b, [.int i], 0, 0, rfl, rfl, hb, rfl, ?_⟩
      refine ⟨_, rfl, _, rfl, b, [.int (i + 1)], 0, .int (i + 1), rfl, rfl, SqL.of upd_same, atI_nat (j := 0) rfl, _, _, rfl, rfl, ?_⟩
      have e1 : (i : Int) + 1 - 1 = (i : Int) := by omega
      have sb : But b H (upd H b (.lst [.int (i + 1 : Nat)])) := fun c o e n => by rw [upd_ne n]; exact e
      have fr : ∀ c, H c = none → (upd H b (.lst [.int (i + 1 : Nat)])) c = none := fun c e => by rw [upd_ne (fun z => by rw [z, hb] at e; cases e)]; exact e
      have gi : (ns.map V.int)[i]? = some (.int ns[i]) := by rw [List.getElem?_map, List.getElem?_eq_getElem il]; rfl
      have gj : atI (ns.map V.int) ((i : Int) + 1 - 1) = some (.int ns[i]) := by rw [e1]; exact atI_nat gi
      exact ⟨a, _, _, .int ns[i], rfl, rfl, sb.sqL hb hS ne, gj, q _ (i + 1) _ (hd _ (List.getElem_mem il)) sb fr upd_same⟩
    · exact q 0 i H ⟨by decide, by decide⟩ (fun c o e _ => e) (fun c e => e) hb
theorem scPrs : FnScope ["size", "pairs", "u", "v"] ["size"] (defScope sPrs) := ⟨rfl, rfl, rfl, by decide +kernel, rfl, by decide +kernel, by decide +kernel⟩
theorem ok_prs {f : Addr} {fd : FuncData} (F : Fun K "_law_pairs" "_law_pairs" sPrs f fd) (mr : mg "range" = none) : FnOk P w K mg base CX0 1 f fd ["size"] (spPrs K) := by
  refine F.ok scPrs (fun vs H Q E h => ?_) (fun cdv A outer s H vs Q E hr h => ?_)
  · obtain ⟨n, rfl, _⟩ := h
    rfl
  · obtain ⟨n, rfl, hn, q⟩ := h
    refine ⟨_, pss_cons (ps_set (i := 1) scPrs.nd rfl (.inl rfl) (pe_lst pa_nil))
      (pss_cons (ps_for PassesOwn.never rfl (pi_range1 rfl mr (pa_cons (pv 0) pa_nil)) (pg_name (i := 2) scPrs.nd rfl (.inl rfl))
        (pss_one (ps_for PassesOwn.never rfl (pi_range2 (by rfl) mr (pa_cons (pe_op op_add (pv 2) pe_int) (pa_cons (pv 0) pa_nil))) (pg_name (i := 3) scPrs.nd rfl (.inl rfl))
          (pss_one (ps_expr (pe_bm PySem.F.plainAttrs_list PySem.F.slot_list_append PySem.F.type_list_append mt_append (pv 1) (pa_cons (pe_tup (pa_cons (pv 2) (pa_cons (pv 3) pa_nil))) pa_nil)))))))
      (pss_one (ps_ret (pv 1)))), ?_⟩
    refine ⟨Nat.zero_le _, fun p np => ?_⟩
    have s1 : Same H (upd H p (.lst [])) := same_upd np
    refine ⟨_, rfl, n, rfl, by omega, by omega, ?_⟩
    have toNat : ((n : Nat) : Int).toNat = n := by omega
    rw [toNat]
    refine for_range (lo := 0) (n := n) (fun u σ H' => ∃ (y2 y3 : Option V) (as : List Addr), σ = [some (.int n), some (.ref p), y2, y3] ∧ Same H H' ∧ H' p = some (.lst (as.map V.ref)) ∧ PairsAt K H' as ((List.range u).flatMap fun u => rowP n u) ∧ ∀ a ∈ as, a ≠ p)
      ⟨none, none, [], rfl, s1, upd_same, .nil, fun a ha => by cases ha⟩ ?_ ?_
    · rintro u σ H' hu ⟨y2, y3, as, rfl, sm, ep, pa, na⟩
      refine ⟨_, rfl, _, _, rfl, rfl, _, rfl, (0 + (u : Int) + 1), n, rfl, ⟨by omega, by omega, by omega, by omega⟩, ?_⟩
      have toN : ((n : Int) - (0 + (u : Int) + 1)).toNat = n - (u + 1) := by omega
      rw [toN]
      refine for_range (lo := (0 + (u : Int) + 1)) (n := n - (u + 1)) (fun i σ H' => ∃ (y3 : Option V) (as : List Addr), σ = [some (.int n), some (.ref p), some (.int (0 + (u : Int))), y3] ∧ Same H H' ∧ H' p = some (.lst (as.map V.ref)) ∧
        PairsAt K H' as (((List.range u).flatMap fun u => rowP n u) ++ (rowP n u).take i) ∧ ∀ a ∈ as, a ≠ p)
        ⟨_, as, rfl, sm, ep, by rw [List.take_zero, List.append_nil]; exact pa, na⟩ ?_ ?_
      · rintro i σ H' hi ⟨y3, as, rfl, sm, ep, pa, na⟩
        refine ⟨_, rfl, .inl ⟨rfl, _, SqL.of ep⟩, _, rfl, _, rfl, (by show 2 ≤ sizeLine; decide), fun t nt => ?_⟩
        have pt : p ≠ t := fun z => by rw [← z, ep] at nt; cases nt
        have st : Same H' (upd H' t (.tup [.int (0 + (u : Int)), .int (0 + (u : Int) + 1 + (i : Int))])) := same_upd nt
        have len : as.length ≤ n * n + n := by
          have z := pa.length
          rw [z, List.length_append, List.length_take, rowP_len]
          have f1 := flat_len n u (by omega)
          have f2 : u * n ≤ n * n := Nat.mul_le_mul_right n (by omega)
          omega
        have len2 : n * n ≤ 60 * 60 := Nat.mul_le_mul hn hn
        refine ⟨p, _, _, rfl, rfl, st _ _ ep, by rw [List.length_map, sizeLine_eq]; omega, ?_⟩
        have e1 : (rowP n u)[i]? = some ((u : Int), ((u + 1 + i : Nat) : Int)) := by
          unfold rowP
          rw [List.getElem?_map, List.getElem?_range hi]
          rfl
        have bt : But p H' (upd (upd H' t (.tup [.int (0 + (u : Int)), .int (0 + (u : Int) + 1 + (i : Int))])) p (.lst (as.map V.ref ++ [.ref t]))) := (Same.but st).put
        refine ⟨_, as ++ [t], rfl, same_put (same_put sm (sm.free nt)) np, by rw [upd_same, List.map_append]; rfl, ?_, fun a ha => ?_⟩
        · rw [L2.take_next e1, ← List.append_assoc]
          refine PairsAt.snoc ?_ (bt.pairs ep pa)
          refine SqT.of ?_
          rw [upd_ne pt.symm, upd_same]
          have a1 : (0 : Int) + (u : Int) = (u : Int) := by omega
          have a2 : (u : Int) + 1 + (i : Int) = ((u + 1 + i : Nat) : Int) := by omega
          rw [a1, a2]
        · rcases List.mem_append.mp ha with z | z
          · exact na a z
          · rw [List.mem_singleton.mp z]; exact pt.symm
      · rintro σ H' ⟨y3, as, rfl, sm, ep, pa, na⟩
        refine ⟨_, _, as, rfl, sm, ep, ?_, na⟩
        rw [List.range_succ, List.flatMap_append, List.flatMap_singleton]
        rw [List.take_of_length_le (by rw [rowP_len]; omega)] at pa
        exact pa
    · rintro σ H' ⟨y2, y3, as, rfl, sm, ep, pa, na⟩
      exact ⟨_, rfl, q H' p as sm np ep pa na⟩
end
end Sm

set_option Elab.async false
set_option linter.all false
set_option maxRecDepth 100000
set_option maxHeartbeats 4000000
namespace Sm
open PySem PySem.Spec PyProof.Rows L2
section
variable {P : Program} {w : World} {K : PySem.W.Frag} {mg : Str → Option Value} {base : Heap}
theorem scGr : FnScope ["numbers", "place", "most", "size", "dense", "edges", "pair"] ["numbers", "place", "most"] (defScope sGr) := ⟨rfl, rfl, rfl, by decide +kernel, rfl, by decide +kernel, by decide +kernel⟩
theorem ok_gr {f fT fP : Addr} {fd fdT fdP : FuncData} (F : Fun K "_law_graph" "_law_graph" sGr f fd)
    (GT : FnOk P w K mg base CX0 1 fT fdT ["numbers", "place"] (spTake K)) (kT : PySem.W.keepIn K (.ref fT) = true) (bT : Binds K fdT ["numbers", "place"] []) (gT : mg "_law_take" = some (.ref fT))
    (GP : FnOk P w K mg base CX0 1 fP fdP ["size"] (spPrs K)) (kP : PySem.W.keepIn K (.ref fP) = true) (bP : Binds K fdP ["size"] []) (gP : mg "_law_pairs" = some (.ref fP)) :
    FnOk P w K mg base CX0 2 f fd ["numbers", "place", "most"] (spGr K) := by
  refine F.ok scGr (fun vs H Q E h => ?_) (fun cdv A outer s H vs Q E hr h => ?_)
  · obtain ⟨a, b, ns, i, m, rfl, _⟩ := h
    rfl
  · obtain ⟨a, b, ns, i, m, rfl, ne, hS, hd, hb, hm, q⟩ := h
    refine ⟨_, pss_cons (ps_set (i := 3) scGr.nd rfl (.inl rfl) (pe_op op_mod (pe_call GT hr (by rfl) gT kT bT .nil pass0 (pa_cons (pv 0) (pa_cons (pv 1) pa_nil))) (pe_op op_add (pv 2) pe_int)))
      (pss_cons (ps_set (i := 4) scGr.nd rfl (.inl rfl) (pe_op op_add pe_int (pe_op op_mod (pe_call GT hr (by rfl) gT kT bT .nil pass0 (pa_cons (pv 0) (pa_cons (pv 1) pa_nil))) pe_int)))
      (pss_cons (ps_set (i := 5) scGr.nd rfl (.inl rfl) (pe_lst pa_nil))
      (pss_cons (ps_for PassesOwn.never rfl (pi_list (pe_call GP hr (by rfl) gP kP bP .nil pass0 (pa_cons (pv 3) pa_nil))) (pg_name (i := 6) scGr.nd rfl (.inl rfl))
        (pss_one (ps_if (pt_cmpR op_lt (pe_op op_mod (pe_call GT hr (by rfl) gT kT bT .nil pass0 (pa_cons (pv 0) (pa_cons (pv 1) pa_nil))) pe_int) (pv 4) (nomark _))
          (pss_one (ps_expr (pe_bm PySem.F.plainAttrs_list PySem.F.slot_list_append PySem.F.type_list_append mt_append (pv 5) (pa_cons (pv 6) pa_nil)))) pss_nil)))
      (pss_one (ps_ret (pe_tup (pa_cons (pv 3) (pa_cons (pv 5) pa_nil)))))))), ?_⟩
    -- size
    refine ⟨_, rfl, _, rfl, a, b, ns, i, rfl, ne, hS, hd, hb, fun x1 i1 H1 d1 b1 _ e1 => ?_⟩
    obtain ⟨n, en, hn⟩ := d1.nat m
    refine ⟨_, rfl, _, _, rfl, rfl, _, _, rfl, rfl, (by show (0 : Int) < (m : Int) + 1; omega), ?_⟩
    dsimp only
    rw [en]
    -- dense
    refine ⟨_, rfl, _, rfl, a, b, ns, i1, rfl, ne, b1.sqL hb hS ne, hd, e1, fun x2 i2 H2 d2 b2 _ e2 => ?_⟩
    have B2 : But b H H2 := b1.trans b2
    refine ⟨_, _, rfl, rfl, (by show (0 : Int) < 5; decide), _, _, rfl, rfl, ?_⟩
    -- edges = []
    refine ⟨Nat.zero_le _, fun e ne2 => ?_⟩
    have eb : e ≠ b := fun z => by rw [z, e2] at ne2; cases ne2
    have neH : H e = none := B2.free e2 ne2
    have S3 : Same H2 (upd H2 e (.lst [])) := same_upd ne2
    -- for pair in _law_pairs(size)
    refine ⟨_, rfl, n, rfl, by omega, fun H4 p aps S4 np ep pa na => ?_⟩
    have np2 : H2 p = none := S3.free np
    have pe' : p ≠ e := fun z => by rw [z, upd_same] at np; cases np
    have pb : p ≠ b := fun z => by rw [z, S3 _ _ e2] at np; cases np
    have B4 : But b H H4 := (B2.same S3).same S4
    have e4 : H4 b = some (.lst [.int i2]) := S4 _ _ (S3 _ _ e2)
    have ee4 : H4 e = some (.lst []) := S4 _ _ upd_same
    refine ⟨p, rfl, ⟨_, SqL.of ep⟩, for_list (K := K) (a := p) (xs := aps.map V.ref) (fun t σ H' => ∃ (y6 : Option V) (i' : Nat) (as' : List Addr) (es' : List Pr), σ = [some (.ref a), some (.ref b), some (.int m), some (.int n), some (.int (1 + x2 % 5)), some (.ref e), y6] ∧
      But b H H' ∧ H' b = some (.lst [.int i']) ∧ H' p = some (.lst (aps.map V.ref)) ∧ PairsAt K H' aps (pairsL n) ∧ H' e = some (.lst (as'.map V.ref)) ∧ PairsAt K H' as' es' ∧ es'.Sublist ((pairsL n).take t))
      ⟨none, i2, [], [], rfl, B4, e4, ep, pa, ee4, .nil, List.nil_sublist _⟩ (fun t σ H' _ ⟨_, _, _, _, _, _, _, h, _⟩ => SqL.of h) ?_ ?_⟩
    · rintro t x σ H' hx ⟨y6, i', as', es', rfl, bh, ib, ep', pa', ee', pe2, sl⟩
      rw [List.getElem?_map] at hx
      cases ea : aps[t]? with
      | none => rw [ea] at hx; cases hx
      | some at_ =>
        rw [ea] at hx
        cases hx
        obtain ⟨pq, hq, _⟩ := pa'.get ea
        refine ⟨_, rfl, _, rfl, a, b, ns, i', rfl, ne, bh.sqL hb hS ne, hd, ib, fun x3 i3 H5 d3 b5 _ e5 => ?_⟩
        have ep5 := b5 _ _ ep' pb
        have ee5 := b5 _ _ ee' eb
        have pa5 := b5.pairs ib pa'
        have pe5 := b5.pairs ib pe2
        have tq : t < (pairsL n).length := (List.getElem?_eq_some_iff.mp hq).1
        refine ⟨_, _, rfl, rfl, (by show (0 : Int) < 6; decide), _, rfl, _, _, rfl, rfl, _, rfl, ?_⟩
        refine ite2 (fun _ => ?_) (fun _ => ?_)
        · have few : as'.length ≤ 400 := by
            have z1 := pe2.length
            have z2 := sl.length_le
            rw [List.length_take] at z2
            have z3 := flat_len n n (Nat.le_refl _)
            have z4 : n * n ≤ 20 * 20 := Nat.mul_le_mul (by omega) (by omega)
            unfold pairsL at z2
            omega
          refine ⟨_, rfl, .inl ⟨rfl, _, SqL.of ee5⟩, _, rfl, e, _, _, rfl, rfl, ee5, by rw [List.length_map]; exact small1000 (by omega), ?_⟩
          have be : But e H5 (upd H5 e (.lst (as'.map V.ref ++ [.ref at_]))) := fun c o h n => by rw [upd_ne n]; exact h
          have pa6 := be.pairs ee5 pa5
          obtain ⟨pq', hq', hs'⟩ := pa6.get ea
          rw [hq] at hq'
          cases hq'
          refine ⟨_, i3, as' ++ [at_], es' ++ [pq], rfl, ?_, by rw [upd_ne eb.symm]; exact e5, by rw [upd_ne pe']; exact ep5, pa6, by rw [upd_same, List.map_append]; rfl, PairsAt.snoc hs' (be.pairs ee5 pe5), ?_⟩
          · exact (bh.trans b5).new neH
          · rw [L2.take_next hq]
            exact sl.append (List.Sublist.refl _)
        · exact ⟨_, i3, as', es', rfl, bh.trans b5, e5, ep5, pa5, ee5, pe5, sl.trans (List.take_sublist_take_left (by omega))⟩
    · rintro σ H' ⟨y6, i', as', es', rfl, bh, ib, ep', pa', ee', pe2, sl⟩
      refine ⟨_, rfl, _, rfl, (by show 2 ≤ sizeLine; decide), fun t nt => ?_⟩
      have et : e ≠ t := fun z => by rw [← z, ee'] at nt; cases nt
      have bt : b ≠ t := fun z => by rw [← z, ib] at nt; cases nt
      have st : Same H' (upd H' t (.tup [.int n, .ref e])) := same_upd nt
      exact q _ t e as' n i' es' hn (bh.same st) (st _ _ ib) (bh.free ib nt) neH upd_same (st _ _ ee') (pe2.same st) (sl.trans (List.take_sublist _ _))
end
end Sm

set_option Elab.async false
set_option linter.all false
set_option maxRecDepth 100000
set_option maxHeartbeats 8000000
namespace Sm
open PySem PySem.Spec PyProof.Rows L2
/-! ### exceptions with a field, of which is known that their context is None -/
section
variable {P : Program} {w : World} {K : PySem.W.Frag} {mg : Str → Option Value} {base : Heap}
theorem okXN {x qual : Str} {st : Stmt} {f : Addr} {fd : FuncData} {N ps : List Str} {k : Nat} {sp : Sp} (F : Fun K x qual st f fd) (S : FnScope N ps (defScope st)) (len : ∀ vs H Q E, sp vs H Q E → vs.length = ps.length)
    (body : ∀ (cdv : Value) (A : Around) (outer : List Env) (s : Shared) (H : Hp) (vs : List V) (Q : VK) (E : XK), Room k (A.deeper (envOfC qual (defScope st) s.heap.objs.size f cdv)) → sp vs H Q E →
      ∃ t, PSs (cxOf (L2N.CX P w) P w K mg base N qual (defScope st) f cdv A outer s H E) (defBody st) t ∧ t { nx := fun _ H' => Q .non H', rt := Q } (start N vs) H) : FnOk P w K mg base (L2N.CX P w) (k + 1) f fd ps sp := by
  obtain ⟨_, _, _, _, _, _, _, _, _, rfl, h1, h2⟩ := F.ex
  exact fn_of h1 h2 S len fun A o s H vs Q E r h => body _ A o s H vs Q E r h
end
section
variable {X : Cx} {e : Expr} {es : List Expr} {ta : TA} {p pos : Pos}
theorem pmk_oexN {CX : CXT} {x : Str} {C fI : Addr} {k : Nat} {fd : FuncData} {ps : List Str} {sp : Sp} {ds : List Value} {dvs : List V} (T : OexC X.K C) (iC : PySem.W.findIn X.K (.ref C) "__init__" = some (some (.ref fI))) (tI : PySem.W.typeIn X.K (.ref fI) = some (.type "function"))
    (G : FnOk X.prog X.w X.K X.mg X.base CX k fI fd ps sp) (hr : Room (k + 1) X.A) (hb : Binds X.K fd ps ds) (hd0 : Vals dvs ds) (hx : Passes CX X (fun _ _ _ => False)) (hg : Gl X x) (hm : X.mg x = some (.ref C)) (ha : PA X (e :: es) ta)
    (hdb : (x == ("__debug__" : Str)) = false := by decide) (he : starEach (e :: es) X.env = (false, eval e X.env) :: starEach es X.env := by rfl) (hpl : (backTo pos (starEach es X.env)).any (·.1) = false := by rfl) :
    L2N.PMk X (.Call (.Name x p) (e :: es) [] pos) (tMkO C sp dvs ta) := fun pins s σ H Q I h => by
  obtain ⟨_, _, _, _, bm, _, _, _, _, _, _, _, _, _, _, cC, cB⟩ := T.cls
  refine wpAny_Call_Name_kw (ld_glob I hg hm ?_ hdb)
  refine PySem.W.callWith_K (h₀ := X.base) I.ok.mod.kin T.kC (thn (ha.run pos pins s σ H _ I h) fun us z ⟨vs, H1, J, rv, few, go⟩ => ⟨J.kIn, wpAny_call ?_⟩) he hpl
  obtain ⟨hp, gn, dr, tk, os⟩ := z
  have up1 : hp.objs.size ≤ hp.objs.size + 1 := Nat.le_succ _
  have free : H1 (hp.objs.size + 1) = none := J.hok.fresh up1
  have goal := go _ free
  have laid : ((hp.push (PySem.W.kdv_tup us)).push (PySem.HandSPX.excO C hp.objs.size)).get? (hp.objs.size + 1) = some (PySem.HandSPX.excO C hp.objs.size) := by heap_get
  have old : ∀ b o, hp.get? b = some o → ((hp.push (PySem.W.kdv_tup us)).push (PySem.HandSPX.excO C hp.objs.size)).get? b = some o := fun b o q => Heap.get?_push_of_some _ (Heap.get?_push_of_some _ q)
  have J2 : Inv X pins σ (upd H1 (hp.objs.size + 1) (exo (hp.objs.size + 1) C none)) ⟨(hp.push (PySem.W.kdv_tup us)).push (PySem.HandSPX.excO C hp.objs.size), gn, dr, tk, os⟩ := J.laid (t' := tk) old up1 (exo_ok laid)
  have all : Vals (V.ref (hp.objs.size + 1) :: (vs ++ dvs)) (Value.ref (hp.objs.size + 1) :: (us ++ ds)) := .cons rfl (rv.append hd0)
  have many : (Value.ref (hp.objs.size + 1) :: us ++ ds).length = ps.length := all.length.symm.trans (G.len _ _ _ _ goal)
  have fits : us.length ≤ sizeLine := by
    rw [← Paired.length rv, sizeLine_eq]
    omega
  refine PySem.HandSPX.call_own F.excBase_ValueError (fun Y => PySem.HandSPX.refsVE_contains Y bm cB) (J.kIn _ _ cC) (PySem.W.looks_findIn J.kIn iC) (fun self => PySem.W.bind_fn J.kIn self tI) fits ?_
  have run := G.run _ X.stack _ _ ⟨Value.ref (hp.objs.size + 1) :: us, []⟩ (Value.ref (hp.objs.size + 1) :: (us ++ ds)) _ _ (fun _ _ _ => False) (hr.make C us []) (J2.env0.make C us []) (hb _ (Value.ref (hp.objs.size + 1) :: us) J2.kIn many) all goal
  refine codeAny_mono run fun r z2 fin => ?_
  match r, fin with
  | .error er, fin => exact hx pins σ _ _ er z2 J2 fin
  | .ok .next, fin => exact False.elim fin
  | .ok .brk, fin => exact False.elim fin
  | .ok .cont, fin => exact False.elim fin
  | .ok (.ret u), fin =>
    obtain ⟨v, H2, os2, bare, un, ok2, ru, ev, d, fs, ea, ed, hd, last⟩ := fin
    subst ev
    obtain ⟨t0, G2, J3, kG, ge, ho, na⟩ := mk_end0 (d2 := z2.drawn) (t2 := z2.toks) J up1 old un ok2 os2 bare ea ed hd
    exact ⟨ru, hp.objs.size + 1, _, _, ⟨G2, z2.gens, z2.drawn, z2.toks, z2.os⟩, _, .ref C, some d, rfl, J3, kG, ge, ho, ⟨rfl, rfl, fun vs hv => by cases hv; rfl⟩, rfl, rfl, na, rfl, bare, raises_own T.exC T.tyC, last⟩
end
end Sm

set_option Elab.async false
set_option linter.all false
set_option maxRecDepth 100000
set_option maxHeartbeats 8000000
/-! ### isinstance of a caught exception that has a dict of its own -/
namespace PySem.W
open PySem PySem.Spec PySem.Calls PyProof.Rows
section
variable {prog : Program} {w : World} {A : Around} {E : Value → Shared → Prop} {s : Shared} {K : Frag} {x D : Addr} {ox : Obj} {od : Option Obj}
theorem sm_found {C : Addr} {nm : Str} {a g : Value} (c : (clsIn K C).isSome = true) (h1 : findIn K (.ref C) nm = some (some a)) (h2 : specialIn K a "__get__" = some (some g)) (h3 : takesIn K a = some true) : findObj K C od nm = some (.bind g a) := by
  obtain ⟨cd, e⟩ := Option.isSome_iff_exists.mp c
  unfold findObj
  simp [e, h1, h2, h3]
theorem sm_class {Q : Option Value → Shared → Prop} (C : L2.ExcC K D) (X : K.In s.heap) (I : InstAt s.heap x ox D od) (h : Q (some (.ref D)) { s with toks := s.toks + 1 }) : wpAny (model prog w) A (getAttr? (.ref x) "__class__") Q E s := by
  have own := sm_found (od := od) (nm := "__class__") (by obtain ⟨cd, hc, _⟩ := any_some C.hd; rw [hc]; rfl) C.ha C.hn C.ht
  obtain ⟨hp, gs, dr, tk, os⟩ := s
  have T0 := I.type (M := model prog w)
  have none1 : (false && onTheHeap (Value.builtin "BaseException.__getattribute__")) = false := rfl
  have other : (onTheHeap (Value.ref D) && Value.builtin "BaseException.__getattribute__" == Value.builtin "object.__getattribute__") = false := by
    have z : (Value.builtin "BaseException.__getattribute__" == Value.builtin "object.__getattribute__") = false := by decide +kernel
    rw [z]; rfl
  unfold getAttr? getAttrBy? getAttrBy
  refine wpAny_bind (wpAny_mkText (wpAny_bind (wpAny_attempt (wpAny_holding (wpAny_bind (T0.at (wpAny_bind ((looks_findIn X C.hg).at ?_))))))))
  refine PySem.W.KFB.if_not other ?_
  unfold getAttrByItsOwn hookBefore
  refine wpAny_bind ?_
  refine PySem.W.KFB.if_so (show onTheHeap (Value.ref D) = true from rfl) ?_
  refine (looks_findIn X C.hk).at (wpAny_bind (wpAny_attempt (wpAny_holding ?_)))
  unfold callGetattribute
  refine PySem.W.KFB.if_not none1 ?_
  unfold boundAndCalled
  rw [PySem.F.excAttr_ValueError.ga.bind (.ref x)]
  refine wpAny_bind (wpAny_pure ?_)
  show wpAny _ _ (call (.builtin "BaseException.__getattribute__") [.ref x, .str "__class__" tk]) _ _ _
  refine wpAny_call (codeAny_call_builtin PySem.F.excAttr_ValueError.ga.plain PySem.F.entry_bexc_ga ?_)
  refine @check_slot (model prog w) _ _ ⟨hp, gs, dr, tk + 1, os⟩ "BaseException.__getattribute__" "BaseException" "__getattribute__" (.ref x) [.str "__class__" tk] [] _ (by decide +kernel) (by decide +kernel) (T0.andThen (looks_subIn X C.hs)) (PySem.F.args_bexc_ga (.ref x) (.str "__class__" tk)) ?_
  unfold Builtin.«object.__getattribute__»
  refine wpAny_bind (wpAny_of_eq (a := ((Value.ref x : Value), [Value.str "__class__" tk])) (by first | rfl | (simp only [slotArgs]; rfl)) ?_)
  refine wpAny_bind (wpAny_pure (wpAny_bind (T0.at (wpAny_bind ((looks_find X I own).at ?_)))))
  show wpAny _ _ (holding [Value.builtin "object.__class__"] (call (.builtin "getset_descriptor.__get__") [.builtin "object.__class__", .ref x, .ref D]) >>= ret) _ _ _
  refine wpAny_bind (wpAny_holding (wpAny_call (class_get (s := ⟨hp, gs, dr, tk + 1, os⟩) (ox := ox) (od := od) X I C.hm ?_)))
  refine wpAny_pure ?_
  show wpAny _ _ (handedOut (.ref D)) _ _ _
  rw [handedOut_of (v := .ref D) rfl]
  first
    | exact wpAny_pure (wpAny_pure h)
    | exact wpAny_pure h
    | exact wpAny_pure (wpAny_bind (wpAny_pure (wpAny_pure h)))
theorem sm_kit (C : L2.ExcC K D) : KitX K (.ref x) (.ref D) (fun h => InstAt h x ox D od) where
  ty := fun _ _ _ I => I.type
  it := fun _ _ X _ => by
    obtain ⟨_, e, _⟩ := any_some C.hd
    unfold clsIn at e
    split at e
    · rename_i _ _ _ _ ho
      intro _ _ _ _ k q
      unfold isType loadHead
      exact wpAny_bind (wpAny_loadPart (k _ _ (X _ _ ho)) (wpAny_pure q))
    · cases e
  ne := fun _ _ _ _ _ _ X t => by
    obtain ⟨_, e, _⟩ := any_some C.hd
    refine Bool.eq_false_iff.mpr fun q => ?_
    have z := Value.ref.inj (beq_iff_eq.mp q)
    subst z
    unfold clsIn at e
    split at e
    · rename_i _ _ _ _ ho
      cases (X _ _ ho).symm.trans t
    · cases e
  ca := fun X I k => sm_class C X I k
end
end PySem.W
namespace Sm
open PySem PySem.Spec PyProof.Rows L2
theorem call_isD {X : Cx} {K : PySem.W.Frag} {a D : Addr} {oe : Obj} {cls : Value} {d : Option Addr} {pn : List (Addr × Obj)} (hK : X.K = K) (C : ExcC K D) (hz : Zc cls d oe) (hf : ∃ vs, oe.data = .fields vs) :
    CallR (X.suite a ((a, oe) :: pn)) (.builtin "isinstance") (fun xs H Q => cls = .ref D ∧ (∃ dd fs, d = some dd ∧ H dd = some (.xd fs)) ∧ rIsE K D a xs H Q) := by
  subst hK
  intro pins s σ H xs us Q I r ⟨ec, ⟨dd, fs, ed, ea⟩, c, cv, b, exs, hcv, ek, q⟩
  subst ec
  subst ed
  subst exs
  obtain ⟨u1, u2, rfl, r1, r2⟩ := vals2 r
  cases r1
  have e2 := hcv _ r2
  subst e2
  obtain ⟨hget, _⟩ := I.pin (a, oe) (List.mem_append.mpr (.inl List.mem_cons_self))
  obtain ⟨vs, hv⟩ := hf
  have hx : ObjOk X.prog X.w H s.heap dd (.xd fs) := I.hok dd _ ea
  obtain ⟨mA, hns, hr⟩ := hx
  obtain ⟨od, ho, hl⟩ := lookIn_ns hns
  have J : PySem.W.InstAt s.heap a oe D (some od) := ⟨hget, hz.1, by unfold PySem.W.notCls; rw [hv] <;> rfl, by rw [hz.2]; exact ho⟩
  exact PySem.W.kia_one (PySem.W.sm_kit C) I.kIn J ek (fun z => nomatch z) fun tk => ⟨.bl b, H, I.kept (t' := tk) fun _ _ z => z, rfl, q⟩
end Sm

set_option Elab.async false
set_option linter.all false
set_option maxRecDepth 100000
set_option maxHeartbeats 4000000
/-! texts of graphs: what is read and written, reckoned on lists of signs -/
namespace Tx
open Sm PySem PySem.Spec PyProof.Rows L2 TL
abbrev Cs := List Nat
def cutAt (s : Nat) : Cs → List Cs
  | [] => [[]]
  | c :: r => if c = s then [] :: cutAt s r else match cutAt s r with
    | [] => [[c]]
    | p :: ps => (c :: p) :: ps
theorem cutAt_ne (s : Nat) : ∀ l : Cs, cutAt s l ≠ []
  | [] => by simp [cutAt]
  | c :: r => by
    show (if c = s then [] :: cutAt s r else match cutAt s r with | [] => [[c]] | p :: ps => (c :: p) :: ps) ≠ []
    by_cases e : c = s
    · rw [if_pos e]
      simp
    · rw [if_neg e]
      cases cutAt s r <;> simp
theorem cutAt_free (s : Nat) : ∀ l : Cs, ∀ p ∈ cutAt s l, s ∉ p
  | [], p, h => by
    rw [List.mem_singleton.mp h]
    simp
  | c :: r, p, h => by
    have ih := cutAt_free s r
    have h : p ∈ (if c = s then [] :: cutAt s r else match cutAt s r with | [] => [[c]] | p :: ps => (c :: p) :: ps) := h
    by_cases e : c = s
    · rw [if_pos e] at h
      rcases List.mem_cons.mp h with rfl | h
      · simp
      · exact ih p h
    · rw [if_neg e] at h
      cases e2 : cutAt s r with
      | nil => exact (cutAt_ne s r e2).elim
      | cons q qs =>
        rw [e2] at h ih
        rcases List.mem_cons.mp h with rfl | h
        · intro hm
          rcases List.mem_cons.mp hm with z | z
          · exact e z.symm
          · exact ih q List.mem_cons_self z
        · exact ih p (List.mem_cons_of_mem _ h)
theorem join_cutAt (s : Nat) : ∀ l : Cs, joinL [s] (cutAt s l) = l
  | [] => rfl
  | c :: r => by
    have ih := join_cutAt s r
    show joinL [s] (if c = s then [] :: cutAt s r else match cutAt s r with | [] => [[c]] | p :: ps => (c :: p) :: ps) = c :: r
    by_cases e : c = s
    · rw [if_pos e]
      cases e2 : cutAt s r with
      | nil => exact (cutAt_ne s r e2).elim
      | cons q qs =>
        rw [e2] at ih
        show [] ++ ([s] ++ joinL [s] (q :: qs)) = c :: r
        rw [ih, e]
        rfl
    · rw [if_neg e]
      cases e2 : cutAt s r with
      | nil => exact (cutAt_ne s r e2).elim
      | cons q qs =>
        rw [e2] at ih
        show joinL [s] ((c :: q) :: qs) = c :: r
        rw [← ih]
        cases qs with
        | nil => rfl
        | cons x xs => rfl
theorem spl_cutAt (s : Nat) (l : Cs) : spl [s] 0 [] l = cutAt s l := by
  have h := spl_join (S := []) (cutAt_ne s l) (cutAt_free s l)
  rw [join_cutAt] at h
  exact h
/-- text.split(sign) -/
theorem split_tl {x y : Str} {s : Nat} (hy : tl y = [s]) (hs : s < 256) : (Txt.split x y).map tl = cutAt s (tl x) := by
  rw [split_spl x y (by rw [hy]; simp) (kind_ok ?_), hy, spl_cutAt]
  have e : y.cps.toList = [s] := hy
  rw [← Array.all_toList, e]
  simp [hs]
theorem cutAt_join {s : Nat} {ps : List Cs} (ne : ps ≠ []) (h : ∀ p ∈ ps, s ∉ p) : cutAt s (joinL [s] ps) = ps := by
  rw [← spl_cutAt]
  exact spl_join ne h
/-! ### numbers -/
def digs (w : Cs) : Bool := !w.isEmpty && w.all fun c => decide (48 ≤ c) && decide (c ≤ 57)
/-- the number that a word tells -/
def numO (w : Cs) : Option Nat := if w.length ≤ 4 ∧ digs w = true ∧ ¬ (1 < w.length ∧ w.head? = some 48) then some (NumText.digitsVal w) else none
theorem numL_head {n : Nat} (h : 10 ≤ n) : (numL n).head? ≠ some 48 := by
  induction n using Nat.strongRecOn with
  | _ n ih =>
    rw [numL_step h]
    by_cases h2 : n / 10 < 10
    · rw [numL_lt h2]
      show some (48 + n / 10) ≠ some 48
      intro z
      have := Option.some.inj z
      omega
    · have i := ih (n / 10) (by omega) (by omega)
      have ne := numL_ne (n / 10)
      cases e : numL (n / 10) with
      | nil => exact (ne e).elim
      | cons a r =>
        rw [e] at i
        exact i
theorem digs_numL (n : Nat) : digs (numL n) = true := by
  unfold digs
  rw [Bool.and_eq_true]
  constructor
  · cases e : numL n with
    | nil => exact (numL_ne n e).elim
    | cons a r => rfl
  · refine List.all_eq_true.mpr fun c hc => ?_
    have := numL_digits n c hc
    rw [Bool.and_eq_true, decide_eq_true_eq, decide_eq_true_eq]
    omega
theorem numO_numL {n : Nat} (h : n < 10000) : numO (numL n) = some n := by
  unfold numO
  rw [if_pos, numL_val]
  refine ⟨numL_len (by decide) (by omega), digs_numL n, fun ⟨h1, h2⟩ => ?_⟩
  by_cases h3 : n < 10
  · rw [numL_lt h3] at h1
    exact absurd h1 (by simp)
  · exact numL_head (by omega) h2
theorem val_snoc (w : Cs) (c : Nat) : NumText.digitsVal (w ++ [c]) = NumText.digitsVal w * 10 + (c - 48) := by
  unfold NumText.digitsVal
  rw [List.foldl_append]
  rfl
theorem all_dig {w : Cs} (h : digs w = true) : ∀ c ∈ w, 48 ≤ c ∧ c ≤ 57 := fun c hc => by
  unfold digs at h
  rw [Bool.and_eq_true] at h
  have := List.all_eq_true.mp h.2 c hc
  rw [Bool.and_eq_true, decide_eq_true_eq, decide_eq_true_eq] at this
  exact this
theorem numL_back : ∀ (k : Nat) (w : Cs), w.length = k → (∀ c ∈ w, 48 ≤ c ∧ c ≤ 57) → w ≠ [] → ¬ (1 < w.length ∧ w.head? = some 48) → numL (NumText.digitsVal w) = w ∧ (w.head? ≠ some 48 → 1 ≤ NumText.digitsVal w)
  | 0, w, e, _, ne, _ => (ne (List.length_eq_zero_iff.mp e)).elim
  | k + 1, w, e, dg, ne, nz => by
    obtain ⟨p, c, rfl⟩ : ∃ p c, w = p ++ [c] := ⟨w.dropLast, w.getLast ne, (List.dropLast_concat_getLast ne).symm⟩
    have hc := dg c (List.mem_append_right _ (List.mem_singleton.mpr rfl))
    rw [val_snoc]
    cases p with
    | nil =>
      have : NumText.digitsVal [] = 0 := rfl
      rw [this]
      refine ⟨?_, fun hh => ?_⟩
      · rw [numL_lt (by omega)]
        show [48 + (0 * 10 + (c - 48))] = [c]
        congr 1
        omega
      · have : c ≠ 48 := fun z => hh (by rw [z]; rfl)
        omega
    | cons a p =>
      have hd : (a :: p ++ [c]).head? = some a := rfl
      have a0 : a ≠ 48 := fun z => nz ⟨by simp, by rw [hd, z]⟩
      obtain ⟨i1, i2⟩ := numL_back k (a :: p) (by simp at e ⊢; omega) (fun x hx => dg x (List.mem_append_left _ hx)) (by simp) (fun ⟨_, z⟩ => a0 (by simpa using z))
      have i2 := i2 (fun z => a0 (by simpa using z))
      refine ⟨?_, fun _ => by omega⟩
      rw [numL_step (by omega)]
      have e1 : (NumText.digitsVal (a :: p) * 10 + (c - 48)) / 10 = NumText.digitsVal (a :: p) := by omega
      have e2 : 48 + (NumText.digitsVal (a :: p) * 10 + (c - 48)) % 10 = c := by omega
      rw [e1, e2, i1]
theorem numO_some {w : Cs} {n : Nat} (h : numO w = some n) : w = numL n ∧ n < 10000 := by
  unfold numO at h
  split at h
  · rename_i c
    obtain ⟨c1, c2, c3⟩ := c
    have ne : w ≠ [] := fun z => by rw [z] at c2; simp [digs] at c2
    obtain ⟨b1, _⟩ := numL_back w.length w rfl (all_dig c2) ne c3
    have e := Option.some.inj h
    rw [e] at b1
    refine ⟨b1.symm, ?_⟩
    have up : ∀ (k : Nat) (w : Cs), w.length = k → (∀ c ∈ w, 48 ≤ c ∧ c ≤ 57) → NumText.digitsVal w < 10 ^ k := by
      intro k
      induction k with
      | zero =>
        intro w e _
        rw [List.length_eq_zero_iff.mp e]
        decide
      | succ k ih =>
        intro w e dg
        have ne : w ≠ [] := fun z => by rw [z] at e; cases e
        obtain ⟨p, c, rfl⟩ : ∃ p c, w = p ++ [c] := ⟨w.dropLast, w.getLast ne, (List.dropLast_concat_getLast ne).symm⟩
        have i := ih p (by simpa using e) fun x hx => dg x (List.mem_append_left _ hx)
        have hc := dg c (List.mem_append_right _ (List.mem_singleton.mpr rfl))
        rw [val_snoc, Nat.pow_succ]
        omega
    have u := up _ w rfl (all_dig c2)
    have : 10 ^ w.length ≤ 10 ^ 4 := Nat.pow_le_pow_right (by decide) c1
    rw [e] at u
    omega
  · cases h
/-- among the numbers up to a bound -/
theorem mem_nums {w : Cs} {m : Nat} (hm : m ≤ 9999) : w ∈ (List.range (m + 1)).map numL ↔ ∃ n, numO w = some n ∧ n ≤ m := by
  rw [List.mem_map]
  constructor
  · rintro ⟨n, hn, rfl⟩
    have := List.mem_range.mp hn
    exact ⟨n, numO_numL (by omega), by omega⟩
  · rintro ⟨n, h, hn⟩
    exact ⟨n, List.mem_range.mpr (by omega), (numO_some h).1.symm⟩
/-! ### edges and their places -/
/-- how many edges come behind -/
def behindF (n u v : Nat) : Nat := (n - 1 - v) + (n - 1 - u) * (n - 1 - u - 1) / 2
def idxF (n u v : Nat) : Nat := (pairsL n).length - 1 - behindF n u v
theorem two_tri : ∀ k : Nat, (k + 1) * k / 2 = k + k * (k - 1) / 2
  | 0 => rfl
  | k + 1 => by
    have h : (k + 1 + 1) * (k + 1) = 2 * (k + 1) + (k + 1) * k := by
      rw [Nat.mul_comm (k + 1) k, ← Nat.add_mul]
      congr 1
      omega
    rw [h, Nat.add_sub_cancel]
    omega
theorem drop_len (n : Nat) : ∀ k, k ≤ n → ((List.range k).flatMap fun u => rowP n u).length + (n - k) * (n - k - 1) / 2 = n * (n - 1) / 2
  | 0, _ => by simp
  | k + 1, h => by
    have ih := drop_len n k (by omega)
    rw [List.range_succ, List.flatMap_append, List.length_append, List.flatMap_cons, List.flatMap_nil, List.append_nil, rowP_len]
    obtain ⟨d, hd⟩ : ∃ d, n - k = d + 1 := ⟨n - k - 1, by omega⟩
    have e1 : n - (k + 1) = d := by omega
    rw [hd, Nat.add_sub_cancel, two_tri] at ih
    rw [e1]
    omega
theorem pairs_len (n : Nat) : (pairsL n).length = n * (n - 1) / 2 := by
  have h := drop_len n n (Nat.le_refl _)
  have e : (n - n) * (n - n - 1) / 2 = 0 := by simp
  rw [e] at h
  exact h
theorem behind_lt {n u v : Nat} (h1 : u < v) (h2 : v < n) : behindF n u v < (pairsL n).length := by
  have h := drop_len n (u + 1) (by omega)
  have h3 : ((List.range (u + 1)).flatMap fun u => rowP n u).length = ((List.range u).flatMap fun u => rowP n u).length + (n - (u + 1)) := by
    rw [List.range_succ, List.flatMap_append, List.length_append, List.flatMap_cons, List.flatMap_nil, List.append_nil, rowP_len]
  rw [pairs_len]
  unfold behindF
  have e : n - 1 - u = n - (u + 1) := by omega
  rw [e]
  omega
theorem idx_get {n u v : Nat} (h1 : u < v) (h2 : v < n) : (pairsL n)[idxF n u v]? = some ((u : Int), (v : Int)) := by
  have h := drop_len n (u + 1) (by omega)
  have sp : pairsL n = ((List.range u).flatMap fun u => rowP n u) ++ (rowP n u ++ ((List.range' (u + 1) (n - (u + 1))).flatMap fun u => rowP n u)) := by
    unfold pairsL
    have : List.range n = List.range u ++ (u :: List.range' (u + 1) (n - (u + 1))) := by
      have e : n = u + (1 + (n - (u + 1))) := by omega
      conv => lhs; rw [e, List.range_add]
      congr 1
      rw [Nat.add_comm 1, List.range_succ_eq_map, List.map_cons, List.map_map]
      congr 1
      rw [List.range'_eq_map_range]
      exact List.map_congr_left fun i _ => by show u + (i + 1) = u + 1 + i; omega
    rw [this, List.flatMap_append, List.flatMap_cons]
  have l0 : ((List.range u).flatMap fun u => rowP n u).length + (n - (u + 1)) + behindF n u v + 1 = (pairsL n).length + (n - v) := by
    have h3 : ((List.range (u + 1)).flatMap fun u => rowP n u).length = ((List.range u).flatMap fun u => rowP n u).length + (n - (u + 1)) := by
      rw [List.range_succ, List.flatMap_append, List.length_append, List.flatMap_cons, List.flatMap_nil, List.append_nil, rowP_len]
    rw [pairs_len]
    unfold behindF
    have e : n - 1 - u = n - (u + 1) := by omega
    rw [e]
    omega
  have bl := behind_lt h1 h2
  unfold idxF
  have ei : (pairsL n).length - 1 - behindF n u v = ((List.range u).flatMap fun u => rowP n u).length + (v - (u + 1)) := by omega
  rw [ei, sp, List.getElem?_append_right (by omega), Nat.add_sub_cancel_left, List.getElem?_append_left (by rw [rowP_len]; omega)]
  unfold rowP
  rw [List.getElem?_map, List.getElem?_range (by omega)]
  show some ((u : Int), ((u + 1 + (v - (u + 1)) : Nat) : Int)) = _
  rw [show u + 1 + (v - (u + 1)) = v by omega]
theorem idx_lt {n u v u' v' : Nat} (h1 : u < v) (h2 : v < n) (h3 : u' < v') (h4 : v' < n) : idxF n u v < idxF n u' v' ↔ lexlt ((u : Int), (v : Int)) ((u' : Int), (v' : Int)) := by
  have g1 := idx_get h1 h2
  have g2 := idx_get h3 h4
  have pw := pairsL_lt n
  have key : ∀ {i j : Nat} {p q : Pr}, (pairsL n)[i]? = some p → (pairsL n)[j]? = some q → i < j → lexlt p q := fun {i j p q} hi hj lt => by
    obtain ⟨li, rfl⟩ := List.getElem?_eq_some_iff.mp hi
    obtain ⟨lj, rfl⟩ := List.getElem?_eq_some_iff.mp hj
    exact List.pairwise_iff_getElem.mp pw i j li lj lt
  constructor
  · exact key g1 g2
  · intro h
    rcases Nat.lt_trichotomy (idxF n u v) (idxF n u' v') with z | z | z
    · exact z
    · rw [z, g2] at g1
      have e := Option.some.inj g1
      rw [e] at h
      have := SrtO.lexB_iff.mp h
      omega
    · have k := SrtO.lexB_iff.mp (key g2 g1 z)
      have k2 := SrtO.lexB_iff.mp h
      have k : (u' : Int) < u ∨ ((u' : Int) = u ∧ (v' : Int) < v) := k
      have k2 : (u : Int) < u' ∨ ((u : Int) = u' ∧ (v : Int) < v') := k2
      omega
end Tx

set_option Elab.async false
set_option linter.all false
set_option maxRecDepth 100000
set_option maxHeartbeats 4000000
namespace Tx
open Sm PySem PySem.Spec PyProof.Rows L2 TL
abbrev Ed := Nat × Nat
def graphC : Cs := [103, 114, 97, 112, 104]
def edgeIn (n : Nat) (l : Cs) : Option Ed := match cutAt 32 l with
  | [a, b] => match numO a, numO b with
    | some u, some v => if u < v ∧ v < n then some (u, v) else none
    | _, _ => none
  | _ => none
def ltPr (p q : Ed) : Prop := p.1 < q.1 ∨ (p.1 = q.1 ∧ p.2 < q.2)
instance (p q : Ed) : Decidable (ltPr p q) := by unfold ltPr; infer_instance
def notBehind (es : List Ed) (e : Ed) : Bool := match es.getLast? with
  | none => false
  | some l => !decide (ltPr l e)
def progLoop (n many : Nat) : List Cs → List Ed → Sum Nat (List Ed)
  | [], es => .inr es
  | l :: ls, es => match edgeIn n l with
    | none => .inl (es.length + 2)
    | some e => if notBehind es e = true then .inl (es.length + 2) else if es.length + 1 + behindF n e.1 e.2 < many then .inl (es.length + 2) else progLoop n many ls (es ++ [e])
def firstL : List Cs → Option (Nat × Nat)
  | [] => none
  | l :: _ => match cutAt 32 l with
    | [a, b, c] => if a = graphC then (match numO b, numO c with
      | some n, some m => if n ≤ 60 ∧ m ≤ n * (n - 1) / 2 then some (n, m) else none
      | _, _ => none) else none
    | _ => none
def endF (L : List Cs) (m : Nat) (es : List Ed) : Bool := decide (es.length < m) || (decide (m + 1 < L.dropLast.length) || decide (L.getLast? ≠ some []))
def progF (L : List Cs) : Sum Nat (Nat × List Ed) := match firstL L.dropLast with
  | none => .inl 1
  | some (n, m) => match progLoop n m ((L.dropLast.drop 1).take m) [] with
    | .inl k => .inl k
    | .inr es => if endF L m es = true then .inl (es.length + 2) else .inr (n, es)
def atOf (n : Nat) (es : List Ed) : Int := match es.getLast? with
  | none => -1
  | some l => ((idxF n l.1 l.2 : Nat) : Int)
def lawLoop (n count : Nat) (L : List Cs) : Nat → Nat → Int → Nat
  | 0, _, _ => if L.length ≠ count + 2 ∨ L[count + 1]? ≠ some [] then count + 2 else 0
  | f + 1, k, a => if L.length ≤ k + 2 then k + 2 else match edgeIn n (L.getD (k + 1) []) with
    | none => k + 2
    | some e => if ((idxF n e.1 e.2 : Nat) : Int) ≤ a ∨ (((pairsL n).length : Nat) : Int) - 1 - (idxF n e.1 e.2 : Nat) < (count : Int) - 1 - k then k + 2 else lawLoop n count L f (k + 1) (idxF n e.1 e.2 : Nat)
def lawF (L : List Cs) : Nat := match firstL L.dropLast with
  | none => 1
  | some (n, m) => lawLoop n m L m 0 (-1)
theorem edgeIn_some {n : Nat} {l : Cs} {e : Ed} (h : edgeIn n l = some e) : e.1 < e.2 ∧ e.2 < n ∧ l = numL e.1 ++ ([32] ++ numL e.2) := by
  unfold edgeIn at h
  split at h
  · rename_i a b hc
    split at h
    · rename_i u v hu hv
      split at h
      · rename_i c
        have e0 := Option.some.inj h
        subst e0
        refine ⟨c.1, c.2, ?_⟩
        have j := join_cutAt 32 l
        rw [hc] at j
        rw [← j, (numO_some hu).1, (numO_some hv).1]
        rfl
      · cases h
    · cases h
  · cases h
theorem last_ok {n : Nat} {es : List Ed} (ok : ∀ e ∈ es, e.1 < e.2 ∧ e.2 < n) {e : Ed} (h1 : e.1 < e.2) (h2 : e.2 < n) : notBehind es e = true ↔ ((idxF n e.1 e.2 : Nat) : Int) ≤ atOf n es := by
  unfold notBehind atOf
  cases hl : es.getLast? with
  | none =>
    simp
    omega
  | some l =>
    obtain ⟨a, b⟩ := ok l (List.mem_of_getLast? hl)
    have k := idx_lt a b h1 h2
    have lx : lexlt ((l.1 : Int), (l.2 : Int)) ((e.1 : Int), (e.2 : Int)) ↔ ltPr l e := by
      constructor
      · intro h
        have h := SrtO.lexB_iff.mp h
        have h : (l.1 : Int) < e.1 ∨ ((l.1 : Int) = e.1 ∧ (l.2 : Int) < e.2) := h
        unfold ltPr
        omega
      · intro h
        unfold ltPr at h
        refine SrtO.lexB_iff.mpr ?_
        show (l.1 : Int) < e.1 ∨ ((l.1 : Int) = e.1 ∧ (l.2 : Int) < e.2)
        omega
    rw [lx] at k
    show (!decide (ltPr l e)) = true ↔ ((idxF n e.1 e.2 : Nat) : Int) ≤ ((idxF n l.1 l.2 : Nat) : Int)
    rw [Bool.not_eq_true', decide_eq_false_iff_not, ← k]
    omega
theorem loop_eq {n m : Nat} {L : List Cs} (ne : L ≠ []) : ∀ (f k : Nat) (es : List Ed), m - k = f → k ≤ m → es.length = k → k + 1 ≤ L.dropLast.length → (∀ e ∈ es, e.1 < e.2 ∧ e.2 < n) →
    lawLoop n m L f k (atOf n es) = match progLoop n m ((L.dropLast.drop (k + 1)).take (m - k)) es with
      | .inl j => j
      | .inr es' => if endF L m es' = true then es'.length + 2 else 0
  | 0, k, es, hf, hk, he, hl, ok => by
    have km : k = m := by omega
    subst km
    have dl : L.dropLast.length = L.length - 1 := List.length_dropLast
    have lp : 0 < L.length := List.length_pos_iff.mpr ne
    rw [hf, List.take_zero]
    show (if L.length ≠ k + 2 ∨ L[k + 1]? ≠ some [] then k + 2 else 0) = if endF L k es = true then es.length + 2 else 0
    unfold endF
    rw [he]
    by_cases c : L.length = k + 2
    · have e2 : L.getLast? = L[k + 1]? := by
        rw [List.getLast?_eq_getElem?, c]
        rfl
      rw [e2]
      have e3 : decide (k < k) = false := decide_eq_false (Nat.lt_irrefl k)
      have e4 : decide (k + 1 < L.dropLast.length) = false := decide_eq_false (by omega)
      rw [e3, e4]
      by_cases d : L[k + 1]? = some []
      · rw [d]
        simp [c]
      · simp [c, d]
    · have e4 : decide (k + 1 < L.dropLast.length) = true := decide_eq_true (by omega)
      rw [e4]
      simp [c]
  | f + 1, k, es, hf, hk, he, hl, ok => by
    have dl : L.dropLast.length = L.length - 1 := List.length_dropLast
    have lp : 0 < L.length := List.length_pos_iff.mpr ne
    rw [hf]
    show (if L.length ≤ k + 2 then k + 2 else match edgeIn n (L.getD (k + 1) []) with
      | none => k + 2
      | some e => if ((idxF n e.1 e.2 : Nat) : Int) ≤ atOf n es ∨ (((pairsL n).length : Nat) : Int) - 1 - (idxF n e.1 e.2 : Nat) < (m : Int) - 1 - k then k + 2 else lawLoop n m L f (k + 1) (idxF n e.1 e.2 : Nat)) = _
    by_cases c : L.length ≤ k + 2
    · rw [if_pos c, List.drop_of_length_le (by omega), List.take_nil]
      show k + 2 = if endF L m es = true then es.length + 2 else 0
      have : endF L m es = true := by
        unfold endF
        rw [decide_eq_true (show es.length < m by omega)]
        rfl
      rw [if_pos this, he]
    · rw [if_neg c]
      have lk : k + 1 < L.dropLast.length := by omega
      have el : L.getD (k + 1) [] = L.dropLast[k + 1] := by
        rw [List.getD_eq_getElem?_getD, List.getElem?_eq_getElem (by omega), List.getElem_dropLast]
        rfl
      rw [List.drop_eq_getElem_cons lk, List.take_succ_cons, el]
      generalize L.dropLast[k + 1] = l
      show _ = match (match edgeIn n l with
        | none => Sum.inl (es.length + 2)
        | some e => if notBehind es e = true then .inl (es.length + 2) else if es.length + 1 + behindF n e.1 e.2 < m then .inl (es.length + 2) else progLoop n m ((L.dropLast.drop (k + 1 + 1)).take f) (es ++ [e])) with
        | .inl j => j
        | .inr es' => if endF L m es' = true then es'.length + 2 else 0
      cases he2 : edgeIn n l with
      | none =>
        show k + 2 = es.length + 2
        rw [he]
      | some e =>
        obtain ⟨a1, a2, _⟩ := edgeIn_some he2
        have nb := last_ok ok a1 a2
        have bl := behind_lt a1 a2
        have i2 : (((pairsL n).length : Nat) : Int) - 1 - (idxF n e.1 e.2 : Nat) < (m : Int) - 1 - k ↔ es.length + 1 + behindF n e.1 e.2 < m := by
          unfold idxF
          omega
        show (if ((idxF n e.1 e.2 : Nat) : Int) ≤ atOf n es ∨ (((pairsL n).length : Nat) : Int) - 1 - (idxF n e.1 e.2 : Nat) < (m : Int) - 1 - k then k + 2 else lawLoop n m L f (k + 1) (idxF n e.1 e.2 : Nat)) = match (if notBehind es e = true then Sum.inl (es.length + 2) else if es.length + 1 + behindF n e.1 e.2 < m then .inl (es.length + 2) else progLoop n m ((L.dropLast.drop (k + 1 + 1)).take f) (es ++ [e])) with
          | .inl j => j
          | .inr es' => if endF L m es' = true then es'.length + 2 else 0
        by_cases c1 : notBehind es e = true
        · rw [if_pos (.inl (nb.mp c1)), if_pos c1]
          show k + 2 = es.length + 2
          rw [he]
        · by_cases c2 : es.length + 1 + behindF n e.1 e.2 < m
          · rw [if_pos (.inr (i2.mpr c2)), if_neg c1, if_pos c2]
            show k + 2 = es.length + 2
            rw [he]
          · rw [if_neg (fun z => z.elim (fun z => c1 (nb.mpr z)) fun z => c2 (i2.mp z)), if_neg c1, if_neg c2]
            have at2 : atOf n (es ++ [e]) = ((idxF n e.1 e.2 : Nat) : Int) := by
              unfold atOf
              rw [List.getLast?_append]
              rfl
            rw [← at2]
            have ih := loop_eq (n := n) (m := m) ne f (k + 1) (es ++ [e]) (by omega) (by omega) (by rw [List.length_append, he]; rfl) (by omega) fun x hx => by
              rcases List.mem_append.mp hx with hx | hx
              · exact ok x hx
              · rw [List.mem_singleton.mp hx]
                exact ⟨a1, a2⟩
            rw [show m - (k + 1) = f by omega] at ih
            exact ih
/-- both find the same line -/
theorem same_line {L : List Cs} (ne : L ≠ []) : lawF L = match progF L with
    | .inl k => k
    | .inr _ => 0 := by
  unfold lawF progF
  cases h : firstL L.dropLast with
  | none => rfl
  | some p =>
    obtain ⟨n, m⟩ := p
    have h1 : 1 ≤ L.dropLast.length := by
      cases e : L.dropLast with
      | nil => rw [e] at h; cases h
      | cons a r => rw [List.length_cons]; omega
    have z := loop_eq (n := n) (m := m) ne m 0 [] rfl (Nat.zero_le _) rfl (by omega) (fun e he => by cases he)
    show lawLoop n m L m 0 (-1) = _
    have a0 : atOf n [] = -1 := rfl
    rw [a0, Nat.zero_add, Nat.sub_zero] at z
    rw [z]
    show _ = match (match progLoop n m ((L.dropLast.drop 1).take m) [] with
      | .inl k => Sum.inl k
      | .inr es => if endF L m es = true then .inl (es.length + 2) else .inr (n, es)) with
      | .inl k => k
      | .inr _ => 0
    cases progLoop n m ((L.dropLast.drop 1).take m) [] with
    | inl k => rfl
    | inr es =>
      show (if endF L m es = true then es.length + 2 else 0) = match (if endF L m es = true then Sum.inl (es.length + 2) else .inr (n, es)) with
        | .inl k => k
        | .inr _ => 0
      by_cases c : endF L m es = true
      · rw [if_pos c, if_pos c]
      · rw [if_neg c, if_neg c]
theorem prog_pos {L : List Cs} {k : Nat} (h : progF L = .inl k) : 0 < k := by
  have loop : ∀ (n m : Nat) (ls : List Cs) (es : List Ed) (k : Nat), progLoop n m ls es = .inl k → 0 < k := by
    intro n m ls
    induction ls with
    | nil => exact fun es k h => by cases h
    | cons l ls ih =>
      intro es k h
      unfold progLoop at h
      split at h
      · cases h; omega
      · split at h
        · cases h; omega
        · split at h
          · cases h; omega
          · exact ih _ _ h
  unfold progF at h
  split at h
  · cases h; decide
  · split at h
    · rename_i hk
      cases h
      exact loop _ _ _ _ _ hk
    · split at h
      · cases h; omega
      · cases h
/-! ### the text of what is read -/
def lineC (e : Ed) : Cs := numL e.1 ++ ([32] ++ numL e.2)
def headC (n m : Nat) : Cs := graphC ++ ([32] ++ (numL n ++ ([32] ++ numL m)))
def textC (n : Nat) (es : List Ed) : Cs := (headC n es.length ++ [10]) ++ es.flatMap fun e => lineC e ++ [10]
theorem joinL_nl (s : Nat) : ∀ ls : List Cs, joinL [s] (ls ++ [[]]) = ls.flatMap fun l => l ++ [s]
  | [] => rfl
  | [l] => by
    show l ++ ([s] ++ []) = _
    simp
  | l :: k :: ls => by
    have ih := joinL_nl s (k :: ls)
    show l ++ ([s] ++ joinL [s] ((k :: ls) ++ [[]])) = (l ++ [s]) ++ (k :: ls).flatMap fun l => l ++ [s]
    rw [ih, List.append_assoc]
theorem loop_lines {n m : Nat} : ∀ (ls : List Cs) (es es' : List Ed), (∀ e ∈ es, e.1 < e.2 ∧ e.2 < n) → es.Pairwise ltPr → progLoop n m ls es = .inr es' → ∃ fs, es' = es ++ fs ∧ ls = fs.map lineC ∧ (∀ e ∈ es', e.1 < e.2 ∧ e.2 < n) ∧ es'.Pairwise ltPr
  | [], es, es', ok, pw, h => by
    cases h
    exact ⟨[], by rw [List.append_nil], rfl, ok, pw⟩
  | l :: ls, es, es', ok, pw, h => by
    unfold progLoop at h
    split at h
    · cases h
    · rename_i e he
      obtain ⟨a1, a2, a3⟩ := edgeIn_some he
      split at h
      · cases h
      · rename_i c1
        split at h
        · cases h
        · have pw2 : (es ++ [e]).Pairwise ltPr := by
            refine List.pairwise_append.mpr ⟨pw, List.pairwise_singleton _ _, fun x hx y hy => ?_⟩
            rw [List.mem_singleton.mp hy]
            cases hl : es.getLast? with
            | none =>
              rw [List.getLast?_eq_none_iff.mp hl] at hx
              cases hx
            | some l2 =>
              have ll : ltPr l2 e := by
                unfold notBehind at c1
                rw [hl] at c1
                simpa using c1
              obtain ⟨p, rfl⟩ := List.getLast?_eq_some_iff.mp hl
              rcases List.mem_append.mp hx with hx | hx
              · have x2 := (List.pairwise_append.mp pw).2.2 x hx l2 (List.mem_singleton.mpr rfl)
                unfold ltPr at x2 ll ⊢
                omega
              · rw [List.mem_singleton.mp hx]
                exact ll
          obtain ⟨fs, e1, e2, e3, e4⟩ := loop_lines ls (es ++ [e]) es' (fun x hx => by
            rcases List.mem_append.mp hx with hx | hx
            · exact ok x hx
            · rw [List.mem_singleton.mp hx]
              exact ⟨a1, a2⟩) pw2 h
          refine ⟨e :: fs, by rw [e1, List.append_assoc]; rfl, ?_, e3, e4⟩
          rw [List.map_cons, ← e2, a3]
          rfl
theorem prog_text {T : Cs} {n : Nat} {es : List Ed} (h : progF (cutAt 10 T) = .inr (n, es)) : T = textC n es ∧ n ≤ 60 ∧ (∀ e ∈ es, e.1 < e.2 ∧ e.2 < n) ∧ es.Pairwise ltPr ∧ es.length + 2 = (cutAt 10 T).length := by
  have ne := cutAt_ne 10 T
  have jt := join_cutAt 10 T
  generalize cutAt 10 T = L at h ne jt
  unfold progF at h
  split at h
  · cases h
  · rename_i n' m hf
    split at h
    · cases h
    · rename_i es' hl
      split at h
      · cases h
      · rename_i c
        obtain ⟨rfl, rfl⟩ : n' = n ∧ es' = es := by
          have := Sum.inr.inj h
          exact ⟨(Prod.mk.inj this).1, (Prod.mk.inj this).2⟩
        obtain ⟨fs, e1, e2, e3, e4⟩ := loop_lines _ [] es' (fun e he => by cases he) .nil hl
        rw [List.nil_append] at e1
        subst e1
        unfold endF at c
        simp only [Bool.or_eq_true, decide_eq_true_eq, not_or] at c
        obtain ⟨c1, c2, c3⟩ := c
        have c3 : L.getLast? = some [] := Classical.byContradiction fun z => c3 z
        obtain ⟨Lp, rfl⟩ := List.getLast?_eq_some_iff.mp c3
        rw [List.dropLast_concat] at hf e2 c2
        cases Lp with
        | nil => cases hf
        | cons l0 Lp =>
          have hf0 : (match cutAt 32 l0 with
            | [a, b, c] => if a = graphC then (match numO b, numO c with
              | some n, some m => if n ≤ 60 ∧ m ≤ n * (n - 1) / 2 then some (n, m) else none
              | _, _ => none) else none
            | _ => none) = some (n', m) := hf
          split at hf0
          · rename_i a b d hc
            split at hf0
            · rename_i ea
              split at hf0
              · rename_i n2 m2 hn hm
                split at hf0
                · rename_i bnd
                  obtain ⟨rfl, rfl⟩ := Prod.mk.inj (Option.some.inj hf0)
                  have j0 := join_cutAt 32 l0
                  rw [hc, ea, (numO_some hn).1, (numO_some hm).1] at j0
                  have lens : Lp.length = es'.length ∧ m2 = es'.length := by
                    have := congrArg List.length e2
                    rw [List.length_take, List.length_map] at this
                    simp at this c2
                    omega
                  have e5 : Lp = es'.map lineC := by
                    rw [← e2]
                    show Lp = Lp.take m2
                    rw [List.take_of_length_le (by omega)]
                  refine ⟨?_, bnd.1, e3, e4, by simp; omega⟩
                  rw [← jt, joinL_nl, List.flatMap_cons, ← j0, e5, List.flatMap_map]
                  unfold textC headC
                  rw [lens.2]
                  rfl
                · cases hf0
              · cases hf0
            · cases hf0
          · cases hf0
end Tx

set_option Elab.async false
set_option linter.all false
set_option maxRecDepth 100000
set_option maxHeartbeats 8000000
namespace Sm
open PySem PySem.Spec PyProof.Rows L2 TL Tx
abbrev sNo : Stmt := topS 18
theorem dig_uni : ∀ c : Nat, c < 128 → Unicode.isDigit c = (decide (48 ≤ c) && decide (c ≤ 57)) := by
  have h : ((List.range 128).all fun c => Unicode.isDigit c == (decide (48 ≤ c) && decide (c ≤ 57))) = true := by decide +kernel
  intro c hc
  exact eq_of_beq (List.all_eq_true.mp h c (List.mem_range.mpr hc))
theorem ascii_tl (w : Str) : Txt.isascii w = (tl w).all fun c => decide (c < 128) := by
  show w.cps.all _ = _
  rw [← Array.all_toList]
theorem digit_tl (w : Str) : Txt.isdigit w = (decide (0 < (tl w).length) && (tl w).all Unicode.isDigit) := by
  show (decide (w.length > 0) && w.cps.all _) = _
  rw [← Array.all_toList, len_tl]
theorem digs_eq {w : Str} (ha : Txt.isascii w = true) : Txt.isdigit w = digs (tl w) := by
  rw [ascii_tl] at ha
  rw [digit_tl]
  unfold digs
  congr 1
  · cases tl w <;> simp
  · have : ∀ l : List Nat, (l.all fun c => decide (c < 128)) = true → l.all Unicode.isDigit = l.all fun c => decide (48 ≤ c) && decide (c ≤ 57) := by
      intro l
      induction l with
      | nil => exact fun _ => rfl
      | cons c l ih =>
        intro h
        rw [List.all_cons, Bool.and_eq_true, decide_eq_true_eq] at h
        rw [List.all_cons, List.all_cons, dig_uni c h.1, ih h.2]
    exact this _ ha
theorem not_digs {w : Str} (ha : Txt.isascii w = false) : digs (tl w) = false := by
  cases e : digs (tl w) with
  | false => rfl
  | true =>
    have d := all_dig e
    rw [ascii_tl] at ha
    have : ((tl w).all fun c => decide (c < 128)) = true := List.all_eq_true.mpr fun c hc => decide_eq_true (by have := d c hc; omega)
    rw [this] at ha
    cases ha
/-- -1 stands for none -/
def oI : Option Nat → Int
  | none => -1
  | some n => (n : Int)
def spNo : Sp := fun vs H Q _ => ∃ w : Str, vs = [.str w] ∧ w.length ≤ 100000 ∧ Q (.int (oI (numO (tl w)))) H
section
variable {P : Program} {w : World} {K : PySem.W.Frag} {mg : Str → Option Value} {base : Heap}
theorem scNo : FnScope ["word"] ["word"] (defScope sNo) := ⟨rfl, rfl, rfl, by decide +kernel, rfl, by decide +kernel, by decide +kernel⟩
theorem ok_no {f : Addr} {fd : FuncData} (F : Fun K "number_of" "number_of" sNo f fd) (ml : mg "len" = none) (mi : mg "int" = none) {tm : Tok} (gM : mg "MOST_DIGITS" = some (.int 4 tm)) :
    FnOk P w K mg base CX0 1 f fd ["word"] spNo := by
  refine F.ok scNo (fun vs H Q E h => ?_) (fun cdv A outer s H vs Q E hr h => ?_)
  · obtain ⟨w, rfl, _⟩ := h
    rfl
  · obtain ⟨w, rfl, lw, q⟩ := h
    have sw : w.length ≤ sizeLine := by rw [sizeLine_eq]; omega
    refine ⟨_, pss_cons (ps_if (PW.pt (pw_or (pt_cmpR op_gt (pe_callB call_len_str (by rfl) ml PySem.boot_len (pa_cons (pv 0) pa_nil)) (pe_glob (v := .int 4) rfl gM ⟨_, rfl⟩) (nomark _))
        (pw_or (pt_not (pt_val (pe_bm0 PySem.F.plainAttrs_str PySem.F.slot_str_isascii PySem.F.type_str_isascii mt_isascii (pv 0))))
        (pw_or1 (pt_not (pt_val (pe_bm0 PySem.F.plainAttrs_str PySem.F.slot_str_isdigit PySem.F.type_str_isdigit mt_isdigit (pv 0)))))))) (pss_one (ps_ret (pe_un un_neg pe_int))) pss_nil)
      (pss_cons (ps_if (PW.pt (pw_and (pt_cmpR op_gt (pe_callB call_len_str (by rfl) ml PySem.boot_len (pa_cons (pv 0) pa_nil)) pe_int (nomark _)) (pw_and1 (pt_cmpR op_eq (pe_item_str (pv 0) pe_int (fun _ _ => rfl)) pe_str (nomark _))))) (pss_one (ps_ret (pe_un un_neg pe_int))) pss_nil)
      (pss_one (ps_ret (pe_callTy call_int_str (by rfl) mi (by decide +kernel) (pa_cons (pv 0) pa_nil))))), ?_⟩
    have lt : w.length = (tl w).length := len_tl w
    refine ⟨_, rfl, w, rfl, sw, _, _, rfl, rfl, _, rfl, ?_⟩
    by_cases c1 : 4 < w.length
    · refine iteY (by show (w.length : Int) > 4; omega) ?_
      refine iteT ⟨_, rfl, ?_⟩
      have : numO (tl w) = none := by unfold numO; rw [if_neg (fun z => by have := z.1; omega)]
      rw [this] at q
      exact q
    refine iteD (by show ¬ (w.length : Int) > 4; omega) ?_
    refine ⟨_, rfl, rfl, w, rfl, rfl, True.intro, _, rfl, ?_⟩
    cases ha : Txt.isascii w with
    | false =>
      refine iteT (iteT ⟨_, rfl, ?_⟩)
      have : numO (tl w) = none := by unfold numO; rw [if_neg (fun z => by rw [not_digs ha] at z; cases z.2.1)]
      rw [this] at q
      exact q
    | true =>
    refine iteF ?_
    refine ⟨_, rfl, rfl, w, rfl, rfl, True.intro, _, rfl, ?_⟩
    rw [digs_eq ha]
    cases hd : digs (tl w) with
    | false =>
      refine iteT ⟨_, rfl, ?_⟩
      have : numO (tl w) = none := by unfold numO; rw [if_neg (fun z => by rw [hd] at z; cases z.2.1)]
      rw [this] at q
      exact q
    | true =>
    refine iteF ?_
    have ne : tl w ≠ [] := fun z => by rw [z] at hd; simp [digs] at hd
    have l0 : 0 < w.length := by rw [lt]; exact List.length_pos_iff.mpr ne
    have it := PySem.intText_digits (x := w) (fun c hc => by have := all_dig hd c hc; omega) ne (by omega)
    have fin : ¬ (1 < (tl w).length ∧ (tl w).head? = some 48) → Q (.int ((NumText.digitsVal (tl w) : Nat) : Int)) H := fun nz => by
      have : numO (tl w) = some (NumText.digitsVal (tl w)) := by unfold numO; rw [if_pos ⟨by omega, hd, nz⟩]
      rw [this] at q
      exact q
    refine ⟨_, rfl, w, rfl, sw, _, _, rfl, rfl, _, rfl, ?_⟩
    by_cases c2 : 1 < w.length
    · refine iteY (by show (w.length : Int) > 1; omega) ?_
      obtain ⟨c, r, ec⟩ : ∃ c r, tl w = c :: r := by
        cases e : tl w with
        | nil => exact (ne e).elim
        | cons c r => exact ⟨c, r, rfl⟩
      have g0 : w.cps[0]? = some c := by
        rw [← Array.getElem?_toList]
        show (tl w)[0]? = some c
        rw [ec]
        rfl
      refine ⟨_, rfl, w, 0, c, rfl, rfl, by decide, by decide, by omega, g0, rfl, _, rfl, ?_⟩
      by_cases c3 : c = 48
      · refine iteY (by rw [c3]; rfl) ?_
        refine ⟨_, rfl, ?_⟩
        have : numO (tl w) = none := by unfold numO; rw [if_neg (fun z => z.2.2 ⟨by omega, by rw [ec, c3]; rfl⟩)]
        rw [this] at q
        exact q
      · refine iteD (fun z => c3 ?_) ?_
        · have := congrArg tl (V.str.inj z)
          exact (List.cons.inj this).1
        · exact ⟨_, rfl, w, _, rfl, it, by omega, fin fun z => c3 (by have := z.2; rw [ec] at this; exact Option.some.inj this)⟩
    · refine iteD (by show ¬ (w.length : Int) > 1; omega) ?_
      refine iteF ?_
      exact ⟨_, rfl, w, _, rfl, it, by omega, fin fun z => c2 (by omega)⟩
end
end Sm

set_option Elab.async false
set_option linter.all false
set_option maxRecDepth 100000
set_option maxHeartbeats 8000000
namespace Sm
open PySem PySem.Spec PyProof.Rows L2 TL Tx
abbrev sEi : Stmt := topS 17
abbrev sEb : Stmt := topS 19
theorem few_sz' {n : Nat} (h : n ≤ 200000) : n ≤ sizeLine := by rw [sizeLine_eq]; omega
theorem few_lt {n : Nat} (h : n ≤ 200000) : n < sizeLine := by rw [sizeLine_eq]; omega
theorem iteND {c A B : Prop} [Decidable c] (hc : ¬ c) (h : A) : if (!decide c) = true then A else B := by
  rw [decide_eq_false hc]
  exact iteT h
theorem at_nat {xs : List V} {i : Nat} {v : V} (h : xs[i]? = some v) : atI xs (i : Int) = some v := atI_nat h
theorem part_len (s : Nat) : ∀ (l : Cs), ∀ p ∈ cutAt s l, p.length ≤ l.length
  | [], p, h => by
    rw [List.mem_singleton.mp h]
    exact Nat.le_refl _
  | c :: r, p, h => by
    have ih := part_len s r
    have h : p ∈ (if c = s then [] :: cutAt s r else match cutAt s r with | [] => [[c]] | p :: ps => (c :: p) :: ps) := h
    rw [List.length_cons]
    by_cases e : c = s
    · rw [if_pos e] at h
      rcases List.mem_cons.mp h with rfl | h
      · exact Nat.zero_le _
      · have := ih p h
        omega
    · rw [if_neg e] at h
      cases e2 : cutAt s r with
      | nil => exact (cutAt_ne s r e2).elim
      | cons q qs =>
        rw [e2] at h ih
        rcases List.mem_cons.mp h with rfl | h
        · have := ih q List.mem_cons_self
          rw [List.length_cons]
          omega
        · have := ih p (List.mem_cons_of_mem _ h)
          omega
theorem parts_len (s : Nat) : ∀ l : Cs, (cutAt s l).length ≤ l.length + 1
  | [] => Nat.le_refl _
  | c :: r => by
    have ih := parts_len s r
    show (if c = s then [] :: cutAt s r else match cutAt s r with | [] => [[c]] | p :: ps => (c :: p) :: ps).length ≤ _
    rw [List.length_cons]
    by_cases e : c = s
    · rw [if_pos e, List.length_cons]
      omega
    · rw [if_neg e]
      cases e2 : cutAt s r with
      | nil => exact (cutAt_ne s r e2).elim
      | cons q qs =>
        rw [e2] at ih
        show ((c :: q) :: qs).length ≤ _
        rw [List.length_cons] at ih ⊢
        omega
/-- the words of a text that is cut -/
theorem split_words {l sep : Str} {s : Nat} (hy : tl sep = [s]) (hs : s < 256) (hl : l.length ≤ 100000) : (Txt.split l sep).map tl = cutAt s (tl l) ∧ (∀ w ∈ Txt.split l sep, w.length ≤ 100000) ∧ (Txt.split l sep).length ≤ 100001 := by
  have e := split_tl (x := l) hy hs
  have ll := len_tl l
  refine ⟨e, fun w hw => ?_, ?_⟩
  · have : tl w ∈ cutAt s (tl l) := by rw [← e]; exact List.mem_map.mpr ⟨w, hw, rfl⟩
    have := part_len s _ _ this
    rw [len_tl]
    omega
  · have h1 := congrArg List.length e
    rw [List.length_map] at h1
    have := parts_len s (tl l)
    omega
theorem tl_inj {a b : Str} (h : tl a = tl b) : a = b := ext_tl h
def edgeOf (n : Nat) : List Cs → Option Ed
  | [a, b] => match numO a, numO b with
    | some u, some v => if u < v ∧ v < n then some (u, v) else none
    | _, _ => none
  | _ => none
theorem edgeIn_of (n : Nat) (l : Cs) : edgeIn n l = edgeOf n (cutAt 32 l) := by
  unfold edgeIn
  generalize cutAt 32 l = W
  match W with
  | [] => rfl
  | [_] => rfl
  | [_, _] => rfl
  | _ :: _ :: _ :: _ => rfl
theorem edgeOf_no {n : Nat} : ∀ {W : List Cs}, W.length ≠ 2 → edgeOf n W = none
  | [], _ => rfl
  | [_], _ => rfl
  | [_, _], h => (h rfl).elim
  | _ :: _ :: _ :: _, _ => rfl
def EdgeR (K : PySem.W.Frag) (H : Hp) (v : V) : Option Ed → Prop
  | none => v = .non
  | some e => ∃ a, v = .ref a ∧ SqT K H a [.int (e.1 : Nat), .int (e.2 : Nat)]
def spEi (K : PySem.W.Frag) : Sp := fun vs H Q _ => ∃ (l : Str) (n : Nat), vs = [.str l, .int n] ∧ l.length ≤ 100000 ∧ ∀ (H' : Hp) (v : V), Same H H' → EdgeR K H' v (edgeIn n (tl l)) → Q v H'
def spEb (K : PySem.W.Frag) : Sp := fun vs H Q _ => ∃ (a : Addr) (n u v : Nat), vs = [.ref a, .int n] ∧ SqT K H a [.int u, .int v] ∧ u < v ∧ v < n ∧ n ≤ 60 ∧ Q (.int ((behindF n u v : Nat) : Int)) H
theorem edgB_o (n : Nat) (a b : Cs) : edgB n (some (some (oI (numO a)), some (oI (numO b)))) = (edgeOf n [a, b]).isSome := by
  unfold edgB vtxB
  show _ = (match numO a, numO b with
    | some u, some v => if u < v ∧ v < n then some (u, v) else none
    | _, _ => none).isSome
  cases ha : numO a with
  | none => simp [oI]
  | some u =>
    cases hb : numO b with
    | none => simp [oI]
    | some v =>
      show ((decide (0 ≤ (u : Int)) && decide ((u : Int) < n)) && ((decide (0 ≤ (v : Int)) && decide ((v : Int) < n)) && decide ((u : Int) < v))) = (if u < v ∧ v < n then some (u, v) else none).isSome
      by_cases c : u < v ∧ v < n
      · rw [if_pos c]
        have h1 : decide (0 ≤ (u : Int)) = true := decide_eq_true (by omega)
        have h2 : decide ((u : Int) < n) = true := decide_eq_true (by omega)
        have h3 : decide (0 ≤ (v : Int)) = true := decide_eq_true (by omega)
        have h4 : decide ((v : Int) < n) = true := decide_eq_true (by omega)
        have h5 : decide ((u : Int) < v) = true := decide_eq_true (by omega)
        rw [h1, h2, h3, h4, h5]
        rfl
      · rw [if_neg c]
        by_cases d : v < n
        · have h5 : decide ((u : Int) < v) = false := decide_eq_false (by omega)
          rw [h5]
          simp
        · have h4 : decide ((v : Int) < n) = false := decide_eq_false (by omega)
          rw [h4]
          simp
section
variable {P : Program} {w : World} {K : PySem.W.Frag} {mg : Str → Option Value} {base : Heap}
theorem scEb : FnScope ["edge", "size", "u", "v", "later"] ["edge", "size"] (defScope sEb) := ⟨rfl, rfl, rfl, by decide +kernel, rfl, by decide +kernel, by decide +kernel⟩
theorem scEi : FnScope ["line", "size", "words", "edge"] ["line", "size"] (defScope sEi) := ⟨rfl, rfl, rfl, by decide +kernel, rfl, by decide +kernel, by decide +kernel⟩
theorem ok_eb {f : Addr} {fd : FuncData} (F : Fun K "edges_behind" "edges_behind" sEb f fd) : FnOk P w K mg base CX0 1 f fd ["edge", "size"] (spEb K) := by
  refine F.ok scEb (fun vs H Q E h => ?_) (fun cdv A outer s H vs Q E hr h => ?_)
  · obtain ⟨a, n, u, v, rfl, _⟩ := h
    rfl
  · obtain ⟨a, n, u, v, rfl, ha, uv, vn, n60, q⟩ := h
    refine ⟨_, pss_cons (ps_asg (pv 0) (pg_tup (by rfl) (pgs_cons (pg_name (i := 2) scEb.nd rfl (.inl rfl)) (pgs_cons (pg_name (i := 3) scEb.nd rfl (.inl rfl)) pgs_nil))))
      (pss_cons (ps_set (i := 4) scEb.nd rfl (.inl rfl) (pe_op op_sub (pe_op op_sub (pv 1) pe_int) (pv 2)))
      (pss_one (ps_ret (pe_op op_add (pe_op op_sub (pe_op op_sub (pv 1) pe_int) (pv 3)) (pe_op op_fdiv (pe_op op_mul (pv 4) (pe_op op_sub (pv 4) pe_int)) pe_int))))), ?_⟩
    have e : ((behindF n u v : Nat) : Int) = ((n : Int) - 1 - v) + ((n : Int) - 1 - u) * ((n : Int) - 1 - u - 1) / 2 := by
      unfold behindF
      obtain ⟨d, hd⟩ : ∃ d, n - 1 - u = d + 1 := ⟨n - 1 - u - 1, by omega⟩
      rw [hd, Nat.add_sub_cancel]
      have e1 : (n : Int) - 1 - u = (d : Int) + 1 := by omega
      rw [e1]
      have e2 : ((d : Int) + 1) * ((d : Int) + 1 - 1) = (((d + 1) * d : Nat) : Int) := by
        rw [Int.add_sub_cancel]
        rw [Int.natCast_mul]
        rfl
      rw [e2]
      omega
    rw [e] at q
    refine ⟨_, rfl, a, _, rfl, ha, rfl, _, _, rfl, _, _, rfl, rfl, ?_⟩
    refine ⟨_, rfl, _, _, rfl, rfl, _, rfl, _, _, rfl, rfl, ?_⟩
    refine ⟨_, rfl, _, _, rfl, rfl, _, rfl, _, _, rfl, rfl, _, rfl, _, rfl, _, _, rfl, rfl, _, _, rfl, rfl, .inl ⟨by omega, by omega⟩, _, _, rfl, rfl, ⟨by decide, by decide⟩, _, _, rfl, rfl, q⟩
theorem ok_ei {f fN fE : Addr} {fd fdN fdE : FuncData} (F : Fun K "edge_in" "edge_in" sEi f fd) (ml : mg "len" = none)
    (GN : FnOk P w K mg base CX0 1 fN fdN ["word"] spNo) (kN : PySem.W.keepIn K (.ref fN) = true) (bN : Binds K fdN ["word"] []) (gN : mg "number_of" = some (.ref fN))
    (GE : FnOk P w K mg base CX0 3 fE fdE ["value", "size"] (spEdg K)) (kE : PySem.W.keepIn K (.ref fE) = true) (bE : Binds K fdE ["value", "size"] []) (gE : mg "is_edge" = some (.ref fE)) :
    FnOk P w K mg base CX0 4 f fd ["line", "size"] (spEi K) := by
  refine F.ok scEi (fun vs H Q E h => ?_) (fun cdv A outer s H vs Q E hr h => ?_)
  · obtain ⟨l, n, rfl, _⟩ := h
    rfl
  · obtain ⟨l, n, rfl, hl, q⟩ := h
    have hr1 : Room 1 _ := hr.mono (by decide)
    refine ⟨_, (pss_cons (ps_set (i := 2) scEi.nd rfl (.inl rfl) (pe_split (pv 0) pe_str))
      (pss_cons (ps_if (pt_cmpR op_ne (pe_callB call_len_seq (by rfl) ml PySem.boot_len (pa_cons (pv 2) pa_nil)) pe_int (nomark _)) (pss_one (ps_ret pe_non)) pss_nil)
      (pss_cons (ps_set (i := 3) scEi.nd rfl (.inl rfl) (pe_tup (pa_cons (pe_call GN hr1 (by rfl) gN kN bN .nil pass0 (pa_cons (pe_ix ix_list (pv 2) pe_int (fun _ _ => rfl)) pa_nil)) (pa_cons (pe_call GN hr1 (by rfl) gN kN bN .nil pass0 (pa_cons (pe_ix ix_list (pv 2) pe_int (fun _ _ => rfl)) pa_nil)) pa_nil))))
      (pss_one (ps_ret (pe_ifExp (pt_val (pe_call GE hr (by rfl) gE kE bE .nil pass0 (pa_cons (pv 3) (pa_cons (pv 1) pa_nil)))) (pv 3) pe_non)))))), ?_⟩
    obtain ⟨ew, lw, lk⟩ := split_words (l := l) (sep := " ") (s := 32) rfl (by decide) hl
    have ls := len_tl l
    refine ⟨_, rfl, ⟨_, rfl⟩, l, _, rfl, rfl, rfl, by rw [sizeLine_eq]; omega, fun p np => ?_⟩
    generalize Txt.split l (" " : Str) = W at ew lw lk ⊢
    have u1 := same_upd (o := .lst (W.map V.str)) np
    have hp : (upd H p (.lst (W.map V.str))) p = some (.lst (W.map V.str)) := upd_same
    generalize (upd H p (.lst (W.map V.str))) = H1 at u1 hp ⊢
    refine ⟨_, rfl, p, _, rfl, .inl (SqL.of hp), rfl, _, rfl, ?_⟩
    rw [List.length_map]
    rw [edgeIn_of, ← ew] at q
    by_cases c : W.length = 2
    rotate_left
    · refine iteND (fun z => c (Int.ofNat.inj (V.int.inj z))) ?_
      refine q H1 .non u1 ?_
      rw [edgeOf_no (by rw [List.length_map]; exact c)]
      rfl
    refine L2.iteNS (by rw [c]; rfl) ?_
    obtain ⟨a, b, rfl⟩ : ∃ a b, W = [a, b] := by
      match W, c with
      | [a, b], _ => exact ⟨a, b, rfl⟩
    refine ⟨_, rfl, p, _, 0, .str a, rfl, rfl, SqL.of hp, at_nat rfl, a, rfl, lw a (by simp), _, rfl, p, _, 1, .str b, rfl, rfl, SqL.of hp, at_nat rfl, b, rfl, lw b (by simp), few_sz' (by simp), fun e ne => ?_⟩
    have u2 := same_upd (o := .tup [V.int (oI (numO (tl a))), V.int (oI (numO (tl b)))]) ne
    have he : SqT K (upd H1 e (.tup [V.int (oI (numO (tl a))), V.int (oI (numO (tl b)))])) e [V.int (oI (numO (tl a))), V.int (oI (numO (tl b)))] := SqT.of upd_same
    generalize (upd H1 e (.tup [V.int (oI (numO (tl a))), V.int (oI (numO (tl b)))])) = H2 at u2 he ⊢
    refine ⟨_, rfl, _, rfl, _, _, n, rfl, .pair he (.int _) (.int _), _, rfl, ?_⟩
    rw [edgB_o]
    have ew2 : List.map tl [a, b] = [tl a, tl b] := rfl
    rw [ew2] at q
    cases hE : edgeOf n [tl a, tl b] with
    | none =>
      rw [hE] at q
      exact iteF (q H2 .non (u1.trans u2) rfl)
    | some x =>
      rw [hE] at q
      refine iteT ⟨_, rfl, q H2 (.ref e) (u1.trans u2) ⟨e, rfl, ?_⟩⟩
      have hE2 : (match numO (tl a), numO (tl b) with
        | some u, some v => if u < v ∧ v < n then some (u, v) else none
        | _, _ => none) = some x := hE
      cases ha : numO (tl a) with
      | none => rw [ha] at hE2; cases hE2
      | some u =>
        cases hb : numO (tl b) with
        | none => rw [ha, hb] at hE2; cases hE2
        | some v =>
          rw [ha, hb] at hE2 he
          have hE2 : (if u < v ∧ v < n then some (u, v) else none) = some x := hE2
          split at hE2
          · cases hE2
            exact he
          · cases hE2
end
end Sm

set_option Elab.async false
set_option linter.all false
set_option maxRecDepth 100000
set_option maxHeartbeats 8000000
namespace Sm
open PySem PySem.Spec PyProof.Rows L2 TL Tx
abbrev sBtI : Stmt := inClass (topS 4) 0
structure TxB (K : PySem.W.Frag) (mg : Str → Option Value) (CT fI : Addr) : Prop where
  g : mg "BadText" = some (.ref CT)
  ox : OexC K CT
  iC : PySem.W.findIn K (.ref CT) "__init__" = some (some (.ref fI))
  tI : PySem.W.typeIn K (.ref fI) = some (.type "function")
  noX : PySem.W.findIn K (.ref CT) "line" = some none
def spBt (K : PySem.W.Frag) (CT : Addr) : Sp := fun vs H Q _ => ∃ a x, vs = [.ref a, x] ∧ H a = some (exo a CT none) ∧ ∀ dx, H dx = none → dx ≠ a → Q .non (upd (upd H dx (exd dx [("line", x)])) a (exo a CT (some dx)))
theorem raise_bt {K : PySem.W.Frag} {CT : Addr} {σ : L2.St} {H : Hp} {te : TE} {i : Int} {Q : XK} (hte : ∀ R : VK, R (.int i) H → te σ H R) (q : ∀ H' d, Same H H' → H' d = some (.xd [("line", .int i)]) → Q (.ref CT) (some d) H') : tMkO CT (spBt K CT) [] (tCons te tNil) σ H Q := by
  refine hte _ ⟨(by show 1 ≤ 1000; decide), fun a na => ⟨a, .int i, rfl, upd_same, fun dx ndx nea => ⟨rfl, dx, [("line", .int i)], upd_same, by rw [upd_ne nea]; exact upd_same, by rw [upd_ne nea] at ndx; exact ndx, q _ dx (fun b o h => ?_) upd_same⟩⟩⟩
  rw [upd_ne nea] at ndx
  have h1 : b ≠ dx := ne_of_none h ndx
  have h2 : b ≠ a := ne_of_none h na
  rw [upd_ne h1, del_ne h2, upd_ne h2, upd_ne h1, upd_ne h2]
  exact h
section
variable {P : Program} {w : World} {K : PySem.W.Frag} {mg : Str → Option Value} {base : Heap}
theorem scBtI : FnScope ["self", "line"] ["self", "line"] (defScope sBtI) := ⟨rfl, rfl, rfl, by decide +kernel, rfl, by decide +kernel, by decide +kernel⟩
theorem ok_bti {f CT : Addr} {fd : FuncData} (F : Fun K "__init__" "BadText.__init__" sBtI f fd) (B : TxB K mg CT f) : FnOk P w K mg base CX0 1 f fd ["self", "line"] (spBt K CT) := by
  refine F.ok scBtI (fun vs H Q E h => ?_) (fun cdv A outer s H vs Q E hr h => ?_)
  · obtain ⟨a, x, rfl, _⟩ := h
    rfl
  · obtain ⟨a, x, rfl, ha, q⟩ := h
    refine ⟨_, pss_one (ps_ost (pv 0) (pv 1)), ?_⟩
    exact ⟨_, rfl, _, rfl, a, CT, rfl, B.ox, B.noX, .inl ⟨ha, q⟩⟩
end
end Sm

set_option Elab.async false
set_option linter.all false
set_option maxRecDepth 100000
set_option maxHeartbeats 8000000
namespace Sm
open PySem PySem.Spec PyProof.Rows L2 TL Tx
abbrev sFl : Stmt := topS 16
def firstW : List Cs → Option (Nat × Nat)
  | [a, b, c] => if a = graphC then (match numO b, numO c with
      | some n, some m => if n ≤ 60 ∧ m ≤ n * (n - 1) / 2 then some (n, m) else none
      | _, _ => none) else none
  | _ => none
def wordsOf : List Cs → List Cs
  | [] => []
  | l :: _ => cutAt 32 l
theorem firstL_of (Lp : List Cs) : firstL Lp = firstW (wordsOf Lp) := by
  cases Lp with
  | nil => rfl
  | cons l r =>
    show (match cutAt 32 l with
    | [a, b, c] => if a = graphC then (match numO b, numO c with
      | some n, some m => if n ≤ 60 ∧ m ≤ n * (n - 1) / 2 then some (n, m) else none
      | _, _ => none) else none
    | _ => none) = firstW (cutAt 32 l)
    generalize cutAt 32 l = W
    match W with
    | [] => rfl
    | [_] => rfl
    | [_, _] => rfl
    | [_, _, _] => rfl
    | _ :: _ :: _ :: _ :: _ => rfl
theorem firstW_no : ∀ {W : List Cs}, W.length ≠ 3 → firstW W = none
  | [], _ => rfl
  | [_], _ => rfl
  | [_, _], _ => rfl
  | [_, _, _], h => (h rfl).elim
  | _ :: _ :: _ :: _ :: _, _ => rfl
/-- the test of the numbers -/
def numsOk (i j : Int) : Bool := (decide (0 ≤ i) && decide (i ≤ 60)) && (decide (0 ≤ j) && decide (j ≤ i * (i - 1) / 2))
theorem firstW_nums (b c : Cs) : (firstW [graphC, b, c] = none ↔ numsOk (oI (numO b)) (oI (numO c)) = false) ∧ ∀ n m, firstW [graphC, b, c] = some (n, m) → oI (numO b) = n ∧ oI (numO c) = m := by
  have e0 : firstW [graphC, b, c] = (match numO b, numO c with
      | some n, some m => if n ≤ 60 ∧ m ≤ n * (n - 1) / 2 then some (n, m) else none
      | _, _ => none) := by
    show (if graphC = graphC then _ else none) = _
    exact if_pos rfl
  rw [e0]
  unfold numsOk
  cases hb : numO b with
  | none =>
    refine ⟨⟨fun _ => ?_, fun _ => rfl⟩, (fun n m h => by cases h)⟩
    have : decide ((0 : Int) ≤ oI none) = false := by decide
    rw [this]
    rfl
  | some n =>
    cases hc : numO c with
    | none =>
      refine ⟨⟨fun _ => ?_, fun _ => rfl⟩, (fun n m h => by cases h)⟩
      have : decide ((0 : Int) ≤ oI none) = false := by decide
      rw [this]
      simp
    | some m =>
      show ((if n ≤ 60 ∧ m ≤ n * (n - 1) / 2 then some (n, m) else none) = none ↔ ((decide ((0 : Int) ≤ (n : Int)) && decide ((n : Int) ≤ 60)) && (decide ((0 : Int) ≤ (m : Int)) && decide ((m : Int) ≤ (n : Int) * ((n : Int) - 1) / 2))) = false) ∧ ∀ n' m', (if n ≤ 60 ∧ m ≤ n * (n - 1) / 2 then some (n, m) else none) = some (n', m') → (n : Int) = n' ∧ (m : Int) = m'
      have e1 : (n : Int) * ((n : Int) - 1) / 2 = ((n * (n - 1) / 2 : Nat) : Int) := by
        cases n with
        | zero => rfl
        | succ k =>
          have : (((k + 1 : Nat) : Int)) * (((k + 1 : Nat) : Int) - 1) = (((k + 1) * k : Nat) : Int) := by
            rw [Int.natCast_mul]
            congr 1
            omega
          rw [this, Nat.add_sub_cancel]
          omega
      rw [e1]
      have d1 : decide ((0 : Int) ≤ (n : Int)) = true := decide_eq_true (by omega)
      have d2 : decide ((0 : Int) ≤ (m : Int)) = true := decide_eq_true (by omega)
      rw [d1, d2]
      by_cases c1 : n ≤ 60
      · have d3 : decide ((n : Int) ≤ 60) = true := decide_eq_true (by omega)
        rw [d3]
        by_cases c2 : m ≤ n * (n - 1) / 2
        · have d4 : decide ((m : Int) ≤ ((n * (n - 1) / 2 : Nat) : Int)) = true := decide_eq_true (by omega)
          rw [d4, if_pos ⟨c1, c2⟩]
          refine ⟨⟨(fun h => by cases h), (fun h => by cases h)⟩, fun n' m' h => ?_⟩
          obtain ⟨rfl, rfl⟩ := Prod.mk.inj (Option.some.inj h)
          exact ⟨rfl, rfl⟩
        · have d4 : decide ((m : Int) ≤ ((n * (n - 1) / 2 : Nat) : Int)) = false := decide_eq_false (by omega)
          rw [d4, if_neg (fun z => c2 z.2)]
          exact ⟨⟨fun _ => rfl, fun _ => rfl⟩, (fun n' m' h => by cases h)⟩
      · have d3 : decide ((n : Int) ≤ 60) = false := decide_eq_false (by omega)
        rw [d3, if_neg (fun z => c1 z.1)]
        exact ⟨⟨fun _ => rfl, fun _ => rfl⟩, (fun n' m' h => by cases h)⟩
def LE : R2 := rI0 fun i j => V.bl (decide (i ≤ j))
theorem ans_chain {ta tb tc : TE} {σ : L2.St} {H : Hp} {i j k : Int} (ha : ∀ Q : VK, Q (.int i) H → ta σ H Q) (hb : ∀ Q : VK, Q (.int j) H → tb σ H Q) (hc : ∀ Q : VK, Q (.int k) H → tc σ H Q) :
    L2.Ans (tTest (tChain LE LE ta tb tc)) σ H (decide (i ≤ j) && decide (j ≤ k)) := by
  intro Q q
  refine ha _ (hb _ ⟨i, j, rfl, rfl, decide (i ≤ j), rfl, ?_⟩)
  cases h : decide (i ≤ j) with
  | false =>
    rw [h] at q
    exact iteF ⟨_, rfl, q⟩
  | true =>
    rw [h] at q
    refine iteT (hc _ ⟨j, k, rfl, rfl, _, rfl, ?_⟩)
    exact q
theorem ans_nums {σ : L2.St} {H : Hp} {i j : Int} (h2 : σ[2]? = some (some (.int i))) (h3 : σ[3]? = some (some (.int j))) (b1 : -1 ≤ i) (b2 : i < 10000) :
    L2.Ans (tOr (tNot (tTest (tChain LE LE (tC (V.int 0)) (tVar 2) (tC (V.int 60))))) (tNot (tTest (tChain LE LE (tC (V.int 0)) (tVar 3)
      (tOp (rI CDiv fun i j => V.int (i / j)) (tOp (rI CMul fun i j => V.int (i * j)) (tVar 2) (tOp (rI0 fun i j => V.int (i - j)) (tVar 2) (tC (V.int 1)))) (tC (V.int 2))))))) σ H (!numsOk i j) := by
  have A1 : L2.Ans (tTest (tChain LE LE (tC (V.int 0)) (tVar 2) (tC (V.int 60)))) σ H (decide (0 ≤ i) && decide (i ≤ 60)) :=
    ans_chain (fun Q q => q) (fun Q q => ⟨_, h2, q⟩) (fun Q q => q)
  have A2 : L2.Ans (tTest (tChain LE LE (tC (V.int 0)) (tVar 3)
      (tOp (rI CDiv fun i j => V.int (i / j)) (tOp (rI CMul fun i j => V.int (i * j)) (tVar 2) (tOp (rI0 fun i j => V.int (i - j)) (tVar 2) (tC (V.int 1)))) (tC (V.int 2))))) σ H (decide (0 ≤ j) && decide (j ≤ i * (i - 1) / 2)) :=
    ans_chain (fun Q q => q) (fun Q q => ⟨_, h3, q⟩) (fun Q q => ⟨_, h2, _, h2, _, _, rfl, rfl, _, _, rfl, rfl, .inl ⟨by omega, by omega⟩, _, _, rfl, rfl, ⟨by decide, by decide⟩, q⟩)
  unfold numsOk
  rw [Bool.not_and]
  cases h : (decide (0 ≤ i) && decide (i ≤ 60)) with
  | false =>
    rw [h] at A1
    exact L2.ans_or1 (L2.ans_not A1)
  | true =>
    rw [h] at A1
    exact L2.ans_or (L2.ans_not A1) (L2.ans_not A2)
theorem oI_bound (c : Cs) : -1 ≤ oI (numO c) ∧ oI (numO c) < 10000 := by
  cases h : numO c with
  | none => exact ⟨by decide, by decide⟩
  | some n =>
    have := (numO_some h).2
    refine ⟨?_, ?_⟩
    · show (-1 : Int) ≤ (n : Int)
      omega
    · show (n : Int) < 10000
      omega
def spFl (K : PySem.W.Frag) (CT : Addr) : Sp := fun vs H Q E => ∃ (a : Addr) (Lp : List Str), vs = [.ref a] ∧ SqL K H a (Lp.map V.str) ∧ (∀ l ∈ Lp, l.length ≤ 100000) ∧
  (firstL (Lp.map tl) = none → ∀ H' d, Same H H' → H' d = some (.xd [("line", .int 1)]) → E (.ref CT) (some d) H') ∧
  (∀ n m, firstL (Lp.map tl) = some (n, m) → ∀ H' r, Same H H' → SqT K H' r [.int (n : Nat), .int (m : Nat)] → Q (.ref r) H')
section
variable {P : Program} {w : World} {K : PySem.W.Frag} {mg : Str → Option Value} {base : Heap}
theorem scFl : FnScope ["lines", "words", "size", "many"] ["lines"] (defScope sFl) := ⟨rfl, rfl, rfl, by decide +kernel, rfl, by decide +kernel, by decide +kernel⟩
theorem ok_fl {f CT fI fN : Addr} {fd fdI fdN : FuncData} (F : Fun K "first_line" "first_line" sFl f fd) (B : TxB K mg CT fI) (ml : mg "len" = none)
    (GI : FnOk P w K mg base CX0 1 fI fdI ["self", "line"] (spBt K CT)) (bI : Binds K fdI ["self", "line"] [])
    (GN : FnOk P w K mg base CX0 1 fN fdN ["word"] spNo) (kN : PySem.W.keepIn K (.ref fN) = true) (bN : Binds K fdN ["word"] []) (gN : mg "number_of" = some (.ref fN))
    {tm : Tok} (gM : mg "MOST_VERTICES" = some (.int 60 tm)) :
    FnOk P w K mg base (L2N.CX P w) 3 f fd ["lines"] (spFl K CT) := by
  refine okXN F scFl (fun vs H Q E h => ?_) (fun cdv A outer s H vs Q E hr h => ?_)
  · obtain ⟨a, Lp, rfl, _⟩ := h
    rfl
  · obtain ⟨a, Lp, rfl, ha, hlen, qE, qQ⟩ := h
    have hr1 : Room 1 _ := hr.mono (by decide)
    rw [firstL_of] at qE qQ
    refine ⟨_, (C8.pss_cut (ps_set (i := 1) scFl.nd rfl (.inl rfl) (pe_ifExp (pt_truth (pv 0) (by intro _; rfl)) (pe_split (pe_ix ix_list (pv 0) pe_int (fun _ _ => rfl)) pe_str) (pe_lst pa_nil)))
      (C8.pss_cut (ps_if (PW.pt (pw_or (pt_cmpR op_ne (pe_callB call_len_seq (by rfl) ml PySem.boot_len (pa_cons (pv 1) pa_nil)) pe_int (nomark _)) (pw_or1 (pt_cmpR op_ne (pe_ix ix_list (pv 1) pe_int (fun _ _ => rfl)) pe_str (nomark _))))) (pss_one (L2N.ps_raise rfl (L2N.takes_of rfl rfl rfl rfl) (pmk_oexN B.ox B.iC B.tI GI hr bI .nil pass0 (by rfl) B.g (pa_cons pe_int pa_nil)))) pss_nil)
      (pss_cons (ps_set (i := 2) scFl.nd rfl (.inl rfl) (pe_call GN hr1 (by rfl) gN kN bN .nil pass0 (pa_cons (pe_ix ix_list (pv 1) pe_int (fun _ _ => rfl)) pa_nil)))
      (pss_cons (ps_set (i := 3) scFl.nd rfl (.inl rfl) (pe_call GN hr1 (by rfl) gN kN bN .nil pass0 (pa_cons (pe_ix ix_list (pv 1) pe_int (fun _ _ => rfl)) pa_nil)))
      (pss_cons (ps_if (PW.pt (pw_or (pt_not (pt_chain op_le op_le pe_int (pv 2) (pe_glob (v := .int 60) rfl gM ⟨_, rfl⟩))) (pw_or1 (pt_not (pt_chain op_le op_le pe_int (pv 3) (pe_op op_fdiv (pe_op op_mul (pv 2) (pe_op op_sub (pv 2) pe_int)) pe_int)))))) (pss_one (L2N.ps_raise rfl (L2N.takes_of rfl rfl rfl rfl) (pmk_oexN B.ox B.iC B.tI GI hr bI .nil pass0 (by rfl) B.g (pa_cons pe_int pa_nil)))) pss_nil)
      (pss_one (ps_ret (pe_tup (pa_cons (pv 2) (pa_cons (pv 3) pa_nil)))))))))), ?_⟩
    refine ⟨fun σ H1 => ∃ (p : Addr) (W : List Str), σ = [some (V.ref a), some (V.ref p), none, none] ∧ Same H H1 ∧ H1 p = some (.lst (W.map V.str)) ∧ W.map tl = wordsOf (Lp.map tl) ∧ ∀ w ∈ W, w.length ≤ 100000, ?_, ?_⟩
    · refine ⟨_, rfl, _, .inl ⟨_, ha, rfl⟩, ?_⟩
      cases Lp with
      | nil =>
        refine iteF ⟨Nat.zero_le _, fun p np => ?_⟩
        exact ⟨p, [], rfl, same_upd np, upd_same, rfl, fun w hw => by cases hw⟩
      | cons l Lp =>
        refine iteT ?_
        have hl := hlen l List.mem_cons_self
        obtain ⟨ew, lw, lk⟩ := split_words (l := l) (sep := " ") (s := 32) rfl (by decide) hl
        refine ⟨_, rfl, a, _, 0, .str l, rfl, rfl, ha, at_nat rfl, ⟨_, rfl⟩, l, _, rfl, rfl, rfl, by rw [sizeLine_eq]; omega, fun p np => ?_⟩
        exact ⟨p, _, rfl, same_upd np, upd_same, ew, lw⟩
    rintro σ H1 ⟨p, W, rfl, s1, hp, eW, lW⟩
    rw [← eW] at qE qQ
    refine ⟨fun σ H2 => ∃ b c : Str, W.map tl = [graphC, tl b, tl c] ∧ W = [W.getD 0 b, b, c] ∧ H1 = H2 ∧ σ = [some (V.ref a), some (V.ref p), none, none], ?_, ?_⟩
    · refine ⟨_, rfl, p, _, rfl, .inl (SqL.of hp), rfl, _, rfl, ?_⟩
      rw [List.length_map]
      by_cases c : W.length = 3
      rotate_left
      · refine iteND (fun z => c (Int.ofNat.inj (V.int.inj z))) ?_
        refine iteT ?_
        exact raise_bt (fun R r => r) fun H' d s2 hd => qE (firstW_no (by rw [List.length_map]; exact c)) H' d (s1.trans s2) hd
      refine L2.iteNS (by rw [c]; rfl) ?_
      obtain ⟨g, b, c', rfl⟩ : ∃ g b c, W = [g, b, c] := by
        match W, c with
        | [g, b, c], _ => exact ⟨g, b, c, rfl⟩
      refine ⟨_, rfl, p, _, 0, .str g, rfl, rfl, SqL.of hp, at_nat rfl, rfl, _, rfl, ?_⟩
      have eg : tl ("graph" : Str) = graphC := rfl
      by_cases cg : tl g = graphC
      · have : g = ("graph" : Str) := tl_inj (cg.trans eg.symm)
        refine L2.iteNS (by rw [this]) ?_
        exact ⟨b, c', by show [tl g, tl b, tl c'] = _; rw [cg], rfl, rfl, rfl⟩
      · refine iteND (fun z => cg (by rw [V.str.inj z]; exact eg)) ?_
        refine raise_bt (fun R r => r) fun H' d s2 hd => qE ?_ H' d (s1.trans s2) hd
        show (if tl g = graphC then _ else none) = none
        rw [if_neg cg]
    rintro σ H2 ⟨b, c, eW2, eW3, rfl, rfl⟩
    rw [eW2] at qE qQ
    obtain ⟨f1, f2⟩ := firstW_nums (tl b) (tl c)
    have g1 : (W.map V.str)[1]? = some (V.str b) := by rw [eW3]; rfl
    have g2 : (W.map V.str)[2]? = some (V.str c) := by rw [eW3]; rfl
    have mb : b ∈ W := by rw [eW3]; simp
    have mc : c ∈ W := by rw [eW3]; simp
    refine ⟨_, rfl, p, _, 1, .str b, rfl, rfl, SqL.of hp, at_nat g1, b, rfl, lW b mb, ?_⟩
    refine ⟨_, rfl, p, _, 2, .str c, rfl, rfl, SqL.of hp, at_nat g2, c, rfl, lW c mc, ?_⟩
    refine ans_nums rfl rfl (oI_bound _).1 (oI_bound _).2 _ ?_
    cases hF : firstW [graphC, tl b, tl c] with
    | none =>
      rw [f1.1 hF]
      refine iteT ?_
      exact raise_bt (fun R r => r) fun H' d s2 hd => qE hF H' d (s1.trans s2) hd
    | some nm =>
      obtain ⟨n, m⟩ := nm
      have k : numsOk (oI (numO (tl b))) (oI (numO (tl c))) = true := by
        cases k : numsOk (oI (numO (tl b))) (oI (numO (tl c))) with
        | true => rfl
        | false => rw [f1.2 k] at hF; cases hF
      obtain ⟨e1, e2⟩ := f2 n m hF
      rw [k]
      refine iteF ?_
      refine ⟨_, rfl, _, rfl, (by show 2 ≤ sizeLine; decide), fun r nr => ?_⟩
      refine qQ n m hF _ _ (s1.trans (same_upd nr)) ?_
      rw [e1, e2]
      exact SqT.of upd_same
end
end Sm

set_option Elab.async false
set_option linter.all false
set_option maxRecDepth 100000
/-! (*a, b) = a list: the names ahead of the star are none -/
namespace Us
open PySem PySem.Spec PySem.Calls PyProof.Rows L2
section
variable {prog : Program} {w : World} {A : Around} {E : Value → Shared → Prop} {s : Shared}
theorem star_list {l : Addr} {items : Array Value} {n : Nat} {Q : List Value → Shared → Prop} (hl : s.heap.IsList l items) (hh : A.handled = none) (hi : 0 < n) (hn : n ≤ items.size + 1) (hz : items.size ≤ sizeLine)
    (h : ∀ h' tk, Heap.ExtBut s.heap.objs.size s.heap h' → Q (.ref h'.objs.size :: items.toList.drop (items.size + 1 - n)) { s with heap := h'.push { cls := .type "list", data := .seq (items.toList.take (items.size + 1 - n)).toArray }, toks := tk }) :
    wpAny (model prog w) A (unpackItems (.ref l) n (some 0)) Q E s := by
  have hlt : l ≠ s.heap.objs.size := by obtain ⟨o, ho, _⟩ := hl; exact Nat.ne_of_lt (Heap.lt_size ho)
  have hll : l < s.heap.objs.size := by obtain ⟨o, ho, _⟩ := hl; exact Heap.lt_size ho
  unfold unpackItems
  refine wpAny_bind ?_
  unfold notIterableAtAll
  refine wpAny_bind (wpAny_specialOf hl.typeIs slot_list_iter.lookup ?_)
  refine wpAny_pure ?_
  simp only [Bool.false_eq_true, if_false]
  refine wpAny_bind (wpAny_holding (wpAny_pyIter_list hl ?_))
  refine wpAny_bind (wpAny_holding (PySem.W.kun_draw hlt 0 0 _ _ ⟨_, Heap.get?_push_size _ rfl, rfl, rfl⟩ (hl.push _) (by omega) fun h₁ hit₁ hs₁ => ?_))
  have hl₁ : h₁.IsList l items := (hl.push _).extBut hs₁.extBut hlt
  have hit₁' := hit₁
  obtain ⟨oi, hoi, _⟩ := hit₁'
  have hl₁' := hl₁
  obtain ⟨ol, hol, _⟩ := hl₁'
  refine wpAny_bind (wpAny_holding (PySem.W.kun_collect (s := { s with heap := h₁ }) (T := "list_iterator") (.inr (.inr (.inl rfl))) (Walks.list (A := A.in1) hh s.heap.objs.size l hlt items) (fun j u st => st.1.typeIs) (k := 0) (by omega) ⟨hit₁, hl₁⟩ (Heap.lt_size hoi) (Heap.lt_size hol) (fun h₂ tk hk => ?_) hz))
  rw [List.drop_zero]
  have hrl : items.toList.length = items.size := by rw [Array.length_toList]
  have hmid : items.toList.length - (n - 1 - 0) = items.size + 1 - n := by rw [hrl]; omega
  show wpAny _ _ (if items.toList.length < n - 1 - 0 then _ else _) _ _ _
  rw [if_neg (by rw [hrl]; omega)]
  show wpAny _ _ (newList (items.toList.take (items.toList.length - (n - 1 - 0))) >>= fun d => pure ([] ++ [d] ++ items.toList.drop (items.toList.length - (n - 1 - 0)))) _ _ _
  rw [hmid]
  have he : Heap.ExtBut s.heap.objs.size s.heap h₂ := fun b o hb e => hk b o hb (hs₁.extBut b o hb (Heap.get?_push_of_some _ e))
  exact wpAny_bind (wpAny_newList (wpAny_pure (h h₂ tk he)) (by rw [List.length_take, hrl]; omega))
end
/-- (*a, b, ..) = a list -/
def gStar (K : PySem.W.Frag) (n : Nat) (t : TGs) : TG := fun v σ H Q => ∃ a xs, v = .ref a ∧ SqL K H a xs ∧ n ≤ xs.length + 1 ∧ ∀ p, H p = none → t (.ref p :: xs.drop (xs.length + 1 - n)) σ (upd H p (.lst (xs.take (xs.length + 1 - n)))) Q
section
variable {X : Cx} {pos : Pos}
theorem vals_take {xs : List V} {us : List Value} (r : Vals xs us) : ∀ k, Vals (xs.take k) (us.take k) := by
  induction r with
  | nil => intro k; rw [List.take_nil, List.take_nil]; exact .nil
  | cons a b ih =>
    intro k
    cases k with
    | zero => exact .nil
    | succ k => exact .cons a (ih k)
theorem vals_drop {xs : List V} {us : List Value} (r : Vals xs us) : ∀ k, Vals (xs.drop k) (us.drop k) := by
  induction r with
  | nil => intro k; rw [List.drop_nil, List.drop_nil]; exact .nil
  | cons a b ih =>
    intro k
    cases k with
    | zero => exact .cons a b
    | succ k => exact ih k
theorem pg_star {es : List Expr} {k : Nat} {t : TGs} {n : Nat} (hc : X.calm = true) (hn0 : 0 < n) (h : PGs X es t)
    (hn : (assignEach es X.env).length = n := by rfl) (hst : (assignEach es X.env).findIdx? (·.1) = some 0 := by rfl) : PG X (.Tuple es k pos) (gStar X.K n t) := by
  refine ⟨fun pins s σ H v u Q I r hw => ?_⟩
  obtain ⟨a, xs, e1, hq, hl, hw⟩ := hw
  subst e1
  cases r
  obtain ⟨its, rv, pl, hz⟩ := I.list hq
  have hl' : s.heap.IsList a its.toArray := by
    obtain ⟨o, m, e, c, d, q⟩ := pl
    exact ⟨o, e, c, m, q⟩
  have lx : xs.length = its.toArray.size := rv.length.trans (by simp)
  rw [PyProof.Rows.assign_Tuple]
  refine wpAny_bind (wpAny_standAt ?_)
  unfold unpack
  rw [hn, hst]
  refine wpAny_bind (wpAny_holding (star_list hl' (I.ok.hd hc) hn0 (by rw [← lx]; exact hl) (by rw [← lx]; exact hz) fun h' tk hx => ?_))
  have I1 : Inv X pins σ H { s with heap := h', toks := tk } := I.kept (t' := tk) fun b o e => hx b o (Nat.ne_of_lt (Heap.lt_size e)) e
  have hf : H h'.objs.size = none := I1.hok.fresh (Nat.le_refl _)
  rw [← lx]
  have rt : Vals (xs.take (xs.length + 1 - n)) (its.take (xs.length + 1 - n)) := vals_take rv _
  have rd : Vals (xs.drop (xs.length + 1 - n)) (its.drop (xs.length + 1 - n)) := vals_drop rv _
  have I2 : Inv X pins σ (upd H h'.objs.size (.lst (xs.take (xs.length + 1 - n)))) { s with heap := h'.push { cls := .type "list", data := .seq (its.take (xs.length + 1 - n)).toArray }, toks := tk } :=
    I1.laid (t' := tk) (fun b u e => Heap.get?_push_of_some _ e) (Nat.le_refl _) ⟨by rw [List.length_take]; omega, _, 0, rt, Heap.get?_push_size _ rfl⟩
  exact h.run pins _ σ _ _ _ Q I2 (.cons (show RelV (.ref h'.objs.size) (.ref h'.objs.size) from rfl) (by simpa using rd)) (hw _ hf)
theorem pgs_star {e : Expr} {es : List Expr} {t : TG} {u : TGs} {ps : Pos} (h1 : PG X e t) (h2 : PGs X es u)
    (hs : (assignEach (.Starred e ps :: es) X.env).map (·.2) = assign e X.env :: (assignEach es X.env).map (·.2) := by rfl) : PGs X (.Starred e ps :: es) (gCons t u) := by
  refine ⟨fun pins s σ H vs us Q I r h => ?_⟩
  obtain ⟨v, vr, e1, h⟩ := h
  subst e1
  cases r with
  | cons r rr =>
    rw [hs]
    refine assignInOrder_cons (thn (h1.run pins s σ H _ _ _ I r h) fun _ s1 ⟨σ1, H1, I1, q1⟩ => ?_)
    exact h2.run pins s1 σ1 H1 _ _ Q I1 rr q1
end
end Us

set_option Elab.async false
set_option linter.all false
set_option maxRecDepth 100000
set_option maxHeartbeats 8000000
namespace Sm
open PySem PySem.Spec PyProof.Rows L2 TL Tx
abbrev sGo : Stmt := topS 15
abbrev scGoN : List Str := ["text", "lines", "behind", "size", "many", "edges", "line", "edge"]
theorem passNo {X : Cx} : Passes (L2.CX X.prog X.w) X (fun _ _ _ => False) := fun _ _ _ _ _ _ _ c => by
  obtain ⟨_, _, _, _, _, _, _, _, _, _, _, _, h⟩ := c
  exact h.elim
def prE (e : Ed) : Pr := ((e.1 : Int), (e.2 : Int))
def spGo (K : PySem.W.Frag) (C CT : Addr) : Sp := fun vs H Q E => ∃ T : Str, vs = [.str T] ∧ T.length ≤ 100000 ∧ (cutAt 10 (tl T)).length ≤ 70 ∧
  (∀ k : Nat, progF (cutAt 10 (tl T)) = .inl k → ∀ H' d, Same H H' → H' d = some (.xd [("line", .int k)]) → E (.ref CT) (some d) H') ∧
  (∀ n es, progF (cutAt 10 (tl T)) = .inr (n, es) → ∀ H' p, Same H H' → GraphAt K C H' p n (es.map prE) → Q (.ref p) H')
theorem firstL_lim {L : List Cs} {n m : Nat} (h : firstL L = some (n, m)) : n ≤ 60 := by
  rw [firstL_of] at h
  generalize wordsOf L = W at h
  by_cases c : W.length = 3
  · obtain ⟨a, b, c', rfl⟩ : ∃ a b c, W = [a, b, c] := by
      match W, c with
      | [a, b, c], _ => exact ⟨a, b, c, rfl⟩
    by_cases ca : a = graphC
    · subst ca
      obtain ⟨f1, f2⟩ := firstW_nums b c'
      obtain ⟨e1, e2⟩ := f2 n m h
      have k : numsOk (oI (numO b)) (oI (numO c')) = true := by
        cases k : numsOk (oI (numO b)) (oI (numO c')) with
        | true => rfl
        | false => rw [f1.2 k] at h; cases h
      rw [e1, e2] at k
      unfold numsOk at k
      have k1 := (Bool.and_eq_true_iff.mp (Bool.and_eq_true_iff.mp k).1).2
      have k2 := of_decide_eq_true k1
      omega
    · have : firstW [a, b, c'] = none := if_neg ca
      rw [this] at h
      cases h
  · rw [firstW_no c] at h
    cases h
theorem cut_one {α : Type} (g : α → V) (xs : List α) (m : Nat) : cutV (xs.map g) (some 1) (some ((m : Int) + 1)) = ((xs.drop 1).take m).map g := by
  unfold cutV
  have e1 : HT.sIx (xs.map g).length 0 (some 1) = min 1 xs.length := by rw [show (some (1 : Int)) = some ((1 : Nat) : Int) from rfl, HT.sIx_nat, List.length_map]
  have e2 : HT.sIx (xs.map g).length (xs.map g).length (some ((m : Int) + 1)) = min (m + 1) xs.length := by rw [show ((m : Int) + 1) = ((m + 1 : Nat) : Int) from rfl, HT.sIx_nat, List.length_map]
  rw [e1, e2]
  cases xs with
  | nil => simp
  | cons x xs =>
    have : min 1 (x :: xs).length = 1 := by rw [List.length_cons]; omega
    rw [this, List.map_take, List.map_drop]
    refine List.take_eq_take_iff.mpr ?_
    rw [List.length_drop, List.length_map, List.length_cons]
    omega
theorem lex_pair (a b c d : Int) : Ob.lexAt (fun j => decide ([a, b].getD j 0 = [c, d].getD j 0)) (fun j => decide ([a, b].getD j 0 ≤ [c, d].getD j 0)) (decide ([a, b].length ≤ [c, d].length)) 0 (min [a, b].length [c, d].length) = decide (a < c ∨ (a = c ∧ b ≤ d)) := by
  show (if decide (a = c) = true then (if decide (b = d) = true then decide (2 ≤ 2) else decide (b ≤ d)) else decide (a ≤ c)) = _
  by_cases h1 : a = c
  · rw [decide_eq_true h1]
    by_cases h2 : b = d
    · rw [decide_eq_true h2]
      exact (decide_eq_true (p := a < c ∨ (a = c ∧ b ≤ d)) (by omega)).symm
    · rw [decide_eq_false h2]
      show decide (b ≤ d) = _
      exact decide_eq_decide.mpr (by omega)
  · rw [decide_eq_false h1]
    show decide (a ≤ c) = _
    exact decide_eq_decide.mpr (by omega)
theorem atI_last (xs : List V) (v : V) : atI (xs ++ [v]) (-1) = some v := by
  unfold atI ixN
  rw [List.length_append, List.length_singleton, if_neg (by decide), if_pos (by omega)]
  show (xs ++ [v])[((-1 : Int) + ((xs.length + 1 : Nat) : Int)).toNat]? = some v
  rw [show ((-1 : Int) + ((xs.length + 1 : Nat) : Int)).toNat = xs.length by omega]
  simp
theorem pairs_last {K : PySem.W.Frag} {H : Hp} {q : Pr} (qs : List Pr) : ∀ (as : List Addr), PairsAt K H as (qs ++ [q]) → ∃ as0 a, as = as0 ++ [a] ∧ SqT K H a [.int q.1, .int q.2] := by
  induction qs with
  | nil =>
    intro as h
    cases h with
    | cons h t =>
      cases t
      exact ⟨[], _, rfl, h⟩
  | cons r qs ih =>
    intro as h
    cases h with
    | cons h t =>
      obtain ⟨as0, a, e, h⟩ := ih _ t
      exact ⟨_ :: as0, a, by rw [e]; rfl, h⟩
theorem len_pairs {K : PySem.W.Frag} {H : Hp} {as : List Addr} {qs : List Pr} (h : PairsAt K H as qs) : as.length = qs.length := Paired.length h
theorem notB_nil (e : Ed) : notBehind [] e = false := rfl
theorem notB_snoc (es : List Ed) (l e : Ed) : notBehind (es ++ [l]) e = decide ((e.1 : Int) < (l.1 : Int) ∨ ((e.1 : Int) = (l.1 : Int) ∧ (e.2 : Int) ≤ (l.2 : Int))) := by
  unfold notBehind
  rw [List.getLast?_concat]
  show (!decide (ltPr l e)) = _
  rw [← decide_not]
  refine decide_eq_decide.mpr ?_
  unfold ltPr
  omega
theorem snoc_of {α : Type} {l : List α} (h : l ≠ []) : ∃ a b, l = a ++ [b] := ⟨_, _, (List.dropLast_concat_getLast h).symm⟩
theorem prog_bad {n m : Nat} {l : Cs} {ls : List Cs} {es : List Ed} (hb : edgeIn n l = none ∨ ∃ e, edgeIn n l = some e ∧ (notBehind es e = true ∨ es.length + 1 + behindF n e.1 e.2 < m)) : progLoop n m (l :: ls) es = .inl (es.length + 2) := by
  unfold progLoop
  rcases hb with hb | ⟨e, he, hb | hb⟩
  · rw [hb]
  · rw [he]
    exact if_pos hb
  · rw [he]
    by_cases c : notBehind es e = true
    · exact if_pos c
    · exact (if_neg c).trans (if_pos hb)
theorem prog_good {n m : Nat} {l : Cs} {ls : List Cs} {es : List Ed} {e : Ed} (he : edgeIn n l = some e) (h1 : notBehind es e = false) (h2 : ¬ es.length + 1 + behindF n e.1 e.2 < m) : progLoop n m (l :: ls) es = progLoop n m ls (es ++ [e]) := by
  rw [progLoop, he]
  exact (if_neg (by rw [h1]; decide)).trans (if_neg h2)
theorem lex_asym {a b : Pr} (h : lexlt a b) : SrtO.lexB b a = false := by
  have x := SrtO.lexB_iff.mp h
  refine SrtO.lexB_no.mpr ?_
  omega
theorem prE_ok {n : Nat} {es : List Ed} (ok : ∀ e ∈ es, e.1 < e.2 ∧ e.2 < n) (pw : es.Pairwise ltPr) : (∀ q ∈ es.map prE, Okp n q) ∧ (es.map prE).Pairwise lexlt ∧ (es.map prE).Nodup := by
  have srt : (es.map prE).Pairwise lexlt := List.pairwise_map.mpr (pw.imp fun {a b} h => by
    refine SrtO.lexB_iff.mpr ?_
    unfold ltPr at h
    show (a.1 : Int) < b.1 ∨ ((a.1 : Int) = b.1 ∧ (a.2 : Int) < b.2)
    omega)
  refine ⟨fun q hq => ?_, srt, srt.imp fun {a b} h e => ?_⟩
  · obtain ⟨e, he, rfl⟩ := List.mem_map.mp hq
    obtain ⟨h1, h2⟩ := ok e he
    show (0 : Int) ≤ (e.1 : Int) ∧ (e.1 : Int) < (e.2 : Int) ∧ (e.2 : Int) < (n : Int)
    omega
  · subst e
    have x := SrtO.lexB_iff.mp h
    omega
end Sm

set_option Elab.async false
set_option linter.all false
set_option maxRecDepth 100000
set_option maxHeartbeats 8000000
namespace Sm
open PySem PySem.Spec PyProof.Rows L2 TL Tx
section
variable {P : Program} {w : World} {K : PySem.W.Frag} {mg : Str → Option Value} {base : Heap}
theorem scGo : FnScope scGoN ["text"] (defScope sGo) := ⟨rfl, rfl, rfl, by decide +kernel, rfl, by decide +kernel, by decide +kernel⟩
theorem ok_go {f C CB CT fI fF fE fB fG : Addr} {fd fdI fdF fdE fdB fdG : FuncData} (F : Fun K "graph_of" "graph_of" sGo f fd) (TT : TxG K mg C) (B : TxB K mg CT fI) (ml : mg "len" = none)
    (GI : FnOk P w K mg base CX0 1 fI fdI ["self", "line"] (spBt K CT)) (bI : Binds K fdI ["self", "line"] [])
    (GF : FnOk P w K mg base (L2N.CX P w) 3 fF fdF ["lines"] (spFl K CT)) (kF : PySem.W.keepIn K (.ref fF) = true) (bF : Binds K fdF ["lines"] []) (gF : mg "first_line" = some (.ref fF))
    (GE : FnOk P w K mg base CX0 4 fE fdE ["line", "size"] (spEi K)) (kE : PySem.W.keepIn K (.ref fE) = true) (bE : Binds K fdE ["line", "size"] []) (gE : mg "edge_in" = some (.ref fE))
    (GB : FnOk P w K mg base CX0 1 fB fdB ["edge", "size"] (spEb K)) (kB : PySem.W.keepIn K (.ref fB) = true) (bB : Binds K fdB ["edge", "size"] []) (gB : mg "edges_behind" = some (.ref fB))
    (GG : FnOk P w K mg base (L2.CX P w) 4 fG fdG ["self", "size", "edges"] (spInit K C CB)) (M : Mk K C fG) (bG : Binds K fdG ["self", "size", "edges"] []) :
    FnOk P w K mg base (L2N.CX P w) 6 f fd ["text"] (spGo K C CT) := by
  refine okXN F scGo (fun vs H Q E h => ?_) (fun cdv A outer s H vs Q E hr h => ?_)
  · obtain ⟨T, rfl, _⟩ := h
    rfl
  · obtain ⟨T, rfl, hT, hL, qE, qQ⟩ := h
    have hr1 : Room 1 _ := hr.mono (by decide)
    have hr2 : Room 2 _ := hr.mono (by decide)
    have hr3 : Room 3 _ := hr.mono (by decide)
    have hr4 : Room 5 _ := hr.mono (by decide)
    have hr40 : Room 4 _ := hr.mono (by decide)
    have hu0 : _ < cLine := Nat.lt_of_le_of_lt (Nat.le_add_right _ 64) hr.units
    refine ⟨_, (C8.pss_cut (ps_asg (pe_split (pv 0) pe_str) (Us.pg_star (n := 2) (by rfl) (by decide) (Us.pgs_star (pg_name (i := 1) scGo.nd rfl (.inl rfl)) (pgs_cons (pg_name (i := 2) scGo.nd rfl (.inl rfl)) pgs_nil))))
      (pss_cons (ps_asg (pe_call GF hr3 (by rfl) gF kF bF .nil (L2N.passes_call (L2N.takes_of rfl rfl rfl rfl) fun _ _ _ _ h => h) (pa_cons (pv 1) pa_nil)) (pg_tup (by rfl) (pgs_cons (pg_name (i := 3) scGo.nd rfl (.inl rfl)) (pgs_cons (pg_name (i := 4) scGo.nd rfl (.inl rfl)) pgs_nil))))
      (pss_cons (ps_set (i := 5) scGo.nd rfl (.inl rfl) (pe_lst pa_nil))
      (C8.pss_cut (ps_for (passes_of rfl) rfl (pi_list (pe_slice sl_list (pv 1) (po_some pe_int) (po_some (pe_op op_add (pv 4) pe_int)))) (pg_name (i := 6) scGo.nd rfl (.inl rfl)) (pss_cons (ps_set (i := 7) scGo.nd rfl (.inl rfl) (pe_call GE hr40 (by rfl) gE kE bE .nil pass0 (pa_cons (pv 6) (pa_cons (pv 3) pa_nil))))
      (C8.pss_cut (ps_if (PW.pt (pw_or (pt_cmp (pc_isN (pv 7))) (pw_or1 (PW.pt (pw_and (pt_truth (pv 5) (by intro _; rfl)) (pw_and1 (pt_cmpR (op_leT hu0) (pv 7) (pe_ix ix_list (pv 5) (pe_un un_neg pe_int) (fun _ _ => rfl)) (nomark _)))))))) (pss_one (L2N.ps_raise rfl (L2N.takes_of rfl rfl rfl rfl) (pmk_oexN B.ox B.iC B.tI GI hr2 bI .nil pass0 (by rfl) B.g (pa_cons (pe_op op_add (pe_callB call_len_seq (by rfl) ml PySem.boot_len (pa_cons (pv 5) pa_nil)) pe_int) pa_nil)))) pss_nil)
      (C8.pss_cut (ps_if (pt_cmpR op_lt (pe_op op_add (pe_op op_add (pe_callB call_len_seq (by rfl) ml PySem.boot_len (pa_cons (pv 5) pa_nil)) pe_int) (pe_call GB hr1 (by rfl) gB kB bB .nil pass0 (pa_cons (pv 7) (pa_cons (pv 3) pa_nil)))) (pv 4) (nomark _)) (pss_one (L2N.ps_raise rfl (L2N.takes_of rfl rfl rfl rfl) (pmk_oexN B.ox B.iC B.tI GI hr2 bI .nil pass0 (by rfl) B.g (pa_cons (pe_op op_add (pe_callB call_len_seq (by rfl) ml PySem.boot_len (pa_cons (pv 5) pa_nil)) pe_int) pa_nil)))) pss_nil)
      (pss_one (ps_expr (pe_bm PySem.F.plainAttrs_list PySem.F.slot_list_append PySem.F.type_list_append mt_append (pv 5) (pa_cons (pv 7) pa_nil))))))))
      (C8.pss_cut (ps_if (PW.pt (pw_or (pt_cmpR op_lt (pe_callB call_len_seq (by rfl) ml PySem.boot_len (pa_cons (pv 5) pa_nil)) (pv 4) (nomark _)) (pw_or (pt_cmpR op_gt (pe_callB call_len_seq (by rfl) ml PySem.boot_len (pa_cons (pv 1) pa_nil)) (pe_op op_add (pv 4) pe_int) (nomark _)) (pw_or1 (pt_cmpR op_ne (pv 2) pe_str (nomark _)))))) (pss_one (L2N.ps_raise rfl (L2N.takes_of rfl rfl rfl rfl) (pmk_oexN B.ox B.iC B.tI GI hr2 bI .nil pass0 (by rfl) B.g (pa_cons (pe_op op_add (pe_callB call_len_seq (by rfl) ml PySem.boot_len (pa_cons (pv 5) pa_nil)) pe_int) pa_nil)))) pss_nil)
      (pss_one (ps_ret (pe_make M GG hr4 (by rfl) TT.g bG .nil passNo (pa_cons (pv 3) (pa_cons (pv 5) pa_nil)))))))))), ?_⟩
    obtain ⟨ew, lw, lk⟩ := split_words (l := T) (sep := "\n") (s := 10) rfl (by decide) hT
    generalize hLe : cutAt 10 (tl T) = L at qE qQ hL ew
    refine ⟨fun σ H1 => ∃ (lp : Addr) (Lp : List Str) (b : Str), σ = [some (V.str T), some (V.ref lp), some (V.str b), none, none, none, none, none] ∧ Same H H1 ∧ H1 lp = some (.lst (Lp.map V.str)) ∧ Lp.map tl = L.dropLast ∧ L.getLast? = some (tl b) ∧ Lp.length ≤ 70 ∧ ∀ l ∈ Lp, l.length ≤ 100000, ?_, ?_⟩
    · refine ⟨_, rfl, ⟨_, rfl⟩, T, _, rfl, rfl, rfl, by rw [sizeLine_eq]; omega, fun p np => ?_⟩
      generalize Txt.split T ("\n" : Str) = W at ew lw lk ⊢
      have neL : L ≠ [] := by rw [← hLe]; exact cutAt_ne 10 _
      have neW : W ≠ [] := fun z => by rw [z] at ew; exact neL ew.symm
      obtain ⟨W0, b, rfl⟩ := snoc_of neW
      have u1 := same_upd (o := .lst ((W0 ++ [b]).map V.str)) np
      have hp : (upd H p (.lst ((W0 ++ [b]).map V.str))) p = some (.lst ((W0 ++ [b]).map V.str)) := upd_same
      generalize (upd H p (.lst ((W0 ++ [b]).map V.str))) = H1 at u1 hp ⊢
      have eL : L = W0.map tl ++ [tl b] := by rw [← ew, List.map_append]; rfl
      have k1 : ((W0 ++ [b]).map V.str).length + 1 - 2 = W0.length := by rw [List.length_map, List.length_append]; simp
      refine ⟨p, _, rfl, SqL.of hp, by rw [List.length_map, List.length_append]; simp, fun q nq => ?_⟩
      rw [k1]
      have d1 : ((W0 ++ [b]).map V.str).drop W0.length = [V.str b] := by
        rw [← List.map_drop, List.drop_left]; rfl
      have t1 : ((W0 ++ [b]).map V.str).take W0.length = W0.map V.str := by
        rw [← List.map_take, List.take_left]
      rw [d1, t1]
      refine ⟨_, _, rfl, _, _, rfl, rfl, ?_⟩
      refine ⟨q, W0, b, rfl, u1.trans (same_upd nq), upd_same, ?_, ?_, ?_, fun l hl => lw l (List.mem_append_left _ hl)⟩
      · rw [eL, List.dropLast_concat]
      · rw [eL, List.getLast?_concat]
      · rw [eL, List.length_append, List.length_map] at hL
        omega
    rintro σ H1 ⟨lp, Lp, bh, rfl, s1, hlp, eLp, eLb, lLp, wLp⟩
    refine ⟨_, rfl, lp, Lp, rfl, SqL.of hlp, wLp, fun hF H2 d s2 hd => ?_, fun n m hF H2 r s2 hr => ?_⟩
    · refine qE 1 ?_ H2 d (s1.trans s2) hd
      unfold progF
      rw [← eLp, hF]
    have n60 := firstL_lim hF
    refine ⟨r, _, rfl, hr, rfl, _, _, rfl, _, _, rfl, rfl, ?_⟩
    refine ⟨Nat.zero_le _, fun ep nep => ?_⟩
    have t1 := same_upd (o := .lst []) nep
    have hE0 : (upd H2 ep (.lst [])) ep = some (.lst []) := upd_same
    have s12 := s1.trans s2
    have hlp3 := t1 _ _ (s2 _ _ hlp)
    have epH : H ep = none := by
      cases z : H ep with
      | none => rfl
      | some o => rw [s12 _ _ z] at nep; cases nep
    have neE : lp ≠ ep := fun z => by rw [← z, s2 _ _ hlp] at nep; cases nep
    have s13 := s12.trans t1
    generalize (upd H2 ep (.lst [])) = H3 at t1 hE0 hlp3 s13 ⊢
    have pF : progF L = match progLoop n m (((Lp.drop 1).take m).map tl) [] with
        | .inl k => .inl k
        | .inr es => if endF L m es = true then .inl (es.length + 2) else .inr (n, es) := by
      unfold progF
      rw [← eLp, hF, List.map_take, List.map_drop]
      all_goals rfl
    rw [pF] at qE qQ
    refine ⟨fun σ H4 => ∃ (es : List Ed) (ets : List Addr) (y6 y7 : Option V), σ = [some (V.str T), some (V.ref lp), some (V.str bh), some (.int (n : Nat)), some (.int (m : Nat)), some (.ref ep), y6, y7] ∧ Same H H4 ∧ H4 lp = some (.lst (Lp.map V.str)) ∧ H4 ep = some (.lst (ets.map V.ref)) ∧ PairsAt K H4 ets (es.map prE) ∧ es.length ≤ 75 ∧
      progLoop n m (((Lp.drop 1).take m).map tl) [] = .inr es, ?_, ?_⟩
    · refine ⟨_, rfl, 1, rfl, _, rfl, _, _, rfl, rfl, _, rfl, lp, _, rfl, SqL.of hlp3, fun D nD => ?_⟩
      rw [cut_one]
      have t4 := same_upd (o := .lst (((Lp.drop 1).take m).map V.str)) nD
      have hD : (upd H3 D (.lst (((Lp.drop 1).take m).map V.str))) D = some (.lst (((Lp.drop 1).take m).map V.str)) := upd_same
      have hlp4 := t4 _ _ hlp3
      have hE4 := t4 _ _ hE0
      have s14 := s13.trans t4
      have neD : ep ≠ D := fun z => by rw [z, nD] at hE0; cases hE0
      generalize (upd H3 D (.lst (((Lp.drop 1).take m).map V.str))) = H4 at hD hlp4 hE4 s14 ⊢
      have wLs : ∀ l ∈ (Lp.drop 1).take m, l.length ≤ 100000 := fun l hl => wLp l (List.mem_of_mem_drop (List.mem_of_mem_take hl))
      have lLs : ((Lp.drop 1).take m).length ≤ 70 := by rw [List.length_take, List.length_drop]; omega
      generalize (Lp.drop 1).take m = ls at hD wLs lLs qE qQ ⊢
      refine ⟨D, rfl, ⟨_, SqL.of hD⟩, for_list (K := K) (a := D) (xs := ls.map V.str) (fun t σ H5 => ∃ (es : List Ed) (ets : List Addr) (y6 y7 : Option V), σ = [some (V.str T), some (V.ref lp), some (V.str bh), some (.int (n : Nat)), some (.int (m : Nat)), some (.ref ep), y6, y7] ∧ Same H H5 ∧ H5 lp = some (.lst (Lp.map V.str)) ∧ H5 D = some (.lst (ls.map V.str)) ∧ H5 ep = some (.lst (ets.map V.ref)) ∧ PairsAt K H5 ets (es.map prE) ∧ es.length = t ∧
        progLoop n m (ls.map tl) [] = progLoop n m ((ls.drop t).map tl) es) ⟨[], [], none, none, rfl, s14, hlp4, hD, hE4, .nil, rfl, rfl⟩ (fun t σ H5 _ ⟨_, _, _, _, _, _, _, hD, _⟩ => SqL.of hD) ?_ ?_⟩
      · rintro t x σ H5 hx ⟨es, ets, y6, y7, rfl, s5, hlp5, hD5, hE5, hPA, les, hPL⟩
        rw [List.getElem?_map] at hx
        cases hl : ls[t]? with
        | none => rw [hl] at hx; cases hx
        | some l =>
          rw [hl] at hx
          cases hx
          have htl : t < ls.length := (List.getElem?_eq_some_iff.mp hl).1
          have eDr : ls.drop t = l :: ls.drop (t + 1) := by rw [List.drop_eq_getElem_cons htl, (List.getElem?_eq_some_iff.mp hl).2]
          rw [eDr] at hPL
          have wl := wLs l (List.mem_of_getElem? hl)
          have lets : ets.length = t := by rw [len_pairs hPA, List.length_map, les]
          refine ⟨_, rfl, _, rfl, l, n, rfl, wl, fun H6 v s6 hv => ?_⟩
          have s16 := s5.trans s6
          have hlp6 := s6 _ _ hlp5
          have hD6 := s6 _ _ hD5
          have hE6 := s6 _ _ hE5
          have hPA6 := hPA.same s6
          have bad : (edgeIn n (tl l) = none ∨ ∃ e, edgeIn n (tl l) = some e ∧ (notBehind es e = true ∨ es.length + 1 + behindF n e.1 e.2 < m)) → ∀ H' d, Same H6 H' → H' d = some (.xd [("line", .int ((ets.map V.ref).length + 2))]) → E (.ref CT) (some d) H' := fun hb H' d s7 hd => by
            refine qE (es.length + 2) ?_ H' d (s16.trans s7) ?_
            · rw [hPL, List.map_cons, prog_bad hb]
            · rw [hd, List.length_map, lets, ← les]
              rfl
          refine ⟨fun σ H7 => ∃ (e : Ed) (a : Addr), H6 = H7 ∧ σ = [some (V.str T), some (V.ref lp), some (V.str bh), some (.int (n : Nat)), some (.int (m : Nat)), some (.ref ep), some (.str l), some (.ref a)] ∧ edgeIn n (tl l) = some e ∧ notBehind es e = false ∧ SqT K H6 a [.int (e.1 : Nat), .int (e.2 : Nat)], ?_, ?_⟩
          · have hx1 : TruV K (V.ref ep) H6 (!(ets.map V.ref).isEmpty) := .inl ⟨_, SqL.of hE6, rfl⟩
            cases he : edgeIn n (tl l) with
            | none =>
              rw [he] at hv
              have hv : v = .non := hv
              subst hv
              refine ⟨_, rfl, _, rfl, ?_⟩
              refine iteY rfl (iteT ?_)
              exact raise_bt (fun R r => ⟨_, rfl, ep, _, rfl, .inl (SqL.of hE6), _, _, rfl, rfl, r⟩) (bad (.inl he))
            | some e =>
              rw [he] at hv
              obtain ⟨a, rfl, ha⟩ := hv
              have good : notBehind es e = false → ∃ (e' : Ed) (a' : Addr), H6 = H6 ∧ [some (V.str T), some (V.ref lp), some (V.str bh), some (V.int (n : Nat)), some (V.int (m : Nat)), some (V.ref ep), some (V.str l), some (V.ref a)] = [some (V.str T), some (V.ref lp), some (V.str bh), some (.int (n : Nat)), some (.int (m : Nat)), some (.ref ep), some (.str l), some (.ref a')] ∧ some e = some e' ∧ notBehind es e' = false ∧ SqT K H6 a' [.int (e'.1 : Nat), .int (e'.2 : Nat)] := fun hn => ⟨e, a, rfl, rfl, rfl, hn, ha⟩
              refine ⟨_, rfl, _, rfl, ?_⟩
              refine iteD (fun z => by cases z) ?_
              refine ⟨_, rfl, _, hx1, ?_⟩
              by_cases c0 : es = []
              · subst c0
                have : ets = [] := List.length_eq_zero_iff.mp (by rw [lets, ← les]; rfl)
                subst this
                refine iteF ?_
                exact good rfl
              · obtain ⟨es0, l0, rfl⟩ := snoc_of c0
                have hPA7 := hPA6
                rw [List.map_append] at hPA7
                obtain ⟨ets0, a0, rfl, ha0⟩ := pairs_last _ _ hPA7
                have e9 : (!((ets0 ++ [a0]).map V.ref).isEmpty) = true := by rw [List.map_append]; simp
                rw [e9]
                refine iteT ?_
                refine ⟨_, rfl, _, rfl, _, rfl, ep, _, -1, .ref a0, rfl, rfl, SqL.of hE6, by rw [List.map_append]; exact atI_last _ _, a, a0, [(e.1 : Int), (e.2 : Int)], [(l0.1 : Int), (l0.2 : Int)], rfl, rfl, ha, ha0, _, rfl, ?_⟩
                rw [lex_pair, ← notB_snoc es0 l0 e]
                cases hn : notBehind (es0 ++ [l0]) e with
                | true =>
                  refine iteT ?_
                  exact raise_bt (fun R r => ⟨_, rfl, ep, _, rfl, .inl (SqL.of hE6), _, _, rfl, rfl, r⟩) (bad (.inr ⟨e, he, .inl hn⟩))
                | false =>
                  refine iteF ?_
                  exact good hn
          rintro σ H7 ⟨e, a, rfl, rfl, he, hnb, ha⟩
          obtain ⟨ee1, ee2, _⟩ := edgeIn_some he
          refine ⟨fun σ H7 => ¬ es.length + 1 + behindF n e.1 e.2 < m ∧ H6 = H7 ∧ σ = [some (V.str T), some (V.ref lp), some (V.str bh), some (.int (n : Nat)), some (.int (m : Nat)), some (.ref ep), some (.str l), some (.ref a)], ?_, ?_⟩
          · refine ⟨_, rfl, ep, _, rfl, .inl (SqL.of hE6), _, _, rfl, rfl, _, rfl, _, rfl, a, n, e.1, e.2, rfl, ha, ee1, ee2, n60, _, _, rfl, rfl, _, rfl, _, _, rfl, rfl, _, rfl, ?_⟩
            rw [List.length_map, lets, ← les]
            refine ite2 (fun c => ?_) (fun c => ?_)
            · have c := of_decide_eq_true c
              exact raise_bt (fun R r => ⟨_, rfl, ep, _, rfl, .inl (SqL.of hE6), _, _, rfl, rfl, r⟩) (bad (.inr ⟨e, he, .inr (by omega)⟩))
            · exact ⟨fun z => c (decide_eq_true (by omega)), rfl, rfl⟩
          rintro σ H7 ⟨nb, rfl, rfl⟩
          refine ⟨_, rfl, .inl ⟨rfl, _, SqL.of hE6⟩, _, rfl, ep, _, _, rfl, rfl, hE6, by rw [List.length_map, lets, sizeLine_eq]; omega, ?_⟩
          have bt : But ep H6 (upd H6 ep (.lst (ets.map V.ref ++ [.ref a]))) := But.put (Same.but (Same.refl H6))
          refine ⟨es ++ [e], ets ++ [a], _, _, rfl, same_put s16 epH, bt _ _ hlp6 neE, bt _ _ hD6 (fun z => neD z.symm), by rw [upd_same, List.map_append]; rfl, ?_, by rw [List.length_append, les]; rfl, ?_⟩
          · rw [List.map_append]
            exact PairsAt.snoc (bt.sqTl hE6 ha) (bt.pairs hE6 hPA6)
          · rw [hPL, List.map_cons, prog_good he hnb nb]
      · rintro σ H5 ⟨es, ets, y6, y7, rfl, s5, hlp5, hD5, hE5, hPA, les, hPL⟩
        refine ⟨es, ets, y6, y7, rfl, s5, hlp5, hE5, hPA, by rw [les, List.length_map]; omega, ?_⟩
        rw [hPL, List.length_map, List.drop_length]
        rfl
    rintro σ H4 ⟨es, ets, y6, y7, rfl, s4, hlp4, hE4, hPA, les, hPL⟩
    have lets : ets.length = es.length := by rw [len_pairs hPA, List.length_map]
    rw [hPL] at qE qQ
    refine ⟨fun σ H5 => endF L m es = false ∧ H4 = H5 ∧ σ = [some (V.str T), some (V.ref lp), some (V.str bh), some (.int (n : Nat)), some (.int (m : Nat)), some (.ref ep), y6, y7], ?_, ?_⟩
    · have bad : endF L m es = true → ∀ H' d, Same H4 H' → H' d = some (.xd [("line", .int ((ets.map V.ref).length + 2))]) → E (.ref CT) (some d) H' := fun hb H' d s7 hd => by
        refine qE (es.length + 2) ?_ H' d (s4.trans s7) ?_
        · show (if endF L m es = true then Sum.inl (es.length + 2) else Sum.inr (n, es)) = _
          rw [if_pos hb]
        · rw [hd, List.length_map, lets]
          rfl
      have eF : endF L m es = (decide (es.length < m) || (decide (m + 1 < Lp.length) || decide (tl bh ≠ []))) := by
        unfold endF
        rw [← eLp, eLb, List.length_map]
        congr 2
        exact decide_eq_decide.mpr ⟨fun h z => h (by rw [z]), fun h z => h (Option.some.inj z)⟩
      refine ⟨_, rfl, ep, _, rfl, .inl (SqL.of hE4), _, rfl, _, _, rfl, rfl, _, rfl, ?_⟩
      rw [List.length_map, lets]
      refine ite2 (fun c => ?_) (fun c => ?_)
      · refine iteT ?_
        have c := of_decide_eq_true c
        exact raise_bt (fun R r => ⟨_, rfl, ep, _, rfl, .inl (SqL.of hE4), _, _, rfl, rfl, r⟩) (bad (by rw [eF, decide_eq_true (by omega : es.length < m)]; rfl))
      have c1 : decide (es.length < m) = false := decide_eq_false (fun z => c (decide_eq_true (by omega)))
      refine ⟨_, rfl, lp, _, rfl, .inl (SqL.of hlp4), _, rfl, _, _, rfl, rfl, _, _, rfl, rfl, _, rfl, ?_⟩
      rw [List.length_map]
      refine ite2 (fun d => ?_) (fun d => ?_)
      · refine iteT ?_
        have d := of_decide_eq_true d
        exact raise_bt (fun R r => ⟨_, rfl, ep, _, rfl, .inl (SqL.of hE4), _, _, rfl, rfl, r⟩) (bad (by rw [eF, c1, decide_eq_true (by omega : m + 1 < Lp.length)]; rfl))
      have d1 : decide (m + 1 < Lp.length) = false := decide_eq_false (fun z => d (decide_eq_true (by omega)))
      refine ⟨_, rfl, rfl, _, rfl, ?_⟩
      by_cases k : tl bh = []
      · have : bh = ("" : Str) := tl_inj (k.trans rfl)
        refine L2.iteNS (by rw [this]) ?_
        exact ⟨by rw [eF, c1, d1, decide_eq_false (fun z => z k)]; rfl, rfl, rfl⟩
      · refine iteND (fun z => k (by rw [V.str.inj z]; rfl)) ?_
        exact raise_bt (fun R r => ⟨_, rfl, ep, _, rfl, .inl (SqL.of hE4), _, _, rfl, rfl, r⟩) (bad (by rw [eF, c1, d1, decide_eq_true k]; rfl))
    rintro σ H5 ⟨hend, rfl, rfl⟩
    have qQ2 := qQ n es (by show (if endF L m es = true then Sum.inl (es.length + 2) else Sum.inr (n, es)) = _; rw [hend]; rfl)
    have pI : progF (cutAt 10 (tl T)) = .inr (n, es) := by
      rw [hLe, pF, hPL]
      show (if endF L m es = true then Sum.inl (es.length + 2) else Sum.inr (n, es)) = _
      rw [hend]
      rfl
    obtain ⟨_, _, ok, pw, _⟩ := prog_text pI
    obtain ⟨okp, srt, nd⟩ := prE_ok ok pw
    refine ⟨_, rfl, _, rfl, fun x dx nx ndx nex => ?_⟩
    have s45 : Same H4 (upd (upd H4 dx (.own x)) x (.ins C dx [])) := same_put (same_upd ndx) nx
    have hx := mk_evs n60 okp nd
    refine ⟨x, dx, n, ep, ets.map V.ref, evs (es.map prE), rfl, upd_same, SqL.of (s45 _ _ hE4), ev_pairs (hPA.same s45), ?_, fun z => ?_, fun ps hps H5 qs hb pm hG _ => ⟨rfl, qQ2 H5 x ?_ ?_⟩⟩
    · unfold evs
      rw [List.length_map, List.length_map]
      exact les
    · rw [hx] at z
      cases z
    · intro b o hbo
      have h4 := s4 _ _ hbo
      exact hb _ _ (s45 _ _ h4) (ne_of_none h4 nx)
    · rw [hx] at hps
      cases hps
      have e := sorted_uniq hG.srt (List.Pairwise.imp (fun {a b} h => lex_asym h) srt) pm.symm
      rw [e]
      exact hG
end
end Sm

set_option Elab.async false
set_option linter.all false
set_option maxRecDepth 100000
namespace Sm
open PySem PySem.Spec PyProof.Rows L2 TL Tx
abbrev gt1 : Str := Str.empty ++ ("graph " : Str)
abbrev gt2 (n : Nat) : Str := gt1 ++ (toString ((n : Nat) : Int) : Str)
abbrev gt3 (n : Nat) : Str := gt2 n ++ (" " : Str)
abbrev gt4 (n m : Nat) : Str := gt3 n ++ (toString ((m : Nat) : Int) : Str)
def gt5 (n m : Nat) : Str := gt4 n m ++ ("\n" : Str)
abbrev gl1 (u : Nat) : Str := Str.empty ++ (toString ((u : Nat) : Int) : Str)
abbrev gl2 (u : Nat) : Str := gl1 u ++ (" " : Str)
abbrev gl3 (u v : Nat) : Str := gl2 u ++ (toString ((v : Nat) : Int) : Str)
def gl4 (u v : Nat) : Str := gl3 u v ++ ("\n" : Str)
theorem tl_e : tl Str.empty = [] := rfl
theorem tl_sp : tl (" " : Str) = [32] := rfl
theorem tl_nl : tl ("\n" : Str) = [10] := rfl
theorem tl_gr : tl ("graph " : Str) = graphC ++ [32] := rfl
theorem tl_gt5 (n m : Nat) : tl (gt5 n m) = headC n m ++ [10] := by
  unfold gt5
  rw [tl_append, tl_append, tl_append, tl_append, tl_append, tl_e, tl_gr, tl_num, tl_num, tl_sp, tl_nl]
  unfold headC
  simp only [List.nil_append, List.append_assoc]
theorem tl_gl4 (u v : Nat) : tl (gl4 u v) = lineC (u, v) ++ [10] := by
  unfold gl4
  rw [tl_append, tl_append, tl_append, tl_append, tl_e, tl_num, tl_num, tl_sp, tl_nl]
  unfold lineC
  simp only [List.nil_append, List.append_assoc]
theorem num3 {n : Nat} (h : n ≤ 100) : (numL n).length ≤ 3 := numL_len (by decide) (by omega)
theorem gt_len {n m : Nat} (hn : n ≤ 100) (hm : m ≤ 100) : gt1.length ≤ 20 ∧ (gt2 n).length ≤ 20 ∧ (gt3 n).length ≤ 20 ∧ (gt4 n m).length ≤ 20 ∧ (gt5 n m).length ≤ 20 := by
  have a := num3 hn
  have b := num3 hm
  have e1 : gt1.length = 6 := rfl
  have e2 : (gt2 n).length = 6 + (numL n).length := by rw [len_tl, tl_append, List.length_append, tl_num, ← len_tl, e1]
  have e3 : (gt3 n).length = 7 + (numL n).length := by rw [len_tl, tl_append, List.length_append, ← len_tl, e2, tl_sp, List.length_singleton]; omega
  have e4 : (gt4 n m).length = 7 + (numL n).length + (numL m).length := by rw [len_tl, tl_append, List.length_append, ← len_tl, e3, tl_num]
  have e5 : (gt5 n m).length = 8 + (numL n).length + (numL m).length := by unfold gt5; rw [len_tl, tl_append, List.length_append, ← len_tl, e4, tl_nl, List.length_singleton]; omega
  omega
theorem gl_len {u v : Nat} (hn : u ≤ 100) (hm : v ≤ 100) : (gl1 u).length ≤ 20 ∧ (gl2 u).length ≤ 20 ∧ (gl3 u v).length ≤ 20 ∧ (gl4 u v).length ≤ 20 := by
  have a := num3 hn
  have b := num3 hm
  have e1 : (gl1 u).length = (numL u).length := by rw [len_tl, tl_append, List.length_append, tl_num, tl_e]; simp
  have e2 : (gl2 u).length = 1 + (numL u).length := by rw [len_tl, tl_append, List.length_append, ← len_tl, e1, tl_sp, List.length_singleton]; omega
  have e3 : (gl3 u v).length = 1 + (numL u).length + (numL v).length := by rw [len_tl, tl_append, List.length_append, ← len_tl, e2, tl_num]
  have e4 : (gl4 u v).length = 2 + (numL u).length + (numL v).length := by unfold gl4; rw [len_tl, tl_append, List.length_append, ← len_tl, e3, tl_nl, List.length_singleton]; omega
  omega
theorem small_log {m : Nat} (h : m ≤ 100) : ((m : Nat) : Int).natAbs.log2 < 1920 := by
  rw [Int.natAbs_natCast]
  have : m.log2 ≤ m := Nat.log2_le_self m
  omega
theorem join_nil : ∀ ps : List Cs, joinL [] ps = ps.flatten
  | [] => rfl
  | [a] => by simp [joinL]
  | a :: b :: r => by
    have := join_nil (b :: r)
    simp only [joinL, List.flatten_cons] at this ⊢
    simp [this]
theorem flat_lines (es : List Ed) : ((es.map fun e => gl4 e.1 e.2).map tl).flatten = es.flatMap fun e => lineC e ++ [10] := by
  induction es with
  | nil => rfl
  | cons e es ih =>
    rw [List.map_cons, List.map_cons, List.flatten_cons, ih, tl_gl4, List.flatMap_cons]
theorem tl_text (n : Nat) (es : List Ed) : tl (Txt.join ("" : Str) (gt5 n es.length :: es.map fun e => gl4 e.1 e.2)) = textC n es := by
  show tl (Builtin.Str.glued ("" : Str) (gt5 n es.length :: es.map fun e => gl4 e.1 e.2)) = _
  rw [StrLaws.glued_eq_join, tl_join, show tl ("" : Str) = [] from rfl, join_nil, List.map_cons, List.flatten_cons, tl_gt5, flat_lines]
  rfl
theorem sum_len (es : List Ed) (h : ∀ e ∈ es, e.1 ≤ 100 ∧ e.2 ≤ 100) : ((es.map fun e => gl4 e.1 e.2).map (·.length)).sum ≤ 20 * es.length := by
  induction es with
  | nil => exact Nat.le_refl _
  | cons e es ih =>
    have i := ih fun x hx => h x (List.mem_cons_of_mem _ hx)
    obtain ⟨h1, h2⟩ := h e List.mem_cons_self
    have := (gl_len h1 h2).2.2.2
    rw [List.map_cons, List.map_cons, List.sum_cons, List.length_cons]
    omega
theorem text_all (n : Nat) (es : List Ed) (hn : n ≤ 100) (few : es.length ≤ 75) (h : ∀ e ∈ es, e.1 ≤ 100 ∧ e.2 ≤ 100) : ∀ ys : List Str, ys = gt5 n es.length :: (es.map fun e => gl4 e.1 e.2) →
    (ys.map (·.length)).sum + ys.length * ("" : Str).length ≤ 16777216 ∧ tl (Txt.join ("" : Str) ys) = textC n es := by
  intro ys e
  have z : ("" : Str).length = 0 := rfl
  have sm := sum_len es h
  have l5 := (gt_len (n := n) (m := es.length) hn (by omega)).2.2.2.2
  refine ⟨?_, by rw [e]; exact tl_text n es⟩
  rw [z, Nat.mul_zero, e, List.map_cons, List.sum_cons]
  omega
end Sm

set_option Elab.async false
set_option linter.all false
set_option maxRecDepth 100000
set_option maxHeartbeats 8000000
namespace Sm
open PySem PySem.Spec PyProof.Rows L2 TL Tx
abbrev sGt : Stmt := topS 14
abbrev scGtN : List Str := ["graph", "lines", "u", "v"]
def spGt (K : PySem.W.Frag) (C : Addr) : Sp := fun vs H Q E => ∃ (g : Addr) (n : Nat) (es : List Ed), vs = [.ref g] ∧ GraphAt K C H g n (es.map prE) ∧ ∀ (H' : Hp) (y : Str), Same H H' → tl y = textC n es → Q (.str y) H'
section
variable {P : Program} {w : World} {K : PySem.W.Frag} {mg : Str → Option Value} {base : Heap}
theorem scGt : FnScope scGtN ["graph"] (defScope sGt) := ⟨rfl, rfl, rfl, by decide +kernel, rfl, by decide +kernel, by decide +kernel⟩
theorem ok_gt {f C : Addr} {fd : FuncData} (F : Fun K "graph_text" "graph_text" sGt f fd) (TT : TxG K mg C) (ml : mg "len" = none) :
    FnOk P w K mg base CX0 1 f fd ["graph"] (spGt K C) := by
  refine F.ok scGt (fun vs H Q E h => ?_) (fun cdv A outer s H vs Q E hr h => ?_)
  · obtain ⟨g, n, es, rfl, _⟩ := h
    rfl
  · obtain ⟨g, n, es, rfl, G, qQ⟩ := h
    obtain ⟨dx, et, nt, hg, ⟨ets, het, hPA⟩, _⟩ := G.ob
    have n60 := G.lim
    have few := G.few
    rw [List.length_map] at few
    refine ⟨_, (C8.pss_cut (ps_set (i := 1) scGt.nd rfl (.inl rfl) (pe_lst (pa_cons (pe_joined (PJ.cons pe_str (PJ.cons (pe_fmt (pe_fld (pv 0) rfl)) (PJ.cons pe_str (PJ.cons (pe_fmt (pe_callB call_len_seq (by rfl) ml PySem.boot_len (pa_cons (pe_fld (pv 0) rfl) pa_nil))) (PJ.cons pe_str PJ.nil)))))) pa_nil)))
      (C8.pss_cut (ps_expr (pe_bm PySem.F.plainAttrs_list PySem.F.slot_list_extend PySem.F.type_list_extend mt_extend (pv 1) (pa_cons (pe_lc (own := [("u", 2), ("v", 3)]) (g := gTup K 2 (gCons (gName 2) (gCons (gName 3) gNil))) (by rfl) scGt.nd (pi_tup (pe_fld (pv 0) rfl)) (blkOk_by (own := [("u", 2), ("v", 3)]) (N := scGtN) (sc := defScope sGt) (by decide +kernel)) (fun _ _ _ _ _ => pg_tup (by rfl) (pgs_cons (pg_name (i := 2) scGt.nd rfl (Or.inl rfl)) (pgs_cons (pg_name (i := 3) scGt.nd rfl (Or.inl rfl)) pgs_nil))) (fun _ _ _ _ _ => pts_nil) (fun _ _ _ _ _ => (pe_joined (PJ.cons (pe_fmt (pv 2)) (PJ.cons pe_str (PJ.cons (pe_fmt (pv 3)) (PJ.cons pe_str PJ.nil))))))) pa_nil)))
      (pss_one (ps_ret (pe_join pe_str (pv 1)))))), ?_⟩
    have lim : ∀ e ∈ es, e.1 ≤ 100 ∧ e.2 ≤ 100 := fun e he => by
      have o := G.ok _ (List.mem_map.mpr ⟨e, he, rfl⟩)
      have o : (0 : Int) ≤ (e.1 : Int) ∧ (e.1 : Int) < (e.2 : Int) ∧ (e.2 : Int) < (n : Int) := o
      omega
    have le := len_pairs hPA
    rw [List.length_map] at le
    have sl : ∀ {x : Str}, x.length ≤ 20 → x.length ≤ sizeLine := fun h => by rw [sizeLine_eq]; omega
    obtain ⟨l1, l2, l3, l4, l5⟩ := gt_len (n := n) (m := es.length) (by omega) (by omega)
    refine ⟨fun σ H1 => ∃ lp : Addr, σ = [some (V.ref g), some (V.ref lp), none, none] ∧ Same H H1 ∧ H1 lp = some (.lst [.str (gt5 n es.length)]) ∧ H lp = none, ?_, ?_⟩
    · refine ⟨_, rfl, sl l1, ?_⟩
      refine ⟨_, rfl, g, C, dx, _, .int n, rfl, hg, TT.cl, TT.nS, gf_size _ _ _, .inr ⟨_, rfl, small_log (by omega), _, rfl, sl l2, ?_⟩⟩
      refine ⟨_, rfl, sl l3, ?_⟩
      refine ⟨_, rfl, g, C, dx, _, .ref et, rfl, hg, TT.cl, TT.nE, gf_edges _ _ _, et, _, rfl, .inr het, ?_⟩
      rw [List.length_map, le]
      refine .inr ⟨_, rfl, small_log (by omega), _, rfl, sl l4, _, rfl, sl l5, ?_⟩
      refine ⟨by show 1 ≤ sizeLine; decide, fun p np => ⟨p, rfl, same_upd np, upd_same, np⟩⟩
    rintro σ H1 ⟨lp, rfl, s1, hlp, nlp⟩
    have hg1 := s1 _ _ hg
    have het1 := same_sqT s1 het
    refine ⟨fun σ H2 => σ = [some (V.ref g), some (V.ref lp), none, none] ∧ Same H H2 ∧ H2 lp = some (.lst ((gt5 n es.length :: es.map fun e => gl4 e.1 e.2).map V.str)), ?_, ?_⟩
    · refine ⟨_, rfl, .inl ⟨rfl, _, SqL.of hlp⟩, ?_⟩
      refine ⟨_, rfl, g, C, dx, _, .ref et, rfl, hg1, TT.cl, TT.nE, gf_edges _ _ _, et, rfl, ⟨_, het1⟩, fun D nD => ?_⟩
      have neD : lp ≠ D := fun z => by rw [z, nD] at hlp; cases hlp
      refine lc_tup (K := K) (a := et) (xs := ets.map V.ref) (g := gTup K 2 (gCons (gName 2) (gCons (gName 3) gNil))) (tt := tYes) (te := fun σ H Q => tJs [tFmt (tVar 2), tC (V.str " "), tFmt (tVar 3), tC (V.str "\n")] Str.empty σ H fun out H1 => Q (V.str out) H1) (vs := [2, 3]) (σ := [some (V.ref g), some (V.ref lp), none, none]) (H1 := H1) (D := D) (fun t H2 => Same H1 H2 ∧ H2 D = some (.lst ((es.take t).map fun e => V.str (gl4 e.1 e.2)))) ⟨same_upd nD, by rw [upd_same, List.take_zero]; rfl⟩ (fun t H2 _ h => same_sqT h.1 het1) ?_ ?_
      · rintro t x H2 hx ⟨s2, eD⟩
        rw [List.getElem?_map] at hx
        cases ea : ets[t]? with
        | none => rw [ea] at hx; cases hx
        | some ea' =>
          rw [ea] at hx
          cases hx
          obtain ⟨q, hq, hs⟩ := hPA.get ea
          rw [List.getElem?_map] at hq
          cases eq : es[t]? with
          | none => rw [eq] at hq; cases hq
          | some e =>
            rw [eq] at hq
            cases hq
            obtain ⟨u100, v100⟩ := lim e (List.mem_of_getElem? eq)
            obtain ⟨k1, k2, k3, k4⟩ := gl_len u100 v100
            have ht : t < es.length := (List.getElem?_eq_some_iff.mp eq).1
            refine ⟨ea', _, rfl, same_sqT (s1.trans s2) hs, rfl, _, _, rfl, _, _, rfl, rfl, rfl, ?_⟩
            refine iteT (B := Same H1 H2 ∧ H2 D = some (.lst ((es.take (t + 1)).map fun e => V.str (gl4 e.1 e.2)))) ?_
            refine ⟨_, rfl, .inr ⟨_, rfl, small_log u100, _, rfl, sl k1, _, rfl, sl k2, _, rfl, .inr ⟨_, rfl, small_log v100, _, rfl, sl k3, _, rfl, sl k4, ?_⟩⟩⟩
            refine ⟨_, eD, by rw [List.length_map, List.length_take, sizeLine_eq]; omega, same_put s2 nD, ?_⟩
            rw [upd_same, L2.take_next eq, List.map_append]
            rfl
      · rintro H2 ⟨s2, eD⟩
        rw [List.length_map, le, List.take_length] at eD
        refine ⟨lp, D, _, _, rfl, rfl, s2 _ _ hlp, eD, by rw [List.length_map, sizeLine_eq]; simp; omega, rfl, same_put (s1.trans s2) nlp, ?_⟩
        rw [upd_same, List.map_cons, List.map_map]
        rfl
    rintro σ H2 ⟨rfl, s2, hlp2⟩
    have ta := text_all n es (by omega) (by omega) lim
    generalize (gt5 n es.length :: es.map fun e => gl4 e.1 e.2) = ys at hlp2 ta
    obtain ⟨b1, b2⟩ := ta ys rfl
    exact ⟨⟨_, rfl⟩, _, rfl, _, lp, ys, rfl, rfl, .inl (SqL.of hlp2), b1, qQ H2 _ s2 b2⟩
end
end Sm

set_option Elab.async false
set_option linter.all false
set_option maxRecDepth 100000
set_option maxHeartbeats 8000000
namespace Sm
open PySem PySem.Spec PyProof.Rows L2 TL Tx
abbrev sLn : Stmt := topS 27
abbrev scLnN : List Str := ["text", "most", "number"]
def numB (w : Cs) (k : Nat) : Bool := decide (w ∈ (List.range k).map numL)
def spLn : Sp := fun vs H Q E => ∃ (T : Str) (k : Nat), vs = [.str T, .int ((k : Int) - 1)] ∧ k ≤ 5000 ∧ ∀ H', Same H H' → Q (.bl (numB (tl T) k)) H'
theorem inV_nums (T : Str) (k : Nat) : inV (.str T) ((List.range k).map fun i => V.str (toString ((i : Nat) : Int) : Str)) = numB (tl T) k := by
  unfold inV numB
  rw [List.any_map]
  refine Bool.eq_iff_iff.mpr ?_
  rw [List.any_eq_true, decide_eq_true_eq, List.mem_map]
  constructor
  · rintro ⟨i, hi, h⟩
    have h2 : (toString ((i : Nat) : Int) : Str) = T := by simpa [eqV] using h
    exact ⟨i, hi, by rw [← h2]; exact (tl_num i).symm⟩
  · rintro ⟨i, hi, h⟩
    refine ⟨i, hi, ?_⟩
    have h2 : (toString ((i : Nat) : Int) : Str) = T := tl_inj ((tl_num i).trans h)
    simpa [eqV] using h2
section
variable {P : Program} {w : World} {K : PySem.W.Frag} {mg : Str → Option Value} {base : Heap}
theorem scLn : FnScope scLnN ["text", "most"] (defScope sLn) := ⟨rfl, rfl, rfl, by decide +kernel, rfl, by decide +kernel, by decide +kernel⟩
theorem ok_ln {f : Addr} {fd : FuncData} (F : Fun K "_law_number" "_law_number" sLn f fd) (mr : mg "range" = none) (mstr : mg "str" = none) :
    FnOk P w K mg base CX0 1 f fd ["text", "most"] spLn := by
  refine F.ok scLn (fun vs H Q E h => ?_) (fun cdv A outer s H vs Q E hr h => ?_)
  · obtain ⟨T, k, rfl, _⟩ := h
    rfl
  · obtain ⟨T, k, rfl, hk, qQ⟩ := h
    refine ⟨_, (pss_one (ps_ret (pe_cmpR op_in_seq (pv 0) (pe_lc (own := [("number", 2)]) (g := gName 2) (by rfl) scLn.nd (pi_range1 (by rfl) mr (pa_cons (pe_op op_add (pv 1) pe_int) pa_nil)) (blkOk_by (own := [("number", 2)]) (N := scLnN) (sc := defScope sLn) (by decide +kernel)) (fun _ _ _ _ _ => pg_name (i := 2) scLn.nd rfl (Or.inl rfl)) (fun _ _ _ _ _ => pts_nil) (fun _ _ _ _ _ => (pe_callTy call_str_int (by rfl) mstr (by decide +kernel) (pa_cons (pv 2) pa_nil)))) (by rfl)))), ?_⟩
    refine ⟨_, rfl, _, rfl, _, _, rfl, rfl, ?_⟩
    refine ⟨_, rfl, by omega, by omega, fun D nD => ?_⟩
    rw [show (((k : Int) - 1 + 1)).toNat = k by omega]
    refine lc_range (lo := 0) (n := k) (tt := tYes) (fun i H' => Same H H' ∧ H' D = some (.lst ((List.range i).map fun i => V.str (toString ((i : Nat) : Int) : Str)))) ⟨same_upd nD, upd_same⟩ ?_ ?_
    · rintro i H5 hi ⟨s5, hD⟩
      rw [show (0 : Int) + (i : Int) = (i : Int) by omega]
      refine ⟨rfl, ?_⟩
      refine iteT (B := Same H H5 ∧ H5 D = some (.lst ((List.range (i + 1)).map fun i => V.str (toString ((i : Nat) : Int) : Str)))) ?_
      refine ⟨_, rfl, _, rfl, ?_, _, hD, ?_, same_put s5 nD, ?_⟩
      · rw [Int.natAbs_natCast]
        by_cases h0 : i = 0
        · rw [h0]
          decide
        · have : i.log2 < 13 := (Nat.log2_lt h0).mpr (by have : (2 : Nat) ^ 13 = 8192 := rfl; omega)
          omega
      · rw [List.length_map, List.length_range, sizeLine_eq]
        omega
      · rw [upd_same, List.range_succ, List.map_append]
        rfl
    · rintro H5 ⟨s5, hD⟩
      refine ⟨D, _, rfl, .inl (SqL.of hD), rfl, ?_, ?_⟩
      · rw [List.all_map]
        exact List.all_eq_true.mpr fun _ _ => rfl
      · have := qQ H5 s5
        rw [← inV_nums] at this
        exact this
end
end Sm

set_option Elab.async false
set_option linter.all false
set_option maxRecDepth 100000
set_option maxHeartbeats 8000000
namespace Sm
open PySem PySem.Spec PyProof.Rows L2 TL Tx
abbrev sWl : Stmt := topS 28
abbrev scWlN : List Str := ["text", "lines", "head", "size", "count", "pairs", "at", "k", "parts", "pair", "here"]
theorem numB_iff {w : Cs} {k : Nat} (hk : k ≤ 5000) : numB w k = true ↔ ∃ u, numO w = some u ∧ u < k := by
  unfold numB
  rw [decide_eq_true_eq]
  cases k with
  | zero =>
    constructor
    · intro h; simp at h
    · rintro ⟨u, _, h⟩; omega
  | succ k =>
    rw [mem_nums (by omega)]
    constructor
    · rintro ⟨u, h, hu⟩; exact ⟨u, h, by omega⟩
    · rintro ⟨u, h, hu⟩; exact ⟨u, h, by omega⟩
theorem numB_no {w : Cs} {k : Nat} (hk : k ≤ 5000) (h : numB w k = false) : ∀ u, numO w = some u → ¬ u < k := fun u hu lt => by
  have := (numB_iff hk).mpr ⟨u, hu, lt⟩
  rw [this] at h
  cases h
theorem int_of {w : Str} {n : Nat} (h : numO (tl w) = some n) : PySem.intText? w = some (n : Int) ∧ w.length ≤ 640 := by
  obtain ⟨e, lt⟩ := numO_some h
  have l4 : (tl w).length ≤ 4 := by rw [e]; exact numL_len (by decide) (by omega)
  have lw := len_tl w
  have ne : tl w ≠ [] := by rw [e]; exact numL_ne n
  have it := PySem.intText_digits (x := w) (fun c hc => by have hc : c ∈ tl w := hc; rw [e] at hc; exact numL_digits n c hc) ne (by omega)
  have v : NumText.digitsVal (tl w) = n := by rw [e]; exact numL_val n
  rw [v] at it
  exact ⟨it, by omega⟩
/-- the first line, as the law looks at it -/
theorem head_no {l0 : Cs} {r : List Cs} (h : (cutAt 32 l0).length ≠ 3 ∨ (cutAt 32 l0)[0]? ≠ some graphC ∨ r = []) : firstL (l0 :: r).dropLast = none := by
  cases r with
  | nil => rfl
  | cons a r =>
    rw [firstL_of]
    show firstW (cutAt 32 l0) = none
    rcases h with h | h | h
    · exact firstW_no h
    · generalize cutAt 32 l0 = W at h
      by_cases c : W.length = 3
      · obtain ⟨x, b, d, rfl⟩ : ∃ a b c, W = [a, b, c] := by
          match W, c with
          | [a, b, c], _ => exact ⟨a, b, c, rfl⟩
        exact if_neg fun z => h (by rw [z]; rfl)
      · exact firstW_no c
    · cases h
def headW (b c : Cs) : Option (Nat × Nat) := match numO b, numO c with
  | some n, some m => if n ≤ 60 ∧ m ≤ n * (n - 1) / 2 then some (n, m) else none
  | _, _ => none
theorem head_ok {l0 b c : Cs} {r : List Cs} (h : cutAt 32 l0 = [graphC, b, c]) (hr : r ≠ []) : firstL (l0 :: r).dropLast = headW b c := by
  cases r with
  | nil => exact (hr rfl).elim
  | cons a r =>
    rw [firstL_of]
    show firstW (cutAt 32 l0) = headW b c
    rw [h]
    show (if graphC = graphC then _ else none) = _
    exact if_pos rfl
theorem headW_no1 {b c : Cs} (h : numB b 61 = false) : headW b c = none := by
  unfold headW
  cases hb : numO b with
  | none => rfl
  | some n =>
    have := numB_no (by decide) h n hb
    cases hc : numO c with
    | none => rfl
    | some m => exact if_neg fun z => this (by omega)
theorem headW_no2 {b c : Cs} {n : Nat} (hb : numO b = some n) (h60 : n ≤ 60) (h : numB c ((pairsL n).length + 1) = false) : headW b c = none := by
  unfold headW
  rw [hb]
  have pl := pairs_len n
  have up : n * (n - 1) ≤ 60 * 60 := Nat.mul_le_mul h60 (by omega)
  cases hc : numO c with
  | none => rfl
  | some m =>
    have := numB_no (by omega) h m hc
    exact if_neg fun z => this (by omega)
theorem headW_ok {b c : Cs} {n m : Nat} (hb : numO b = some n) (h60 : n ≤ 60) (hc : numO c = some m) (hm : m < (pairsL n).length + 1) : headW b c = some (n, m) := by
  unfold headW
  rw [hb, hc]
  have pl := pairs_len n
  exact if_pos ⟨h60, by omega⟩
theorem pairs_iff {n u v : Nat} : (((u : Nat) : Int), ((v : Nat) : Int)) ∈ pairsL n ↔ u < v ∧ v < n := by
  constructor
  · intro h
    have := mem_pairs h
    unfold Okp at this
    simp only at this
    omega
  · rintro ⟨h1, h2⟩
    exact List.mem_of_getElem? (idx_get h1 h2)
theorem idx_first {n u v : Nat} (h1 : u < v) (h2 : v < n) : ∀ (m : Nat) (z : PyData), m < idxF n u v → ((pairsL n).map pD)[m]? = some z → PyData.eqv z (pD (((u : Nat) : Int), ((v : Nat) : Int))) = false := by
  intro m z hm hz
  rw [List.getElem?_map] at hz
  cases e : (pairsL n)[m]? with
  | none => rw [e] at hz; cases hz
  | some q =>
    rw [e] at hz
    cases hz
    rw [pD_eqv]
    refine decide_eq_false fun z => ?_
    subst z
    have g := idx_get h1 h2
    have pw := pairsL_lt n
    obtain ⟨l1, e1⟩ := List.getElem?_eq_some_iff.mp e
    obtain ⟨l2, e2⟩ := List.getElem?_eq_some_iff.mp g
    have := List.pairwise_iff_getElem.mp pw m _ l1 l2 hm
    rw [e1, e2] at this
    exact absurd (SrtO.lexB_iff.mp this) (by omega)
theorem edgeOf2 (n : Nat) (a b : Cs) : edgeOf n [a, b] = match numO a, numO b with
    | some u, some v => if u < v ∧ v < n then some (u, v) else none
    | _, _ => none := rfl
theorem edgeOf_l {n : Nat} {a b : Cs} (hn : n ≤ 60) (h : numB a n = false) : edgeOf n [a, b] = none := by
  rw [edgeOf2]
  cases ha : numO a with
  | none => rfl
  | some u =>
    have := numB_no (by omega) h u ha
    cases hb : numO b with
    | none => rfl
    | some v => exact if_neg fun z => this (by omega)
theorem edgeOf_r {n : Nat} {a b : Cs} (hn : n ≤ 60) (h : numB b n = false) : edgeOf n [a, b] = none := by
  rw [edgeOf2]
  cases ha : numO a with
  | none => rfl
  | some u =>
    cases hb : numO b with
    | none => rfl
    | some v =>
      have := numB_no (by omega) h v hb
      exact if_neg fun z => this z.2
theorem edgeOf_p {n u v : Nat} {a b : Cs} (ha : numO a = some u) (hb : numO b = some v) : edgeOf n [a, b] = if u < v ∧ v < n then some (u, v) else none := by
  rw [edgeOf2, ha, hb]
def spWl : Sp := fun vs H Q _ => ∃ T : Str, vs = [.str T] ∧ T.length ≤ 100000 ∧ ∀ H', Same H H' → Q (.int ((lawF (cutAt 10 (tl T)) : Nat) : Int)) H'
section
variable {P : Program} {w : World} {K : PySem.W.Frag} {mg : Str → Option Value} {base : Heap}
theorem scWl : FnScope scWlN ["text"] (defScope sWl) := ⟨rfl, rfl, rfl, by decide +kernel, rfl, by decide +kernel, by decide +kernel⟩
theorem ok_wl {f fN fP : Addr} {fd fdN fdP : FuncData} (F : Fun K "_law_wrong_line" "_law_wrong_line" sWl f fd) (ml : mg "len" = none) (mr : mg "range" = none) (mi : mg "int" = none)
    (GN : FnOk P w K mg base CX0 1 fN fdN ["text", "most"] spLn) (kN : PySem.W.keepIn K (.ref fN) = true) (bN : Binds K fdN ["text", "most"] []) (gN : mg "_law_number" = some (.ref fN))
    (GP : FnOk P w K mg base CX0 1 fP fdP ["size"] (spPrs K)) (kP : PySem.W.keepIn K (.ref fP) = true) (bP : Binds K fdP ["size"] []) (gP : mg "_law_pairs" = some (.ref fP)) :
    FnOk P w K mg base CX0 2 f fd ["text"] spWl := by
  refine F.ok scWl (fun vs H Q E h => ?_) (fun cdv A outer s H vs Q E hr h => ?_)
  · obtain ⟨T, rfl, _⟩ := h
    rfl
  · obtain ⟨T, rfl, hT, qQ⟩ := h
    have hu65 := u65 hr
    refine ⟨_, (C8.pss_cut (ps_set (i := 1) scWl.nd rfl (.inl rfl) (pe_split (pv 0) pe_str))
      (C8.pss_cut (ps_set (i := 2) scWl.nd rfl (.inl rfl) (pe_split (pe_ix ix_list (pv 1) pe_int (fun _ _ => rfl)) pe_str))
      (C8.pss_cut (ps_if (PW.pt (pw_or (pt_cmpR op_ne (pe_callB call_len_seq (by rfl) ml PySem.boot_len (pa_cons (pv 2) pa_nil)) pe_int (nomark _)) (pw_or (pt_cmpR op_ne (pe_ix ix_list (pv 2) pe_int (fun _ _ => rfl)) pe_str (nomark _)) (pw_or (pt_cmpR op_eq (pe_callB call_len_seq (by rfl) ml PySem.boot_len (pa_cons (pv 1) pa_nil)) pe_int (nomark _)) (pw_or1 (pt_not (pt_val (pe_call GN hr (by rfl) gN kN bN .nil pass0 (pa_cons (pe_ix ix_list (pv 2) pe_int (fun _ _ => rfl)) (pa_cons pe_int pa_nil)))))))))) (pss_one (ps_ret pe_int)) pss_nil)
      (pss_cons (ps_set (i := 3) scWl.nd rfl (.inl rfl) (pe_callTy call_int_str (by rfl) mi (by decide +kernel) (pa_cons (pe_ix ix_list (pv 2) pe_int (fun _ _ => rfl)) pa_nil)))
      (C8.pss_cut (ps_if (pt_not (pt_val (pe_call GN hr (by rfl) gN kN bN .nil pass0 (pa_cons (pe_ix ix_list (pv 2) pe_int (fun _ _ => rfl)) (pa_cons (pe_callB call_len_seq (by rfl) ml PySem.boot_len (pa_cons (pe_call GP hr (by rfl) gP kP bP .nil pass0 (pa_cons (pv 3) pa_nil)) pa_nil)) pa_nil))))) (pss_one (ps_ret pe_int)) pss_nil)
      (pss_cons (ps_set (i := 4) scWl.nd rfl (.inl rfl) (pe_callTy call_int_str (by rfl) mi (by decide +kernel) (pa_cons (pe_ix ix_list (pv 2) pe_int (fun _ _ => rfl)) pa_nil)))
      (pss_cons (ps_set (i := 5) scWl.nd rfl (.inl rfl) (pe_call GP hr (by rfl) gP kP bP .nil pass0 (pa_cons (pv 3) pa_nil)))
      (C8.pss_cut (ps_set (i := 6) scWl.nd rfl (.inl rfl) (pe_un un_neg pe_int))
      (C8.pss_cut (ps_for PassesOwn.never rfl (pi_range1 (by rfl) mr (pa_cons (pv 4) pa_nil)) (pg_name (i := 7) scWl.nd rfl (.inl rfl)) (pss_cons (ps_if (pt_cmpR op_ge (pe_op op_add (pv 7) pe_int) (pe_callB call_len_seq (by rfl) ml PySem.boot_len (pa_cons (pv 1) pa_nil)) (nomark _)) (pss_one (ps_ret (pe_op op_add (pv 7) pe_int))) pss_nil)
      (C8.pss_cut (ps_set (i := 8) scWl.nd rfl (.inl rfl) (pe_split (pe_ix ix_list (pv 1) (pe_op op_add (pv 7) pe_int) (fun _ _ => rfl)) pe_str))
      (C8.pss_cut (ps_if (PW.pt (pw_or (pt_cmpR op_ne (pe_callB call_len_seq (by rfl) ml PySem.boot_len (pa_cons (pv 8) pa_nil)) pe_int (nomark _)) (pw_or (pt_not (pt_val (pe_call GN hr (by rfl) gN kN bN .nil pass0 (pa_cons (pe_ix ix_list (pv 8) pe_int (fun _ _ => rfl)) (pa_cons (pe_op op_sub (pv 3) pe_int) pa_nil))))) (pw_or1 (pt_not (pt_val (pe_call GN hr (by rfl) gN kN bN .nil pass0 (pa_cons (pe_ix ix_list (pv 8) pe_int (fun _ _ => rfl)) (pa_cons (pe_op op_sub (pv 3) pe_int) pa_nil))))))))) (pss_one (ps_ret (pe_op op_add (pv 7) pe_int))) pss_nil)
      (C8.pss_cut (ps_set (i := 9) scWl.nd rfl (.inl rfl) (pe_tup (pa_cons (pe_callTy call_int_str (by rfl) mi (by decide +kernel) (pa_cons (pe_ix ix_list (pv 8) pe_int (fun _ _ => rfl)) pa_nil)) (pa_cons (pe_callTy call_int_str (by rfl) mi (by decide +kernel) (pa_cons (pe_ix ix_list (pv 8) pe_int (fun _ _ => rfl)) pa_nil)) pa_nil))))
      (pss_cons (ps_if (pt_cmpR (op_notInD hu65) (pv 9) (pv 5) (by rfl)) (pss_one (ps_ret (pe_op op_add (pv 7) pe_int))) pss_nil)
      (pss_cons (ps_set (i := 10) scWl.nd rfl (.inl rfl) (pe_bm PySem.F.plainAttrs_list PySem.F.slot_list_index PySem.F.type_list_index (mt_indexD hu65) (pv 5) (pa_cons (pv 9) pa_nil)))
      (pss_cons (ps_if (PW.pt (pw_or (pt_cmpR op_le (pv 10) (pv 6) (nomark _)) (pw_or1 (pt_cmpR op_lt (pe_op op_sub (pe_op op_sub (pe_callB call_len_seq (by rfl) ml PySem.boot_len (pa_cons (pv 5) pa_nil)) pe_int) (pv 10)) (pe_op op_sub (pe_op op_sub (pv 4) pe_int) (pv 7)) (nomark _))))) (pss_one (ps_ret (pe_op op_add (pv 7) pe_int))) pss_nil)
      (pss_one (ps_set (i := 6) scWl.nd rfl (.inl rfl) (pv 10)))))))))))
      (pss_cons (ps_if (PW.pt (pw_or (pt_cmpR op_ne (pe_callB call_len_seq (by rfl) ml PySem.boot_len (pa_cons (pv 1) pa_nil)) (pe_op op_add (pv 4) pe_int) (nomark _)) (pw_or1 (pt_cmpR op_ne (pe_ix ix_list (pv 1) (pe_op op_add (pv 4) pe_int) (fun _ _ => rfl)) pe_str (nomark _))))) (pss_one (ps_ret (pe_op op_add (pv 4) pe_int))) pss_nil)
      (pss_one (ps_ret pe_int)))))))))))), ?_⟩
    obtain ⟨ew, lw, lk⟩ := split_words (l := T) (sep := "\n") (s := 10) rfl (by decide) hT
    generalize hLe : cutAt 10 (tl T) = L at qQ ew
    have neL : L ≠ [] := by rw [← hLe]; exact cutAt_ne 10 _
    refine ⟨fun σ H1 => ∃ (lp : Addr) (Lp : List Str), σ = [some (V.str T), some (V.ref lp), none, none, none, none, none, none, none, none, none] ∧ Same H H1 ∧ H1 lp = some (.lst (Lp.map V.str)) ∧ Lp.map tl = L ∧ ∀ l ∈ Lp, l.length ≤ 100000, ?_, ?_⟩
    · refine ⟨_, rfl, ⟨_, rfl⟩, T, _, rfl, rfl, rfl, by rw [sizeLine_eq]; omega, fun p np => ?_⟩
      exact ⟨p, _, rfl, same_upd np, upd_same, ew, lw⟩
    rintro σ H1 ⟨lp, Lp, rfl, s1, hlp, eL, lLp⟩
    obtain ⟨l0, Lr, rfl⟩ : ∃ l0 Lr, Lp = l0 :: Lr := by
      cases Lp with
      | nil => rw [← eL] at neL; exact (neL rfl).elim
      | cons a r => exact ⟨a, r, rfl⟩
    have l0l := lLp l0 List.mem_cons_self
    obtain ⟨ew0, lw0, lk0⟩ := split_words (l := l0) (sep := " ") (s := 32) rfl (by decide) l0l
    refine ⟨fun σ H2 => ∃ (hp : Addr) (W : List Str), σ = [some (V.str T), some (V.ref lp), some (V.ref hp), none, none, none, none, none, none, none, none] ∧ Same H1 H2 ∧ H2 hp = some (.lst (W.map V.str)) ∧ W.map tl = cutAt 32 (tl l0) ∧ ∀ w ∈ W, w.length ≤ 100000, ?_, ?_⟩
    · refine ⟨_, rfl, lp, _, 0, .str l0, rfl, rfl, SqL.of hlp, at_nat rfl, ⟨_, rfl⟩, l0, _, rfl, rfl, rfl, by rw [sizeLine_eq]; omega, fun p np => ?_⟩
      exact ⟨p, _, rfl, same_upd np, upd_same, ew0, lw0⟩
    rintro σ H2 ⟨hp, W, rfl, s2, hhp, eW, lW⟩
    have s12 := s1.trans s2
    have hlp2 := s2 _ _ hlp
    have eL2 : L = tl l0 :: Lr.map tl := by rw [← eL]; rfl
    have bad : firstL L.dropLast = none → ∀ H', Same H2 H' → Q (.int 1) H' := fun hF H' s => by
      have z := qQ H' (s12.trans s)
      unfold lawF at z
      rw [hF] at z
      exact z
    rw [eL2] at bad
    refine ⟨fun σ H3 => ∃ b c : Str, W.map tl = [graphC, tl b, tl c] ∧ W = [W.getD 0 b, b, c] ∧ Lr ≠ [] ∧ numB (tl b) 61 = true ∧ Same H2 H3 ∧ σ = [some (V.str T), some (V.ref lp), some (V.ref hp), none, none, none, none, none, none, none, none], ?_, ?_⟩
    · refine ⟨_, rfl, hp, _, rfl, .inl (SqL.of hhp), rfl, _, rfl, ?_⟩
      rw [List.length_map]
      by_cases c : W.length = 3
      rotate_left
      · refine iteND (fun z => c (Int.ofNat.inj (V.int.inj z))) ?_
        refine iteT ?_
        exact bad (head_no (.inl (by rw [← eW, List.length_map]; exact c))) H2 (Same.refl H2)
      refine L2.iteNS (by rw [c]; rfl) ?_
      obtain ⟨g, b, c', rfl⟩ : ∃ g b c, W = [g, b, c] := by
        match W, c with
        | [g, b, c], _ => exact ⟨g, b, c, rfl⟩
      refine ⟨_, rfl, hp, _, 0, .str g, rfl, rfl, SqL.of hhp, at_nat rfl, rfl, _, rfl, ?_⟩
      have eg : tl ("graph" : Str) = graphC := rfl
      by_cases cg : tl g = graphC
      rotate_left
      · refine iteND (fun z => cg (by rw [V.str.inj z]; exact eg)) ?_
        refine iteT ?_
        refine bad (head_no (.inr (.inl ?_))) H2 (Same.refl H2)
        rw [← eW]
        exact fun z => cg (Option.some.inj z)
      have : g = ("graph" : Str) := tl_inj (cg.trans eg.symm)
      refine L2.iteNS (by rw [this]) ?_
      refine ⟨_, rfl, lp, _, rfl, .inl (SqL.of hlp2), rfl, _, rfl, ?_⟩
      by_cases cl : Lr = []
      · subst cl
        refine iteY rfl ?_
        refine iteT ?_
        exact bad (head_no (.inr (.inr rfl))) H2 (Same.refl H2)
      refine iteD (fun z => cl ?_) ?_
      · have z2 : (((l0 :: Lr).map V.str).length : Int) = 1 := V.int.inj z
        rw [List.length_map, List.length_cons] at z2
        exact List.length_eq_zero_iff.mp (by omega)
      refine ⟨_, rfl, hp, _, 1, .str b, rfl, rfl, SqL.of hhp, at_nat rfl, b, 61, rfl, by decide, fun H3 s3 => ?_⟩
      have cut0 : cutAt 32 (tl l0) = [graphC, tl b, tl c'] := by
        rw [← eW]
        show [tl g, tl b, tl c'] = _
        rw [cg]
      cases hb : numB (tl b) 61 with
      | false =>
        refine ⟨_, rfl, iteT ?_⟩
        refine bad ?_ H3 s3
        rw [head_ok cut0 (by simpa using cl)]
        exact headW_no1 hb
      | true =>
        refine ⟨_, rfl, iteF ?_⟩
        exact ⟨b, c', by show [tl g, tl b, tl c'] = _; rw [cg], rfl, cl, hb, s3, rfl⟩
    rintro σ H3 ⟨b, c, eW2, eW3, neR, hnb, s3, rfl⟩
    rw [eW2] at eW
    obtain ⟨n, hn, n61⟩ := (numB_iff (by decide)).mp hnb
    have n60 : n ≤ 60 := by omega
    have fL : firstL (tl l0 :: Lr.map tl).dropLast = headW (tl b) (tl c) := head_ok eW.symm (by simpa using neR)
    have g1 : (W.map V.str)[1]? = some (V.str b) := by rw [eW3]; rfl
    have g2 : (W.map V.str)[2]? = some (V.str c) := by rw [eW3]; rfl
    have hhp3 := s3 _ _ hhp
    have hlp3 := s3 _ _ hlp2
    obtain ⟨ib, lb⟩ := int_of hn
    have pl := pairs_len n
    have up : n * (n - 1) ≤ 60 * 60 := Nat.mul_le_mul n60 (by omega)
    refine ⟨_, rfl, hp, _, 1, .str b, rfl, rfl, SqL.of hhp3, at_nat g1, b, n, rfl, ib, lb, ?_⟩
    refine ⟨fun σ H4 => ∃ m : Nat, numO (tl c) = some m ∧ m < (pairsL n).length + 1 ∧ Same H3 H4 ∧ σ = [some (V.str T), some (V.ref lp), some (V.ref hp), some (.int (n : Nat)), none, none, none, none, none, none, none], ?_, ?_⟩
    · refine ⟨_, rfl, hp, _, 2, .str c, rfl, rfl, SqL.of hhp3, at_nat g2, _, rfl, n, rfl, n60, fun H4 pp as s4 npp hpp pa _ => ?_⟩
      have la := len_pairs pa
      refine ⟨pp, _, rfl, .inl (SqL.of hpp), c, (pairsL n).length + 1, ?_, by omega, fun H5 s5 => ?_⟩
      · rw [List.length_map, la]
        rw [show (((pairsL n).length + 1 : Nat) : Int) - 1 = (((pairsL n).length : Nat) : Int) by omega]
        rfl
      cases hc : numB (tl c) ((pairsL n).length + 1) with
      | false =>
        refine ⟨_, rfl, iteT ?_⟩
        refine bad ?_ H5 (s3.trans (s4.trans s5))
        rw [fL]
        exact headW_no2 hn n60 hc
      | true =>
        refine ⟨_, rfl, iteF ?_⟩
        obtain ⟨m, hm, lm⟩ := (numB_iff (by omega)).mp hc
        exact ⟨m, hm, lm, s4.trans s5, rfl⟩
    rintro σ H4 ⟨m, hm, lm, s4, rfl⟩
    obtain ⟨ic, lc⟩ := int_of hm
    have hhp4 := s4 _ _ hhp3
    have hlp4 := s4 _ _ hlp3
    have eF : lawF L = lawLoop n m L m 0 (-1) := by
      unfold lawF
      rw [eL2, fL, headW_ok hn n60 hm lm]
    refine ⟨_, rfl, hp, _, 2, .str c, rfl, rfl, SqL.of hhp4, at_nat g2, c, m, rfl, ic, lc, ?_⟩
    refine ⟨_, rfl, n, rfl, n60, fun H5 pp as s5 npp hpp pa _ => ?_⟩
    have la := len_pairs pa
    have s15 := ((s12.trans s3).trans s4).trans s5
    have hlp5 := s5 _ _ hlp4
    generalize hLp : l0 :: Lr = Lp at hlp5 lLp eL
    refine ⟨fun σ H6 => H6 = H5 ∧ σ = [some (V.str T), some (V.ref lp), some (V.ref hp), some (.int (n : Nat)), some (.int (m : Nat)), some (.ref pp), some (.int (-1)), none, none, none, none], ?_, ?_⟩
    · exact ⟨_, rfl, rfl, rfl⟩
    rintro σ H6 ⟨rfl, rfl⟩
    refine ⟨fun σ H7 => ∃ (a : Int) (y7 y8 y9 y10 : Option V), σ = [some (V.str T), some (V.ref lp), some (V.ref hp), some (.int (n : Nat)), some (.int (m : Nat)), some (.ref pp), some (.int a), y7, y8, y9, y10] ∧ Same H6 H7 ∧ lawF L = lawLoop n m L 0 m a, ?_, ?_⟩
    · refine ⟨_, rfl, m, rfl, by omega, by omega, ?_⟩
      rw [show ((m : Nat) : Int).toNat = m from rfl]
      refine for_range (lo := 0) (n := m) (fun k σ H7 => ∃ (a : Int) (y7 y8 y9 y10 : Option V), σ = [some (V.str T), some (V.ref lp), some (V.ref hp), some (.int (n : Nat)), some (.int (m : Nat)), some (.ref pp), some (.int a), y7, y8, y9, y10] ∧ Same H6 H7 ∧ lawF L = lawLoop n m L (m - k) k a) ⟨-1, none, none, none, none, rfl, Same.refl _, eF⟩ ?_ ?_
      rotate_left
      · rintro σ H7 ⟨a, y7, y8, y9, y10, rfl, s7, hLa⟩
        rw [Nat.sub_self] at hLa
        exact ⟨a, y7, y8, y9, y10, rfl, s7, hLa⟩
      rintro k σ H7 hk ⟨a, y7, y8, y9, y10, rfl, s7, hLa⟩
      obtain ⟨f', hf⟩ : ∃ f', m - k = f' + 1 := ⟨m - k - 1, by omega⟩
      have hf2 : m - (k + 1) = f' := by omega
      rw [hf] at hLa
      have hLa : lawF L = if L.length ≤ k + 2 then k + 2 else match edgeIn n (L.getD (k + 1) []) with
        | none => k + 2
        | some e => if ((idxF n e.1 e.2 : Nat) : Int) ≤ a ∨ (((pairsL n).length : Nat) : Int) - 1 - (idxF n e.1 e.2 : Nat) < (m : Int) - 1 - k then k + 2 else lawLoop n m L f' (k + 1) (idxF n e.1 e.2 : Nat) := hLa
      have s17 := s15.trans s7
      have hlp7 := s7 _ _ hlp5
      have retk : lawF L = k + 2 → ∀ H', Same H7 H' → Q (.int (0 + (k : Int) + 2)) H' := fun e H' s => by
        have z := qQ H' (s17.trans s)
        rw [e] at z
        rw [show (0 : Int) + (k : Int) + 2 = ((k + 2 : Nat) : Int) by omega]
        exact z
      have lL : L.length = Lp.length := by rw [← eL, List.length_map]
      refine ⟨_, rfl, _, _, rfl, rfl, _, rfl, lp, _, rfl, .inl (SqL.of hlp7), _, _, rfl, rfl, _, rfl, ?_⟩
      rw [List.length_map]
      refine ite2 (fun c1 => ?_) (fun c1 => ?_)
      · have c1 := of_decide_eq_true c1
        refine ⟨_, rfl, _, _, rfl, rfl, ?_⟩
        exact retk (by rw [hLa, if_pos (by omega)]) H7 (Same.refl _)
      have c1 : ¬ L.length ≤ k + 2 := fun z => c1 (decide_eq_true (by show (Lp.length : Int) ≤ 0 + (k : Int) + 2; omega))
      rw [if_neg c1] at hLa
      obtain ⟨lk', hlk⟩ : ∃ l, Lp[k + 1]? = some l := ⟨_, List.getElem?_eq_getElem (by omega)⟩
      have gk : L.getD (k + 1) [] = tl lk' := by
        rw [List.getD_eq_getElem?_getD, ← eL, List.getElem?_map, hlk]
        rfl
      rw [gk, edgeIn_of] at hLa
      have lkl := lLp lk' (List.mem_of_getElem? hlk)
      obtain ⟨ewk, lwk, _⟩ := split_words (l := lk') (sep := " ") (s := 32) rfl (by decide) lkl
      refine ⟨fun σ H8 => ∃ (sp : Addr) (W2 : List Str), σ = [some (V.str T), some (V.ref lp), some (V.ref hp), some (.int (n : Nat)), some (.int (m : Nat)), some (.ref pp), some (.int a), some (.int (0 + (k : Int))), some (V.ref sp), y9, y10] ∧ Same H7 H8 ∧ H8 sp = some (.lst (W2.map V.str)) ∧ W2.map tl = cutAt 32 (tl lk') ∧ ∀ w ∈ W2, w.length ≤ 100000, ?_, ?_⟩
      · refine ⟨_, rfl, _, rfl, _, _, rfl, rfl, lp, _, _, .str lk', rfl, rfl, SqL.of hlp7, by rw [show (0 : Int) + (k : Int) + 1 = ((k + 1 : Nat) : Int) by omega]; exact at_nat (by rw [List.getElem?_map, hlk]; rfl), ⟨_, rfl⟩, lk', _, rfl, rfl, rfl, by rw [sizeLine_eq]; omega, fun p np => ?_⟩
        exact ⟨p, _, rfl, same_upd np, upd_same, ewk, lwk⟩
      rintro σ H8 ⟨sp, W2, rfl, s8, hsp, eW2', lW2⟩
      rw [← eW2'] at hLa
      refine ⟨fun σ H9 => ∃ b c : Str, W2 = [b, c] ∧ numB (tl b) n = true ∧ numB (tl c) n = true ∧ Same H8 H9 ∧ σ = [some (V.str T), some (V.ref lp), some (V.ref hp), some (.int (n : Nat)), some (.int (m : Nat)), some (.ref pp), some (.int a), some (.int (0 + (k : Int))), some (V.ref sp), y9, y10], ?_, ?_⟩
      · refine ⟨_, rfl, sp, _, rfl, .inl (SqL.of hsp), rfl, _, rfl, ?_⟩
        rw [List.length_map]
        by_cases c2 : W2.length = 2
        rotate_left
        · refine iteND (fun z => c2 (Int.ofNat.inj (V.int.inj z))) ?_
          refine iteT ?_
          refine ⟨_, rfl, _, _, rfl, rfl, ?_⟩
          refine retk ?_ H8 s8
          rw [hLa, edgeOf_no (by rw [List.length_map]; exact c2)]
        refine L2.iteNS (by rw [c2]; rfl) ?_
        obtain ⟨b, c, rfl⟩ : ∃ b c, W2 = [b, c] := by
          match W2, c2 with
          | [b, c], _ => exact ⟨b, c, rfl⟩
        refine ⟨_, rfl, sp, _, 0, .str b, rfl, rfl, SqL.of hsp, at_nat rfl, _, rfl, _, _, rfl, rfl, b, n, rfl, by omega, fun H9 s9 => ?_⟩
        cases hb : numB (tl b) n with
        | false =>
          refine ⟨_, rfl, iteT (iteT ?_)⟩
          refine ⟨_, rfl, _, _, rfl, rfl, ?_⟩
          refine retk ?_ H9 (s8.trans s9)
          rw [hLa, show List.map tl [b, c] = [tl b, tl c] from rfl, edgeOf_l n60 hb]
        | true =>
        refine ⟨_, rfl, iteF ?_⟩
        refine ⟨_, rfl, sp, _, 1, .str c, rfl, rfl, SqL.of (s9 _ _ hsp), at_nat rfl, _, rfl, _, _, rfl, rfl, c, n, rfl, by omega, fun H10 s10 => ?_⟩
        cases hc : numB (tl c) n with
        | false =>
          refine ⟨_, rfl, iteT ?_⟩
          refine ⟨_, rfl, _, _, rfl, rfl, ?_⟩
          refine retk ?_ H10 (s8.trans (s9.trans s10))
          rw [hLa, show List.map tl [b, c] = [tl b, tl c] from rfl, edgeOf_r n60 hc]
        | true =>
        refine ⟨_, rfl, iteF ?_⟩
        exact ⟨b, c, rfl, hb, hc, s9.trans s10, rfl⟩
      rintro σ H9 ⟨b, c, rfl, hb, hc, s9, rfl⟩
      obtain ⟨u, hu, un⟩ := (numB_iff (by omega)).mp hb
      obtain ⟨v, hv, vn⟩ := (numB_iff (by omega)).mp hc
      obtain ⟨iu, lu⟩ := int_of hu
      obtain ⟨iv, lv⟩ := int_of hv
      rw [show List.map tl [b, c] = [tl b, tl c] from rfl, edgeOf_p hu hv] at hLa
      have hsp9 := s9 _ _ hsp
      have s79 := s8.trans s9
      refine ⟨fun σ H10 => ∃ e : Addr, σ = [some (V.str T), some (V.ref lp), some (V.ref hp), some (.int (n : Nat)), some (.int (m : Nat)), some (.ref pp), some (.int a), some (.int (0 + (k : Int))), some (V.ref sp), some (.ref e), y10] ∧ Same H7 H10 ∧ SqT K H10 e [.int (u : Nat), .int (v : Nat)], ?_, ?_⟩
      · refine ⟨_, rfl, sp, _, 0, .str b, rfl, rfl, SqL.of hsp9, at_nat rfl, b, u, rfl, iu, lu, _, rfl, sp, _, 1, .str c, rfl, rfl, SqL.of hsp9, at_nat rfl, c, v, rfl, iv, lv, few_sz' (by simp), fun e ne => ?_⟩
        exact ⟨e, rfl, s79.trans (same_upd ne), SqT.of upd_same⟩
      rintro σ H10 ⟨e, rfl, s10, he⟩
      have s610 := s7.trans s10
      have hpp10 := s610 _ _ hpp
      have pa10 := pa.same s610
      have dpe := dp_pair he
      have dpl : Dp K H10 (.ref pp) (.list ((pairsL n).map pD)) := .lst (SqL.of hpp10) (dp_pairs pa10)
      refine ⟨_, rfl, _, rfl, _, _, dpe, dpl, pD_shaped _, pDs_shapedL _, _, rfl, ?_⟩
      rw [pDs_any]
      by_cases c3 : u < v ∧ v < n
      rotate_left
      · rw [decide_eq_false (fun z => c3 (pairs_iff.mp z))]
        refine iteT ?_
        refine ⟨_, rfl, _, _, rfl, rfl, ?_⟩
        refine retk ?_ H10 s10
        rw [hLa, if_neg c3]
      rw [decide_eq_true (pairs_iff.mpr c3)]
      refine iteF ?_
      rw [if_pos c3] at hLa
      have hLa : lawF L = if ((idxF n u v : Nat) : Int) ≤ a ∨ (((pairsL n).length : Nat) : Int) - 1 - (idxF n u v : Nat) < (m : Int) - 1 - k then k + 2 else lawLoop n m L f' (k + 1) (idxF n u v : Nat) := hLa
      have gi : ((pairsL n).map pD)[idxF n u v]? = some (pD ((u : Int), (v : Int))) := by rw [List.getElem?_map, idx_get c3.1 c3.2]; rfl
      refine ⟨_, rfl, .inl ⟨rfl, _, SqL.of hpp10⟩, _, rfl, pp, _, _, _, idxF n u v, _, rfl, rfl, dpl, dpe, pDs_shapedL _, pD_shaped _, gi, by rw [pD_eqv]; exact decide_eq_true rfl, idx_first c3.1 c3.2, ?_⟩
      refine ⟨_, rfl, _, rfl, _, _, rfl, rfl, _, rfl, ?_⟩
      refine ite2 (fun c4 => ?_) (fun c4 => ?_)
      · have c4 := of_decide_eq_true c4
        refine iteT ?_
        refine ⟨_, rfl, _, _, rfl, rfl, ?_⟩
        exact retk (by rw [hLa, if_pos (.inl c4)]) H10 s10
      refine ⟨_, rfl, pp, _, rfl, .inl (SqL.of hpp10), _, _, rfl, rfl, _, rfl, _, _, rfl, rfl, _, rfl, _, _, rfl, rfl, _, rfl, _, _, rfl, rfl, _, _, rfl, rfl, _, rfl, ?_⟩
      rw [List.length_map, la]
      refine ite2 (fun c5 => ?_) (fun c5 => ?_)
      · have c5 := of_decide_eq_true c5
        refine ⟨_, rfl, _, _, rfl, rfl, ?_⟩
        exact retk (by rw [hLa, if_pos (.inr (by omega))]) H10 s10
      have c4 : ¬ ((idxF n u v : Nat) : Int) ≤ a := fun z => c4 (decide_eq_true z)
      have c5 : ¬ (((pairsL n).length : Nat) : Int) - 1 - (idxF n u v : Nat) < (m : Int) - 1 - k := fun z => c5 (decide_eq_true (by omega))
      refine ⟨_, rfl, ?_⟩
      refine ⟨_, _, _, _, _, rfl, s610, ?_⟩
      rw [hLa, if_neg (fun z => z.elim c4 c5), hf2]
    rintro σ H7 ⟨a, y7, y8, y9, y10, rfl, s7, hLa⟩
    have hlp7 := s7 _ _ hlp5
    have hLa : lawF L = if L.length ≠ m + 2 ∨ L[m + 1]? ≠ some [] then m + 2 else 0 := hLa
    have lL : L.length = Lp.length := by rw [← eL, List.length_map]
    have qF := qQ H7 (s15.trans s7)
    refine ⟨_, rfl, lp, _, rfl, .inl (SqL.of hlp7), _, rfl, _, _, rfl, rfl, rfl, _, rfl, ?_⟩
    rw [List.length_map]
    by_cases c1 : L.length = m + 2
    rotate_left
    · refine iteND (fun z => c1 ?_) ?_
      · have := V.int.inj z
        omega
      refine iteT ?_
      rw [hLa, if_pos (.inl c1)] at qF
      exact ⟨_, rfl, _, _, rfl, rfl, qF⟩
    refine L2.iteNS (congrArg V.int (by omega)) ?_
    obtain ⟨le, hle⟩ : ∃ l, Lp[m + 1]? = some l := ⟨_, List.getElem?_eq_getElem (by omega)⟩
    have gl : L[m + 1]? = some (tl le) := by rw [← eL, List.getElem?_map, hle]; rfl
    refine ⟨_, rfl, _, rfl, _, _, rfl, rfl, lp, _, _, .str le, rfl, rfl, SqL.of hlp7, at_nat (by rw [List.getElem?_map, hle]; rfl), rfl, _, rfl, ?_⟩
    by_cases c2 : tl le = []
    · have : le = ("" : Str) := tl_inj (c2.trans rfl)
      refine L2.iteNS (by rw [this]) ?_
      rw [hLa, if_neg (fun z => z.elim (fun z => z c1) fun z => z (by rw [gl, c2]))] at qF
      exact qF
    · refine iteND (fun z => c2 (by rw [V.str.inj z]; rfl)) ?_
      rw [hLa, if_pos (.inr (fun z => c2 (by rw [gl] at z; exact Option.some.inj z)))] at qF
      exact ⟨_, rfl, _, _, rfl, rfl, qF⟩
end
end Sm

set_option Elab.async false
set_option linter.all false
set_option maxRecDepth 100000
namespace Sm
open PySem PySem.Spec PyProof.Rows L2 TL Tx
theorem cut_count (s : Nat) : ∀ l : Cs, (cutAt s l).length = l.count s + 1
  | [] => rfl
  | c :: r => by
    have ih := cut_count s r
    show (if c = s then [] :: cutAt s r else match cutAt s r with | [] => [[c]] | p :: ps => (c :: p) :: ps).length = _
    by_cases e : c = s
    · rw [if_pos e, List.length_cons, ih, e, List.count_cons_self]
    · rw [if_neg e, List.count_cons_of_ne e]
      cases e2 : cutAt s r with
      | nil => exact (cutAt_ne s r e2).elim
      | cons q qs =>
        rw [e2] at ih
        exact ih
/-- not much more than it was -/
def Near (T T' : Cs) : Prop := T'.length ≤ 2 * T.length + 2 ∧ (cutAt 10 T').length ≤ (cutAt 10 T).length + 1
theorem near_refl (T : Cs) : Near T T := ⟨by omega, by omega⟩
theorem near_of {T T' : Cs} (h1 : T'.length ≤ 2 * T.length + 2) (h2 : T'.count 10 ≤ T.count 10 + 1) : Near T T' := ⟨h1, by rw [cut_count, cut_count]; omega⟩
theorem tl_cut_to (z : Str) (k : Nat) : tl (cutS z none (some (k : Int))) = (tl z).take k := by
  unfold cutS
  rw [HT.sIx_none, HT.sIx_nat, List.drop_zero, Nat.sub_zero]
  show (z.cps.toList.take (min k z.length)) = z.cps.toList.take k
  by_cases h : k ≤ z.length
  · rw [Nat.min_eq_left h]
  · have : z.cps.toList.length = z.length := Array.length_toList
    rw [Nat.min_eq_right (by omega), List.take_of_length_le (by omega), List.take_of_length_le (by omega)]
theorem tl_cut_from (z : Str) (k : Nat) : tl (cutS z (some (k : Int)) none) = (tl z).drop k := by
  unfold cutS
  rw [HT.sIx_none, HT.sIx_nat]
  have e : z.cps.toList.length = z.length := Array.length_toList
  show ((z.cps.toList.drop (min k z.length)).take (z.length - min k z.length)) = z.cps.toList.drop k
  rw [List.take_of_length_le (by rw [List.length_drop]; omega)]
  by_cases h : k ≤ z.length
  · rw [Nat.min_eq_left h]
  · rw [Nat.min_eq_right (by omega), List.drop_of_length_le (by omega), List.drop_of_length_le (by omega)]
theorem count_split (l : Cs) (k : Nat) : (l.take k).count 10 + (l.drop k).count 10 = l.count 10 := by
  rw [← List.count_append, List.take_append_drop]
theorem drop_count (l : Cs) (k : Nat) : (l.drop (k + 1)).count 10 ≤ (l.drop k).count 10 := by
  have : l.drop (k + 1) = (l.drop k).drop 1 := by rw [List.drop_drop]
  rw [this]
  exact (List.drop_sublist 1 _).count_le _
theorem near0 (l : Cs) (k : Nat) : Near l (l.take k ++ l.drop (k + 1)) := by
  have h := count_split l k
  have d := drop_count l k
  refine near_of (by rw [List.length_append, List.length_take, List.length_drop]; omega) (by rw [List.count_append]; omega)
theorem near1 (l : Cs) (k c : Nat) : Near l ((l.take k ++ [c]) ++ l.drop k) := by
  have h := count_split l k
  have e : [c].count 10 ≤ 1 := List.count_le_length
  refine near_of (by simp; omega) (by rw [List.count_append, List.count_append]; omega)
theorem near2 (l : Cs) (k c : Nat) : Near l ((l.take k ++ [c]) ++ l.drop (k + 1)) := by
  have h := count_split l k
  have d := drop_count l k
  have e : [c].count 10 ≤ 1 := List.count_le_length
  refine near_of (by simp; omega) (by rw [List.count_append, List.count_append]; omega)
theorem near3 (l : Cs) (k : Nat) : Near l (l.take k) := by
  have h := count_split l k
  refine near_of (by rw [List.length_take]; omega) (by omega)
/-! lines put together -/
def lens (ps : List Cs) : Nat := (ps.map List.length).sum
theorem join_len (s : Nat) : ∀ ps : List Cs, (joinL [s] ps).length ≤ lens ps + ps.length
  | [] => Nat.le_refl _
  | [a] => by show a.length ≤ (a.length + 0) + 1; omega
  | a :: b :: r => by
    have ih := join_len s (b :: r)
    show (a ++ ([s] ++ joinL [s] (b :: r))).length ≤ (a.length + lens (b :: r)) + ((b :: r).length + 1)
    rw [List.length_append, List.length_append, List.length_singleton]
    omega
theorem join_len2 (s : Nat) : ∀ ps : List Cs, lens ps + ps.length ≤ (joinL [s] ps).length + 1
  | [] => Nat.zero_le _
  | [a] => by show (a.length + 0) + 1 ≤ a.length + 1; omega
  | a :: b :: r => by
    have ih := join_len2 s (b :: r)
    show (a.length + lens (b :: r)) + ((b :: r).length + 1) ≤ (a ++ ([s] ++ joinL [s] (b :: r))).length + 1
    rw [List.length_append, List.length_append, List.length_singleton]
    omega
theorem join_cnt (s : Nat) : ∀ ps : List Cs, (∀ p ∈ ps, s ∉ p) → (joinL [s] ps).count s + 1 ≤ ps.length + 1
  | [], _ => Nat.le_refl _
  | [a], h => by
    have := List.count_eq_zero.mpr (h a List.mem_cons_self)
    show a.count s + 1 ≤ 2
    omega
  | a :: b :: r, h => by
    have ih := join_cnt s (b :: r) fun p hp => h p (List.mem_cons_of_mem _ hp)
    have := List.count_eq_zero.mpr (h a List.mem_cons_self)
    show (a ++ ([s] ++ joinL [s] (b :: r))).count s + 1 ≤ (b :: r).length + 1 + 1
    rw [List.count_append, List.count_append, List.count_singleton_self]
    omega
theorem join_cnt2 (s : Nat) : ∀ (a : Cs) (r : List Cs), (∀ p ∈ a :: r, s ∉ p) → (joinL [s] (a :: r)).count s ≤ r.length
  | a, [], h => by
    have := List.count_eq_zero.mpr (h a List.mem_cons_self)
    show a.count s ≤ 0
    omega
  | a, b :: r, h => by
    have ih := join_cnt2 s b r fun p hp => h p (List.mem_cons_of_mem _ hp)
    have := List.count_eq_zero.mpr (h a List.mem_cons_self)
    show (a ++ ([s] ++ joinL [s] (b :: r))).count s ≤ r.length + 1
    rw [List.count_append, List.count_append, List.count_singleton_self]
    omega
/-- the lines of the new text are lines of the old one, one more at most -/
theorem near_join {T : Cs} {ps : List Cs} (h1 : ∀ p ∈ ps, p ∈ cutAt 10 T) (h2 : ps.length ≤ (cutAt 10 T).length + 1) (h3 : lens ps ≤ lens (cutAt 10 T) + T.length) : Near T (joinL [10] ps) := by
  have j1 := join_len 10 ps
  have j2 := join_len2 10 (cutAt 10 T)
  rw [join_cutAt] at j2
  have c1 := cut_count 10 T
  refine near_of (by omega) ?_
  have fr : ∀ p ∈ ps, 10 ∉ p := fun p hp => cutAt_free 10 T p (h1 p hp)
  cases ps with
  | nil => exact Nat.zero_le _
  | cons a r =>
    have := join_cnt2 10 a r fr
    rw [List.length_cons] at h2
    omega
theorem lens_app (a b : List Cs) : lens (a ++ b) = lens a + lens b := by unfold lens; rw [List.map_append, List.sum_append]
theorem lens_one (a : Cs) : lens [a] = a.length := by show a.length + 0 = _; omega
theorem lens_cons (a : Cs) (r : List Cs) : lens (a :: r) = a.length + lens r := rfl
theorem near4 {T : Cs} {A B : List Cs} {x : Cs} (h : cutAt 10 T = A ++ x :: B) : Near T (joinL [10] (A ++ B)) := by
  refine near_join ?_ ?_ ?_
  · intro p hp
    rw [h]
    rcases List.mem_append.mp hp with z | z
    · exact List.mem_append_left _ z
    · exact List.mem_append_right _ (List.mem_cons_of_mem _ z)
  · rw [h, List.length_append, List.length_append, List.length_cons]; omega
  · rw [h, lens_app, lens_app, lens_cons]; omega
theorem near5 {T : Cs} {A B : List Cs} {x : Cs} (h : cutAt 10 T = A ++ x :: B) (hx : x.length ≤ T.length) : Near T (joinL [10] ((A ++ [x]) ++ (x :: B))) := by
  refine near_join ?_ ?_ ?_
  · intro p hp
    rw [h]
    rcases List.mem_append.mp hp with z | z
    · rcases List.mem_append.mp z with z | z
      · exact List.mem_append_left _ z
      · rw [List.mem_singleton.mp z]
        exact List.mem_append_right _ List.mem_cons_self
    · exact List.mem_append_right _ z
  · rw [h]; first | (simp; done) | (simp; omega)
  · rw [h, lens_app, lens_app, lens_app, lens_one, lens_cons]; omega
theorem near6 {T : Cs} {A B : List Cs} {x : Cs} (h : cutAt 10 T = A ++ x :: B) : Near T (joinL [10] ((A ++ B) ++ [x])) := by
  refine near_join ?_ ?_ ?_
  · intro p hp
    rw [h]
    rcases List.mem_append.mp hp with z | z
    · rcases List.mem_append.mp z with z | z
      · exact List.mem_append_left _ z
      · exact List.mem_append_right _ (List.mem_cons_of_mem _ z)
    · rw [List.mem_singleton.mp z]
      exact List.mem_append_right _ List.mem_cons_self
  · rw [h]; first | (simp; done) | (simp; omega)
  · rw [h, lens_app, lens_app, lens_app, lens_one, lens_cons]; omega
theorem cutV_to {α : Type} (g : α → V) (xs : List α) (k : Nat) : cutV (xs.map g) none (some (k : Int)) = (xs.take k).map g := by
  unfold cutV
  rw [HT.sIx_none, HT.sIx_nat, List.drop_zero, Nat.sub_zero, List.length_map, ← List.map_take]
  congr 1
  by_cases h : k ≤ xs.length
  · rw [Nat.min_eq_left h]
  · rw [Nat.min_eq_right (by omega), List.take_length, List.take_of_length_le (by omega)]
theorem cutV_from {α : Type} (g : α → V) (xs : List α) (k : Nat) : cutV (xs.map g) (some (k : Int)) none = (xs.drop k).map g := by
  unfold cutV
  rw [HT.sIx_none, HT.sIx_nat, List.length_map, ← List.map_drop, List.take_of_length_le (by rw [List.length_map, List.length_drop]; omega)]
  by_cases h : k ≤ xs.length
  · rw [Nat.min_eq_left h]
  · rw [Nat.min_eq_right (by omega), List.drop_of_length_le (by omega), List.drop_of_length_le (by omega)]
theorem sum_lens (ps : List Str) : (ps.map (·.length)).sum = lens (ps.map tl) := by
  unfold lens
  rw [List.map_map]
  exact congrArg List.sum (List.map_congr_left fun x _ => len_tl x)
theorem tl_joined (ps : List Str) : tl (Txt.join ("\n" : Str) ps) = joinL [10] (ps.map tl) := by
  show tl (Builtin.Str.glued ("\n" : Str) ps) = _
  rw [StrLaws.glued_eq_join, tl_join, show tl ("\n" : Str) = [10] from rfl]
end Sm

set_option Elab.async false
set_option linter.all false
set_option maxRecDepth 100000
set_option maxHeartbeats 8000000
namespace Sm
open PySem PySem.Spec PyProof.Rows L2 TL Tx
abbrev sSpl : Stmt := topS 29
abbrev scSplN : List Str := ["text", "number", "sign", "lines", "at", "line", "kind"]
theorem mod_nat (a m : Nat) (h : 0 < m) : ∃ i : Nat, (a : Int) / 8 % (m : Int) = (i : Int) ∧ i < m := by
  refine ⟨a / 8 % m, ?_, Nat.mod_lt _ h⟩
  rw [Int.natCast_emod, Int.natCast_ediv]
  rfl
theorem signs13 (i : Nat) (h : i < 13) : ∃ c, atI ("0123456 -\n7gx" : Str).cps.toList (i : Int) = some c := by
  have k : ∀ i : Fin 13, (atI ("0123456 -\n7gx" : Str).cps.toList (i.val : Int)).isSome = true := by decide +kernel
  exact Option.isSome_iff_exists.mp (k ⟨i, h⟩)
theorem atI_txt {T : Str} {i : Nat} (h : i < T.length) : ∃ c, atI T.cps.toList (i : Int) = some c := by
  have e : i < T.cps.toList.length := by rw [Array.length_toList]; exact h
  exact ⟨T.cps.toList[i], atI_nat (List.getElem?_eq_getElem e)⟩
def spSpl : Sp := fun vs H Q _ => ∃ (T : Str) (x y : Nat), vs = [.str T, .int x, .int y] ∧ T.length ≤ 20000 ∧ ∀ (H' : Hp) (T' : Str), Same H H' → Near (tl T) (tl T') → Q (.str T') H'
section
variable {P : Program} {w : World} {K : PySem.W.Frag} {mg : Str → Option Value} {base : Heap}
theorem scSpl : FnScope scSplN ["text", "number", "sign"] (defScope sSpl) := ⟨rfl, rfl, rfl, by decide +kernel, rfl, by decide +kernel, by decide +kernel⟩
theorem ok_spl {f : Addr} {fd : FuncData} (F : Fun K "_law_spoilt" "_law_spoilt" sSpl f fd) (ml : mg "len" = none) :
    FnOk P w K mg base CX0 1 f fd ["text", "number", "sign"] spSpl := by
  refine F.ok scSpl (fun vs H Q E h => ?_) (fun cdv A outer s H vs Q E hr h => ?_)
  · obtain ⟨T, x, y, rfl, _⟩ := h
    rfl
  · obtain ⟨T, x, y, rfl, hT, qQ⟩ := h
    refine ⟨_, (pss_cons (ps_if (pt_cmpR op_eq (pe_callB call_len_str (by rfl) ml PySem.boot_len (pa_cons (pv 0) pa_nil)) pe_int (nomark _)) (pss_one (ps_ret (pv 0))) pss_nil)
      (C8.pss_cut (ps_set (i := 3) scSpl.nd rfl (.inl rfl) (pe_split (pv 0) pe_str))
      (C8.pss_cut (ps_set (i := 4) scSpl.nd rfl (.inl rfl) (pe_op op_mod (pe_op op_fdiv (pv 1) pe_int) (pe_callB call_len_str (by rfl) ml PySem.boot_len (pa_cons (pv 0) pa_nil))))
      (C8.pss_cut (ps_set (i := 5) scSpl.nd rfl (.inl rfl) (pe_op op_mod (pe_op op_fdiv (pv 1) pe_int) (pe_callB call_len_seq (by rfl) ml PySem.boot_len (pa_cons (pv 3) pa_nil))))
      (C8.pss_cut (ps_set (i := 6) scSpl.nd rfl (.inl rfl) (pe_op op_mod (pv 1) pe_int))
      (C8.pss_cut (ps_if (pt_cmpR op_eq (pv 6) pe_int (nomark _)) (pss_one (ps_ret (pe_op op_add_str (pe_slice sl_str (pv 0) po_none (po_some (pv 4))) (pe_slice sl_str (pv 0) (po_some (pe_op op_add (pv 4) pe_int)) po_none)))) pss_nil)
      (C8.pss_cut (ps_if (pt_cmpR op_eq (pv 6) pe_int (nomark _)) (pss_one (ps_ret (pe_op op_add_str (pe_op op_add_str (pe_slice sl_str (pv 0) po_none (po_some (pv 4))) (pe_ix ix_str (pv 0) (pv 4) (fun _ _ => rfl))) (pe_slice sl_str (pv 0) (po_some (pv 4)) po_none)))) pss_nil)
      (C8.pss_cut (ps_if (pt_cmpR op_eq (pv 6) pe_int (nomark _)) (pss_one (ps_ret (pe_op op_add_str (pe_op op_add_str (pe_slice sl_str (pv 0) po_none (po_some (pv 4))) (pe_ix ix_str pe_str (pe_op op_mod (pv 2) pe_int) (fun _ _ => rfl))) (pe_slice sl_str (pv 0) (po_some (pe_op op_add (pv 4) pe_int)) po_none)))) pss_nil)
      (C8.pss_cut (ps_if (pt_cmpR op_eq (pv 6) pe_int (nomark _)) (pss_one (ps_ret (pe_slice sl_str (pv 0) po_none (po_some (pv 4))))) pss_nil)
      (C8.pss_cut (ps_if (pt_cmpR op_eq (pv 6) pe_int (nomark _)) (pss_one (ps_ret (pe_join pe_str (pe_op op_cat (pe_slice sl_list (pv 3) po_none (po_some (pv 5))) (pe_slice sl_list (pv 3) (po_some (pe_op op_add (pv 5) pe_int)) po_none))))) pss_nil)
      (C8.pss_cut (ps_if (pt_cmpR op_eq (pv 6) pe_int (nomark _)) (pss_one (ps_ret (pe_join pe_str (pe_op op_cat (pe_op op_cat (pe_slice sl_list (pv 3) po_none (po_some (pv 5))) (pe_lst (pa_cons (pe_ix ix_list (pv 3) (pv 5) (fun _ _ => rfl)) pa_nil))) (pe_slice sl_list (pv 3) (po_some (pv 5)) po_none))))) pss_nil)
      (C8.pss_cut (ps_if (pt_cmpR op_eq (pv 6) pe_int (nomark _)) (pss_one (ps_ret (pe_join pe_str (pe_op op_cat (pe_op op_cat (pe_slice sl_list (pv 3) po_none (po_some (pv 5))) (pe_slice sl_list (pv 3) (po_some (pe_op op_add (pv 5) pe_int)) po_none)) (pe_lst (pa_cons (pe_ix ix_list (pv 3) (pv 5) (fun _ _ => rfl)) pa_nil)))))) pss_nil)
      (pss_one (ps_ret (pv 0))))))))))))))), ?_⟩
    have sT : T.length ≤ sizeLine := by rw [sizeLine_eq]; omega
    have lt0 := len_tl T
    refine ⟨_, rfl, _, rfl, sT, rfl, _, rfl, ?_⟩
    refine ite2 (fun _ => ⟨_, rfl, qQ H T (Same.refl H) (near_refl _)⟩) (fun c0 => ?_)
    have pos : 0 < T.length := by
      rcases Nat.eq_zero_or_pos T.length with z | z
      · exact (c0 (decide_eq_true (by rw [z]; rfl))).elim
      · exact z
    obtain ⟨ew, lw, lk⟩ := split_words (l := T) (sep := "\n") (s := 10) rfl (by decide) (by omega)
    refine ⟨fun σ H1 => ∃ (lp : Addr) (Lp : List Str), σ = [some (V.str T), some (.int (x : Nat)), some (.int (y : Nat)), some (V.ref lp), none, none, none] ∧ Same H H1 ∧ H1 lp = some (.lst (Lp.map V.str)) ∧ Lp.map tl = cutAt 10 (tl T), ?_, ?_⟩
    · refine ⟨_, rfl, ⟨_, rfl⟩, T, _, rfl, rfl, rfl, by rw [sizeLine_eq]; omega, fun p np => ?_⟩
      exact ⟨p, _, rfl, same_upd np, upd_same, ew⟩
    rintro σ H1 ⟨lp, Lp, rfl, s1, hlp, eL⟩
    have neL : 0 < Lp.length := by
      have := cutAt_ne 10 (tl T)
      rw [← eL] at this
      cases Lp with
      | nil => exact (this rfl).elim
      | cons a r => exact Nat.zero_lt_succ _
    obtain ⟨i, ei, li⟩ := mod_nat x T.length pos
    obtain ⟨j, ej, lj⟩ := mod_nat x Lp.length neL
    refine ⟨fun σ H2 => H2 = H1 ∧ σ = [some (V.str T), some (.int (x : Nat)), some (.int (y : Nat)), some (V.ref lp), some (.int (i : Nat)), none, none], ?_, ?_⟩
    · refine ⟨_, rfl, _, _, rfl, rfl, ⟨by decide, by decide⟩, _, rfl, _, rfl, sT, _, _, rfl, rfl, (by omega), ?_⟩
      refine ⟨rfl, ?_⟩
      rw [← ei]
      rfl
    rintro σ H2 ⟨rfl, rfl⟩
    refine ⟨fun σ H2' => H2' = H2 ∧ σ = [some (V.str T), some (.int (x : Nat)), some (.int (y : Nat)), some (V.ref lp), some (.int (i : Nat)), some (.int (j : Nat)), none], ?_, ?_⟩
    · refine ⟨_, rfl, _, _, rfl, rfl, ⟨by decide, by decide⟩, _, rfl, lp, _, rfl, .inl (SqL.of hlp), _, _, rfl, rfl, (by rw [List.length_map]; omega), ?_⟩
      refine ⟨rfl, ?_⟩
      rw [← ej, List.length_map]
      rfl
    rintro σ H2' ⟨rfl, rfl⟩
    refine ⟨fun σ H3 => H3 = H2' ∧ ∃ k : Int, σ = [some (V.str T), some (.int (x : Nat)), some (.int (y : Nat)), some (V.ref lp), some (.int (i : Nat)), some (.int (j : Nat)), some (.int k)], ?_, ?_⟩
    · exact ⟨_, rfl, _, _, rfl, rfl, (by show (0 : Int) < 8; decide), rfl, _, rfl⟩
    rintro σ H3 ⟨rfl, k, rfl⟩
    generalize hσ : [some (V.str T), some (V.int (x : Nat)), some (.int (y : Nat)), some (V.ref lp), some (.int (i : Nat)), some (.int (j : Nat)), some (.int k)] = σ0
    have v0 : σ0[0]? = some (some (V.str T)) := by rw [← hσ]; rfl
    have v2 : σ0[2]? = some (some (V.int (y : Nat))) := by rw [← hσ]; rfl
    have v3 : σ0[3]? = some (some (V.ref lp)) := by rw [← hσ]; rfl
    have v4 : σ0[4]? = some (some (V.int (i : Nat))) := by rw [← hσ]; rfl
    have v5 : σ0[5]? = some (some (V.int (j : Nat))) := by rw [← hσ]; rfl
    have v6 : σ0[6]? = some (some (V.int k)) := by rw [← hσ]; rfl
    have eA : tl (cutS T none (some (i : Int))) = (tl T).take i := tl_cut_to T i
    have eB : tl (cutS T (some (i : Int)) none) = (tl T).drop i := tl_cut_from T i
    have eC : tl (cutS T (some ((i : Int) + 1)) none) = (tl T).drop (i + 1) := tl_cut_from T (i + 1)
    have lA := cutS_length T none (some (i : Int))
    have lB := cutS_length T (some (i : Int)) none
    have lC := cutS_length T (some ((i : Int) + 1)) none
    obtain ⟨c, hc⟩ := atI_txt li
    obtain ⟨c', hc'⟩ := signs13 (y % 13) (Nat.mod_lt _ (by decide))
    have t1 : ∀ c : Nat, tl (⟨#[c]⟩ : Str) = [c] := fun c => rfl
    have len1 : ∀ c : Nat, (⟨#[c]⟩ : Str).length = 1 := fun c => rfl
    have la : ∀ a b : Str, (a ++ b).length = a.length + b.length := fun a b => by rw [len_tl, tl_append, List.length_append, ← len_tl, ← len_tl]
    -- kind 0
    refine ⟨fun σ H3' => H3' = H3 ∧ σ = σ0, ?_, ?_⟩
    · refine ⟨_, v6, rfl, _, rfl, ?_⟩
      refine ite2 (fun _ => ?_) (fun _ => ⟨rfl, rfl⟩)
      refine ⟨_, v0, _, v4, _, rfl, T, rfl, sT, _, v0, _, v4, _, _, rfl, rfl, _, rfl, T, rfl, sT, _, _, rfl, rfl, by rw [sizeLine_eq]; omega, ?_⟩
      refine qQ H3 _ s1 ?_
      rw [tl_append, eA, eC]
      exact near0 _ _
    rintro σ H3' ⟨rfl, rfl⟩
    -- kind 1
    refine ⟨fun σ' H3'' => H3'' = H3' ∧ σ' = σ, ?_, ?_⟩
    · refine ⟨_, v6, rfl, _, rfl, ?_⟩
      refine ite2 (fun _ => ?_) (fun _ => ⟨rfl, rfl⟩)
      refine ⟨_, v0, _, v4, _, rfl, T, rfl, sT, _, v0, _, v4, T, _, c, rfl, rfl, sT, hc, _, _, rfl, rfl, by rw [sizeLine_eq, len1]; omega, _, v0, _, v4, _, rfl, T, rfl, sT, _, _, rfl, rfl, by rw [sizeLine_eq, la, len1]; omega, ?_⟩
      refine qQ H3' _ s1 ?_
      rw [tl_append, tl_append, eA, eB, t1]
      exact near1 _ _ _
    rintro σ' H3'' ⟨rfl, rfl⟩
    -- kind 2
    refine ⟨fun σ H4 => H4 = H3'' ∧ σ = σ', ?_, ?_⟩
    · refine ⟨_, v6, rfl, _, rfl, ?_⟩
      refine ite2 (fun _ => ?_) (fun _ => ⟨rfl, rfl⟩)
      refine ⟨_, v0, _, v4, _, rfl, T, rfl, sT, _, v2, _, _, rfl, rfl, (by show (0 : Int) < 13; decide), _, _, c', rfl, rfl, (by decide), by rw [show ((y : Nat) : Int) % 13 = ((y % 13 : Nat) : Int) by omega]; exact hc', _, _, rfl, rfl, by rw [sizeLine_eq, len1]; omega, _, v0, _, v4, _, _, rfl, rfl, _, rfl, T, rfl, sT, _, _, rfl, rfl, by rw [sizeLine_eq, la, len1]; omega, ?_⟩
      refine qQ H3'' _ s1 ?_
      rw [tl_append, tl_append, eA, eC, t1]
      exact near2 _ _ _
    rintro σ H4 ⟨rfl, rfl⟩
    -- kind 3
    refine ⟨fun σ' H4' => H4' = H4 ∧ σ' = σ, ?_, ?_⟩
    · refine ⟨_, v6, rfl, _, rfl, ?_⟩
      refine ite2 (fun _ => ?_) (fun _ => ⟨rfl, rfl⟩)
      refine ⟨_, v0, _, v4, _, rfl, T, rfl, sT, ?_⟩
      refine qQ H4 _ s1 ?_
      rw [eA]
      exact near3 _ _
    rintro σ' H4' ⟨rfl, rfl⟩
    -- lines
    obtain ⟨A, z, B, rfl, lenA⟩ : ∃ A z B, Lp = A ++ z :: B ∧ A.length = j := ⟨Lp.take j, Lp[j], Lp.drop (j + 1), by rw [← List.drop_eq_getElem_cons lj, List.take_append_drop], by rw [List.length_take]; omega⟩
    have kA : (A ++ z :: B).take j = A := by rw [← lenA, List.take_left]
    have kB : (A ++ z :: B).drop j = z :: B := by rw [← lenA, List.drop_left]
    have kC : (A ++ z :: B).drop (j + 1) = B := by rw [← List.drop_drop, kB]; rfl
    have eL2 : cutAt 10 (tl T) = A.map tl ++ tl z :: B.map tl := by rw [← eL, List.map_append]; rfl
    have zl : (tl z).length ≤ (tl T).length := part_len 10 _ _ (by rw [eL2]; simp)
    have cA : cutV ((A ++ z :: B).map V.str) none (some (j : Int)) = A.map V.str := by rw [cutV_to, kA]
    have cB : cutV ((A ++ z :: B).map V.str) (some (j : Int)) none = (z :: B).map V.str := by rw [cutV_from, kB]
    have cC : cutV ((A ++ z :: B).map V.str) (some ((j : Int) + 1)) none = B.map V.str := by
      have := cutV_from V.str (A ++ z :: B) (j + 1)
      rw [kC] at this
      exact this
    have gz : atI ((A ++ z :: B).map V.str) (j : Int) = some (.str z) := at_nat (by rw [List.getElem?_map, List.getElem?_append_right (by omega), lenA, Nat.sub_self]; rfl)
    have pl := parts_len 10 (tl T)
    rw [eL2] at pl
    have pl2 : (A.map tl ++ tl z :: B.map tl).length = A.length + (B.length + 1) := by simp
    have ll : A.length + (B.length + 1) ≤ 20001 := by
      rw [pl2] at pl
      omega
    have fin : ∀ (ps : List Str), Near (tl T) (joinL [10] (ps.map tl)) → (ps.map (·.length)).sum + ps.length * ("\n" : Str).length ≤ 16777216 → True := fun _ _ _ => trivial
    have jl2 := join_len2 10 (cutAt 10 (tl T))
    rw [join_cutAt, eL2] at jl2
    have e1 : ("\n" : Str).length = 1 := rfl
    have bnd : ∀ ps : List Str, lens (ps.map tl) ≤ lens (A.map tl ++ tl z :: B.map tl) + (tl T).length → ps.length ≤ A.length + B.length + 2 → (ps.map (·.length)).sum + ps.length * ("\n" : Str).length ≤ 16777216 := fun ps h1 h2 => by
      rw [sum_lens, e1]
      have : (A.map tl ++ tl z :: B.map tl).length = A.length + (B.length + 1) := by simp
      rw [this] at jl2
      omega
    -- kind 4
    refine ⟨fun σ H5 => H5 = H4' ∧ σ = σ', ?_, ?_⟩
    · refine ⟨_, v6, rfl, _, rfl, ?_⟩
      refine ite2 (fun _ => ?_) (fun _ => ⟨rfl, rfl⟩)
      refine ⟨⟨_, rfl⟩, _, v3, _, v5, _, rfl, lp, _, rfl, SqL.of hlp, fun q nq => ?_⟩
      rw [cA]
      have sq := same_upd (o := .lst (A.map V.str)) nq
      have hq : (upd H4' q (.lst (A.map V.str))) q = some (.lst (A.map V.str)) := upd_same
      generalize upd H4' q (.lst (A.map V.str)) = H5 at sq hq ⊢
      refine ⟨_, v3, _, v5, _, _, rfl, rfl, _, rfl, lp, _, rfl, SqL.of (sq _ _ hlp), fun q2 nq2 => ?_⟩
      rw [cC]
      have sq2 := same_upd (o := .lst (B.map V.str)) nq2
      have hq2 : (upd H5 q2 (.lst (B.map V.str))) q2 = some (.lst (B.map V.str)) := upd_same
      generalize upd H5 q2 (.lst (B.map V.str)) = H6 at sq2 hq2 ⊢
      refine ⟨q, q2, _, _, rfl, rfl, sq2 _ _ hq, hq2, by rw [List.length_map, List.length_map, sizeLine_eq]; omega, fun r nr => ?_⟩
      rw [← List.map_append]
      refine ⟨_, r, A ++ B, rfl, rfl, .inl (SqL.of upd_same), bnd _ (by rw [List.map_append, lens_app, lens_app, lens_cons]; omega) (by rw [List.length_append]; omega), ?_⟩
      refine qQ _ _ (s1.trans (sq.trans (sq2.trans (same_upd nr)))) ?_
      rw [tl_joined, List.map_append]
      exact near4 eL2
    rintro σ H5 ⟨rfl, rfl⟩
    -- kind 5
    refine ⟨fun σ' H6 => H6 = H5 ∧ σ' = σ, ?_, ?_⟩
    · refine ⟨_, v6, rfl, _, rfl, ?_⟩
      refine ite2 (fun _ => ?_) (fun _ => ⟨rfl, rfl⟩)
      refine ⟨⟨_, rfl⟩, _, v3, _, v5, _, rfl, lp, _, rfl, SqL.of hlp, fun q nq => ?_⟩
      rw [cA]
      have sq := same_upd (o := .lst (A.map V.str)) nq
      have hq : (upd H5 q (.lst (A.map V.str))) q = some (.lst (A.map V.str)) := upd_same
      generalize upd H5 q (.lst (A.map V.str)) = H6 at sq hq ⊢
      refine ⟨_, v3, _, v5, lp, _, _, .str z, rfl, rfl, SqL.of (sq _ _ hlp), gz, few_sz' (by simp), fun q2 nq2 => ?_⟩
      have sq2 := same_upd (o := .lst [V.str z]) nq2
      have hq2 : (upd H6 q2 (.lst [V.str z])) q2 = some (.lst [V.str z]) := upd_same
      generalize upd H6 q2 (.lst [V.str z]) = H7 at sq2 hq2 ⊢
      refine ⟨q, q2, _, _, rfl, rfl, sq2 _ _ hq, hq2, by rw [List.length_map, sizeLine_eq]; simp; omega, fun r nr => ?_⟩
      have ea : A.map V.str ++ [V.str z] = (A ++ [z]).map V.str := by rw [List.map_append]; rfl
      rw [ea]
      have sr := same_upd (o := .lst ((A ++ [z]).map V.str)) nr
      have hr' : (upd H7 r (.lst ((A ++ [z]).map V.str))) r = some (.lst ((A ++ [z]).map V.str)) := upd_same
      generalize upd H7 r (.lst ((A ++ [z]).map V.str)) = H8 at sr hr' ⊢
      have s58 := sq.trans (sq2.trans sr)
      refine ⟨_, v3, _, v5, _, rfl, lp, _, rfl, SqL.of (s58 _ _ hlp), fun q3 nq3 => ?_⟩
      rw [cB]
      have sq3 := same_upd (o := .lst ((z :: B).map V.str)) nq3
      have hq3 : (upd H8 q3 (.lst ((z :: B).map V.str))) q3 = some (.lst ((z :: B).map V.str)) := upd_same
      generalize upd H8 q3 (.lst ((z :: B).map V.str)) = H9 at sq3 hq3 ⊢
      refine ⟨r, q3, _, _, rfl, rfl, sq3 _ _ hr', hq3, by rw [List.length_map, List.length_map, sizeLine_eq]; simp; omega, fun t nt => ?_⟩
      rw [← List.map_append]
      refine ⟨_, t, (A ++ [z]) ++ (z :: B), rfl, rfl, .inl (SqL.of upd_same), bnd _ ?_ (by simp; omega), ?_⟩
      · rw [List.map_append, List.map_append, List.map_cons, List.map_cons, List.map_nil, lens_app, lens_app, lens_app, lens_one, lens_cons]; omega
      refine qQ _ _ (s1.trans (s58.trans (sq3.trans (same_upd nt)))) ?_
      rw [tl_joined, List.map_append, List.map_append]
      exact near5 eL2 zl
    rintro σ' H6 ⟨rfl, rfl⟩
    -- kind 6
    refine ⟨fun σ H7 => H7 = H6 ∧ σ = σ', ?_, ?_⟩
    · refine ⟨_, v6, rfl, _, rfl, ?_⟩
      refine ite2 (fun _ => ?_) (fun _ => ⟨rfl, rfl⟩)
      refine ⟨⟨_, rfl⟩, _, v3, _, v5, _, rfl, lp, _, rfl, SqL.of hlp, fun q nq => ?_⟩
      rw [cA]
      have sq := same_upd (o := .lst (A.map V.str)) nq
      have hq : (upd H6 q (.lst (A.map V.str))) q = some (.lst (A.map V.str)) := upd_same
      generalize upd H6 q (.lst (A.map V.str)) = H7 at sq hq ⊢
      refine ⟨_, v3, _, v5, _, _, rfl, rfl, _, rfl, lp, _, rfl, SqL.of (sq _ _ hlp), fun q2 nq2 => ?_⟩
      rw [cC]
      have sq2 := same_upd (o := .lst (B.map V.str)) nq2
      have hq2 : (upd H7 q2 (.lst (B.map V.str))) q2 = some (.lst (B.map V.str)) := upd_same
      generalize upd H7 q2 (.lst (B.map V.str)) = H8 at sq2 hq2 ⊢
      refine ⟨q, q2, _, _, rfl, rfl, sq2 _ _ hq, hq2, by rw [List.length_map, List.length_map, sizeLine_eq]; omega, fun r nr => ?_⟩
      rw [← List.map_append]
      have sr := same_upd (o := .lst ((A ++ B).map V.str)) nr
      have hr' : (upd H8 r (.lst ((A ++ B).map V.str))) r = some (.lst ((A ++ B).map V.str)) := upd_same
      generalize upd H8 r (.lst ((A ++ B).map V.str)) = H9 at sr hr' ⊢
      have s69 := sq.trans (sq2.trans sr)
      refine ⟨_, v3, _, v5, lp, _, _, .str z, rfl, rfl, SqL.of (s69 _ _ hlp), gz, few_sz' (by simp), fun q3 nq3 => ?_⟩
      have sq3 := same_upd (o := .lst [V.str z]) nq3
      have hq3 : (upd H9 q3 (.lst [V.str z])) q3 = some (.lst [V.str z]) := upd_same
      generalize upd H9 q3 (.lst [V.str z]) = H10 at sq3 hq3 ⊢
      refine ⟨r, q3, _, _, rfl, rfl, sq3 _ _ hr', hq3, by rw [List.length_map, sizeLine_eq]; simp; omega, fun t nt => ?_⟩
      have ea : (A ++ B).map V.str ++ [V.str z] = ((A ++ B) ++ [z]).map V.str := by rw [List.map_append (l₁ := A ++ B)]; rfl
      rw [ea]
      refine ⟨_, t, (A ++ B) ++ [z], rfl, rfl, .inl (SqL.of upd_same), bnd _ ?_ (by simp; omega), ?_⟩
      · rw [List.map_append, List.map_append, List.map_cons, List.map_nil, lens_app, lens_app, lens_app, lens_one, lens_cons]; omega
      refine qQ _ _ (s1.trans (s69.trans (sq3.trans (same_upd nt)))) ?_
      rw [tl_joined, List.map_append, List.map_append]
      exact near6 eL2
    rintro σ H7 ⟨rfl, rfl⟩
    exact ⟨_, v0, qQ H7 _ s1 (near_refl _)⟩
end
end Sm

set_option Elab.async false
set_option linter.all false
set_option maxRecDepth 100000
set_option maxHeartbeats 8000000
namespace Sm
open PySem PySem.Spec PyProof.Rows L2 TL Tx
abbrev sLaw : Stmt := topS 30
abbrev scLawN : List Str := ["script", "numbers", "place", "spoil", "signs", "drawn", "text", "edge", "expected", "graph", "error", "line", "k"]
theorem takes0N {X : Cx} : L2N.Takes X (fun _ _ _ _ => False) := fun _ _ x => by
  obtain ⟨_, _, _, _, _, _, _, _, _, _, _, _, _, _, _, _, z⟩ := x
  exact z.elim
/-- the classes of the errors, as isinstance asks -/
structure TxW (K : PySem.W.Frag) (mg : Str → Option Value) (CT CW : Addr) : Prop where
  ex : ExcC K CT
  xf : XfC K CT
  gW : mg "WidthError" = some (.ref CW)
  kW : PySem.W.kitOne K (.ref CT) (.ref CW) = some true
  em : PySem.W.exmOne K (.ref CT) (.ref CT) = some true
theorem isi_at {X : Cx} {K : PySem.W.Frag} (hK : X.K = K) : CallR X (.builtin "isinstance") (rIsi K) := by
  subst hK
  exact call_isi
/-- the edges that are drawn, as pairs of natural numbers -/
theorem sub_eds {n : Nat} {es : List Pr} (h : es.Sublist (pairsL n)) : ∃ ed : List Ed, es = ed.map prE ∧ (∀ e ∈ ed, e.1 < e.2 ∧ e.2 < n) ∧ ed.Pairwise ltPr := by
  have ok : ∀ q ∈ es, Okp n q := fun q hq => mem_pairs (h.subset hq)
  have lt : es.Pairwise lexlt := (pairsL_lt n).sublist h
  refine ⟨es.map fun q => (q.1.toNat, q.2.toNat), ?_, ?_, ?_⟩
  · rw [List.map_map]
    conv => lhs; rw [← List.map_id es]
    refine List.map_congr_left fun q hq => ?_
    have o := ok q hq
    unfold Okp at o
    show q = (((q.1.toNat : Nat) : Int), ((q.2.toNat : Nat) : Int))
    exact Prod.ext (by show q.1 = _; omega) (by show q.2 = _; omega)
  · intro e he
    obtain ⟨q, hq, rfl⟩ := List.mem_map.mp he
    have o := ok q hq
    unfold Okp at o
    show q.1.toNat < q.2.toNat ∧ q.2.toNat < n
    omega
  · refine List.pairwise_map.mpr (lt.imp_of_mem fun {a b} ha hb l => ?_)
    have oa := ok a ha
    have ob := ok b hb
    have l := SrtO.lexB_iff.mp l
    unfold Okp at oa ob
    unfold ltPr
    show a.1.toNat < b.1.toNat ∨ (a.1.toNat = b.1.toNat ∧ a.2.toNat < b.2.toNat)
    omega
theorem dig_nat {x : Int} (h : Dig x) : ∃ k : Nat, x = (k : Int) ∧ k < 1000 := ⟨x.toNat, by have := h.1; omega, by have := h.1; have := h.2; omega⟩
theorem num_free (n : Nat) : (numL n).count 10 = 0 := List.count_eq_zero.mpr fun h => by have := numL_digits n 10 h; omega
theorem line_cnt (e : Ed) : (lineC e ++ [10]).count 10 = 1 := by
  unfold lineC
  simp only [List.count_append, num_free]
  rfl
theorem text_cnt (n : Nat) (es : List Ed) : (textC n es).count 10 = es.length + 1 := by
  have h : ∀ es : List Ed, (es.flatMap fun e => lineC e ++ [10]).count 10 = es.length := by
    intro es
    induction es with
    | nil => rfl
    | cons e es ih => rw [List.flatMap_cons, List.count_append, ih, line_cnt, List.length_cons]; omega
  unfold textC headC
  rw [List.count_append, h]
  simp only [List.count_append, num_free]
  show (0 + (0 + (0 + (0 + 0))) + 1) + es.length = es.length + 1
  omega
theorem text_len {n : Nat} {es : List Ed} (hn : n ≤ 100) (hm : es.length ≤ 75) (h : ∀ e ∈ es, e.1 ≤ 100 ∧ e.2 ≤ 100) : (textC n es).length ≤ 20 * (es.length + 1) := by
  have g : ∀ es : List Ed, (∀ e ∈ es, e.1 ≤ 100 ∧ e.2 ≤ 100) → (es.flatMap fun e => lineC e ++ [10]).length ≤ 20 * es.length := by
    intro es
    induction es with
    | nil => exact fun _ => Nat.le_refl _
    | cons e es ih =>
      intro h
      have i := ih fun x hx => h x (List.mem_cons_of_mem _ hx)
      obtain ⟨h1, h2⟩ := h e List.mem_cons_self
      have k := (gl_len h1 h2).2.2.2
      rw [len_tl, tl_gl4] at k
      have k : (lineC e ++ [10]).length ≤ 20 := k
      rw [List.flatMap_cons, List.length_append, List.length_cons]
      omega
  have k := (gt_len hn (by omega : es.length ≤ 100)).2.2.2.2
  rw [len_tl, tl_gt5] at k
  have g := g es h
  unfold textC
  rw [List.length_append]
  omega
theorem near_trans2 {A B : Cs} {c d : Nat} (h : Near A B) (ha : A.length ≤ c ∧ (cutAt 10 A).length ≤ d) : B.length ≤ 2 * c + 2 ∧ (cutAt 10 B).length ≤ d + 1 := ⟨by have := h.1; omega, by have := h.2; omega⟩
def spLaw (K : PySem.W.Frag) : Sp := fun vs H Q _ => ∃ (a : Addr) (ns : List Int), vs = [.ref a] ∧ SqL K H a (ns.map V.int) ∧ ns.length ≤ 63 ∧ ∀ H', Q (.bl true) H'
section
variable {P : Program} {w : World} {K : PySem.W.Frag} {mg : Str → Option Value} {base : Heap}
theorem scLaw : FnScope scLawN ["script"] (defScope sLaw) := ⟨rfl, rfl, rfl, by decide +kernel, rfl, by decide +kernel, by decide +kernel⟩
theorem ok_law {f C CB CT CW fI fNm fT fR fG fGt fS fW fO : Addr} {fd fdNm fdT fdR fdG fdGt fdS fdW fdO : FuncData} (F : Fun K "law" "law" sLaw f fd) (TT : TxG K mg C) (B : TxB K mg CT fI) (D : TxW K mg CT CW) (TA : TxA mg) (mr : mg "range" = none) (ml : mg "len" = none) (mstr : mg "str" = none)
    (GN : FnOk P w K mg base CX0 1 fNm fdNm ["script", "many"] (spNums K)) (kN : PySem.W.keepIn K (.ref fNm) = true) (bN : Binds K fdNm ["script", "many"] []) (gN : mg "_law_numbers" = some (.ref fNm))
    (GT : FnOk P w K mg base CX0 1 fT fdT ["numbers", "place"] (spTake K)) (kT : PySem.W.keepIn K (.ref fT) = true) (bT : Binds K fdT ["numbers", "place"] []) (gT : mg "_law_take" = some (.ref fT))
    (GR : FnOk P w K mg base CX0 2 fR fdR ["numbers", "place", "most"] (spGr K)) (kR : PySem.W.keepIn K (.ref fR) = true) (bR : Binds K fdR ["numbers", "place", "most"] []) (gR : mg "_law_graph" = some (.ref fR))
    (GG : FnOk P w K mg base (L2.CX P w) 4 fG fdG ["self", "size", "edges"] (spInit K C CB)) (M : Mk K C fG) (bG : Binds K fdG ["self", "size", "edges"] [])
    (GP : FnOk P w K mg base CX0 1 fGt fdGt ["graph"] (spGt K C)) (kP : PySem.W.keepIn K (.ref fGt) = true) (bP : Binds K fdGt ["graph"] []) (gP : mg "graph_text" = some (.ref fGt))
    (GS : FnOk P w K mg base CX0 1 fS fdS ["text", "number", "sign"] spSpl) (kS : PySem.W.keepIn K (.ref fS) = true) (bS : Binds K fdS ["text", "number", "sign"] []) (gS : mg "_law_spoilt" = some (.ref fS))
    (GW : FnOk P w K mg base CX0 2 fW fdW ["text"] spWl) (kW : PySem.W.keepIn K (.ref fW) = true) (bW : Binds K fdW ["text"] []) (gW : mg "_law_wrong_line" = some (.ref fW))
    (GO : FnOk P w K mg base (L2N.CX P w) 6 fO fdO ["text"] (spGo K C CT)) (kO : PySem.W.keepIn K (.ref fO) = true) (bO : Binds K fdO ["text"] []) (gO : mg "graph_of" = some (.ref fO)) :
    FnOk P w K mg base CX0 7 f fd ["script"] (spLaw K) := by
  refine F.ok scLaw (fun vs H Q E h => ?_) (fun cdv A outer s H vs Q E hr h => ?_)
  · obtain ⟨a, ns, rfl, _⟩ := h
    rfl
  · obtain ⟨a, ns, rfl, hS, hlen, qQ⟩ := h
    have hr1 : Room 1 _ := hr.mono (by decide)
    have hr2 : Room 2 _ := hr.mono (by decide)
    have hr5 : Room 5 _ := hr.mono (by decide)
    refine ⟨_, (pss_cons (ps_set (i := 1) scLaw.nd rfl (.inr rfl) (pe_call GN hr1 (by rfl) gN kN bN .nil pass0 (pa_cons (pv 0) (pa_cons pe_int pa_nil))))
      (C8.pss_cut (ps_set (i := 2) scLaw.nd rfl (.inr rfl) (pe_lst (pa_cons pe_int pa_nil)))
      (C8.pss_cut (ps_setLc (i := 3) (own := [("k", 12)]) (g := gName 12) (by rfl) scLaw.nd rfl rfl (sw_true rfl rfl rfl (by decide +kernel)) (pi_range1 (by rfl) mr (pa_cons pe_int pa_nil)) (blkOk_by (own := [("k", 12)]) (N := scLawN) (sc := defScope sLaw) (by decide +kernel)) (fun _ _ _ _ _ => pg_name (i := 12) scLaw.nd rfl (Or.inl rfl)) (fun _ _ _ _ _ => pts_nil) (fun _ _ _ _ _ => (pe_op op_add (pe_call GT hr1 (by rfl) gT kT bT .nil pass0 (pa_cons (pv 1) (pa_cons (pv 2) pa_nil))) (pe_op op_mul pe_int (pe_call GT hr1 (by rfl) gT kT bT .nil pass0 (pa_cons (pv 1) (pa_cons (pv 2) pa_nil)))))))
      (C8.pss_cut (ps_setLc (i := 4) (own := [("k", 12)]) (g := gName 12) (by rfl) scLaw.nd rfl rfl (sw_true rfl rfl rfl (by decide +kernel)) (pi_range1 (by rfl) mr (pa_cons pe_int pa_nil)) (blkOk_by (own := [("k", 12)]) (N := scLawN) (sc := defScope sLaw) (by decide +kernel)) (fun _ _ _ _ _ => pg_name (i := 12) scLaw.nd rfl (Or.inl rfl)) (fun _ _ _ _ _ => pts_nil) (fun _ _ _ _ _ => (pe_call GT hr1 (by rfl) gT kT bT .nil pass0 (pa_cons (pv 1) (pa_cons (pv 2) pa_nil)))))
      (C8.pss_cut (ps_set (i := 5) scLaw.nd rfl (.inl rfl) (pe_call GR hr2 (by rfl) gR kR bR .nil pass0 (pa_cons (pv 1) (pa_cons (pv 2) (pa_cons pe_int pa_nil)))))
      (C8.pss_cut (ps_if (pt_cmpR op_eq (pe_op op_mod (pe_ix ix_list (pv 4) pe_int (fun _ _ => rfl)) pe_int) pe_int (nomark _)) (pss_one (ps_set (i := 5) scLaw.nd rfl (.inl rfl) (pe_tup (pa_cons (pe_op op_add pe_int (pe_op op_mod (pe_ix ix_list (pv 4) pe_int (fun _ _ => rfl)) pe_int)) (pa_cons (pe_lst (pa_cons (pe_tup (pa_cons pe_int (pa_cons (pe_op op_add pe_int (pe_op op_mod (pe_ix ix_list (pv 4) pe_int (fun _ _ => rfl)) pe_int)) pa_nil))) (pa_cons (pe_tup (pa_cons pe_int (pa_cons pe_int pa_nil))) pa_nil))) pa_nil))))) pss_nil)
      (C8.pss_cut (ps_set (i := 6) scLaw.nd rfl (.inl rfl) (pe_op op_add_str (pe_op op_add_str (pe_op op_add_str (pe_op op_add_str pe_str (pe_callTy call_str_int (by rfl) mstr (by decide +kernel) (pa_cons (pe_ix ix_tup (pv 5) pe_int (fun _ _ => rfl)) pa_nil))) pe_str) (pe_callTy call_str_int (by rfl) mstr (by decide +kernel) (pa_cons (pe_callB call_len_seq (by rfl) ml PySem.boot_len (pa_cons (pe_ix ix_tup (pv 5) pe_int (fun _ _ => rfl)) pa_nil)) pa_nil))) pe_str))
      (C8.pss_cut (ps_for PassesOwn.never rfl (pi_list (pe_ix ix_tup (pv 5) pe_int (fun _ _ => rfl))) (pg_name (i := 7) scLaw.nd rfl (.inl rfl)) (pss_one (ps_set (i := 6) scLaw.nd rfl (.inl rfl) (pe_op op_add_str (pe_op op_add_str (pe_op op_add_str (pe_op op_add_str (pv 6) (pe_callTy call_str_int (by rfl) mstr (by decide +kernel) (pa_cons (pe_ix ix_tup (pv 7) pe_int (fun _ _ => rfl)) pa_nil))) pe_str) (pe_callTy call_str_int (by rfl) mstr (by decide +kernel) (pa_cons (pe_ix ix_tup (pv 7) pe_int (fun _ _ => rfl)) pa_nil))) pe_str))))
      (C8.pss_cut (ps_if (pt_cmpR op_ne (pe_call GP hr1 (by rfl) gP kP bP .nil pass0 (pa_cons (pe_make M GG hr5 (by rfl) TT.g bG .nil passNo (pa_cons (pe_ix ix_tup (pv 5) pe_int (fun _ _ => rfl)) (pa_cons (pe_ix ix_tup (pv 5) pe_int (fun _ _ => rfl)) pa_nil))) pa_nil)) (pv 6) (nomark _)) (pss_one (ps_ret pe_bl)) pss_nil)
      (C8.pss_cut (ps_set (i := 6) scLaw.nd rfl (.inl rfl) (pe_call GS hr1 (by rfl) gS kS bS .nil pass0 (pa_cons (pv 6) (pa_cons (pe_ix ix_list (pv 3) pe_int (fun _ _ => rfl)) (pa_cons (pe_ix ix_list (pv 4) pe_int (fun _ _ => rfl)) pa_nil)))))
      (C8.pss_cut (ps_if (pt_cmpR op_eq (pe_op op_mod (pe_ix ix_list (pv 3) pe_int (fun _ _ => rfl)) pe_int) pe_int (nomark _)) (pss_one (ps_set (i := 6) scLaw.nd rfl (.inl rfl) (pe_call GS hr1 (by rfl) gS kS bS .nil pass0 (pa_cons (pv 6) (pa_cons (pe_op op_fdiv (pe_ix ix_list (pv 3) pe_int (fun _ _ => rfl)) pe_int) (pa_cons (pe_ix ix_list (pv 4) pe_int (fun _ _ => rfl)) pa_nil)))))) pss_nil)
      (pss_cons (ps_set (i := 8) scLaw.nd rfl (.inl rfl) (pe_call GW hr2 (by rfl) gW kW bW .nil pass0 (pa_cons (pv 6) pa_nil)))
      (pss_cons (L2N.ps_try_as (i := 10) (Wout := fun _ _ _ _ => False) rfl rfl scLaw.nd rfl rfl ⟨rfl, by decide, .inl B.g⟩ takes0N
        (fun W pn xe tk _ => by exact (pss_one (ps_set (i := 9) scLaw.nd rfl (.inl rfl) (pe_callS GO hr (by rfl) gO kO bO (fun σ => L2N.passAt tk σ) (pa_cons (pv 6) pa_nil)))))
        (fun a oe cls d pn hz hf => by exact (pss_cons (ps_set (i := 11) scLaw.nd rfl (.inl rfl) (pe_xf D.xf B.noX hz.zc hf (pv 10)))
      (pss_one (ps_ret (pe_and (pe_cmpR op_gt (pv 8) pe_int (nomark _)) (pe_and (pe_callB (isi_at (K := K) rfl) (by rfl) TA.isi (by decide +kernel) (pa_cons (pv 11) (pa_cons (pe_bltn (v := .ty "int") (by rfl) TA.int (by decide +kernel) rfl) pa_nil))) (pe_and (pe_not (pe_callB (isi_at (K := K) rfl) (by rfl) TA.isi (by decide +kernel) (pa_cons (pv 11) (pa_cons (pe_bltn (v := .ty "bool") (by rfl) TA.bool (by decide +kernel) rfl) pa_nil)))) (pe_and (pe_cmpR op_eq (pv 11) (pv 8) (nomark _)) (pe_one (pe_callB (call_isD (K := K) rfl D.ex hz.zc hf) (by rfl) TA.isi (by decide +kernel) (pa_cons (pv 10) (pa_cons (pe_glob (v := .ref CW) rfl D.gW rfl) pa_nil)))))))))))))
      (pss_one (ps_ret (pe_and (pe_cmpR op_eq (pv 8) pe_int (nomark _)) (pe_one (pe_cmpR op_eq (pe_call GP hr1 (by rfl) gP kP bP .nil pass0 (pa_cons (pv 9) pa_nil)) (pv 6) (nomark _))))))))))))))))))), ?_⟩
    have sl : ∀ {x : Str}, x.length ≤ 20000 → x.length ≤ sizeLine := fun h => by rw [sizeLine_eq]; omega
    have la : ∀ a b : Str, (a ++ b).length = a.length + b.length := fun a b => by rw [len_tl, tl_append, List.length_append, ← len_tl, ← len_tl]
    refine ⟨_, rfl, a, ns, 60, rfl, hS, hlen, fun H1 np out s1 nnp hnp dig lo => ?_⟩
    refine ⟨fun σ H2 => ∃ pl : Addr, σ = [some (V.ref a), some (V.ref np), some (V.ref pl), none, none, none, none, none, none, none, none, none, none] ∧ H2 pl = some (.lst [.int (0 : Nat)]) ∧ H2 np = some (.lst (out.map V.int)) ∧ np ≠ pl, ?_, ?_⟩
    · refine ⟨few_sz' (by simp), fun pl npl => ?_⟩
      exact ⟨pl, rfl, upd_same, same_upd npl _ _ hnp, fun z => by rw [z] at hnp; rw [hnp] at npl; cases npl⟩
    rintro σ H2 ⟨pl, rfl, hpl0, hnp0, nep⟩
    have butN : ∀ {p D : Addr} {H H' : Hp} {o : HO}, But p H H' → H D = none → But p H (upd H' D o) := fun hb nD b o h n => by rw [upd_ne (ne_of_none h nD)]; exact hb b o h n
    -- spoil
    refine ⟨fun σ H3 => ∃ (sp : Addr) (x0 x1 i : Nat), σ = [some (V.ref a), some (V.ref np), some (V.ref pl), some (V.ref sp), none, none, none, none, none, none, none, none, none] ∧ But pl H2 H3 ∧ H3 pl = some (.lst [.int i]) ∧ H3 sp = some (.lst [.int x0, .int x1]) ∧ sp ≠ pl, ?_, ?_⟩
    · refine ⟨2, rfl, by decide, by decide, fun sp nD => ?_⟩
      have neD : sp ≠ pl := fun z => by rw [z, hpl0] at nD; cases nD
      refine lc_range (lo := 0) (n := 2) (tt := tYes) (fun i H' => ∃ (j : Nat) (xs : List Nat), But pl H2 H' ∧ H' pl = some (.lst [.int j]) ∧ H' sp = some (.lst (xs.map fun x => V.int (x : Nat))) ∧ xs.length = i) ⟨0, [], butN (fun _ _ h _ => h) nD, by rw [upd_ne neD.symm]; exact hpl0, upd_same, rfl⟩ ?_ ?_
      · rintro i H5 hi ⟨j, xs, b5, hp5, hD5, lx⟩
        refine ⟨rfl, ?_⟩
        refine iteT (B := ∃ (j : Nat) (xs : List Nat), But pl H2 H5 ∧ H5 pl = some (.lst [.int j]) ∧ H5 sp = some (.lst (xs.map fun x => V.int (x : Nat))) ∧ xs.length = i + 1) ?_
        refine ⟨_, rfl, _, rfl, np, pl, out, j, rfl, nep, SqL.of (b5 _ _ hnp0 nep), dig, hp5, fun y1 j1 H6 d1 b6 fr6 hp6 => ?_⟩
        refine ⟨_, rfl, _, rfl, np, pl, out, j1, rfl, nep, SqL.of (b6 _ _ (b5 _ _ hnp0 nep) nep), dig, hp6, fun y2 j2 H7 d2 b7 fr7 hp7 => ?_⟩
        obtain ⟨k1, rfl, l1⟩ := dig_nat d1
        obtain ⟨k2, rfl, l2⟩ := dig_nat d2
        refine ⟨_, _, rfl, rfl, .inl ⟨by decide, by decide⟩, _, _, rfl, rfl, ?_⟩
        refine ⟨_, b7 _ _ (b6 _ _ hD5 neD) neD, by rw [List.length_map, lx, sizeLine_eq]; omega, j2, xs ++ [k1 + 1000 * k2], butN (b5.trans (b6.trans b7)) nD, by rw [upd_ne neD.symm]; exact hp7, ?_, by rw [List.length_append, lx]; rfl⟩
        rw [upd_same, List.map_append]
        show some (HO.lst (xs.map (fun x => V.int (x : Nat)) ++ [V.int ((k1 : Int) + 1000 * (k2 : Int))])) = _
        have e : (k1 : Int) + 1000 * (k2 : Int) = ((k1 + 1000 * k2 : Nat) : Int) := by omega
        rw [e]
        rfl
      · rintro H5 ⟨j, xs, b5, hp5, hD5, lx⟩
        obtain ⟨x0, x1, rfl⟩ : ∃ x0 x1, xs = [x0, x1] := by
          match xs, lx with
          | [x0, x1], _ => exact ⟨x0, x1, rfl⟩
        exact ⟨sp, x0, x1, j, rfl, b5, hp5, hD5, neD⟩
    rintro σ H3 ⟨sp, x0, x1, i3, rfl, b3, hpl3, hsp3, nsp⟩
    have hnp3 := b3 _ _ hnp0 nep
    -- signs
    refine ⟨fun σ H4 => ∃ (sg : Addr) (g0 g1 i : Nat), σ = [some (V.ref a), some (V.ref np), some (V.ref pl), some (V.ref sp), some (V.ref sg), none, none, none, none, none, none, none, none] ∧ But pl H3 H4 ∧ H4 pl = some (.lst [.int i]) ∧ H4 sg = some (.lst [.int g0, .int g1]) ∧ sg ≠ pl, ?_, ?_⟩
    · refine ⟨2, rfl, by decide, by decide, fun sg nD => ?_⟩
      have neD : sg ≠ pl := fun z => by rw [z, hpl3] at nD; cases nD
      refine lc_range (lo := 0) (n := 2) (tt := tYes) (fun i H' => ∃ (j : Nat) (xs : List Nat), But pl H3 H' ∧ H' pl = some (.lst [.int j]) ∧ H' sg = some (.lst (xs.map fun x => V.int (x : Nat))) ∧ xs.length = i) ⟨i3, [], butN (fun _ _ h _ => h) nD, by rw [upd_ne neD.symm]; exact hpl3, upd_same, rfl⟩ ?_ ?_
      · rintro i H5 hi ⟨j, xs, b5, hp5, hD5, lx⟩
        refine ⟨rfl, ?_⟩
        refine iteT (B := ∃ (j : Nat) (xs : List Nat), But pl H3 H5 ∧ H5 pl = some (.lst [.int j]) ∧ H5 sg = some (.lst (xs.map fun x => V.int (x : Nat))) ∧ xs.length = i + 1) ?_
        refine ⟨_, rfl, _, rfl, np, pl, out, j, rfl, nep, SqL.of (b5 _ _ hnp3 nep), dig, hp5, fun y1 j1 H6 d1 b6 fr6 hp6 => ?_⟩
        obtain ⟨k1, rfl, l1⟩ := dig_nat d1
        refine ⟨_, b6 _ _ hD5 neD, by rw [List.length_map, lx, sizeLine_eq]; omega, j1, xs ++ [k1], butN (b5.trans b6) nD, by rw [upd_ne neD.symm]; exact hp6, ?_, by rw [List.length_append, lx]; rfl⟩
        rw [upd_same, List.map_append]
        rfl
      · rintro H5 ⟨j, xs, b5, hp5, hD5, lx⟩
        obtain ⟨x0, x1, rfl⟩ : ∃ x0 x1, xs = [x0, x1] := by
          match xs, lx with
          | [x0, x1], _ => exact ⟨x0, x1, rfl⟩
        exact ⟨sg, x0, x1, j, rfl, b5, hp5, hD5, neD⟩
    rintro σ H4 ⟨sg, g0, g1, i4, rfl, b4, hpl4, hsg4, nsg⟩
    have hnp4 := b4 _ _ hnp3 nep
    have hsp4 := b4 _ _ hsp3 nsp
    -- drawn
    refine ⟨fun σ H5 => ∃ (t e : Addr) (as : List Addr) (n : Nat) (ed : List Ed), σ = [some (V.ref a), some (V.ref np), some (V.ref pl), some (V.ref sp), some (V.ref sg), some (V.ref t), none, none, none, none, none, none, none] ∧ H5 sp = some (.lst [.int x0, .int x1]) ∧ H5 sg = some (.lst [.int g0, .int g1]) ∧ H5 t = some (.tup [.int n, .ref e]) ∧ H5 e = some (.lst (as.map V.ref)) ∧ PairsAt K H5 as (ed.map prE) ∧ n ≤ 60 ∧ (∀ e ∈ ed, e.1 < e.2 ∧ e.2 < n) ∧ ed.Pairwise ltPr ∧ ed.length ≤ 32, ?_, ?_⟩
    · refine ⟨_, rfl, _, rfl, np, pl, out, i4, 8, rfl, nep, SqL.of hnp4, dig, hpl4, by decide, fun H5 t e as n i' es hn b5 hpl5 nt ne_ ht he pa sub => ?_⟩
      obtain ⟨ed, rfl, ok, pw⟩ := sub_eds sub
      have l := sub.length_le
      rw [List.length_map, Tx.pairs_len] at l
      have up : n * (n - 1) ≤ 8 * 8 := Nat.mul_le_mul hn (by omega)
      exact ⟨t, e, as, n, ed, rfl, b5 _ _ hsp4 nsp, b5 _ _ hsg4 nsg, ht, he, pa, by omega, ok, pw, by omega⟩
    rintro σ H5 ⟨t0, e0, as0, n0, ed0, rfl, hsp5, hsg5, ht0, he0, pa0, n60, ok0, pw0, l0⟩
    refine ⟨fun σ H6 => ∃ (t e : Addr) (as : List Addr) (n : Nat) (ed : List Ed), σ = [some (V.ref a), some (V.ref np), some (V.ref pl), some (V.ref sp), some (V.ref sg), some (V.ref t), none, none, none, none, none, none, none] ∧ H6 sp = some (.lst [.int x0, .int x1]) ∧ H6 sg = some (.lst [.int g0, .int g1]) ∧ H6 t = some (.tup [.int n, .ref e]) ∧ H6 e = some (.lst (as.map V.ref)) ∧ PairsAt K H6 as (ed.map prE) ∧ n ≤ 60 ∧ (∀ e ∈ ed, e.1 < e.2 ∧ e.2 < n) ∧ ed.Pairwise ltPr ∧ ed.length ≤ 32, ?_, ?_⟩
    · refine ⟨_, rfl, sg, _, 0, .int g0, rfl, rfl, SqL.of hsg5, at_nat rfl, _, _, rfl, rfl, (by show (0 : Int) < 8; decide), rfl, _, rfl, ?_⟩
      refine ite2 (fun _ => ?_) (fun _ => ⟨t0, e0, as0, n0, ed0, rfl, hsp5, hsg5, ht0, he0, pa0, n60, ok0, pw0, l0⟩)
      refine ⟨_, rfl, sg, _, 1, .int g1, rfl, rfl, SqL.of hsg5, at_nat rfl, _, _, rfl, rfl, (by show (0 : Int) < 49; decide), _, _, rfl, rfl, ?_⟩
      refine ⟨_, rfl, sg, _, 1, .int g1, rfl, rfl, SqL.of hsg5, at_nat rfl, _, _, rfl, rfl, (by show (0 : Int) < 2; decide), _, _, rfl, rfl, few_sz' (by simp), fun q1 nq1 => ?_⟩
      have u1 := same_upd (o := .tup [.int 3, .int (10 + (g1 : Int) % 2)]) nq1
      have h1 : (upd H5 q1 (.tup [.int 3, .int (10 + (g1 : Int) % 2)])) q1 = some (.tup [.int 3, .int (10 + (g1 : Int) % 2)]) := upd_same
      generalize (upd H5 q1 (.tup [.int 3, .int (10 + (g1 : Int) % 2)])) = H6 at u1 h1 ⊢
      refine ⟨few_sz' (by simp), fun q2 nq2 => ?_⟩
      have u2 := same_upd (o := .tup [.int 9, .int 11]) nq2
      have h2 : (upd H6 q2 (.tup [.int 9, .int 11])) q2 = some (.tup [.int 9, .int 11]) := upd_same
      generalize (upd H6 q2 (.tup [.int 9, .int 11])) = H7 at u2 h2 ⊢
      refine ⟨few_sz' (by simp), fun q3 nq3 => ?_⟩
      have u3 := same_upd (o := .lst [.ref q1, .ref q2]) nq3
      have h3 : (upd H7 q3 (.lst [.ref q1, .ref q2])) q3 = some (.lst [.ref q1, .ref q2]) := upd_same
      generalize (upd H7 q3 (.lst [.ref q1, .ref q2])) = H8 at u3 h3 ⊢
      refine ⟨few_sz' (by simp), fun q4 nq4 => ?_⟩
      have u4 := same_upd (o := .tup [.int (12 + (g1 : Int) % 49), .ref q3]) nq4
      have S := u1.trans (u2.trans (u3.trans u4))
      refine ⟨q4, q3, [q1, q2], 12 + g1 % 49, [(3, 10 + g1 % 2), (9, 11)], rfl, S _ _ hsp5, S _ _ hsg5, ?_, u4 _ _ h3, ?_, by omega, ?_, ?_, by simp⟩
      · rw [upd_same]
        show some (HO.tup [V.int (12 + (g1 : Int) % 49), V.ref q3]) = _
        have e : 12 + (g1 : Int) % 49 = ((12 + g1 % 49 : Nat) : Int) := by omega
        rw [e]
      · have e : 10 + (g1 : Int) % 2 = ((10 + g1 % 2 : Nat) : Int) := by omega
        rw [e] at h1
        exact .cons (SqT.of (u4 _ _ (u3 _ _ (u2 _ _ h1)))) (.cons (SqT.of (u4 _ _ (u3 _ _ h2))) .nil)
      · intro x hx
        rcases List.mem_cons.mp hx with rfl | hx
        · show 3 < 10 + g1 % 2 ∧ 10 + g1 % 2 < 12 + g1 % 49
          omega
        · rw [List.mem_singleton.mp hx]
          show 9 < 11 ∧ 11 < 12 + g1 % 49
          omega
      · refine List.pairwise_cons.mpr ⟨fun x hx => ?_, List.pairwise_singleton _ _⟩
        rw [List.mem_singleton.mp hx]
        exact .inl (by show 3 < 9; decide)
    rintro σ H6 ⟨t, e, as, n, ed, rfl, hsp, hsg, ht, he, pa, n60', ok, pw, l32⟩
    have le := len_pairs pa
    rw [List.length_map] at le
    have lim : ∀ e ∈ ed, e.1 ≤ 100 ∧ e.2 ≤ 100 := fun e he => by have := ok e he; omega
    -- the first line
    have gp : ∀ k : Nat, k ≤ 100 → (toString ((k : Nat) : Int) : Str).length ≤ 3 := fun k hk => by rw [len_tl, tl_num]; exact num3 hk
    have e6 : ("graph " : Str).length = 6 := rfl
    have e1 : (" " : Str).length = 1 := rfl
    have e1' : ("\n" : Str).length = 1 := rfl
    have pn := gp n (by omega)
    have pm := gp ed.length (by omega)
    refine ⟨fun σ H7 => ∃ T : Str, σ = [some (V.ref a), some (V.ref np), some (V.ref pl), some (V.ref sp), some (V.ref sg), some (V.ref t), some (V.str T), none, none, none, none, none, none] ∧ H7 = H6 ∧ tl T = headC n ed.length ++ [10] ∧ T.length ≤ 20, ?_, ?_⟩
    · refine ⟨_, rfl, t, _, 0, .int n, rfl, rfl, SqT.of ht, at_nat rfl, _, rfl, small_log (by omega), _, _, rfl, rfl, by rw [sizeLine_eq]; omega, ?_⟩
      refine ⟨_, _, rfl, rfl, by rw [sizeLine_eq, la]; omega, ?_⟩
      refine ⟨_, rfl, t, _, 1, .ref e, rfl, rfl, SqT.of ht, at_nat rfl, e, _, rfl, .inl (SqL.of he), ?_⟩
      rw [List.length_map, le]
      refine ⟨_, rfl, small_log (by omega), _, _, rfl, rfl, by rw [sizeLine_eq, la, la]; omega, ?_⟩
      refine ⟨_, _, rfl, rfl, by rw [sizeLine_eq, la, la, la]; omega, ?_⟩
      refine ⟨_, rfl, rfl, ?_, by rw [la, la, la, la]; omega⟩
      rw [tl_append, tl_append, tl_append, tl_append, tl_num, tl_num, tl_sp, tl_nl, tl_gr]
      unfold headC
      simp only [List.append_assoc]
    rintro σ H7 ⟨T0, rfl, rfl, hT0, lT0⟩
    -- the lines of the edges
    refine ⟨fun σ H8 => ∃ (T : Str) (y7 : Option V), σ = [some (V.ref a), some (V.ref np), some (V.ref pl), some (V.ref sp), some (V.ref sg), some (V.ref t), some (V.str T), y7, none, none, none, none, none] ∧ H8 = H7 ∧ tl T = textC n ed, ?_, ?_⟩
    · refine ⟨_, rfl, t, _, 1, .ref e, rfl, rfl, SqT.of ht, at_nat rfl, e, rfl, ⟨_, SqL.of he⟩, ?_⟩
      refine for_list (K := K) (a := e) (xs := as.map V.ref) (fun i σ H8 => ∃ (T : Str) (y7 : Option V), σ = [some (V.ref a), some (V.ref np), some (V.ref pl), some (V.ref sp), some (V.ref sg), some (V.ref t), some (V.str T), y7, none, none, none, none, none] ∧ H8 = H7 ∧ tl T = (headC n ed.length ++ [10]) ++ (ed.take i).flatMap (fun e => lineC e ++ [10]) ∧ T.length ≤ 20 * (i + 1)) ⟨T0, none, rfl, rfl, by rw [List.take_zero, List.flatMap_nil, List.append_nil]; exact hT0, lT0⟩ (fun i σ H8 _ ⟨_, _, _, e8, _⟩ => by rw [e8]; exact SqL.of he) ?_ ?_
      · rintro i x σ H8 hx ⟨T, y7, rfl, rfl, hT, lT⟩
        rw [List.getElem?_map] at hx
        cases ea : as[i]? with
        | none => rw [ea] at hx; cases hx
        | some a1 =>
          rw [ea] at hx
          cases hx
          obtain ⟨q, hq, hs⟩ := pa.get ea
          rw [List.getElem?_map] at hq
          cases eq : ed[i]? with
          | none => rw [eq] at hq; cases hq
          | some e2 =>
            rw [eq] at hq
            cases hq
            obtain ⟨u100, v100⟩ := lim e2 (List.mem_of_getElem? eq)
            have pu := gp e2.1 u100
            have pv' := gp e2.2 v100
            have hi : i < ed.length := (List.getElem?_eq_some_iff.mp eq).1
            refine ⟨_, rfl, _, rfl, a1, _, 0, .int (e2.1 : Nat), rfl, rfl, hs, at_nat rfl, _, rfl, small_log u100, _, _, rfl, rfl, by rw [sizeLine_eq]; omega, ?_⟩
            refine ⟨_, _, rfl, rfl, by rw [sizeLine_eq, la]; omega, ?_⟩
            refine ⟨_, rfl, a1, _, 1, .int (e2.2 : Nat), rfl, rfl, hs, at_nat rfl, _, rfl, small_log v100, _, _, rfl, rfl, by rw [sizeLine_eq, la, la]; omega, ?_⟩
            refine ⟨_, _, rfl, rfl, by rw [sizeLine_eq, la, la, la]; omega, ?_⟩
            refine ⟨_, _, rfl, rfl, ?_, by rw [la, la, la, la]; omega⟩
            rw [tl_append, tl_append, tl_append, tl_append, tl_num, tl_num, tl_sp, tl_nl, hT, L2.take_next eq, List.flatMap_append, List.flatMap_singleton]
            unfold lineC
            simp only [List.append_assoc]
      · rintro σ H8 ⟨T, y7, rfl, rfl, hT, lT⟩
        refine ⟨T, y7, rfl, rfl, ?_⟩
        rw [List.length_map, le, List.take_length] at hT
        exact hT
    rintro σ H8 ⟨T, y7, rfl, rfl, hT⟩
    have tlen := text_len (n := n) (by omega) (by omega) lim
    have lT : T.length ≤ 660 ∧ (cutAt 10 (tl T)).length ≤ 34 := by
      rw [cut_count, hT, text_cnt, len_tl, hT]
      omega
    -- graph_text of the graph
    refine ⟨fun σ H9 => Same H8 H9 ∧ σ = [some (V.ref a), some (V.ref np), some (V.ref pl), some (V.ref sp), some (V.ref sg), some (V.ref t), some (V.str T), y7, none, none, none, none, none], ?_, ?_⟩
    · refine ⟨_, rfl, t, _, 0, .int n, rfl, rfl, SqT.of ht, at_nat rfl, _, rfl, t, _, 1, .ref e, rfl, rfl, SqT.of ht, at_nat rfl, fun x dx nx ndx nex => ?_⟩
      obtain ⟨okp, srt, nd⟩ := prE_ok ok pw
      have s45 : Same H8 (upd (upd H8 dx (.own x)) x (.ins C dx [])) := same_put (same_upd ndx) nx
      have hx := mk_evs n60' okp nd
      refine ⟨x, dx, n, e, as.map V.ref, evs (ed.map prE), rfl, upd_same, SqL.of (s45 _ _ he), ev_pairs (pa.same s45), ?_, fun z => ?_, fun ps hps H9 qs hb pm hG _ => ⟨rfl, ?_⟩⟩
      · unfold evs
        rw [List.length_map, List.length_map]
        omega
      · rw [hx] at z
        cases z
      rw [hx] at hps
      cases hps
      have eqs := sorted_uniq hG.srt (List.Pairwise.imp (fun {a b} h => lex_asym h) srt) pm.symm
      rw [← eqs] at hG
      have s89 : Same H8 H9 := fun b o hbo => hb _ _ (s45 _ _ hbo) (ne_of_none hbo nx)
      refine ⟨x, n, ed, rfl, hG, fun H10 y s10 hy => ?_⟩
      refine ⟨_, rfl, rfl, _, rfl, ?_⟩
      refine L2.iteNS (congrArg V.str (tl_inj (hy.trans hT.symm))) ?_
      exact ⟨s89.trans s10, rfl⟩
    rintro σ H9 ⟨s9, rfl⟩
    have hsp9 := s9 _ _ hsp
    have hsg9 := s9 _ _ hsg
    -- spoilt
    refine ⟨fun σ H10 => ∃ T1 : Str, Same H9 H10 ∧ (tl T1).length ≤ 2 * 660 + 2 ∧ (cutAt 10 (tl T1)).length ≤ 34 + 1 ∧ σ = [some (V.ref a), some (V.ref np), some (V.ref pl), some (V.ref sp), some (V.ref sg), some (V.ref t), some (V.str T1), y7, none, none, none, none, none], ?_, ?_⟩
    · refine ⟨_, rfl, _, rfl, sp, _, 0, .int x0, rfl, rfl, SqL.of hsp9, at_nat rfl, _, rfl, sg, _, 0, .int g0, rfl, rfl, SqL.of hsg9, at_nat rfl, T, x0, g0, rfl, by omega, fun H10 T1 s10 nr => ?_⟩
      have z := near_trans2 nr ⟨by rw [← len_tl]; exact lT.1, lT.2⟩
      exact ⟨T1, s10, z.1, z.2, rfl⟩
    rintro σ H10 ⟨T1, s10, l1, c1, rfl⟩
    have hsp10 := s10 _ _ hsp9
    have hsg10 := s10 _ _ hsg9
    refine ⟨fun σ H11 => ∃ T2 : Str, Same H10 H11 ∧ (tl T2).length ≤ 2 * (2 * 660 + 2) + 2 ∧ (cutAt 10 (tl T2)).length ≤ 34 + 1 + 1 ∧ σ = [some (V.ref a), some (V.ref np), some (V.ref pl), some (V.ref sp), some (V.ref sg), some (V.ref t), some (V.str T2), y7, none, none, none, none, none], ?_, ?_⟩
    · refine ⟨_, rfl, sp, _, 1, .int x1, rfl, rfl, SqL.of hsp10, at_nat rfl, _, _, rfl, rfl, (by show (0 : Int) < 3; decide), rfl, _, rfl, ?_⟩
      refine ite2 (fun _ => ?_) (fun _ => ⟨T1, Same.refl _, by omega, by omega, rfl⟩)
      refine ⟨_, rfl, _, rfl, sp, _, 1, .int x1, rfl, rfl, SqL.of hsp10, at_nat rfl, _, _, rfl, rfl, ⟨by decide, by decide⟩, _, rfl, sg, _, 1, .int g1, rfl, rfl, SqL.of hsg10, at_nat rfl, T1, x1 / 3, g1, rfl, by rw [len_tl]; omega, fun H11 T2 s11 nr => ?_⟩
      have z := near_trans2 nr ⟨l1, c1⟩
      exact ⟨T2, s11, z.1, z.2, rfl⟩
    rintro σ H11 ⟨T2, s11, l2, c2, rfl⟩
    have lT2 := len_tl T2
    -- expected
    refine ⟨_, rfl, T2, rfl, by omega, fun H12 s12 => ?_⟩
    have sm := same_line (cutAt_ne 10 (tl T2))
    refine ⟨_, rfl, T2, rfl, by omega, by omega, ?_, ?_⟩
    · intro k hk H13 d s13 hd
      rw [hk] at sm
      have sm : lawF (cutAt 10 (tl T2)) = k := sm
      have kp := prog_pos hk
      rw [sm]
      refine ⟨true, D.em, fun _ ax hax => ?_, fun z => by cases z⟩
      refine ⟨.ref ax, rfl, rfl, rfl, d, _, .int k, rfl, hd, rfl, ?_⟩
      refine ⟨_, rfl, _, _, rfl, rfl, _, rfl, iteY (by show (k : Int) > 0; omega) ?_⟩
      refine ⟨_, rfl, .int k, .ty "int", .type "int", .type "int", true, rfl, .ty "int", .base (.int k), kit_ty (by decide +kernel), true, rfl, iteT ?_⟩
      refine ⟨_, rfl, .int k, .ty "bool", .type "int", .type "bool", false, rfl, .ty "bool", .base (.int k), kit_ty (by decide +kernel), _, rfl, true, rfl, iteT ?_⟩
      refine ⟨_, rfl, _, rfl, rfl, _, rfl, iteY rfl ?_⟩
      exact ⟨.ref ax, rfl, rfl, ⟨d, _, rfl, hd⟩, .ref CW, .ref CW, true, rfl, fun u r => r, D.kW, qQ _⟩
    · intro n' es hk H13 p s13 G
      rw [hk] at sm
      have sm : lawF (cutAt 10 (tl T2)) = 0 := sm
      obtain ⟨eT, _⟩ := prog_text hk
      rw [sm]
      refine ⟨_, rfl, rfl, _, rfl, iteY rfl ?_⟩
      refine ⟨_, rfl, p, n', es, rfl, G, fun H14 y s14 hy => ?_⟩
      refine ⟨_, rfl, rfl, ?_⟩
      have : y = T2 := tl_inj (hy.trans eT.symm)
      subst this
      have e : decide (V.str y = V.str y) = true := decide_eq_true rfl
      rw [e]
      exact qQ _
end
end Sm

set_option Elab.async false
set_option linter.all false
set_option maxRecDepth 100000
set_option maxHeartbeats 8000000
namespace Sm
open PySem PySem.Spec PyProof.Rows L2
theorem all_mk {l : PySem.W.OpenLaw} {w : World} {K : PySem.W.Frag} {h : Heap} {mg : Str → Option Value} {fa C CT CW CB : Addr} {t_MOST_VERTICES t_MOST_DIGITS : Tok} (X : K.In h) (G : h.Ns mainGlobals mg) (hfa : mg "law" = some (.ref fa))
    {fNums : Addr} {odNums anNums : Option Addr} {slNums : Array (Option Value)} {ocNums kVNums dcNums pmNums cdNums ctNums : Value}
    {fTake : Addr} {odTake anTake : Option Addr} {slTake : Array (Option Value)} {ocTake kVTake dcTake pmTake cdTake ctTake : Value}
    {fPrs : Addr} {odPrs anPrs : Option Addr} {slPrs : Array (Option Value)} {ocPrs kVPrs dcPrs pmPrs cdPrs ctPrs : Value}
    {fGr : Addr} {odGr anGr : Option Addr} {slGr : Array (Option Value)} {ocGr kVGr dcGr pmGr cdGr ctGr : Value}
    {fNum : Addr} {odNum anNum : Option Addr} {slNum : Array (Option Value)} {ocNum kVNum dcNum pmNum cdNum ctNum : Value}
    {fVtx : Addr} {odVtx anVtx : Option Addr} {slVtx : Array (Option Value)} {ocVtx kVVtx dcVtx pmVtx cdVtx ctVtx : Value}
    {fEdg : Addr} {odEdg anEdg : Option Addr} {slEdg : Array (Option Value)} {ocEdg kVEdg dcEdg pmEdg cdEdg ctEdg : Value}
    {fNls : Addr} {odNls anNls : Option Addr} {slNls : Array (Option Value)} {ocNls kVNls dcNls pmNls cdNls ctNls : Value}
    {fGt : Addr} {odGt anGt : Option Addr} {slGt : Array (Option Value)} {ocGt kVGt dcGt pmGt cdGt ctGt : Value}
    {fSpl : Addr} {odSpl anSpl : Option Addr} {slSpl : Array (Option Value)} {ocSpl kVSpl dcSpl pmSpl cdSpl ctSpl : Value}
    {fLn : Addr} {odLn anLn : Option Addr} {slLn : Array (Option Value)} {ocLn kVLn dcLn pmLn cdLn ctLn : Value}
    {fWl : Addr} {odWl anWl : Option Addr} {slWl : Array (Option Value)} {ocWl kVWl dcWl pmWl cdWl ctWl : Value}
    {fNo : Addr} {odNo anNo : Option Addr} {slNo : Array (Option Value)} {ocNo kVNo dcNo pmNo cdNo ctNo : Value}
    {fFl : Addr} {odFl anFl : Option Addr} {slFl : Array (Option Value)} {ocFl kVFl dcFl pmFl cdFl ctFl : Value}
    {fEi : Addr} {odEi anEi : Option Addr} {slEi : Array (Option Value)} {ocEi kVEi dcEi pmEi cdEi ctEi : Value}
    {fEb : Addr} {odEb anEb : Option Addr} {slEb : Array (Option Value)} {ocEb kVEb dcEb pmEb cdEb ctEb : Value}
    {fGo : Addr} {odGo anGo : Option Addr} {slGo : Array (Option Value)} {ocGo kVGo dcGo pmGo cdGo ctGo : Value}
    {fLaw : Addr} {odLaw anLaw : Option Addr} {slLaw : Array (Option Value)} {ocLaw kVLaw dcLaw pmLaw cdLaw ctLaw : Value}
    {fInit : Addr} {odInit anInit : Option Addr} {slInit : Array (Option Value)} {ocInit kVInit dcInit pmInit cdInit ctInit : Value}
    {fBtI : Addr} {odBtI anBtI : Option Addr} {slBtI : Array (Option Value)} {ocBtI kVBtI dcBtI pmBtI cdBtI ctBtI : Value}
    (aC : PySem.W.nsIn K mainGlobals "Graph" = some (some (.ref C)))
    (aCT : PySem.W.nsIn K mainGlobals "BadText" = some (some (.ref CT)))
    (aCW : PySem.W.nsIn K mainGlobals "WidthError" = some (some (.ref CW)))
    (aCB : PySem.W.nsIn K mainGlobals "BadGraph" = some (some (.ref CB)))
    (aNums : PySem.W.nsIn K mainGlobals "_law_numbers" = some (some (.ref fNums)))
    (aTake : PySem.W.nsIn K mainGlobals "_law_take" = some (some (.ref fTake)))
    (aPrs : PySem.W.nsIn K mainGlobals "_law_pairs" = some (some (.ref fPrs)))
    (aGr : PySem.W.nsIn K mainGlobals "_law_graph" = some (some (.ref fGr)))
    (aNum : PySem.W.nsIn K mainGlobals "is_number" = some (some (.ref fNum)))
    (aVtx : PySem.W.nsIn K mainGlobals "is_vertex" = some (some (.ref fVtx)))
    (aEdg : PySem.W.nsIn K mainGlobals "is_edge" = some (some (.ref fEdg)))
    (aNls : PySem.W.nsIn K mainGlobals "near_lists" = some (some (.ref fNls)))
    (aGt : PySem.W.nsIn K mainGlobals "graph_text" = some (some (.ref fGt)))
    (aSpl : PySem.W.nsIn K mainGlobals "_law_spoilt" = some (some (.ref fSpl)))
    (aLn : PySem.W.nsIn K mainGlobals "_law_number" = some (some (.ref fLn)))
    (aWl : PySem.W.nsIn K mainGlobals "_law_wrong_line" = some (some (.ref fWl)))
    (aNo : PySem.W.nsIn K mainGlobals "number_of" = some (some (.ref fNo)))
    (aFl : PySem.W.nsIn K mainGlobals "first_line" = some (some (.ref fFl)))
    (aEi : PySem.W.nsIn K mainGlobals "edge_in" = some (some (.ref fEi)))
    (aEb : PySem.W.nsIn K mainGlobals "edges_behind" = some (some (.ref fEb)))
    (aGo : PySem.W.nsIn K mainGlobals "graph_of" = some (some (.ref fGo)))
    (aLaw : PySem.W.nsIn K mainGlobals "law" = some (some (.ref fLaw)))
    (aInit : PySem.W.findIn K (.ref C) "__init__" = some (some (.ref fInit)))
    (iInit : PySem.W.isFn K (.ref fInit) = true)
    (aBtI : PySem.W.findIn K (.ref CT) "__init__" = some (some (.ref fBtI)))
    (iBtI : PySem.W.typeIn K (.ref fBtI) = some (.type "function"))
    (lNums : K.lookup fNums = some ⟨ocNums, odNums, .func (PySem.W.fnOf "_law_numbers" "_law_numbers" (defArgs sNums) (defBody sNums) (defScope sNums) .none kVNums dcNums pmNums anNums cdNums ctNums), slNums⟩)
    (cNums : PySem.W.codeIn K cdNums "_law_numbers" = true)
    (kNums : PySem.W.keepIn K (.ref fNums) = true)
    (lTake : K.lookup fTake = some ⟨ocTake, odTake, .func (PySem.W.fnOf "_law_take" "_law_take" (defArgs sTake) (defBody sTake) (defScope sTake) .none kVTake dcTake pmTake anTake cdTake ctTake), slTake⟩)
    (cTake : PySem.W.codeIn K cdTake "_law_take" = true)
    (kTake : PySem.W.keepIn K (.ref fTake) = true)
    (lPrs : K.lookup fPrs = some ⟨ocPrs, odPrs, .func (PySem.W.fnOf "_law_pairs" "_law_pairs" (defArgs sPrs) (defBody sPrs) (defScope sPrs) .none kVPrs dcPrs pmPrs anPrs cdPrs ctPrs), slPrs⟩)
    (cPrs : PySem.W.codeIn K cdPrs "_law_pairs" = true)
    (kPrs : PySem.W.keepIn K (.ref fPrs) = true)
    (lGr : K.lookup fGr = some ⟨ocGr, odGr, .func (PySem.W.fnOf "_law_graph" "_law_graph" (defArgs sGr) (defBody sGr) (defScope sGr) .none kVGr dcGr pmGr anGr cdGr ctGr), slGr⟩)
    (cGr : PySem.W.codeIn K cdGr "_law_graph" = true)
    (kGr : PySem.W.keepIn K (.ref fGr) = true)
    (lNum : K.lookup fNum = some ⟨ocNum, odNum, .func (PySem.W.fnOf "is_number" "is_number" (defArgs sNum) (defBody sNum) (defScope sNum) .none kVNum dcNum pmNum anNum cdNum ctNum), slNum⟩)
    (cNum : PySem.W.codeIn K cdNum "is_number" = true)
    (kNum : PySem.W.keepIn K (.ref fNum) = true)
    (lVtx : K.lookup fVtx = some ⟨ocVtx, odVtx, .func (PySem.W.fnOf "is_vertex" "is_vertex" (defArgs sVtx) (defBody sVtx) (defScope sVtx) .none kVVtx dcVtx pmVtx anVtx cdVtx ctVtx), slVtx⟩)
    (cVtx : PySem.W.codeIn K cdVtx "is_vertex" = true)
    (kVtx : PySem.W.keepIn K (.ref fVtx) = true)
    (lEdg : K.lookup fEdg = some ⟨ocEdg, odEdg, .func (PySem.W.fnOf "is_edge" "is_edge" (defArgs sEdg) (defBody sEdg) (defScope sEdg) .none kVEdg dcEdg pmEdg anEdg cdEdg ctEdg), slEdg⟩)
    (cEdg : PySem.W.codeIn K cdEdg "is_edge" = true)
    (kEdg : PySem.W.keepIn K (.ref fEdg) = true)
    (lNls : K.lookup fNls = some ⟨ocNls, odNls, .func (PySem.W.fnOf "near_lists" "near_lists" (defArgs sNls) (defBody sNls) (defScope sNls) .none kVNls dcNls pmNls anNls cdNls ctNls), slNls⟩)
    (cNls : PySem.W.codeIn K cdNls "near_lists" = true)
    (kNls : PySem.W.keepIn K (.ref fNls) = true)
    (lGt : K.lookup fGt = some ⟨ocGt, odGt, .func (PySem.W.fnOf "graph_text" "graph_text" (defArgs sGt) (defBody sGt) (defScope sGt) .none kVGt dcGt pmGt anGt cdGt ctGt), slGt⟩)
    (cGt : PySem.W.codeIn K cdGt "graph_text" = true)
    (kGt : PySem.W.keepIn K (.ref fGt) = true)
    (lSpl : K.lookup fSpl = some ⟨ocSpl, odSpl, .func (PySem.W.fnOf "_law_spoilt" "_law_spoilt" (defArgs sSpl) (defBody sSpl) (defScope sSpl) .none kVSpl dcSpl pmSpl anSpl cdSpl ctSpl), slSpl⟩)
    (cSpl : PySem.W.codeIn K cdSpl "_law_spoilt" = true)
    (kSpl : PySem.W.keepIn K (.ref fSpl) = true)
    (lLn : K.lookup fLn = some ⟨ocLn, odLn, .func (PySem.W.fnOf "_law_number" "_law_number" (defArgs sLn) (defBody sLn) (defScope sLn) .none kVLn dcLn pmLn anLn cdLn ctLn), slLn⟩)
    (cLn : PySem.W.codeIn K cdLn "_law_number" = true)
    (kLn : PySem.W.keepIn K (.ref fLn) = true)
    (lWl : K.lookup fWl = some ⟨ocWl, odWl, .func (PySem.W.fnOf "_law_wrong_line" "_law_wrong_line" (defArgs sWl) (defBody sWl) (defScope sWl) .none kVWl dcWl pmWl anWl cdWl ctWl), slWl⟩)
    (cWl : PySem.W.codeIn K cdWl "_law_wrong_line" = true)
    (kWl : PySem.W.keepIn K (.ref fWl) = true)
    (lNo : K.lookup fNo = some ⟨ocNo, odNo, .func (PySem.W.fnOf "number_of" "number_of" (defArgs sNo) (defBody sNo) (defScope sNo) .none kVNo dcNo pmNo anNo cdNo ctNo), slNo⟩)
    (cNo : PySem.W.codeIn K cdNo "number_of" = true)
    (kNo : PySem.W.keepIn K (.ref fNo) = true)
    (lFl : K.lookup fFl = some ⟨ocFl, odFl, .func (PySem.W.fnOf "first_line" "first_line" (defArgs sFl) (defBody sFl) (defScope sFl) .none kVFl dcFl pmFl anFl cdFl ctFl), slFl⟩)
    (cFl : PySem.W.codeIn K cdFl "first_line" = true)
    (kFl : PySem.W.keepIn K (.ref fFl) = true)
    (lEi : K.lookup fEi = some ⟨ocEi, odEi, .func (PySem.W.fnOf "edge_in" "edge_in" (defArgs sEi) (defBody sEi) (defScope sEi) .none kVEi dcEi pmEi anEi cdEi ctEi), slEi⟩)
    (cEi : PySem.W.codeIn K cdEi "edge_in" = true)
    (kEi : PySem.W.keepIn K (.ref fEi) = true)
    (lEb : K.lookup fEb = some ⟨ocEb, odEb, .func (PySem.W.fnOf "edges_behind" "edges_behind" (defArgs sEb) (defBody sEb) (defScope sEb) .none kVEb dcEb pmEb anEb cdEb ctEb), slEb⟩)
    (cEb : PySem.W.codeIn K cdEb "edges_behind" = true)
    (kEb : PySem.W.keepIn K (.ref fEb) = true)
    (lGo : K.lookup fGo = some ⟨ocGo, odGo, .func (PySem.W.fnOf "graph_of" "graph_of" (defArgs sGo) (defBody sGo) (defScope sGo) .none kVGo dcGo pmGo anGo cdGo ctGo), slGo⟩)
    (cGo : PySem.W.codeIn K cdGo "graph_of" = true)
    (kGo : PySem.W.keepIn K (.ref fGo) = true)
    (lLaw : K.lookup fLaw = some ⟨ocLaw, odLaw, .func (PySem.W.fnOf "law" "law" (defArgs sLaw) (defBody sLaw) (defScope sLaw) .none kVLaw dcLaw pmLaw anLaw cdLaw ctLaw), slLaw⟩)
    (cLaw : PySem.W.codeIn K cdLaw "law" = true)
    (kLaw : PySem.W.keepIn K (.ref fLaw) = true)
    (lInit : K.lookup fInit = some ⟨ocInit, odInit, .func (PySem.W.fnOf "__init__" "Graph.__init__" (defArgs sInit) (defBody sInit) (defScope sInit) .none kVInit dcInit pmInit anInit cdInit ctInit), slInit⟩)
    (cInit : PySem.W.codeIn K cdInit "Graph.__init__" = true)
    (kInit : PySem.W.keepIn K (.ref fInit) = true)
    (lBtI : K.lookup fBtI = some ⟨ocBtI, odBtI, .func (PySem.W.fnOf "__init__" "BadText.__init__" (defArgs sBtI) (defBody sBtI) (defScope sBtI) .none kVBtI dcBtI pmBtI anBtI cdBtI ctBtI), slBtI⟩)
    (cBtI : PySem.W.codeIn K cdBtI "BadText.__init__" = true)
    (kBtI : PySem.W.keepIn K (.ref fBtI) = true)
    (oc : ∃ nm q N bs bm sn sub ab col dd k0 k1 k2 k3 k5, K.lookup CT = some (excClassObj nm q CT N bs bm true sn sub ab col dd k0 k1 k2 k3 k5 "ValueError.__new__") ∧ PySem.HandSPX.refsVE bm = true)
    (osa : PySem.W.findIn K (.ref CT) "__setattr__" = some (some (.builtin "object.__setattr__")))
    (ose : PySem.W.subIn K (.ref CT) (.type "BaseException") = some true)
    (oty : PySem.W.typeIn K (.ref CT) = some (.type "type"))
    (okc : PySem.W.keepIn K (.ref CT) = true)
    (onx : PySem.W.findIn K (.ref CT) "line" = some none)
    (e1 : PySem.W.findIn K (.ref CT) "__getattribute__" = some (some (.builtin "BaseException.__getattribute__")))
    (e2 : PySem.W.findIn K (.ref CT) "__getattr__" = some none)
    (e4 : PySem.W.hasDictIn K CT = true)
    (e5 : PySem.W.findIn K (.ref CT) "__class__" = some (some (.builtin "object.__class__")))
    (e6 : PySem.W.specialIn K (.builtin "object.__class__") "__get__" = some (some (.builtin "getset_descriptor.__get__")))
    (e7 : PySem.W.takesIn K (.builtin "object.__class__") = some true)
    (e8 : PySem.W.mroIn K CT (.type "object") = some true)
    (kCW : PySem.W.kitOne K (.ref CT) (.ref CW) = some true)
    (eTT : PySem.W.exmOne K (.ref CT) (.ref CT) = some true)
    (pg : PySem.W.plainGet K C Str.empty = true)
    (hd : PySem.W.hasDictIn K C = true)
    (po : PySem.W.plainOver K C = true)
    (sa : PySem.W.findIn K (.ref C) "__setattr__" = some (some (.builtin "object.__setattr__")))
    (mk : PySem.W.makesIn K C = true)
    (kc : PySem.W.keepIn K (.ref C) = true)
    (nS : PySem.W.findIn K (.ref C) "size" = some none)
    (nE : PySem.W.findIn K (.ref C) "edges" = some none)
    (nN : PySem.W.findIn K (.ref C) "_near" = some none)
    (xCB : PySem.W.excIn K CB [.type "ValueError", .type "Exception", .type "BaseException", .type "object"] "ValueError.__new__" = true)
    (kkCB : PySem.W.keepIn K (.ref CB) = true)
    (bbCB : PySem.W.subIn K (.ref CB) (.type "BaseException") = some true)
    (ttCB : PySem.W.typeIn K (.ref CB) = some (.type "type"))
    (v_MOST_VERTICES : PySem.W.nsIn K mainGlobals "MOST_VERTICES" = some (some (.int 60 t_MOST_VERTICES)))
    (v_MOST_DIGITS : PySem.W.nsIn K mainGlobals "MOST_DIGITS" = some (some (.int 4 t_MOST_DIGITS)))
    (z_range : PySem.W.nsIn K mainGlobals "range" = some none)
    (z_len : PySem.W.nsIn K mainGlobals "len" = some none)
    (z_abs : PySem.W.nsIn K mainGlobals "abs" = some none)
    (z_int : PySem.W.nsIn K mainGlobals "int" = some none)
    (z_set : PySem.W.nsIn K mainGlobals "set" = some none)
    (z_tuple : PySem.W.nsIn K mainGlobals "tuple" = some none)
    (z_sorted : PySem.W.nsIn K mainGlobals "sorted" = some none)
    (z_str : PySem.W.nsIn K mainGlobals "str" = some none)
    (z_isinstance : PySem.W.nsIn K mainGlobals "isinstance" = some none)
    (z_bool : PySem.W.nsIn K mainGlobals "bool" = some none)
    : ∃ fd : FuncData, (∀ (s : Shared) (v : Value), BindsTo s fd ⟨[v], []⟩ [("script", v)]) ∧ ∀ base : Heap, K.In base → base.Ns mainGlobals mg → FnOk l.prog w K mg base CX0 7 fa fd ["script"] (spLaw K) := by
  have e := hfa.symm.trans (PySem.W.mg_of X G aLaw)
  cases e
  have m_range := PySem.W.mg_none_of X G z_range
  have m_len := PySem.W.mg_none_of X G z_len
  have m_abs := PySem.W.mg_none_of X G z_abs
  have m_int := PySem.W.mg_none_of X G z_int
  have m_set := PySem.W.mg_none_of X G z_set
  have m_tuple := PySem.W.mg_none_of X G z_tuple
  have m_sorted := PySem.W.mg_none_of X G z_sorted
  have m_str := PySem.W.mg_none_of X G z_str
  have m_isinstance := PySem.W.mg_none_of X G z_isinstance
  have m_bool := PySem.W.mg_none_of X G z_bool
  have FNums := fun_mk (st := sNums) lNums cNums kNums
  have bNums := FNums.binds (ps := ["script", "many"]) fun _ _ _ _ _ _ us hl => match us, hl with | [_, _], _ => rfl
  have FTake := fun_mk (st := sTake) lTake cTake kTake
  have bTake := FTake.binds (ps := ["numbers", "place"]) fun _ _ _ _ _ _ us hl => match us, hl with | [_, _], _ => rfl
  have FPrs := fun_mk (st := sPrs) lPrs cPrs kPrs
  have bPrs := FPrs.binds (ps := ["size"]) fun _ _ _ _ _ _ us hl => match us, hl with | [_], _ => rfl
  have FGr := fun_mk (st := sGr) lGr cGr kGr
  have bGr := FGr.binds (ps := ["numbers", "place", "most"]) fun _ _ _ _ _ _ us hl => match us, hl with | [_, _, _], _ => rfl
  have FNum := fun_mk (st := sNum) lNum cNum kNum
  have bNum := FNum.binds (ps := ["value"]) fun _ _ _ _ _ _ us hl => match us, hl with | [_], _ => rfl
  have FVtx := fun_mk (st := sVtx) lVtx cVtx kVtx
  have bVtx := FVtx.binds (ps := ["value", "size"]) fun _ _ _ _ _ _ us hl => match us, hl with | [_, _], _ => rfl
  have FEdg := fun_mk (st := sEdg) lEdg cEdg kEdg
  have bEdg := FEdg.binds (ps := ["value", "size"]) fun _ _ _ _ _ _ us hl => match us, hl with | [_, _], _ => rfl
  have FNls := fun_mk (st := sNls) lNls cNls kNls
  have bNls := FNls.binds (ps := ["size", "edges"]) fun _ _ _ _ _ _ us hl => match us, hl with | [_, _], _ => rfl
  have FGt := fun_mk (st := sGt) lGt cGt kGt
  have bGt := FGt.binds (ps := ["graph"]) fun _ _ _ _ _ _ us hl => match us, hl with | [_], _ => rfl
  have FSpl := fun_mk (st := sSpl) lSpl cSpl kSpl
  have bSpl := FSpl.binds (ps := ["text", "number", "sign"]) fun _ _ _ _ _ _ us hl => match us, hl with | [_, _, _], _ => rfl
  have FLn := fun_mk (st := sLn) lLn cLn kLn
  have bLn := FLn.binds (ps := ["text", "most"]) fun _ _ _ _ _ _ us hl => match us, hl with | [_, _], _ => rfl
  have FWl := fun_mk (st := sWl) lWl cWl kWl
  have bWl := FWl.binds (ps := ["text"]) fun _ _ _ _ _ _ us hl => match us, hl with | [_], _ => rfl
  have FNo := fun_mk (st := sNo) lNo cNo kNo
  have bNo := FNo.binds (ps := ["word"]) fun _ _ _ _ _ _ us hl => match us, hl with | [_], _ => rfl
  have FFl := fun_mk (st := sFl) lFl cFl kFl
  have bFl := FFl.binds (ps := ["lines"]) fun _ _ _ _ _ _ us hl => match us, hl with | [_], _ => rfl
  have FEi := fun_mk (st := sEi) lEi cEi kEi
  have bEi := FEi.binds (ps := ["line", "size"]) fun _ _ _ _ _ _ us hl => match us, hl with | [_, _], _ => rfl
  have FEb := fun_mk (st := sEb) lEb cEb kEb
  have bEb := FEb.binds (ps := ["edge", "size"]) fun _ _ _ _ _ _ us hl => match us, hl with | [_, _], _ => rfl
  have FGo := fun_mk (st := sGo) lGo cGo kGo
  have bGo := FGo.binds (ps := ["text"]) fun _ _ _ _ _ _ us hl => match us, hl with | [_], _ => rfl
  have FLaw := fun_mk (st := sLaw) lLaw cLaw kLaw
  have bLaw := FLaw.binds (ps := ["script"]) fun _ _ _ _ _ _ us hl => match us, hl with | [_], _ => rfl
  have FInit := fun_mk (st := sInit) lInit cInit kInit
  have bInit := FInit.binds (ps := ["self", "size", "edges"]) fun _ _ _ _ _ _ us hl => match us, hl with | [_, _, _], _ => rfl
  have FBtI := fun_mk (st := sBtI) lBtI cBtI kBtI
  have bBtI := FBtI.binds (ps := ["self", "line"]) fun _ _ _ _ _ _ us hl => match us, hl with | [_, _], _ => rfl
  have gNums := PySem.W.mg_of X G aNums
  have gTake := PySem.W.mg_of X G aTake
  have gPrs := PySem.W.mg_of X G aPrs
  have gGr := PySem.W.mg_of X G aGr
  have gNum := PySem.W.mg_of X G aNum
  have gVtx := PySem.W.mg_of X G aVtx
  have gEdg := PySem.W.mg_of X G aEdg
  have gNls := PySem.W.mg_of X G aNls
  have gGt := PySem.W.mg_of X G aGt
  have gSpl := PySem.W.mg_of X G aSpl
  have gLn := PySem.W.mg_of X G aLn
  have gWl := PySem.W.mg_of X G aWl
  have gNo := PySem.W.mg_of X G aNo
  have gFl := PySem.W.mg_of X G aFl
  have gEi := PySem.W.mg_of X G aEi
  have gEb := PySem.W.mg_of X G aEb
  have gGo := PySem.W.mg_of X G aGo
  have gLaw := PySem.W.mg_of X G aLaw
  have TA : TxA mg := ⟨m_isinstance, m_int, m_bool, m_tuple, m_len⟩
  have T : TxG K mg C := ⟨⟨pg, hd, po, sa⟩, nS, nE, nN, PySem.W.mg_of X G aC⟩
  have TB : TxB K mg CT fBtI := ⟨PySem.W.mg_of X G aCT, ⟨oc, osa, ose, oty, okc⟩, aBtI, iBtI, onx⟩
  have TW : TxW K mg CT CW := ⟨⟨e1, e2, ose, e4, e5, e6, e7, e8⟩, ⟨e1, e2, ose, e4⟩, PySem.W.mg_of X G aCW, kCW, eTT⟩
  have B_CB : TxE K mg "BadGraph" CB := ⟨PySem.W.mg_of X G aCB, xCB, kkCB, bbCB, ttCB⟩
  have M : Mk K C fInit := ⟨mk, aInit, iInit, kc⟩
  refine ⟨PySem.W.fnOf "law" "law" (defArgs sLaw) (defBody sLaw) (defScope sLaw) .none kVLaw dcLaw pmLaw anLaw cdLaw ctLaw, fun s v => .of_eq rfl, fun base _ _ => ?_⟩
  have GNums : FnOk l.prog w K mg base CX0 1 fNums _ ["script", "many"] (spNums K) := ok_nums FNums m_range m_len m_abs m_int
  have GTake : FnOk l.prog w K mg base CX0 1 fTake _ ["numbers", "place"] (spTake K) := ok_take FTake m_len
  have GPrs : FnOk l.prog w K mg base CX0 1 fPrs _ ["size"] (spPrs K) := ok_prs FPrs m_range
  have GGr : FnOk l.prog w K mg base CX0 2 fGr _ ["numbers", "place", "most"] (spGr K) := ok_gr FGr GTake kTake bTake gTake GPrs kPrs bPrs gPrs
  have GNum : FnOk l.prog w K mg base CX0 1 fNum _ ["value"] spNum := ok_num FNum TA
  have GVtx : FnOk l.prog w K mg base CX0 2 fVtx _ ["value", "size"] spVtx := ok_vtx FVtx FNum bNum gNum TA
  have GEdg : FnOk l.prog w K mg base CX0 3 fEdg _ ["value", "size"] (spEdg K) := ok_edg FEdg GVtx kVtx bVtx gVtx TA
  have GNls : FnOk l.prog w K mg base CX0 1 fNls _ ["size", "edges"] (spNls K) := ok_nls FNls m_range
  have GInit : FnOk l.prog w K mg base (L2.CX l.prog w) 4 fInit _ ["self", "size", "edges"] (spInit K C CB) := ok_init FInit T B_CB GNum gNum kNum bNum GEdg gEdg kEdg bEdg GNls gNls kNls bNls (PySem.W.mg_of X G v_MOST_VERTICES) m_set m_tuple m_sorted
  have GGt : FnOk l.prog w K mg base CX0 1 fGt _ ["graph"] (spGt K C) := ok_gt FGt T m_len
  have GSpl : FnOk l.prog w K mg base CX0 1 fSpl _ ["text", "number", "sign"] spSpl := ok_spl FSpl m_len
  have GLn : FnOk l.prog w K mg base CX0 1 fLn _ ["text", "most"] spLn := ok_ln FLn m_range m_str
  have GWl : FnOk l.prog w K mg base CX0 2 fWl _ ["text"] spWl := ok_wl FWl m_len m_range m_int GLn kLn bLn gLn GPrs kPrs bPrs gPrs
  have GBtI : FnOk l.prog w K mg base CX0 1 fBtI _ ["self", "line"] (spBt K CT) := ok_bti FBtI TB
  have GNo : FnOk l.prog w K mg base CX0 1 fNo _ ["word"] spNo := ok_no FNo m_len m_int (PySem.W.mg_of X G v_MOST_DIGITS)
  have GFl : FnOk l.prog w K mg base (L2N.CX l.prog w) 3 fFl _ ["lines"] (spFl K CT) := ok_fl FFl TB m_len GBtI bBtI GNo kNo bNo gNo (PySem.W.mg_of X G v_MOST_VERTICES)
  have GEi : FnOk l.prog w K mg base CX0 4 fEi _ ["line", "size"] (spEi K) := ok_ei FEi m_len GNo kNo bNo gNo GEdg kEdg bEdg gEdg
  have GEb : FnOk l.prog w K mg base CX0 1 fEb _ ["edge", "size"] (spEb K) := ok_eb FEb
  have GGo : FnOk l.prog w K mg base (L2N.CX l.prog w) 6 fGo _ ["text"] (spGo K C CT) := ok_go FGo T TB m_len GBtI bBtI GFl kFl bFl gFl GEi kEi bEi gEi GEb kEb bEb gEb GInit M bInit
  exact ok_law FLaw T TB TW TA m_range m_len m_str GNums kNums bNums gNums GTake kTake bTake gTake GGr kGr bGr gGr GInit M bInit GGt kGt bGt gGt GSpl kSpl bSpl gSpl GWl kWl bWl gWl GGo kGo bGo gGo
end Sm

open PySem PySem.W PyProof.Rows
set_option Elab.async false
set_option maxRecDepth 100000 in
set_option maxHeartbeats 0 in
theorem PySem.Challenge.cw_smallwidth_k05_texts_of_graphs_holds : PySem.Challenge.rw_smallwidth_k05_texts_of_graphs.Holds := by
  w_on; o_law; k_head; (case hw => w_witness2)
  k_fill
  refine L2.walk_of (l := PySem.Challenge.rw_smallwidth_k05_texts_of_graphs) (n := 63) (k := 7) (x := "script") (CX := fun _ => L2.CX0) (sp := fun w => Sm.spLaw _) rfl (by decide) rfl ⟨rfl, by decide, by decide⟩ (fun w h Y => PySem.W.kIn_of Y) ?F (fun _ _ a ns hl _ hS => ⟨a, ns, rfl, hS, hl, fun _ => rfl⟩) (fun _ _ _ _ _ h => h)
  case F =>
    intro w mg fa h KX G hmg
    refine' Sm.all_mk KX G hmg ?aC ?aCT ?aCW ?aCB ?aNums ?aTake ?aPrs ?aGr ?aNum ?aVtx ?aEdg ?aNls ?aGt ?aSpl ?aLn ?aWl ?aNo ?aFl ?aEi ?aEb ?aGo ?aLaw ?aInit ?iInit ?aBtI ?iBtI ?lNums ?cNums ?kNums ?lTake ?cTake ?kTake ?lPrs ?cPrs ?kPrs ?lGr ?cGr ?kGr ?lNum ?cNum ?kNum ?lVtx ?cVtx ?kVtx ?lEdg ?cEdg ?kEdg ?lNls ?cNls ?kNls ?lGt ?cGt ?kGt ?lSpl ?cSpl ?kSpl ?lLn ?cLn ?kLn ?lWl ?cWl ?kWl ?lNo ?cNo ?kNo ?lFl ?cFl ?kFl ?lEi ?cEi ?kEi ?lEb ?cEb ?kEb ?lGo ?cGo ?kGo ?lLaw ?cLaw ?kLaw ?lInit ?cInit ?kInit ?lBtI ?cBtI ?kBtI ?oc ?osa ?ose ?oty ?okc ?onx ?e1 ?e2 ?e4 ?e5 ?e6 ?e7 ?e8 ?kCW ?eTT ?pg ?hd ?po ?sa ?mk ?kc ?nS ?nE ?nN ?xCB ?kkCB ?bbCB ?ttCB ?v_MOST_VERTICES ?v_MOST_DIGITS ?z_range ?z_len ?z_abs ?z_int ?z_set ?z_tuple ?z_sorted ?z_str ?z_isinstance ?z_bool
    (case aC => first | k_is | rfl)
    (case aCT => first | k_is | rfl)
    (case aCW => first | k_is | rfl)
    (case aCB => first | k_is | rfl)
    (case aNums => first | k_is | rfl)
    (case aTake => first | k_is | rfl)
    (case aPrs => first | k_is | rfl)
    (case aGr => first | k_is | rfl)
    (case aNum => first | k_is | rfl)
    (case aVtx => first | k_is | rfl)
    (case aEdg => first | k_is | rfl)
    (case aNls => first | k_is | rfl)
    (case aGt => first | k_is | rfl)
    (case aSpl => first | k_is | rfl)
    (case aLn => first | k_is | rfl)
    (case aWl => first | k_is | rfl)
    (case aNo => first | k_is | rfl)
    (case aFl => first | k_is | rfl)
    (case aEi => first | k_is | rfl)
    (case aEb => first | k_is | rfl)
    (case aGo => first | k_is | rfl)
    (case aLaw => first | k_is | rfl)
    (case aInit => first | k_is | rfl)
    (case iInit => first | k_is | rfl)
    (case aBtI => first | k_is | rfl)
    (case iBtI => first | k_is | rfl)
    (case lNums => first | k_is | rfl)
    (case cNums => first | k_is | rfl)
    (case kNums => first | k_is | rfl)
    (case lTake => first | k_is | rfl)
    (case cTake => first | k_is | rfl)
    (case kTake => first | k_is | rfl)
    (case lPrs => first | k_is | rfl)
    (case cPrs => first | k_is | rfl)
    (case kPrs => first | k_is | rfl)
    (case lGr => first | k_is | rfl)
    (case cGr => first | k_is | rfl)
    (case kGr => first | k_is | rfl)
    (case lNum => first | k_is | rfl)
    (case cNum => first | k_is | rfl)
    (case kNum => first | k_is | rfl)
    (case lVtx => first | k_is | rfl)
    (case cVtx => first | k_is | rfl)
    (case kVtx => first | k_is | rfl)
    (case lEdg => first | k_is | rfl)
    (case cEdg => first | k_is | rfl)
    (case kEdg => first | k_is | rfl)
    (case lNls => first | k_is | rfl)
    (case cNls => first | k_is | rfl)
    (case kNls => first | k_is | rfl)
    (case lGt => first | k_is | rfl)
    (case cGt => first | k_is | rfl)
    (case kGt => first | k_is | rfl)
    (case lSpl => first | k_is | rfl)
    (case cSpl => first | k_is | rfl)
    (case kSpl => first | k_is | rfl)
    (case lLn => first | k_is | rfl)
    (case cLn => first | k_is | rfl)
    (case kLn => first | k_is | rfl)
    (case lWl => first | k_is | rfl)
    (case cWl => first | k_is | rfl)
    (case kWl => first | k_is | rfl)
    (case lNo => first | k_is | rfl)
    (case cNo => first | k_is | rfl)
    (case kNo => first | k_is | rfl)
    (case lFl => first | k_is | rfl)
    (case cFl => first | k_is | rfl)
    (case kFl => first | k_is | rfl)
    (case lEi => first | k_is | rfl)
    (case cEi => first | k_is | rfl)
    (case kEi => first | k_is | rfl)
    (case lEb => first | k_is | rfl)
    (case cEb => first | k_is | rfl)
    (case kEb => first | k_is | rfl)
    (case lGo => first | k_is | rfl)
    (case cGo => first | k_is | rfl)
    (case kGo => first | k_is | rfl)
    (case lLaw => first | k_is | rfl)
    (case cLaw => first | k_is | rfl)
    (case kLaw => first | k_is | rfl)
    (case lInit => first | k_is | rfl)
    (case cInit => first | k_is | rfl)
    (case kInit => first | k_is | rfl)
    (case lBtI => first | k_is | rfl)
    (case cBtI => first | k_is | rfl)
    (case kBtI => first | k_is | rfl)
    (case oc => exact ⟨_, _, _, _, _, _, _, _, _, _, _, _, _, _, _, by first | k_is | rfl, by first | k_is | rfl | decide +kernel⟩)
    (case osa => first | k_is | rfl)
    (case ose => first | k_is | rfl)
    (case oty => first | k_is | rfl)
    (case okc => first | k_is | rfl)
    (case onx => first | k_is | rfl)
    (case e1 => first | k_is | rfl)
    (case e2 => first | k_is | rfl)
    (case e4 => first | k_is | rfl)
    (case e5 => first | k_is | rfl)
    (case e6 => first | k_is | rfl)
    (case e7 => first | k_is | rfl)
    (case e8 => first | k_is | rfl)
    (case kCW => first | k_is | rfl)
    (case eTT => first | k_is | rfl)
    (case pg => first | k_is | rfl)
    (case hd => first | k_is | rfl)
    (case po => first | k_is | rfl)
    (case sa => first | k_is | rfl)
    (case mk => first | k_is | rfl)
    (case kc => first | k_is | rfl)
    (case nS => first | k_is | rfl)
    (case nE => first | k_is | rfl)
    (case nN => first | k_is | rfl)
    (case xCB => first | k_is | k_exc | decide +kernel)
    (case kkCB => first | k_is | rfl)
    (case bbCB => first | k_is | rfl)
    (case ttCB => first | k_is | rfl)
    (case v_MOST_VERTICES => first | k_is | rfl)
    (case v_MOST_DIGITS => first | k_is | rfl)
    (case z_range => first | k_is | rfl)
    (case z_len => first | k_is | rfl)
    (case z_abs => first | k_is | rfl)
    (case z_int => first | k_is | rfl)
    (case z_set => first | k_is | rfl)
    (case z_tuple => first | k_is | rfl)
    (case z_sorted => first | k_is | rfl)
    (case z_str => first | k_is | rfl)
    (case z_isinstance => first | k_is | rfl)
    (case z_bool => first | k_is | rfl)

