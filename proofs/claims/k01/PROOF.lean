import PyProof.Rows.All
import Wide.All
import OpenK.AllK
import Wide.FinOn
import HandS.ForMost
import HandS.Set
import HandS.Strs
import HandS.TupSets
import HandS.SortRule
import HandS.SortInts
import HandS.ForExc
import KE.KSetDisp
import KE.GoesSet
import HandS.IsInst
import HandS.Deep
import HandS.Flow
import HandS.ExcIs
import HandS.Walk
import HandS.Conv
import HandS.Star
import HandS.DictComp
import HandS.Codes
import HandS.TupLe
import PySem.Challenge.RW_smallwidth_k01_graphs_and_parts
set_option Elab.async false
set_option linter.all false
set_option maxRecDepth 100000
set_option maxHeartbeats 2000000
/-! Sets of tuples of ints that grow by add, asked by in, sorted; up to 75 members. -/
namespace Sm
open PySem PySem.Spec PyProof.Rows L2
section
variable {P : Program} {w : World} {A : Around} {E : Value → Shared → Prop} {s : Shared}
/-- where the search for a hash begins -/
abbrev walk0 (m : Nat) (h : Int) : SetTable.Probe := runAt m (SetTable.bits h % (m + 1)) (SetTable.bits h)
/-- at a stands a set whose members are the tuples of L (its address, its ints) -/
structure TW (P : Program) (w : World) (h : Heap) (a : Addr) (L : List (Addr × List Int)) (es : Array (Int × Value)) (ep : Nat) (t : SetTable) : Prop where
  obj : ∃ o, h.get? a = some o ∧ o.ExactSet ∧ o.data = .set es ep t
  rws : es.toList = rowsOf P w L
  tbl : TabOk t (L.map fun p => thash P w p.2)
  dif : (L.map (·.2)).Nodup
  mem : ∀ p ∈ L, IsT P w h p.2 p.1
  pln : t.plain = true
  ld : w.params.followText "set-order" = true ∨ t.led = true
  fit : L.length * 5 < t.mask * 3
variable {a : Addr} {L : List (Addr × List Int)} {es : Array (Int × Value)} {ep : Nat} {t : SetTable}
theorem TW.len (R : TW P w s.heap a L es ep t) : es.size = L.length := by
  have q : es.toList.length = (rowsOf P w L).length := by rw [R.rws]
  rw [Array.length_toList, rowsOf, List.length_map] at q
  exact q
theorem TW.few (R : TW P w s.heap a L es ep t) : L.length ≤ 76 := by
  have q := R.fit
  rcases R.tbl.mok with e | e | e <;> omega
theorem TW.holds (R : TW P w s.heap a L es ep t) : t.fits es.size = true := by
  have q1 := R.tbl.sz
  rw [List.length_map] at q1
  have q2 := R.len
  have q3 := R.fit
  simp only [SetTable.fits, SetTable.fill, R.tbl.dm, Bool.and_eq_true, beq_iff_eq, decide_eq_true_eq]
  refine ⟨by omega, ?_⟩
  show t.place.size + 0 ≤ t.mask
  omega
theorem TW.at (R : TW P w s.heap a L es ep t) {i : Nat} {p : Addr × List Int} (h : L[i]? = some p) : es[i]? = some (thash P w p.2, Value.ref p.1) := by
  have q : es.toList[i]? = (rowsOf P w L)[i]? := by rw [R.rws]
  rw [Array.getElem?_toList] at q
  rw [q, rowsOf, List.getElem?_map, h]
  rfl
theorem nth_clean (m : Nat) : ∀ (n : Nat) (p : SetTable.Probe), p.dummy = none → (nth m p n).dummy = none
  | 0, _, h => h
  | n + 1, p, h => nth_clean m n (adv m p) (by unfold adv; split <;> exact h)
/-- the search from the c-th place of its way on, whether one adds or asks -/
theorem tw_from (R : TW P w s.heap a L es ep t) {x : Addr} {k : List Int} (hx : IsT P w s.heap k x) (hu : A.units < cLine) (adding : Bool) {K : Nat} (hKf : K < 10 * SetTable.turns t.mask)
    (hK : way t.mask (thash P w k) K ∉ t.place.toList) (hKb : ∀ c, c < K → way t.mask (thash P w k) c ∈ t.place.toList) {Q : SetFound → Shared → Prop}
    (hin : k ∈ L.map (·.2) → ∀ r : Option Nat, (adding = false → r.isSome = true) → Q (.there r) s)
    (hout : k ∉ L.map (·.2) → Q (.free (way t.mask (thash P w k) K) false) s) (f : Nat) :
    ∀ (c : Nat) (stand : Option SetTable.Probe), stand.getD (t.probeStart (thash P w k)) = nth t.mask (walk0 t.mask (thash P w k)) c → c ≤ K → K < c + f →
      (∀ (i : Nat) p, L[i]? = some p → p.2 = k → ∃ c', c ≤ c' ∧ c' < K ∧ t.place.toList[i]? = some (way t.mask (thash P w k) c')) →
      wpAny (model P w) A (setSearchFrom a (.ref x) (thash P w k) adding f stand) Q E s := by
  induction f with
  | zero => intro c _ _ h1 h2 _; omega
  | succ f ih =>
    intro c stand hst hc hf hre
    have ⟨o, ho, hex, hd⟩ := R.obj
    have hashes : ∀ (i : Nat) p, L[i]? = some p → (es[i]?.map (·.1)).getD 0 = thash P w p.2 := fun i p hp => by rw [R.at hp]; rfl
    have later : ∀ q, nth t.mask (nth t.mask (walk0 t.mask (thash P w k)) c) q = nth t.mask (walk0 t.mask (thash P w k)) (c + q) := fun q => (nth_add t.mask c _ q).symm
    have lj : ∀ q, (nth t.mask (nth t.mask (walk0 t.mask (thash P w k)) c) q).j = way t.mask (thash P w k) (c + q) := fun q => congrArg SetTable.Probe.j (later q)
    have met := go_spec t R.tbl.ris R.tbl.dm (fun i => (es[i]?.map (·.1)).getD 0) (thash P w k) (10 * SetTable.turns t.mask) (K - c) (nth t.mask (walk0 t.mask (thash P w k)) c)
      (nth_clean _ _ _ rfl) (by omega) (fun q hq => by rw [lj]; exact hKb (c + q) (by omega)) (by rw [lj, show c + (K - c) = K from by omega]; exact hK)
    rw [setSearchFrom_succ]
    refine wpAny_bind (wpAny_setState_of ho hd R.holds ?_)
    dsimp only
    have ngw : ¬ t.gaveWay = true := by
      unfold SetTable.gaveWay
      rw [mask_odd R.tbl.mok]
      decide
    refine wp_if_neg ngw ?_
    try refine wpAny_bind (wpAny_pure ?_)
    rcases met with ⟨q, i, hq, hi, hh, hno, hpr⟩ | ⟨hno, hpr⟩
    · rw [lj] at hi
      have pr : t.probe (fun i => (es[i]?.map (·.1)).getD 0) (thash P w k) (stand.getD (t.probeStart (thash P w k))) =
          some (.candidate (way t.mask (thash P w k) (c + q)) i (nth t.mask (walk0 t.mask (thash P w k)) (c + (q + 1)))) := by
        rw [hst, ← lj, ← later]
        exact hpr
      rw [pr]
      dsimp only
      have il : i < L.length := by
        have z1 : i < t.place.toList.length := (List.getElem?_eq_some_iff.mp hi).1
        have z2 := R.tbl.sz
        rw [List.length_map] at z2
        rw [Array.length_toList] at z1
        omega
      obtain ⟨p, hp⟩ : ∃ p, L[i]? = some p := ⟨_, List.getElem?_eq_getElem il⟩
      have pm : p ∈ L := List.mem_of_getElem? hp
      have tail : wpAny (model P w) A (searchRest a (.ref x) (thash P w k) adding f es t (way t.mask (thash P w k) (c + q)) i (nth t.mask (walk0 t.mask (thash P w k)) (c + (q + 1)))) Q E s := by
        unfold searchRest
        rw [R.at hp]
        dsimp only
        refine wpAny_bind (wpAny_holding (wpAny_eqBool_tuple hu (R.mem p pm) hx ?_))
        refine wpAny_bind (wpAny_setState_of ho hd R.holds ?_)
        dsimp only
        have sl : t.slot (way t.mask (thash P w k) (c + q)) = .live i := slot_live R.tbl.ris hi
        by_cases same : p.2 = k
        · have there : k ∈ L.map (·.2) := List.mem_map.mpr ⟨p, pm, same⟩
          cases adding with
          | true =>
            refine wp_if_pos (by simp [same]) ?_
            exact wpAny_pure (hin there none (fun z => by cases z))
          | false =>
            refine wp_if_neg (by simp) ?_
            try refine wpAny_bind (wpAny_pure ?_)
            rw [sameMem]
            dsimp only
            simp only [if_true, sl, R.at hp]
            refine wpAny_bind (wpAny_isSame_ref_self (wpAny_bind (wpAny_pure ?_)))
            simp only [if_true]
            refine wp_if_pos (by simp [same]) ?_
            exact wpAny_pure (hin there (some i) (fun _ => rfl))
        · refine wp_if_neg (by simp [same]) ?_
          try refine wpAny_bind (wpAny_pure ?_)
          rw [sameMem]
          dsimp only
          simp only [if_true, sl, R.at hp]
          refine wpAny_bind (wpAny_isSame_ref_self (wpAny_bind (wpAny_pure ?_)))
          simp only [if_true]
          refine wp_if_neg (by simp [same]) ?_
          refine ih (c + (q + 1)) _ rfl (by omega) (by omega) fun i0 p0 h0 k0 => ?_
          obtain ⟨c', a1, a2, a3⟩ := hre i0 p0 h0 k0
          refine ⟨c', ?_, a2, a3⟩
          have ne1 : ¬ c' < c + q := fun z => by
            refine hno (c' - c) i0 (by omega) (by rw [lj, show c + (c' - c) = c' from by omega]; exact a3) ?_
            exact (hashes i0 p0 h0).trans (congrArg (thash P w) k0)
          have ne2 : c' ≠ c + q := fun z => by
            rw [z] at a3
            have s0 := slot_live R.tbl.ris a3
            rw [sl] at s0
            cases s0
            rw [hp] at h0
            exact same ((congrArg Prod.snd (Option.some.inj h0)).trans k0)
          omega
      by_cases hl : t.led = true
      · refine wp_if_neg (by simp [hl]) ?_
        try refine wpAny_bind (wpAny_pure ?_)
        exact tail
      · refine wp_if_pos (by simp [hl]) ?_
        refine wpAny_bind (seen_tup hx (fun y hy => ?_) ?_)
        · obtain ⟨e, he, ee⟩ := List.mem_map.mp hy
          have he1 : e ∈ es ∧ e.1 = thash P w k := by simpa using he
          have he2 : e ∈ es.toList := by simpa using he1.1
          rw [R.rws] at he2
          obtain ⟨p2, hp2, e2⟩ := List.mem_map.mp he2
          exact ⟨p2.2, p2.1, by rw [← ee, ← e2], R.mem p2 hp2⟩
        · refine wp_if_neg (by decide) ?_
          try refine wpAny_bind (wpAny_pure ?_)
          exact tail
    · have pr : t.probe (fun i => (es[i]?.map (·.1)).getD 0) (thash P w k) (stand.getD (t.probeStart (thash P w k))) = some (.empty (way t.mask (thash P w k) K) none) := by
        have z := hpr
        rw [lj, show c + (K - c) = K from by omega] at z
        rw [hst]
        exact z
      rw [pr]
      dsimp only
      refine wpAny_pure (hout fun hm => ?_)
      obtain ⟨p0, h0, k0⟩ := List.mem_map.mp hm
      obtain ⟨i0, hi0, e0⟩ := List.getElem_of_mem h0
      have h00 : L[i0]? = some p0 := by rw [List.getElem?_eq_getElem hi0, e0]
      obtain ⟨c', a1, a2, a3⟩ := hre i0 p0 h00 k0
      refine hno (c' - c) i0 (by omega) (by rw [lj, show c + (c' - c) = c' from by omega]; exact a3) ?_
      exact (hashes i0 p0 h00).trans (congrArg (thash P w) k0)
theorem tw_search (R : TW P w s.heap a L es ep t) {x : Addr} {k : List Int} (hx : IsT P w s.heap k x) (hu : A.units < cLine) (adding : Bool) {Q : SetFound → Shared → Prop}
    (hin : k ∈ L.map (·.2) → ∀ r : Option Nat, (adding = false → r.isSome = true) → Q (.there r) s)
    (hout : ∀ K, k ∉ L.map (·.2) → way t.mask (thash P w k) K ∉ t.place.toList → (∀ c, c < K → way t.mask (thash P w k) c ∈ t.place.toList) → Q (.free (way t.mask (thash P w k) K) false) s) :
    wpAny (model P w) A (setSearch a (.ref x) (thash P w k) adding) Q E s := by
  have fit := R.fit
  obtain ⟨K, h1, h2, h3⟩ := R.tbl.first (by rw [List.length_map]; omega) (thash P w k)
  have small : K < 100000 := by
    have z : 10 * SetTable.turns t.mask ≤ 1420 := by
      unfold SetTable.turns
      rcases R.tbl.mok with e | e | e <;> omega
    omega
  unfold setSearch
  refine tw_from R hx hu adding h1 h2 h3 hin (fun hn => hout K hn h2 h3) 100000 0 none rfl (Nat.zero_le _) (by omega) fun i p hp hk => ?_
  have hi : (L.map fun p => thash P w p.2)[i]? = some (thash P w k) := by rw [List.getElem?_map, hp, ← hk]; rfl
  have il : i < t.place.toList.length := by
    have z1 : i < L.length := (List.getElem?_eq_some_iff.mp hp).1
    have z2 := R.tbl.sz
    rw [List.length_map] at z2
    rw [Array.length_toList]
    omega
  obtain ⟨c, hc, e⟩ := R.tbl.before h2 hi (List.getElem?_eq_getElem il)
  exact ⟨c, Nat.zero_le _, hc, by rw [List.getElem?_eq_getElem il, e]⟩
end
end Sm

set_option Elab.async false
set_option linter.all false
set_option maxRecDepth 100000
set_option maxHeartbeats 2000000
namespace Sm
open PySem PySem.Spec PyProof.Rows L2
section
variable {P : Program} {w : World} {A : Around} {E : Value → Shared → Prop} {s : Shared} {a : Addr} {L : List (Addr × List Int)} {es : Array (Int × Value)} {ep : Nat} {t : SetTable}
theorem TW.of (R : SetTR P w s.heap a L es ep t) : TW P w s.heap a L es ep t := ⟨R.ob, R.rows, R.tab, R.nd, R.tup, R.plain, R.led, R.room⟩
/-- one more tuple put in -/
theorem tw_add (R : TW P w s.heap a L es ep t) {x : Addr} {k : List Int} (hx : IsT P w s.heap k x) (hu : A.units < cLine) (room : L.length < 75) (hno : k ∉ L.map (·.2)) {Q : Bool → Shared → Prop}
    (hQ : ∀ h' L' es' ep' t', Heap.SameBut a s.heap h' → TW P w h' a L' es' ep' t' → L'.Perm ((x, k) :: L) → Q true { s with heap := h' }) :
    wpAny (model P w) A (setAddHashed a (.ref x) (thash P w k)) Q E s := by
  have ⟨o, ho, hex, hd⟩ := R.obj
  have len := R.len
  have fit := R.fit
  unfold setAddHashed
  refine wpAny_holding ?_
  rw [show (100000 : Nat) = 99999 + 1 from rfl, setAddHashedIn_succ]
  refine wpAny_bind (wpAny_setState_of ho hd R.holds ?_)
  dsimp only
  refine wp_if_neg (by simp [byScan, Value.scannable]) ?_
  try refine wpAny_bind (wpAny_pure ?_)
  refine wpAny_bind (tw_search R hx hu true (fun hm => absurd hm hno) fun K _ hK hb => ?_)
  dsimp only
  refine wpAny_bind (wpAny_setState_of ho hd R.holds ?_)
  dsimp only
  obtain ⟨q1, q2, q3, q4, q5, q6, q7, q8, q9⟩ := R.tbl.put hK hb
  have pl1 : (t.put (way t.mask (thash P w k) K)).1.plain = true := by rw [q6]; exact R.pln
  generalize hpt : t.put (way t.mask (thash P w k) K) = pt at q1 q3 q4 q5 q6 q7 q8 q9 pl1 ⊢
  obtain ⟨t1, j⟩ := pt
  dsimp only at q1 q3 q4 q5 q6 q7 q8 q9 pl1 ⊢
  subst q1
  first
    | (refine wpAny_bind ?_; refine wp_if_pos pl1 ?_; refine hashBy_tup hx ?_)
    | refine wp_if_pos pl1 (wpAny_bind (hashBy_tup hx ?_))
  simp only [if_true]
  have rows1 : (SetTable.insertAt es (SetTable.below t.place (way t.mask (thash P w k) K)) (thash P w k, Value.ref x)).toList =
      rowsOf P w (L.take (SetTable.below t.place (way t.mask (thash P w k) K)) ++ (x, k) :: L.drop (SetTable.below t.place (way t.mask (thash P w k) K))) := by
    rw [SetTable.toList_insertAt, rows_put, R.rws]
  generalize hpp : SetTable.below t.place (way t.mask (thash P w k) K) = j at q2 q3 rows1 ⊢
  have pm := put_perm L j (x, k)
  have n1 : (L.take j ++ (x, k) :: L.drop j).length = L.length + 1 := pm.length_eq
  have hash1 : (L.take j ++ (x, k) :: L.drop j).map (fun p => thash P w p.2) = (L.map fun p => thash P w p.2).take j ++ thash P w k :: (L.map fun p => thash P w p.2).drop j := by
    rw [List.map_append, List.map_cons, List.map_take, List.map_drop]
  rw [← hash1] at q3
  have dif1 : ((L.take j ++ (x, k) :: L.drop j).map (·.2)).Nodup := by
    refine (pm.map (·.2)).nodup_iff.mpr ?_
    rw [List.map_cons]
    exact List.nodup_cons.mpr ⟨hno, R.dif⟩
  have z1 : (SetTable.insertAt es j (thash P w k, Value.ref x)).size = L.length + 1 := by
    have q := congrArg List.length rows1
    rw [rowsOf, Array.length_toList, List.length_map, n1] at q
    exact q
  generalize SetTable.insertAt es j (thash P w k, Value.ref x) = es1 at rows1 z1 ⊢
  generalize L.take j ++ (x, k) :: L.drop j = L1 at pm n1 q3 dif1 rows1
  refine wpAny_bind (wpAny_storeSet_of ho hd ?_ (by rw [z1, sizeLine_eq]; omega))
  have but : Heap.SameBut a s.heap (s.heap.update a (Obj.putSet es1 t1)) := Heap.SameBut.update ..
  have ho1 := store_at (es' := es1) (t' := t1) ho hd
  generalize s.heap.update a (Obj.putSet es1 t1) = h1 at but ho1 ⊢
  have mem1 : ∀ p ∈ L1, IsT P w h1 p.2 p.1 := fun p hp => by
    rcases List.mem_cons.mp (pm.mem_iff.mp hp) with e | hp
    · rw [e]; exact isT_same hx ho hd but
    · exact isT_same (R.mem p hp) ho hd but
  have ld1 : w.params.followText "set-order" = true ∨ t1.led = true := by rw [q5]; exact R.ld
  have fill1 : t1.fill = L.length + 1 := by rw [q9, List.length_map]
  by_cases full : t1.tooFull = true
  · first
      | (refine wpAny_bind ?_; refine wp_if_pos (by simp [full]) ?_)
      | (refine wp_if_pos (by simp [full]) ?_; refine wpAny_bind ?_)
    have over : (L.length + 1) * 5 ≥ t1.mask * 3 := by
      have q := full
      simp only [SetTable.tooFull, decide_eq_true_eq, fill1] at q
      exact q
    rw [len]
    have place1 : t1.place.size = es1.size := by rw [q3.sz, List.length_map, n1, z1]
    have which : (t.mask = 7 ∧ L.length = 4) ∨ (t.mask = 31 ∧ L.length = 18) := by
      rcases R.tbl.mok with e | e | e
      · rw [q4, e] at over; rw [e] at fit; exact .inl ⟨e, by omega⟩
      · rw [q4, e] at over; rw [e] at fit; exact .inr ⟨e, by omega⟩
      · exfalso; rw [q4, e] at over; omega
    have grow : ∀ M, SetTable.sizeAbove (SetTable.grown (L.length + 1)) - 1 = M → MaskOk M → SetTable.sizeAbove (SetTable.grown (L.length + 1)) ≤ 128 → (L.length + 1) * 5 < M * 3 →
        wpAny (model P w) A (setRelay a (SetTable.grown (L.length + 1))) (fun _ s' => wpAny (model P w) A (pure true) Q E s') E { s with heap := h1 } := fun M m1 m2 m3 m4 => by
      refine relay_at (s := { s with heap := h1 }) ho1 ⟨hex.1, hex.2.1, hex.2.2⟩ rfl rows1 place1 q3.dm (by rw [z1, q4]; rcases which with ⟨e, e2⟩ | ⟨e, e2⟩ <;> omega) dif1 mem1 pl1 ld1 (by omega) m1 m2 m3 (by rw [n1]; exact m4) ?_
      intro h2 L2 es2 ep2 t2 but2 R2 pm2
      exact wpAny_pure (hQ h2 L2 es2 ep2 t2 (but.trans but2) ⟨R2.ob, R2.rows, R2.tab, R2.nd, R2.tup, R2.plain, R2.led, R2.room⟩ (pm2.trans pm))
    rcases which with ⟨_, e2⟩ | ⟨_, e2⟩
    · exact grow 31 (by rw [e2, size_20]) (.inr (.inl rfl)) (by rw [e2, size_20]; decide) (by omega)
    · exact grow 127 (by rw [e2, size_76]) (.inr (.inr rfl)) (by rw [e2, size_76]; decide) (by omega)
  · first
      | refine wp_if_neg (by simp [full]) ?_
      | (refine wpAny_bind ?_; refine wp_if_neg (by simp [full]) ?_; refine wpAny_pure ?_)
    refine wpAny_pure (hQ h1 L1 es1 (ep + 1) t1 but ⟨⟨_, ho1, ⟨hex.1, hex.2.1, hex.2.2⟩, rfl⟩, rows1, q3, dif1, mem1, pl1, ld1, ?_⟩ pm)
    have q := full
    simp only [SetTable.tooFull, decide_eq_true_eq, fill1] at q
    rw [n1]
    omega
/-- set.add(t), t not yet in -/
theorem tw_call_add (R : TW P w s.heap a L es ep t) {x : Addr} {k : List Int} (hx : IsT P w s.heap k x) (hu : A.units + 8 < cLine) (room : L.length < 75) (hno : k ∉ L.map (·.2)) {Q : Value → Shared → Prop}
    (hQ : ∀ h' tk L' es' ep' t', Heap.SameBut a s.heap h' → TW P w h' a L' es' ep' t' → L'.Perm ((x, k) :: L) → Q .none { s with heap := h', toks := tk }) :
    wpAny (model P w) A (call (.builtin "set.add") [.ref a, .ref x]) Q E s := by
  have ⟨o, ho, hex, hd⟩ := R.obj
  have ty : s.TypeIs (.ref a) "set" := ⟨o, ho, hex.1⟩
  refine wpAny_call_entry F.slot_set_add ty F.entry_set_add ?_ (F.args_set_add_2 _ _)
  unfold Builtin.«set.add» Builtin.Frozenset.oneOther
  simp only [List.isEmpty_nil, bind_assoc]
  unfold Builtin.Frozenset.addrOf setAdd
  refine wpAny_bind (wpAny_pure ?_)
  try dsimp only
  refine wpAny_bind (wpAny_pure ?_)
  try dsimp only
  refine wpAny_bind ?_
  refine wpAny_holding ?_
  refine wpAny_bind (wpAny_pyHash_tuple (knd := intKind P w) (by show A.units + _ < cLine; omega) hx ?_)
  refine tw_add (s := { s with toks := s.toks + (k.length + 1) }) ⟨R.obj, R.rws, R.tbl, R.dif, R.mem, R.pln, R.ld, R.fit⟩ hx (by show A.units + _ < cLine; omega) room hno fun h' L' es' ep' t' b1 b2 b3 => ?_
  show wpAny _ _ (ret Value.none) _ _ _
  exact wpAny_pure ⟨_, rfl, hQ h' (s.toks + (k.length + 1)) L' es' ep' t' b1 b2 b3⟩
/-- t in set -/
theorem tw_in (R : TW P w s.heap a L es ep t) {x : Addr} {k : List Int} (hx : IsT P w s.heap k x) (hu : A.units + 8 < cLine) {Q : Value → Shared → Prop}
    (hQ : ∀ tk, Q (.bool (decide (k ∈ L.map (·.2)))) { s with toks := tk }) :
    wpAny (model P w) A (compareOp .In (.ref x) (.ref a)) Q E s := by
  have ⟨o, ho, hex, hd⟩ := R.obj
  have ty : s.TypeIs (.ref a) "set" := ⟨o, ho, hex.1⟩
  show wpAny _ _ (do return .bool (← contains (.ref a) (.ref x))) Q E s
  refine wpAny_bind ?_
  unfold contains
  try with_reducible refine wpAny_holding ?_
  refine wpAny_bind (wpAny_specialOf ty F.slot_set_contains.lookup ?_)
  show wpAny _ _ (if (some (Value.builtin "set.__contains__") == some Value.none) = true then _ else _) _ E s
  rw [if_neg (by rw [beq_builtin_none]; exact Bool.false_ne_true)]
  refine wpAny_bind (wpAny_callSpecialUnlessNone?_slot (name := Str.ofString "__contains__") ty F.slot_set_contains
    (wpAny_call_entry F.slot_set_contains ty entry_set_contains ?_ (F.args_set_contains_2 _ _)))
  unfold Builtin.«frozenset.__contains__» Builtin.Frozenset.oneOther
  simp only [List.isEmpty_nil, bind_assoc]
  unfold Builtin.Frozenset.addrOf Builtin.Frozenset.withSetAsKey setContains
  refine wpAny_bind (wpAny_pure ?_)
  try dsimp only
  refine wpAny_bind (wpAny_pure ?_)
  try dsimp only
  refine wpAny_bind (wpAny_tryCatch ?_)
  refine wpAny_holding ?_
  refine wpAny_bind (wpAny_pyHash_tuple (knd := intKind P w) (by show A.units + _ < cLine; omega) hx ?_)
  have R1 : TW P w ({ s with toks := s.toks + (k.length + 1) } : Shared).heap a L es ep t := ⟨R.obj, R.rws, R.tbl, R.dif, R.mem, R.pln, R.ld, R.fit⟩
  have fin : ∀ r : Option Nat, r.isSome = decide (k ∈ L.map (·.2)) → ∀ (E' : Value → Shared → Prop) (A' : Around) (Q' : Value → Shared → Prop), (∀ tk, Q' (.bool (decide (k ∈ L.map (·.2)))) { s with toks := tk }) → Q' (.bool r.isSome) { s with toks := s.toks + (k.length + 1) } := fun r e _ _ _ q => by
    rw [e]; exact q _
  unfold setFind
  rw [show (100000 : Nat) = 99999 + 1 from rfl]
  unfold setFindIn
  refine wpAny_bind (wpAny_bind (wpAny_setState_of ho hd R1.holds ?_))
  dsimp only
  refine wp_if_neg (by simp [byScan, Value.scannable]) ?_
  try refine wpAny_bind (wpAny_pure ?_)
  refine wpAny_bind (tw_search R1 hx (by show A.units + _ < cLine; omega) false (fun hm r hr => ?_) fun K hm _ _ => ?_)
  · dsimp only
    refine wpAny_pure (wpAny_pure ?_)
    show wpAny _ _ (ret (Value.bool r.isSome)) _ _ _
    rw [hr rfl, show true = decide (k ∈ L.map (·.2)) from (decide_eq_true hm).symm]
    exact wpAny_pure ⟨_, rfl, wpAny_truthy_bool (wpAny_pure (hQ _))⟩
  · dsimp only
    refine wpAny_pure (wpAny_pure ?_)
    show wpAny _ _ (ret (Value.bool false)) _ _ _
    rw [show false = decide (k ∈ L.map (·.2)) from (decide_eq_false hm).symm]
    exact wpAny_pure ⟨_, rfl, wpAny_truthy_bool (wpAny_pure (hQ _))⟩
end
end Sm

set_option Elab.async false
set_option linter.all false
set_option maxRecDepth 100000
set_option maxHeartbeats 2000000
namespace Sm
open PySem PySem.Spec PyProof.Rows L2
/-- the set without its members' own objects -/
structure TW0 (P : Program) (w : World) (h : Heap) (a : Addr) (L : List (Addr × List Int)) : Prop where
  ex : ∃ (es : Array (Int × Value)) (ep : Nat) (t : SetTable), (∃ o, h.get? a = some o ∧ o.ExactSet ∧ o.data = .set es ep t) ∧ es.toList = rowsOf P w L ∧ TabOk t (L.map fun p => thash P w p.2) ∧
    (L.map (·.2)).Nodup ∧ t.plain = true ∧ (w.params.followText "set-order" = true ∨ t.led = true) ∧ L.length * 5 < t.mask * 3
def TSet (P : Program) (w : World) (a : Addr) (L : List (Addr × List Int)) : HO := .ext fun h => TW0 P w h a L
theorem TW.bare {P : Program} {w : World} {h : Heap} {a : Addr} {L : List (Addr × List Int)} {es : Array (Int × Value)} {ep : Nat} {t : SetTable} (R : TW P w h a L es ep t) : TW0 P w h a L :=
  ⟨es, ep, t, R.obj, R.rws, R.tbl, R.dif, R.pln, R.ld, R.fit⟩
theorem TW0.with {P : Program} {w : World} {h : Heap} {a : Addr} {L : List (Addr × List Int)} (R : TW0 P w h a L) (hm : ∀ p ∈ L, IsT P w h p.2 p.1) : ∃ es ep t, TW P w h a L es ep t := by
  obtain ⟨es, ep, t, h1, h2, h3, h4, h5, h6, h7⟩ := R.ex
  exact ⟨es, ep, t, h1, h2, h3, h4, hm, h5, h6, h7⟩
theorem tset_ok {P : Program} {w : World} {H : Hp} {h : Heap} {a : Addr} {L : List (Addr × List Int)} (R : TW0 P w h a L) : ObjOk P w H h a (TSet P w a L) := by
  have ⟨es, ep, t, ⟨o, ho, r⟩, q⟩ := R.ex
  refine ⟨R, ⟨o, ho⟩, fun h1 h2 p k => ?_⟩
  have ⟨es', ep', t', ⟨o', ho', r'⟩, q'⟩ := TW0.ex p
  exact ⟨es', ep', t', ⟨o', k o' ho', r'⟩, q'⟩
section
variable {X : Cx} {pins : List (Addr × Obj)} {σ : L2.St} {H : Hp} {s : Shared}
theorem tset_get {a : Addr} {L : List (Addr × List Int)} (I : Inv X pins σ H s) (ha : H a = some (TSet X.prog X.w a L)) (hm : ∀ p ∈ L, SqT X.K H p.1 (p.2.map V.int)) : ∃ es ep t, TW X.prog X.w s.heap a L es ep t :=
  TW0.with (I.hok a _ ha).1 fun p hp => I.isT (hm p hp)
/-- set() -/
def rSet0T (P : Program) (w : World) : List V → Hp → VK → Prop := fun xs H Q => xs = [] ∧ ∀ p, H p = none → Q (.ref p) (upd H p (TSet P w p []))
theorem cr_set0T : CallR X (.type "set") (rSet0T X.prog X.w) := by
  intro pins s σ H xs us Q I r h
  obtain ⟨rfl, q⟩ := h
  cases r
  refine setR_new fun _ => ?_
  have R : TW X.prog X.w (s.heap.push { cls := .type "set", dict := none, data := .set #[] 0 (.fresh 0 0 (!X.w.params.followText "set-order")) }) s.heap.objs.size [] #[] 0 (.fresh 0 0 (!X.w.params.followText "set-order")) := by
    have S := setTR_fresh (P := X.prog) (w := X.w) (Heap.get?_push_size s.heap (o := { cls := .type "set", dict := none, data := .set #[] 0 (.fresh 0 0 (!X.w.params.followText "set-order")) }) rfl)
    exact ⟨S.ob, S.rows, S.tab, S.nd, S.tup, S.plain, S.led, S.room⟩
  exact ⟨.ref _, upd H s.heap.objs.size (TSet X.prog X.w s.heap.objs.size []), I.laid (t' := s.toks) (fun b u e => Heap.get?_push_of_some _ e) (Nat.le_refl _) (tset_ok R.bare), rfl, q _ (I.hok.fresh (Nat.le_refl _))⟩
/-- s.add(t), t not yet a member -/
def rAddT (K : PySem.W.Frag) (P : Program) (w : World) : V → List V → Hp → VK → Prop := fun x xs H Q => ∃ (a b : Addr) (k : List Int) (L : List (Addr × List Int)), x = V.ref a ∧ xs = [V.ref b] ∧ H a = some (TSet P w a L) ∧
  (∀ p ∈ L, SqT K H p.1 (p.2.map V.int)) ∧ SqT K H b (k.map V.int) ∧ L.length < 75 ∧ k ∉ L.map (·.2) ∧ ∀ L' : List (Addr × List Int), L'.Perm ((b, k) :: L) → Q .non (upd H a (TSet P w a L'))
theorem mt_addT (hu : X.A.units + 64 < cLine) : MtR X "set.add" (rAddT X.K X.prog X.w) := by
  intro pins s σ H x xs v us Q I rx rxs h
  obtain ⟨a, b, k, L, rfl, rfl, ha, hm, hb, room, hno, q⟩ := h
  cases rx
  cases rxs with
  | cons ry rt =>
    cases rt
    cases ry
    obtain ⟨es, ep, t, R⟩ := tset_get I ha hm
    refine tw_call_add R (I.isT hb) (by omega) room hno fun h' tk L' es' ep' t' sb R' pm => ?_
    have he : ∃ u, h'.get? a = some u := by
      obtain ⟨o, ho, _⟩ := R'.obj
      exact ⟨o, ho⟩
    exact ⟨.non, upd H a (TSet X.prog X.w a L'), I.write (e := a) (t' := tk) (by rw [ha]; trivial) (.inl rfl) (fun b u hb hu => (sb.2 b hb).trans hu) he (tset_ok R'.bare), rfl, q L' pm⟩
def tAddT (K : PySem.W.Frag) (P : Program) (w : World) (to : TE) (t : TA) : TE := fun σ H Q => to σ H fun x H1 => (∃ a L, x = V.ref a ∧ H1 a = some (TSet P w a L)) ∧ t σ H1 fun xs H2 => rAddT K P w x xs H2 Q
variable {o e : Expr} {es : List Expr} {to : TE} {t : TA} {apos cpos : Pos}
theorem pe_addT (hu : X.A.units + 64 < cLine) (ho : PE X o to) (ha : PA X (e :: es) t)
    (h1 : attributeBase o "add" X.env (eval o X.env) = eval o X.env := by rfl)
    (h2 : ((backTo cpos (starEach (e :: es) X.env)).all (fun x => !x.1) && (backToKw cpos (keywordEach [] X.env)).all (fun x => x.1.isSome)
      && decide ((e :: es).length + ([] : List Keyword).length + (if ([] : List Keyword).isEmpty then 0 else 1) < 30)) = true := by rfl)
    (h3 : (apos.endLine == cpos.line) = true := by rfl) (h4 : starEach (e :: es) X.env = (false, eval e X.env) :: starEach es X.env := by rfl) (h5 : (backTo cpos (starEach es X.env)).any (·.1) = false := by rfl) :
    PE X (.Call (.Attribute o "add" apos) (e :: es) [] cpos) (tAddT X.K X.prog X.w to t) := by
  refine ⟨fun pins s σ H Q I h => ?_⟩
  refine wpAny_Call_method_late h1 h2 h3 rfl (thn (ho.run pins s σ H _ I h) fun v s1 ⟨x, H1, I1, r1, ty, q1⟩ => ?_)
  obtain ⟨a, L, rfl, hka⟩ := ty
  obtain ⟨es0, ep0, t0, ⟨ob, hob, hex, hdt⟩, _⟩ := (show TW0 X.prog X.w s1.heap a L from (I1.hok a _ hka).1).ex
  cases r1
  refine ⟨"set", "set.add", F.plainAttrs_set, F.slot_set_add, F.type_set_add, ⟨ob, hob, hex.1⟩, fun b e => by cases e; exact ⟨ob, hob, hex.2.1⟩, ?_⟩
  have hA := ha.run cpos pins s1 σ H1 _ I1 q1
  rw [h4] at hA ⊢
  refine Calls.callWith_builtin (by show (false || (backTo cpos (starEach es X.env)).any (·.1)) = false; rw [h5] <;> rfl) (Calls.evalArgs_plain ?_)
  exact thn hA fun us s2 ⟨vs, H2, I2, r2, q2⟩ => mt_addT hu pins s2 σ H2 (.ref a) vs (.ref a) us Q I2 rfl r2 q2
/-- t in s -/
def rInT (K : PySem.W.Frag) (P : Program) (w : World) : V → V → Hp → VK → Prop := fun x y H Q => ∃ (b a : Addr) (k : List Int) (L : List (Addr × List Int)), x = V.ref b ∧ y = V.ref a ∧ H a = some (TSet P w a L) ∧
  (∀ p ∈ L, SqT K H p.1 (p.2.map V.int)) ∧ SqT K H b (k.map V.int) ∧ Q (.bl (decide (k ∈ L.map (·.2)))) H
theorem or_inT (hu : X.A.units + 64 < cLine) : OpR X (compareOp .In) (rInT X.K X.prog X.w) := by
  intro pins s σ H x y v u Q I rx ry h
  obtain ⟨b, a, k, L, rfl, rfl, ha, hm, hb, q⟩ := h
  cases rx
  cases ry
  obtain ⟨es, ep, t, R⟩ := tset_get I ha hm
  exact tw_in R (I.isT hb) (by omega) fun tk => ⟨.bl _, H, I.tok _, rfl, q⟩
/-- sorted(s), the members pairs of ints: the keys in ascending order -/
def pairOf (k : List Int) : Int × Int := (k.getD 0 0, k.getD 1 0)
def rSortT (K : PySem.W.Frag) (P : Program) (w : World) : List V → Hp → VK → Prop := fun vs H Q => ∃ (a : Addr) (L : List (Addr × List Int)), vs = [V.ref a] ∧ H a = some (TSet P w a L) ∧ (∀ p ∈ L, SqT K H p.1 (p.2.map V.int)) ∧ (∀ p ∈ L, p.2.length = 2) ∧
  ∀ (L' : List (Addr × List Int)) (p : Addr), L'.Perm L → L'.Pairwise (fun q r => SrtO.lexB (pairOf q.2) (pairOf r.2) = true) → H p = none → Q (.ref p) (upd H p (.lst (L'.map fun q => V.ref q.1)))
end
section
variable {P : Program} {w : World} {A : Around} {E : Value → Shared → Prop} {s : Shared}
theorem tw_sorted {a : Addr} {L : List (Addr × List Int)} {es : Array (Int × Value)} {ep : Nat} {t : SetTable} {Q : Value → Shared → Prop} (R : TW P w s.heap a L es ep t) (hh : A.handled = none) (two : ∀ p ∈ L, p.2.length = 2)
    (hQ : ∀ s' p (out : List Value) (c : Nat) (L' : List (Addr × List Int)), (∀ b o, s.heap.get? b = some o → s'.heap.get? b = some o) → s'.gens = s.gens → s'.os = s.os → s.heap.objs.size ≤ p →
      s'.heap.get? p = some (seqObj "list" out.toArray c) → out = L'.map (fun q => Value.ref q.1) → L'.Perm L → L'.Pairwise (fun q r => SrtO.lexB (pairOf q.2) (pairOf r.2) = true) → Q (.ref p) s') :
    wpAny (model P w) A (call (.builtin "sorted") [.ref a]) Q E s := by
  have ⟨o, ho, hex, hd⟩ := R.obj
  have len := R.len
  have few := R.few
  refine Calls.call_function_entry kind_sorted plain_sorted entry_sorted (args_sorted1 _) ?_
  unfold Builtin.«sorted»
  refine wpAny_bind (m := checkCount "sorted" 1 1 _) (wpAny_pure ?_)
  refine wpAny_bind (collect_set (A := A.in1) hh ⟨o, ho, hex.1, hd⟩ R.holds (by unfold scanBound; omega) R.tbl.ris R.ld fun s1 vs k1 hz g1 o1 pm => ?_)
  have vals : es.toList.map (·.2) = L.map fun q => Value.ref q.1 := by
    rw [R.rws, rowsOf, List.map_map]
    rfl
  rw [vals] at pm
  have pick : ∀ vs : List Value, (∀ v ∈ vs, ∃ q ∈ L, v = Value.ref q.1) → ∃ M : List (Addr × List Int), vs = M.map (fun q => Value.ref q.1) ∧ ∀ q ∈ M, q ∈ L := by
    intro vs
    induction vs with
    | nil => exact fun _ => ⟨[], rfl, fun q hq => nomatch hq⟩
    | cons v vs ih =>
      intro hv
      obtain ⟨q, hq, e⟩ := hv v List.mem_cons_self
      obtain ⟨M, e1, hs⟩ := ih fun u hu => hv u (List.mem_cons_of_mem _ hu)
      exact ⟨q :: M, by rw [List.map_cons, e, e1], fun r hr => (List.mem_cons.mp hr).elim (fun z => z ▸ hq) (hs r)⟩
  have inj : ∀ q ∈ L, ∀ r ∈ L, q.1 = r.1 → q = r := fun q hq r hr e => by
    have a1 := R.mem q hq
    rw [e] at a1
    exact Prod.ext e (a1.inj (R.mem r hr))
  have ndL : L.Nodup := nodup_of_map R.dif
  have back : ∀ M : List (Addr × List Int), (∀ q ∈ M, q ∈ L) → (M.map (fun q => Value.ref q.1)).Perm (L.map fun q => Value.ref q.1) → M.Perm L := by
    intro M hs pm1
    have nref : (L.map fun q => Value.ref q.1).Nodup := by
      refine List.pairwise_map.mpr (List.Pairwise.imp_of_mem (fun {q r} hq hr hne e => ?_) ndL)
      exact hne (inj q hq r hr (Value.ref.inj e))
    have nM : M.Nodup := nodup_of_map (pm1.nodup_iff.mpr nref)
    refine (List.perm_ext_iff_of_nodup nM ndL).mpr fun q => ⟨hs q, fun hq => ?_⟩
    obtain ⟨r, hr, e⟩ := List.mem_map.mp (pm1.mem_iff.mpr (List.mem_map.mpr ⟨q, hq, rfl⟩))
    rw [← inj r (hs r hr) q hq (Value.ref.inj e)]
    exact hr
  have vlen : vs.length = L.length := by rw [pm.length_eq, List.length_map]
  refine wpAny_bind (wpAny_newList ?_ (by rw [vlen, sizeLine_eq]; omega))
  have hoL : (s1.heap.push (seqObj "list" vs.toArray 0)).get? s1.heap.objs.size = some (seqObj "list" vs.toArray 0) := Heap.get?_push_size _ rfl
  -- which pair of ints a value is
  have keyed : ∃ k : Value → Int × Int, ∀ q ∈ L, k (.ref q.1) = pairOf q.2 := by
    refine ⟨fun v => match v with | .ref b => (match L.find? (fun q => q.1 == b) with | some q => pairOf q.2 | none => (0, 0)) | _ => (0, 0), fun q hq => ?_⟩
    dsimp only
    cases e : L.find? (fun r => r.1 == q.1) with
    | none =>
      exact absurd (beq_self_eq_true q.1) (by simpa using List.find?_eq_none.mp e q hq)
    | some r =>
      have e1 : r.1 = q.1 := by simpa using List.find?_some e
      have e2 : r ∈ L := List.mem_of_find?_eq_some e
      rw [inj r e2 q hq e1]
  obtain ⟨k, hk⟩ := keyed
  have isPair : ∀ v ∈ vs, Srt.IsPair (s1.heap.push (seqObj "list" vs.toArray 0)) v (k v).1 (k v).2 := fun v hv => by
    obtain ⟨q, hq, e⟩ := List.mem_map.mp (pm.mem_iff.mp hv)
    rw [← e, hk q hq]
    obtain ⟨o', items, n, h1, h2, h3, h4⟩ := R.mem q hq
    have l2 := two q hq
    match hq2 : q.2, l2 with
    | [x, y], _ =>
      rw [hq2] at h4
      generalize hit : items.toList = il at h4
      cases h4 with
      | @cons _ v1 _ r1 z1 z2 =>
        cases z2 with
        | @cons _ v2 _ r2 z3 z4 =>
          cases z4
          obtain ⟨t1, rfl⟩ := Value.isInt_shape z1
          obtain ⟨t2, rfl⟩ := Value.isInt_shape z3
          refine ⟨q.1, o', t1, t2, n, rfl, Heap.get?_push_of_some _ (k1 _ _ h1), h2, ?_⟩
          rw [h3]
          have : items = #[Value.int x t1, Value.int y t2] := by
            apply Array.ext'
            rw [hit]
          rw [this]
          rfl
  refine wpAny_bind (wpAny_holding (wpAny_call_entry slot_list_sort ⟨_, hoL, rfl⟩ entry_list_sort (SrtO.list_sort_ord (s := { s1 with heap := s1.heap.push (seqObj "list" vs.toArray 0) }) (SrtO.swo_lex k) hoL (by rw [vlen, sizeLine_eq]; omega)
    (fun h2 => SrtO.pairs_sortableO (by omega) isPair fun o e => ?_) fun out hs hb => ⟨_, rfl, ?_⟩) (args_list_sort _)))
  · have e' : some o = some (seqObj "list" vs.toArray 0) := e.symm.trans hoL
    cases e'
    intro c
    exact absurd (Value.type.inj c) (by decide)
  · obtain ⟨c, hc⟩ := sortedHeap_at (vs := vs) (out := out.toArray) hoL
    obtain ⟨M, e', hsub⟩ := pick out fun v hv => by
      obtain ⟨q, hq, e⟩ := List.mem_map.mp (pm.mem_iff.mp (hb.perm.mem_iff.mp hv))
      exact ⟨q, hq, e.symm⟩
    have pL : M.Perm L := back M hsub (by rw [← e']; exact hb.perm.trans pm)
    have pw : M.Pairwise (fun q r => SrtO.lexB (pairOf q.2) (pairOf r.2) = true) := by
      have z : (M.map (fun q => Value.ref q.1)).Pairwise (fun x y => SrtO.lexB (k y) (k x) = false) := by rw [← e']; exact hs
      have ndM : M.Nodup := pL.nodup_iff.mpr ndL
      have both := List.Pairwise.and (List.pairwise_map.mp z) ndM
      refine List.Pairwise.imp_of_mem (fun {q r} hq hr hle => ?_) both
      obtain ⟨h1, h2⟩ := hle
      have mq := hsub q hq
      have mr := hsub r hr
      rw [hk q mq, hk r mr] at h1
      have n1 := SrtO.lexB_no.mp h1
      refine SrtO.lexB_iff.mpr ?_
      by_cases c1 : (pairOf q.2).1 = (pairOf r.2).1
      · by_cases c2 : (pairOf q.2).2 = (pairOf r.2).2
        · exfalso
          have l1 := two q mq
          have l2 := two r mr
          have ek : q.2 = r.2 := by
            match e1 : q.2, e2 : r.2, l1, l2 with
            | [x, y], [x', y'], _, _ =>
              rw [e1, e2] at c1 c2
              have d1 : x = x' := c1
              have d2 : y = y' := c2
              rw [d1, d2]
          have nd2 : (L.map (·.2)).Nodup := R.dif
          have : q = r := by
            by_cases hqr : q = r
            · exact hqr
            · exact absurd ek (fun z => by
                have w1 := (List.pairwise_map.mp nd2)
                exact hqr (by
                  obtain ⟨i, hi, ei⟩ := List.getElem_of_mem mq
                  obtain ⟨j, hj, ej⟩ := List.getElem_of_mem mr
                  have g := List.pairwise_iff_getElem.mp w1
                  rcases Nat.lt_trichotomy i j with c | c | c
                  · exact absurd z (by have := g i j hi hj c; rw [ei, ej] at this; exact this)
                  · subst c; rw [← ei, ← ej]
                  · exact absurd z.symm (by have := g j i hj hi c; rw [ei, ej] at this; exact this)))
          exact h2 this
        · exact .inr ⟨c1, by omega⟩
      · exact .inl (by omega)
    refine wpAny_pure ⟨_, rfl, hQ _ s1.heap.objs.size out c M (fun b u e => ?_) g1 o1 hz hc e' pL pw⟩
    have q := k1 b u e
    have hlt := Heap.lt_size q
    show (sortedHeap (s1.heap.push (seqObj "list" vs.toArray 0)) s1.heap.objs.size vs out.toArray).get? b = some u
    rw [sortedHeap_old (Nat.ne_of_lt hlt) (by rw [size_push']; exact Nat.lt_succ_of_lt hlt)]
    exact Heap.get?_push_of_some _ q
end
section
variable {X : Cx}
theorem cr_sortT2 (hc : X.calm = true) : CallR X (.builtin "sorted") (rSortT X.K X.prog X.w) := by
  intro pins s σ H vs us Q I r h
  obtain ⟨a, L, rfl, ha, hm, two, q⟩ := h
  obtain ⟨es, ep, t, R⟩ := tset_get I ha hm
  rw [Vals.ref1 r]
  refine tw_sorted R (I.ok.hd hc) two fun s' p out c L' k g o hp hg hout pm pw => ?_
  have few : L'.length ≤ 76 := by rw [pm.length_eq]; exact R.few
  have hlen : (L'.map fun q => V.ref q.1).length ≤ sizeLine := by rw [List.length_map, sizeLine_eq]; omega
  have hn : H p = none := I.hok.fresh hp
  have hv : Vals (L'.map fun q => V.ref q.1) out := by rw [hout]; exact vals_of_refs L'
  have J : Inv X pins σ (upd H p (.lst (L'.map fun q => V.ref q.1))) { s with heap := s'.heap, gens := s'.gens, drawn := s'.drawn, toks := s'.toks } :=
    I.call (ch := []) (Un.laid k hp hn) (I.hok.laid k hp ⟨hlen, out, c, hv, hg⟩) (by rw [g]; exact I.bare) (fun _ z => nomatch z)
  have e : s' = { s with heap := s'.heap, gens := s'.gens, drawn := s'.drawn, toks := s'.toks } := by
    cases s'
    cases s
    cases o
    rfl
  rw [e]
  exact ⟨.ref p, _, J, rfl, q L' p pm pw hn⟩
end
end Sm

set_option Elab.async false
set_option linter.all false
set_option maxRecDepth 100000
set_option maxHeartbeats 2000000
/-! {e}: a set displayed with one number; a def's body that knows its code object. -/
namespace Sm
open PySem PySem.Spec PyProof.Rows L2
theorem kds_of_code {K : PySem.W.Frag} {cd : Value} {q : Str} (h : PySem.W.codeIn K cd q = true) : PySem.W.kdsCode K cd = true := by
  unfold PySem.W.codeIn at h
  unfold PySem.W.kdsCode
  split at h
  · split at h
    · rename_i e
      dsimp only
      rw [e]
    · cases h
  · cases h
section
variable {X : Cx} {e : Expr} {te : TE} {pos : Pos}
def tSet1 (w : World) (te : TE) : TE := fun σ H Q => ∀ p, H p = none → te σ (upd H p (SetO w p (fun _ => false) 0)) fun x H1 => ∃ i, x = .int i ∧ H1 p = some (SetO w p (fun _ => false) 0) ∧ Q (.ref p) (upd H1 p (SetO w p (fun j => decide (j = i)) 1))
theorem pe_set1 (he : PE X e te) (hcd : PySem.W.kdsCode X.K X.env.code = true) (hs : starEach [e] X.env = [(false, eval e X.env)] := by rfl) : PE X (.Set [e] 0 pos) (tSet1 X.w te) := by
  refine ⟨fun pins s σ H Q I h => ?_⟩
  rw [arm_eval_Set]
  refine wpAny_bind (wpAny_standAt ?_)
  refine wpAny_bind (PySem.W.kds_main I.kIn hcd fun b => ?_)
  rw [hs]
  show wpAny _ _ (setDisplay .oneByOne b [(false, do let v ← eval e X.env; standAt pos; pure v)]) _ _ _
  unfold setDisplay
  try dsimp only
  rw [if_neg (by decide)]
  refine wpAny_bind (PySem.wpAny_newSet_raw fun led hled => ?_)
  subst hled
  dsimp only
  have new : SetR X.w (s.heap.push { cls := .type "set", dict := none, data := .set #[] 0 (.fresh 0 0 (!X.w.params.followText "set-order")) }) s.heap.objs.size (fun _ => false) 0 := setR_fresh X.w
  have I1 : Inv X pins σ (upd H s.heap.objs.size (SetO X.w s.heap.objs.size (fun _ => false) 0)) { s with heap := s.heap.push { cls := .type "set", dict := none, data := .set #[] 0 (.fresh 0 0 (!X.w.params.followText "set-order")) } } :=
    I.laid (t' := s.toks) (fun b u e => Heap.get?_push_of_some _ e) (Nat.le_refl _) (setO_new new)
  have h1 := h s.heap.objs.size (I.hok.fresh (Nat.le_refl _))
  have hn : ∀ u : Sem Value, (if [(false, u)].length > 30 then 0 else (List.findIdx? (fun (x : Bool × Sem Value) => x.1) [(false, u)]).getD [(false, u)].length) = 1 := fun u => by simp
  rw [hn]
  refine wpAny_bind (wpAny_holding ?_)
  refine wpAny_bind ?_
  show wpAny _ _ ((eval e X.env >>= fun v => standAt pos >>= fun _ => pure v) >>= fun v => holding [v] (evalAll []) >>= fun r => pure (v :: r)) _ _ _
  refine wpAny_bind (wpAny_bind (thn (he.run pins _ σ _ _ I1 h1) fun v s2 ⟨x, H2, I2, rx, i, ex, hp, q⟩ => ?_))
  subst ex
  obtain ⟨tk, rfl⟩ := rx
  refine wpAny_bind (wpAny_standAt (wpAny_pure ?_))
  refine wpAny_bind (wpAny_holding (wpAny_pure (wpAny_pure ?_)))
  refine wpAny_bind (wpAny_holding ?_)
  have R := setO_get I2 hp
  have fin : ∀ s', (∃ h', Heap.SameBut s.heap.objs.size s2.heap h' ∧ SetR X.w h' s.heap.objs.size (fun j => decide (j = i)) 1 ∧ s' = { s2 with heap := h', toks := s2.toks + 1 }) → EP X pins σ Q (.ref s.heap.objs.size) s' := by
    rintro s' ⟨h', sb, r, rfl⟩
    have he' : ∃ u, h'.get? s.heap.objs.size = some u := by
      have ⟨o, _, _, _, ho, _⟩ := r
      exact ⟨o, ho⟩
    exact ⟨.ref s.heap.objs.size, _, I2.write (e := s.heap.objs.size) (t' := s2.toks + 1) (by rw [hp]; trivial) (.inl rfl) (fun b u hb hu => (sb.2 b hb).trans hu) he' (setO_new r), rfl, q⟩
  refine wpAny_bind ?_
  rw [List.forIn_cons]
  refine wpAny_bind (wpAny_bind ?_)
  unfold setAdd
  refine wpAny_holding ?_
  refine wpAny_bind ((intKind X.prog X.w).pyHash (intKind_is X.prog X.w i tk) ?_)
  refine setR_add_hashed (s := { s2 with toks := s2.toks + 1 }) R (by unfold scanBound; omega) fun h' sb r => ?_
  refine wpAny_pure ?_
  dsimp only
  rw [List.forIn_nil]
  refine wpAny_pure ?_
  rw [if_neg (by decide)]
  refine wpAny_pure ?_
  refine wpAny_bind ?_
  show wpAny _ _ (forIn ([] : List (Bool × Sem Value)) PUnit.unit _) _ _ _
  rw [List.forIn_nil]
  refine wpAny_pure (wpAny_pure (wpAny_pure (fin _ ⟨h', sb, r, rfl⟩)))
end
section
variable {P : Program} {w : World} {K : PySem.W.Frag} {mg : Str → Option Value} {base : Heap}
/-- a def's body, its code object known -/
theorem okXc {x qual : Str} {st : Stmt} {f : Addr} {fd : FuncData} {N ps : List Str} {k : Nat} {sp : Sp} (F : Fun K x qual st f fd) (S : FnScope N ps (defScope st)) (len : ∀ vs H Q E, sp vs H Q E → vs.length = ps.length)
    (hbody : ∀ (cdv : Value) (A : Around) (outer : List Env) (s : Shared) (H : Hp) (vs : List V) (Q : VK) (E : XK), PySem.W.kdsCode K cdv = true → Room k (A.deeper (envOfC qual (defScope st) s.heap.objs.size f cdv)) → sp vs H Q E →
      ∃ t, PSs (cxOf (L2.CX P w) P w K mg base N qual (defScope st) f cdv A outer s H E) (defBody st) t ∧ t { nx := fun _ H' => Q .non H', rt := Q } (start N vs) H) : FnOk P w K mg base (L2.CX P w) (k + 1) f fd ps sp := by
  obtain ⟨oc, od, kV, doc, pm, an, cdv, ct, osl, rfl, lk, hcd⟩ := F.ex
  exact fn_of lk hcd S len fun A outer s H vs Q E hr hsp => hbody cdv A outer s H vs Q E (kds_of_code hcd) hr hsp
end
end Sm

set_option Elab.async false
set_option linter.all false
set_option maxRecDepth 100000
set_option maxHeartbeats 2000000
/-! The numbers, vertices and edges of smallwidth.graph. -/
namespace Sm
open PySem PySem.Spec PyProof.Rows L2
def topS (i : Nat) : Stmt := PySem.Challenge.pw_smallwidth_k01_graphs_and_parts.main.body.getD i (.Pass ⟨0, 0, 0, 0⟩)
abbrev sNum : Stmt := topS 5
abbrev sVtx : Stmt := topS 6
abbrev sEdg : Stmt := topS 7
/-! ### what a value may be -/
inductive IB : V → Option Int → Prop where
  | int (i : Int) : IB (.int i) (some i)
  | bl (b : Bool) : IB (.bl b) none
inductive EdgeV (K : PySem.W.Frag) (H : Hp) : V → Option (Option Int × Option Int) → Prop where
  | pair {a : Addr} {x y : V} {i j : Option Int} : SqT K H a [x, y] → IB x i → IB y j → EdgeV K H (.ref a) (some (i, j))
  | tup {a : Addr} {xs : List V} : SqT K H a xs → xs.length ≠ 2 → EdgeV K H (.ref a) none
  | lst {a : Addr} {xs : List V} : H a = some (.lst xs) → EdgeV K H (.ref a) none
  | non : EdgeV K H .non none
def vtxB (n : Int) : Option Int → Bool
  | some i => decide (0 ≤ i) && decide (i < n)
  | none => false
def edgB (n : Int) : Option (Option Int × Option Int) → Bool
  | some (some i, some j) => vtxB n (some i) && (vtxB n (some j) && decide (i < j))
  | _ => false
theorem same_sqT {K : PySem.W.Frag} {H H' : Hp} {a : Addr} {xs : List V} (e : Same H H') (h : SqT K H a xs) : SqT K H' a xs := by
  rcases h with (h | ⟨o, h⟩) | h
  · exact .inl (.inl (e _ _ h))
  · exact .inl (.inr ⟨o, e _ _ h⟩)
  · exact .inr h
theorem EdgeV.same {K : PySem.W.Frag} {H H' : Hp} {v : V} {e : Option (Option Int × Option Int)} (s : Same H H') (h : EdgeV K H v e) : EdgeV K H' v e := by
  cases h with
  | pair h1 h2 h3 => exact .pair (same_sqT s h1) h2 h3
  | tup h1 h2 => exact .tup (same_sqT s h1) h2
  | lst h => exact .lst (s _ _ h)
  | non => exact .non
theorem iteN {c A B : Prop} [Decidable c] (hc : ¬ c) (h : A) : if (!decide c) = true then A else B := by
  rw [decide_eq_false hc]
  exact iteT h
theorem iteY {c A B : Prop} [Decidable c] (hc : c) (h : A) : if decide c = true then A else B := by
  rw [decide_eq_true hc]
  exact iteT h
theorem iteD {c A B : Prop} [Decidable c] (hc : ¬ c) (h : B) : if decide c = true then A else B := by
  rw [decide_eq_false hc]
  exact iteF h
theorem tyx_T {K : PySem.W.Frag} {H : Hp} {a : Addr} {xs : List V} (h : SqT K H a xs) : TyX K H (.ref a) (.type "tuple") := by
  rcases h with (h | ⟨o, h⟩) | ⟨o, its, n, h1, h2, _⟩
  · exact .base (.tup h)
  · exact .fTuple h
  · exact .kTuple h1 h2
/-! ### what the top has bound, as far as these defs ask -/
structure TxA (mg : Str → Option Value) : Prop where
  isi : mg "isinstance" = none
  int : mg "int" = none
  bool : mg "bool" = none
  tuple : mg "tuple" = none
  len : mg "len" = none
def spNum : Sp := fun vs H Q _ => ∃ v i, vs = [v] ∧ IB v i ∧ Q (.bl i.isSome) H
def spVtx : Sp := fun vs H Q _ => ∃ v i n, vs = [v, .int n] ∧ IB v i ∧ Q (.bl (vtxB n i)) H
def spEdg (K : PySem.W.Frag) : Sp := fun vs H Q _ => ∃ v e n, vs = [v, .int n] ∧ EdgeV K H v e ∧ Q (.bl (edgB n e)) H
section
variable {P : Program} {w : World} {K : PySem.W.Frag} {mg : Str → Option Value} {base : Heap}
theorem scNum : FnScope ["value"] ["value"] (defScope sNum) := ⟨rfl, rfl, rfl, by decide +kernel, rfl, by decide +kernel, by decide +kernel⟩
theorem ok_num {f : Addr} {fd : FuncData} (F : Fun K "is_number" "is_number" sNum f fd) (T : TxA mg) : FnOk P w K mg base CX0 1 f fd ["value"] spNum := by
  refine F.ok scNum (fun vs H Q E h => ?_) (fun cdv A outer s H vs Q E hr h => ?_)
  · obtain ⟨v, i, rfl, _⟩ := h
    rfl
  · obtain ⟨v, i, rfl, hv, q⟩ := h
    refine ⟨_, pss_one (ps_ret (pe_and (pe_callB call_isi (by rfl) T.isi (by decide +kernel) (pa_cons (pv 0) (pa_cons (pe_bltn (v := .ty "int") (by rfl) T.int (by decide +kernel) rfl) pa_nil)))
      (pe_one (pe_not (pe_callB call_isi (by rfl) T.isi (by decide +kernel) (pa_cons (pv 0) (pa_cons (pe_bltn (v := .ty "bool") (by rfl) T.bool (by decide +kernel) rfl) pa_nil))))))), ?_⟩
    cases hv with
    | int i =>
      refine ⟨_, rfl, .int i, .ty "int", .type "int", .type "int", true, rfl, .ty "int", .base (.int i), kit_ty (by decide +kernel), true, rfl, iteT ?_⟩
      exact ⟨_, rfl, .int i, .ty "bool", .type "int", .type "bool", false, rfl, .ty "bool", .base (.int i), kit_ty (by decide +kernel), false, rfl, q⟩
    | bl b =>
      refine ⟨_, rfl, .bl b, .ty "int", .type "bool", .type "int", true, rfl, .ty "int", .base (.bl b), kit_ty (by decide +kernel), true, rfl, iteT ?_⟩
      exact ⟨_, rfl, .bl b, .ty "bool", .type "bool", .type "bool", true, rfl, .ty "bool", .base (.bl b), kit_ty (by decide +kernel), true, rfl, q⟩
theorem scVtx : FnScope ["value", "size"] ["value", "size"] (defScope sVtx) := ⟨rfl, rfl, rfl, by decide +kernel, rfl, by decide +kernel, by decide +kernel⟩
theorem ok_vtx {f fN : Addr} {fd fdN : FuncData} (F : Fun K "is_vertex" "is_vertex" sVtx f fd) (FN : Fun K "is_number" "is_number" sNum fN fdN) (bN : Binds K fdN ["value"] []) (gN : mg "is_number" = some (.ref fN)) (T : TxA mg) :
    FnOk P w K mg base CX0 2 f fd ["value", "size"] spVtx := by
  have GN : FnOk P w K mg base CX0 1 fN fdN ["value"] spNum := ok_num FN T
  refine F.ok scVtx (fun vs H Q E h => ?_) (fun cdv A outer s H vs Q E hr h => ?_)
  · obtain ⟨v, i, n, rfl, _⟩ := h
    rfl
  · obtain ⟨v, i, n, rfl, hv, q⟩ := h
    refine ⟨_, pss_one (ps_ret (pe_and (pe_call GN hr (by rfl) gN FN.kp bN .nil pass0 (pa_cons (pv 0) pa_nil)) (pe_one (pe_chain op_le op_lt pe_int (pv 0) (pv 1))))), ?_⟩
    refine ⟨v, rfl, v, i, rfl, hv, i.isSome, rfl, ?_⟩
    cases hv with
    | int i =>
      refine iteT ⟨_, rfl, _, _, rfl, rfl, _, rfl, ?_⟩
      by_cases c : 0 ≤ i
      · rw [decide_eq_true c]
        refine iteT ⟨_, rfl, _, _, rfl, rfl, ?_⟩
        have e : vtxB n (some i) = decide (i < n) := by simp [vtxB, c]
        rw [e] at q
        exact q
      · rw [decide_eq_false c]
        refine iteF ?_
        have e : vtxB n (some i) = false := by simp only [vtxB, decide_eq_false c, Bool.false_and]
        rw [e] at q
        exact q
    | bl b => exact iteF q
theorem scEdg : FnScope ["value", "size", "u", "v"] ["value", "size"] (defScope sEdg) := ⟨rfl, rfl, rfl, by decide +kernel, rfl, by decide +kernel, by decide +kernel⟩
theorem ok_edg {f fV : Addr} {fd fdV : FuncData} (F : Fun K "is_edge" "is_edge" sEdg f fd) (GV : FnOk P w K mg base CX0 2 fV fdV ["value", "size"] spVtx) (kV : PySem.W.keepIn K (.ref fV) = true) (bV : Binds K fdV ["value", "size"] []) (gV : mg "is_vertex" = some (.ref fV)) (T : TxA mg) :
    FnOk P w K mg base CX0 3 f fd ["value", "size"] (spEdg K) := by
  refine F.ok scEdg (fun vs H Q E h => ?_) (fun cdv A outer s H vs Q E hr h => ?_)
  · obtain ⟨v, e, n, rfl, _⟩ := h
    rfl
  · obtain ⟨v, e, n, rfl, hv, q⟩ := h
    refine ⟨_, pss_cons (ps_if (PW.pt (pw_or (pt_not (pt_val (pe_callB call_isi (by rfl) T.isi (by decide +kernel) (pa_cons (pv 0) (pa_cons (pe_bltn (v := .ty "tuple") (by rfl) T.tuple (by decide +kernel) rfl) pa_nil)))))
        (pw_or1 (pt_cmpR op_ne (pe_callB call_len_seq (by rfl) T.len PySem.boot_len (pa_cons (pv 0) pa_nil)) pe_int (nomark _))))) (pss_one (ps_ret pe_bl)) pss_nil)
      (pss_cons (ps_asg (pv 0) (pg_tup (by rfl) (pgs_cons (pg_name (i := 2) scEdg.nd rfl (.inl rfl)) (pgs_cons (pg_name (i := 3) scEdg.nd rfl (.inl rfl)) pgs_nil))))
      (pss_one (ps_ret (pe_and (pe_call GV hr (by rfl) gV kV bV .nil pass0 (pa_cons (pv 2) (pa_cons (pv 1) pa_nil)))
        (pe_and (pe_call GV hr (by rfl) gV kV bV .nil pass0 (pa_cons (pv 3) (pa_cons (pv 1) pa_nil))) (pe_one (pe_cmpR op_lt (pv 2) (pv 3) (nomark _)))))))), ?_⟩
    cases hv with
    | non =>
      refine ⟨_, rfl, .non, .ty "tuple", .type "NoneType", .type "tuple", false, rfl, .ty "tuple", .base .non, kit_ty (by decide +kernel), false, rfl, iteT ?_⟩
      exact iteT q
    | lst h =>
      refine ⟨_, rfl, _, .ty "tuple", .type "list", .type "tuple", false, rfl, .ty "tuple", .base (.lst h), kit_ty (by decide +kernel), false, rfl, iteT ?_⟩
      exact iteT q
    | tup h ne =>
      refine ⟨_, rfl, _, .ty "tuple", .type "tuple", .type "tuple", true, rfl, .ty "tuple", tyx_T h, kit_ty (by decide +kernel), true, rfl, iteF ?_⟩
      refine ⟨_, rfl, _, _, rfl, .inr h, rfl, _, rfl, ?_⟩
      exact iteN (fun e => ne (Int.ofNat.inj (V.int.inj e))) q
    | @pair a x y i j h hx hy =>
      refine ⟨_, rfl, _, .ty "tuple", .type "tuple", .type "tuple", true, rfl, .ty "tuple", tyx_T h, kit_ty (by decide +kernel), true, rfl, iteF ?_⟩
      refine ⟨_, rfl, _, _, rfl, .inr h, rfl, _, rfl, ?_⟩
      refine iteNS rfl ?_
      refine ⟨_, rfl, a, [x, y], rfl, h, rfl, x, [y], rfl, y, [], rfl, rfl, ?_⟩
      refine ⟨x, rfl, .int n, rfl, x, i, n, rfl, hx, vtxB n i, rfl, ?_⟩
      cases ci : vtxB n i with
      | false =>
        refine iteF ?_
        have z : edgB n (some (i, j)) = false := by
          cases i with
          | none => rfl
          | some i => cases j with
            | none => rfl
            | some j => simp only [edgB, ci, Bool.false_and]
        rw [z] at q
        exact q
      | true =>
        refine iteT ⟨y, rfl, .int n, rfl, y, j, n, rfl, hy, vtxB n j, rfl, ?_⟩
        cases cj : vtxB n j with
        | false =>
          refine iteF ?_
          have z : edgB n (some (i, j)) = false := by
            cases i with
            | none => rfl
            | some i => cases j with
              | none => rfl
              | some j => simp only [edgB, cj, Bool.false_and, Bool.and_false]
          rw [z] at q
          exact q
        | true =>
          refine iteT ?_
          cases hx with
          | bl b => cases ci
          | int i =>
            cases hy with
            | bl b => cases cj
            | int j =>
              refine ⟨_, rfl, _, rfl, i, j, rfl, rfl, ?_⟩
              have z : edgB n (some (some i, some j)) = decide (i < j) := by simp only [edgB, ci, cj, Bool.true_and]
              rw [z] at q
              exact q
end
end Sm

set_option Elab.async false
set_option linter.all false
set_option maxRecDepth 100000
set_option maxHeartbeats 2000000
namespace Sm
open PySem PySem.Spec PyProof.Rows L2
abbrev Pr := Int × Int
/-! ### lists of pairs, lists of neighbours -/
abbrev PairsAt (K : PySem.W.Frag) (H : Hp) : List Addr → List Pr → Prop := Paired fun a q => SqT K H a [.int q.1, .int q.2]
theorem PairsAt.same {K : PySem.W.Frag} {H H' : Hp} (s : Same H H') : ∀ {as : List Addr} {qs : List Pr}, PairsAt K H as qs → PairsAt K H' as qs
  | _, _, .nil => .nil
  | _, _, .cons h t => .cons (same_sqT s h) (PairsAt.same s t)
theorem PairsAt.get {K : PySem.W.Frag} {H : Hp} : ∀ {as : List Addr} {qs : List Pr} {i : Nat} {a : Addr}, PairsAt K H as qs → as[i]? = some a → ∃ q, qs[i]? = some q ∧ SqT K H a [.int q.1, .int q.2]
  | _, _, _, _, .nil, e => by simp at e
  | _, _, 0, _, .cons h _, e => by simp at e; subst e; exact ⟨_, rfl, h⟩
  | _, _, i + 1, a, .cons _ t, e => by
    obtain ⟨q, h1, h2⟩ := PairsAt.get (i := i) (a := a) t (by simpa using e)
    exact ⟨q, by simpa using h1, h2⟩
def nearOf (qs : List Pr) (i : Int) : List Int := qs.flatMap fun q => (if q.1 = i then [q.2] else []) ++ (if q.2 = i then [q.1] else [])
theorem nearOf_len (qs : List Pr) (i : Int) : (nearOf qs i).length ≤ 2 * qs.length := by
  unfold nearOf
  induction qs with
  | nil => simp
  | cons q r ih =>
    rw [List.flatMap_cons, List.length_append, List.length_cons, List.length_append]
    have h1 : (if q.1 = i then [q.2] else ([] : List Int)).length ≤ 1 := by split <;> simp
    have h2 : (if q.2 = i then [q.1] else ([] : List Int)).length ≤ 1 := by split <;> simp
    omega
theorem nearOf_more {qs : List Pr} {t : Nat} {q : Pr} (h : qs[t]? = some q) (i : Int) : nearOf (qs.take (t + 1)) i = nearOf (qs.take t) i ++ ((if q.1 = i then [q.2] else []) ++ (if q.2 = i then [q.1] else [])) := by
  unfold nearOf
  rw [L2.take_next h, List.flatMap_append, List.flatMap_singleton]
def NLists (H : Hp) (nts : List Addr) (f : Nat → List Int) : Prop := ∀ i a, nts[i]? = some a → H a = some (.lst ((f i).map V.int))
theorem NLists.put {H : Hp} {nts : List Addr} {f : Nat → List Int} {u : Nat} {a : Addr} (h : NLists H nts f) (nd : nts.Nodup) (hu : nts[u]? = some a) (v : Int) :
    NLists (upd H a (.lst ((f u).map V.int ++ [.int v]))) nts (fun i => if i = u then f u ++ [v] else f i) := by
  intro i b hb
  by_cases e : i = u
  · subst e
    rw [hu] at hb
    cases hb
    have e2 : (fun i' => if i' = i then f i ++ [v] else f i') i = f i ++ [v] := if_pos rfl
    rw [upd_same, e2, List.map_append]
    rfl
  · have ne : b ≠ a := fun z => by
      subst z
      have h1 := (List.getElem?_eq_some_iff.mp hb)
      have h2 := (List.getElem?_eq_some_iff.mp hu)
      obtain ⟨l1, e1⟩ := h1
      obtain ⟨l2, e2⟩ := h2
      exact e ((List.getElem_inj nd).mp (e1.trans e2.symm))
    have e2 : (fun i' => if i' = u then f u ++ [v] else f i') i = f i := if_neg e
    rw [upd_ne ne, e2]
    exact h i b hb
theorem same_upd {H : Hp} {p : Addr} {o : HO} (h : H p = none) : Same H (upd H p o) := fun b x e => by
  rw [upd_ne (ne_of_none e h)]
  exact e
theorem same_put {H H' : Hp} {p : Addr} {o : HO} (s : Same H H') (h : H p = none) : Same H (upd H' p o) := fun b x e => by
  rw [upd_ne (ne_of_none e h)]
  exact s _ _ e
theorem NLists.same {H H' : Hp} {nts : List Addr} {f : Nat → List Int} (s : Same H H') (h : NLists H nts f) : NLists H' nts f := fun i a e => s _ _ (h i a e)
abbrev sNls : Stmt := topS 9
def spNls (K : PySem.W.Frag) : Sp := fun vs H Q _ => ∃ (n : Nat) (et : Addr) (ets : List Addr) (qs : List Pr), vs = [.int n, .ref et] ∧ n ≤ 60 ∧ SqT K H et (ets.map V.ref) ∧ PairsAt K H ets qs ∧ qs.length ≤ 100 ∧
  (∀ q ∈ qs, 0 ≤ q.1 ∧ q.1 < n ∧ 0 ≤ q.2 ∧ q.2 < n ∧ q.1 ≠ q.2) ∧
  ∀ (H' : Hp) (nt : Addr) (nts : List Addr), Same H H' → H nt = none → H' nt = some (.lst (nts.map V.ref)) → nts.length = n → (nts.Nodup ∧ ∀ a ∈ nts, H a = none) → NLists H' nts (fun i => nearOf qs i) → Q (.ref nt) H'
section
variable {P : Program} {w : World} {K : PySem.W.Frag} {mg : Str → Option Value} {base : Heap}
theorem scNls : FnScope ["size", "edges", "near", "u", "v", "_"] ["size", "edges"] (defScope sNls) := ⟨rfl, rfl, rfl, by decide +kernel, rfl, by decide +kernel, by decide +kernel⟩
theorem ok_nls {f : Addr} {fd : FuncData} (F : Fun K "near_lists" "near_lists" sNls f fd) (mr : mg "range" = none) : FnOk P w K mg base CX0 1 f fd ["size", "edges"] (spNls K) := by
  refine F.ok scNls (fun vs H Q E h => ?_) (fun cdv A outer s H vs Q E hr h => ?_)
  · obtain ⟨n, et, ets, qs, rfl, _⟩ := h
    rfl
  · obtain ⟨n, et, ets, qs, rfl, hn, hT, hP, hl, hb, q⟩ := h
    refine ⟨_, pss_cons (ps_setLc (i := 2) (own := [("_", 5)]) (g := gName 5) (tt := tYes) (by rfl) scNls.nd rfl rfl (sw_true rfl rfl rfl (by decide +kernel)) (pi_range1 rfl mr (pa_cons (pv 0) pa_nil))
        (blkOk_by (own := [("_", 5)]) (N := ["size", "edges", "near", "u", "v", "_"]) (sc := defScope sNls) (by decide +kernel)) (fun _ _ _ _ _ => pg_name (i := 5) scNls.nd rfl (Or.inl rfl)) (fun _ _ _ _ _ => pts_nil) (fun _ _ _ _ _ => pe_lst pa_nil))
      (pss_cons (ps_for PassesOwn.never rfl (pi_tup (pv 1)) (pg_tup rfl (pgs_cons (pg_name (i := 3) scNls.nd rfl (.inl rfl)) (pgs_cons (pg_name (i := 4) scNls.nd rfl (.inl rfl)) pgs_nil)))
        (pss_cons (ps_expr (pe_bm PySem.F.plainAttrs_list PySem.F.slot_list_append PySem.F.type_list_append mt_append (pe_ix ix_list (pv 2) (pv 3) (fun _ _ => rfl)) (pa_cons (pv 4) pa_nil)))
        (pss_one (ps_expr (pe_bm PySem.F.plainAttrs_list PySem.F.slot_list_append PySem.F.type_list_append mt_append (pe_ix ix_list (pv 2) (pv 4) (fun _ _ => rfl)) (pa_cons (pv 3) pa_nil))))))
      (pss_one (ps_ret (pv 2)))), ?_⟩
    refine ⟨_, rfl, n, rfl, by omega, by omega, fun D hD => ?_⟩
    have toNat : ((n : Int)).toNat = n := by omega
    refine lc_range (lo := 0) (n := ((n : Int)).toNat) (fun i H' => Same H H' ∧ ∃ nts : List Addr, nts.length = i ∧ H' D = some (.lst (nts.map V.ref)) ∧ nts.Nodup ∧ ∀ a ∈ nts, H' a = some (.lst []) ∧ a ≠ D ∧ H a = none) ?_ ?_ ?_
    · exact ⟨same_upd hD, [], rfl, upd_same, List.nodup_nil, fun a ha => nomatch ha⟩
    · rintro i H' hi ⟨sm, nts, hlen, eD, nd, hall⟩
      refine ⟨rfl, ⟨Nat.zero_le _, fun p np => ?_⟩⟩
      have npD : p ≠ D := fun z => by rw [z, eD] at np; cases np
      have npH : H p = none := sm.free np
      refine ⟨_, by rw [upd_ne npD.symm]; exact eD, by rw [List.length_map]; exact small1000 (by omega), ?_⟩
      refine ⟨same_put (same_put sm npH) hD, nts ++ [p], by rw [List.length_append, hlen]; rfl, by rw [upd_same, List.map_append]; rfl, ?_, fun a ha => ?_⟩
      · refine List.nodup_append.mpr ⟨nd, List.nodup_cons.mpr ⟨(by simp), List.nodup_nil⟩, fun a ha b hb e => ?_⟩
        rw [List.mem_singleton.mp hb] at e
        subst e
        rw [(hall _ ha).1] at np
        cases np
      · rcases List.mem_append.mp ha with z | z
        · obtain ⟨h1, h2, h3⟩ := hall a z
          refine ⟨?_, h2, h3⟩
          rw [upd_ne h2, upd_ne (ne_of_none h1 np)]
          exact h1
        · rw [List.mem_singleton.mp z]
          refine ⟨?_, npD, npH⟩
          rw [upd_ne npD, upd_same]
    · rintro H1 ⟨sm, nts, hlen, eD, nd, hall⟩
      rw [toNat] at hlen
      refine ⟨.ref et, rfl, et, rfl, ⟨_, same_sqT sm hT⟩, for_tup (K := K) (a := et) (xs := ets.map V.ref) (fun t σ H' => ∃ y3 y4, σ = [some (.int n), some (.ref et), some (.ref D), y3, y4, none] ∧ Same H H' ∧ H' D = some (.lst (nts.map V.ref)) ∧
        NLists H' nts (fun i => nearOf (qs.take t) i)) ⟨none, none, rfl, sm, eD, fun i a e => (hall a (List.mem_of_getElem? e)).1⟩ (fun t σ H' _ ⟨_, _, _, s', _⟩ => same_sqT s' hT) ?_ ?_⟩
      · rintro t x σ H' hx ⟨y3, y4, rfl, sm', eD', nl⟩
        rw [List.getElem?_map] at hx
        cases ea : ets[t]? with
        | none => rw [ea] at hx; cases hx
        | some a =>
          rw [ea] at hx
          cases hx
          obtain ⟨⟨u, v⟩, hq, hs⟩ := (hP.same sm').get ea
          have hm : (u, v) ∈ qs := List.mem_of_getElem? hq
          obtain ⟨u0, un, v0, vn, uv⟩ := hb _ hm
          have tq : t < qs.length := (List.getElem?_eq_some_iff.mp hq).1
          dsimp only at u0 un v0 vn uv hs
          obtain ⟨u', rfl⟩ : ∃ k : Nat, u = k := ⟨u.toNat, by omega⟩
          obtain ⟨v', rfl⟩ : ∃ k : Nat, v = k := ⟨v.toNat, by omega⟩
          have uv' : u' ≠ v' := fun z => uv (by rw [z])
          obtain ⟨au, hau⟩ : ∃ a, nts[u']? = some a := ⟨_, List.getElem?_eq_getElem (by omega)⟩
          obtain ⟨av, hav⟩ : ∃ a, nts[v']? = some a := ⟨_, List.getElem?_eq_getElem (by omega)⟩
          have mu := hall au (List.mem_of_getElem? hau)
          have mv := hall av (List.mem_of_getElem? hav)
          have ixu : (nts.map V.ref)[u']? = some (.ref au) := by rw [List.getElem?_map, hau]; rfl
          have ixv : (nts.map V.ref)[v']? = some (.ref av) := by rw [List.getElem?_map, hav]; rfl
          have lu := nearOf_len (qs.take t) u'
          have lv := nearOf_len (qs.take t) v'
          rw [List.length_take] at lu lv
          have hu0 := nl u' au hau
          have nl1 := nl.put nd hau v'
          have hv1 := nl1 v' av hav
          dsimp only at hv1
          rw [if_neg (fun z => uv' z.symm)] at hv1
          have nl2 := nl1.put nd hav u'
          refine ⟨a, _, rfl, hs, rfl, _, _, rfl, _, _, rfl, rfl, ?_⟩
          refine ⟨_, rfl, _, rfl, D, _, _, .ref au, rfl, rfl, SqL.of eD', atI_nat ixu, .inl ⟨rfl, _, SqL.of hu0⟩, _, rfl, au, _, _, rfl, rfl, hu0, by rw [List.length_map]; exact small1000 (show (nearOf (List.take t qs) u').length ≤ 1000 by omega), ?_⟩
          refine ⟨_, rfl, _, rfl, D, _, _, .ref av, rfl, rfl, SqL.of (by rw [upd_ne (fun z => mu.2.1 z.symm)]; exact eD'), atI_nat ixv, .inl ⟨rfl, _, SqL.of hv1⟩, _, rfl, av, _, _, rfl, rfl, hv1, by rw [List.length_map]; exact small1000 (show (nearOf (List.take t qs) v').length ≤ 1000 by omega), ?_⟩
          refine ⟨some (.int u'), some (.int v'), rfl, same_put (same_put sm' mu.2.2) mv.2.2, ?_, fun i b hb' => ?_⟩
          · rw [upd_ne (fun z => mv.2.1 z.symm), upd_ne (fun z => mu.2.1 z.symm)]
            exact eD'
          · have z := nl2 i b hb'
            dsimp only at z ⊢
            rw [if_neg (fun z => uv' z.symm)] at z
            rw [z, nearOf_more hq]
            dsimp only
            congr 3
            by_cases c1 : i = u'
            · subst c1
              rw [if_neg uv', if_pos rfl, if_pos rfl, if_neg (by omega), List.append_nil]
            · rw [if_neg c1]
              by_cases c2 : i = v'
              · subst c2
                rw [if_pos rfl, if_neg (by omega), if_pos rfl, List.nil_append]
              · rw [if_neg c2, if_neg (by omega), if_neg (by omega), List.append_nil, List.append_nil]
      · rintro σ H' ⟨y3, y4, rfl, sm', eD', nl⟩
        have lenq : qs.length = ets.length := hP.length.symm
        rw [List.length_map, ← lenq, List.take_length] at nl
        exact ⟨_, rfl, q H' D nts sm' hD eD' hlen ⟨nd, fun a ha => (hall a ha).2.2⟩ nl⟩
end
end Sm

set_option Elab.async false
set_option linter.all false
set_option maxRecDepth 100000
set_option maxHeartbeats 4000000
namespace Sm
open PySem PySem.Spec PyProof.Rows L2
abbrev EV := Option (Option Int × Option Int)
def prOf : EV → Pr
  | some (some i, some j) => (i, j)
  | _ => (0, 0)
def toL (q : Pr) : List Int := [q.1, q.2]
theorem toL_inj {p q : Pr} (h : toL p = toL q) : p = q := by
  obtain ⟨a, b⟩ := p
  obtain ⟨c, d⟩ := q
  simp only [toL, List.cons.injEq, and_true] at h
  rw [h.1, h.2]
/-- the edges that are taken, in the order of the list; none if one is refused -/
def scan (n : Int) : List Pr → List EV → Option (List Pr)
  | seen, [] => some seen
  | seen, e :: r => if edgB n e = true ∧ prOf e ∉ seen then scan n (seen ++ [prOf e]) r else none
def mkE (n : Int) (es : List EV) : Option (List Pr) := if 0 ≤ n ∧ n ≤ 60 then scan n [] es else none
theorem scan_app (n : Int) : ∀ (l r : List EV) (seen : List Pr), scan n seen (l ++ r) = (scan n seen l).bind fun s => scan n s r
  | [], r, seen => rfl
  | e :: l, r, seen => by
    show (if edgB n e = true ∧ prOf e ∉ seen then scan n (seen ++ [prOf e]) (l ++ r) else none) = (if edgB n e = true ∧ prOf e ∉ seen then scan n (seen ++ [prOf e]) l else none).bind _
    by_cases c : edgB n e = true ∧ prOf e ∉ seen
    · rw [if_pos c, if_pos c]
      exact scan_app n l r _
    · rw [if_neg c, if_neg c]
      rfl
def Okp (n : Int) (q : Pr) : Prop := 0 ≤ q.1 ∧ q.1 < q.2 ∧ q.2 < n
theorem edgB_ok {n : Int} {e : EV} (h : edgB n e = true) : ∃ i j, e = some (some i, some j) ∧ Okp n (i, j) := by
  match e, h with
  | some (some i, some j), h =>
    simp only [edgB, vtxB, Bool.and_eq_true, decide_eq_true_eq] at h
    exact ⟨i, j, rfl, h.1.1, h.2.2, h.2.1.2⟩
theorem split_at {α : Type} {l : List α} {t : Nat} {e : α} (h : l[t]? = some e) : l = l.take t ++ e :: l.drop (t + 1) := by
  obtain ⟨hl, rfl⟩ := List.getElem?_eq_some_iff.mp h
  conv => lhs; rw [← List.take_append_drop t l, List.drop_eq_getElem_cons hl]
theorem scan_ok (n : Int) : ∀ (es : List EV) (seen ps : List Pr), scan n seen es = some ps → (∀ q ∈ seen, Okp n q) → seen.Nodup → (∀ q ∈ ps, Okp n q) ∧ ps.Nodup ∧ ps.length = seen.length + es.length
  | [], seen, ps, h, a, b => by
    cases h
    exact ⟨a, b, rfl⟩
  | e :: r, seen, ps, h, a, b => by
    have h' : (if edgB n e = true ∧ prOf e ∉ seen then scan n (seen ++ [prOf e]) r else none) = some ps := h
    by_cases c : edgB n e = true ∧ prOf e ∉ seen
    · rw [if_pos c] at h'
      obtain ⟨i, j, rfl, ok⟩ := edgB_ok c.1
      obtain ⟨h1, h2, h3⟩ := scan_ok n r _ ps h' (fun q hq => by
        rcases List.mem_append.mp hq with z | z
        · exact a q z
        · rw [List.mem_singleton.mp z]; exact ok) (List.nodup_append.mpr ⟨b, by simp, fun x hx y hy e => by
          rw [List.mem_singleton.mp hy] at e
          exact c.2 (e ▸ hx)⟩)
      refine ⟨h1, h2, ?_⟩
      rw [h3, List.length_append, List.length_cons, List.length_cons, List.length_nil]
      omega
    · rw [if_neg c] at h'
      cases h'
abbrev lexlt (p q : Pr) : Prop := SrtO.lexB p q = true
def gflds (n : Int) (et nt : Addr) : List (Str × V) := putF "_near" (.ref nt) (putF "edges" (.ref et) (putF "size" (.int n) []))
theorem gf_size (n : Int) (et nt : Addr) : (gflds n et nt).lookup ("size" : Str) = some (.int n) := by
  unfold gflds
  rw [lookup_putF, if_neg (by decide +kernel), lookup_putF, if_neg (by decide +kernel), lookup_putF, if_pos rfl]
theorem gf_edges (n : Int) (et nt : Addr) : (gflds n et nt).lookup ("edges" : Str) = some (.ref et) := by
  unfold gflds
  rw [lookup_putF, if_neg (by decide +kernel), lookup_putF, if_pos rfl]
theorem gf_near (n : Int) (et nt : Addr) : (gflds n et nt).lookup ("_near" : Str) = some (.ref nt) := by
  unfold gflds
  rw [lookup_putF, if_pos rfl]
theorem gf_no (n : Int) (et nt : Addr) {m : Str} (h1 : ¬ m = "_near") (h2 : ¬ m = "edges") (h3 : ¬ m = "size") : (gflds n et nt).lookup m = none := by
  unfold gflds
  rw [lookup_putF, if_neg h1, lookup_putF, if_neg h2, lookup_putF, if_neg h3]
  rfl
/-- a graph stands at p -/
structure GraphAt (K : PySem.W.Frag) (C : Addr) (H : Hp) (p : Addr) (n : Nat) (qs : List Pr) : Prop where
  ob : ∃ dx et nt, H p = some (.ins C dx (gflds n et nt)) ∧ (∃ ets : List Addr, SqT K H et (ets.map V.ref) ∧ PairsAt K H ets qs) ∧ ∃ nts : List Addr, H nt = some (.lst (nts.map V.ref)) ∧ nts.length = n ∧ NLists H nts (fun i => nearOf qs i)
  lim : n ≤ 60
  few : qs.length ≤ 75
  ok : ∀ q ∈ qs, Okp n q
  srt : qs.Pairwise lexlt
theorem GraphAt.same {K : PySem.W.Frag} {C : Addr} {H H' : Hp} {p : Addr} {n : Nat} {qs : List Pr} (s : Same H H') (g : GraphAt K C H p n qs) : GraphAt K C H' p n qs := by
  obtain ⟨dx, et, nt, h1, ⟨ets, h2, h3⟩, nts, h4, h5, h6⟩ := g.ob
  exact ⟨⟨dx, et, nt, s _ _ h1, ⟨ets, same_sqT s h2, h3.same s⟩, nts, s _ _ h4, h5, h6.same s⟩, g.lim, g.few, g.ok, g.srt⟩
/-- all as it was but at p -/
def But (p : Addr) (H H' : Hp) : Prop := ∀ b o, H b = some o → b ≠ p → H' b = some o
theorem But.sqT {K : PySem.W.Frag} {p C dx a : Addr} {fs : List (Str × V)} {H H' : Hp} {xs : List V} (s : But p H H') (hp : H p = some (.ins C dx fs)) (h : SqT K H a xs) : SqT K H' a xs := by
  rcases h with (h | ⟨o, h⟩) | h
  · exact .inl (.inl (s _ _ h (fun z => by rw [z, hp] at h; cases h)))
  · exact .inl (.inr ⟨o, s _ _ h (fun z => by rw [z, hp] at h; cases h)⟩)
  · exact .inr h
theorem Same.but {p : Addr} {H H' : Hp} (s : Same H H') : But p H H' := fun b o e _ => s b o e
theorem But.put {p : Addr} {H H' : Hp} {o : HO} (s : But p H H') : But p H (upd H' p o) := fun b x e n => by
  rw [upd_ne n]
  exact s b x e n
theorem But.new {p q : Addr} {H H' : Hp} {o : HO} (s : But p H H') (h : H q = none) : But p H (upd H' q o) := fun b x e n => by
  rw [upd_ne (ne_of_none e h)]
  exact s b x e n
theorem But.same {p : Addr} {H H1 H2 : Hp} (s : But p H H1) (t : Same H1 H2) : But p H H2 := fun b x e n => t _ _ (s b x e n)
/-- an exception's class, as the top has made it -/
structure TxE (K : PySem.W.Frag) (mg : Str → Option Value) (x : Str) (C : Addr) : Prop where
  g : mg x = some (.ref C)
  x : PySem.W.excIn K C [.type "ValueError", .type "Exception", .type "BaseException", .type "object"] "ValueError.__new__" = true
  k : PySem.W.keepIn K (.ref C) = true
  b : PySem.W.subIn K (.ref C) (.type "BaseException") = some true
  t : PySem.W.typeIn K (.ref C) = some (.type "type")
/-- what the class Graph says -/
structure TxG (K : PySem.W.Frag) (mg : Str → Option Value) (C : Addr) : Prop where
  cl : Cls K C
  nS : NoAttr K C "size"
  nE : NoAttr K C "edges"
  nN : NoAttr K C "_near"
  g : mg "Graph" = some (.ref C)
abbrev sInit : Stmt := inClass (topS 8) 0
abbrev sHas : Stmt := inClass (topS 8) 1
abbrev sNear : Stmt := inClass (topS 8) 2
abbrev sChk : Stmt := inClass (topS 8) 3
theorem pairs_keep {K : PySem.W.Frag} {H H' : Hp} (k : ∀ (a : Addr) (xs : List V), SqT K H a xs → SqT K H' a xs) : ∀ {as : List Addr} {qs : List Pr}, PairsAt K H as qs → PairsAt K H' as qs
  | _, _, .nil => .nil
  | _, _, .cons h t => .cons (k _ _ h) (pairs_keep k t)
def spInit (K : PySem.W.Frag) (C CB : Addr) : Sp := fun vs H Q E => ∃ (p dx : Addr) (n : Int) (a : Addr) (xs : List V) (es : List EV), vs = [.ref p, .int n, .ref a] ∧ H p = some (.ins C dx []) ∧ SqL K H a xs ∧ Paired (EdgeV K H) xs es ∧ es.length ≤ 75 ∧
  (mkE n es = none → ∀ H', Same H H' → E (.ref CB) none H') ∧
  (∀ ps, mkE n es = some ps → ∀ (H' : Hp) (qs : List Pr), (∀ b o, H b = some o → b ≠ p → H' b = some o) → qs.Perm ps → GraphAt K C H' p n.toNat qs → (∀ (S : Addr → Prop) (H'' : Hp), (∀ D, S D → ∃ x, H D = some (.lst x)) → (∀ b o, H' b = some o → ¬ S b → H'' b = some o) → GraphAt K C H'' p n.toNat qs) → Q .non H')
theorem ev_get {K : PySem.W.Frag} {H : Hp} : ∀ {xs : List V} {es : List EV} {i : Nat} {x : V}, Paired (EdgeV K H) xs es → xs[i]? = some x → ∃ e, es[i]? = some e ∧ EdgeV K H x e
  | _, _, _, _, .nil, e => by simp at e
  | _, _, 0, _, .cons h _, e => by simp at e; subst e; exact ⟨_, rfl, h⟩
  | _, _, i + 1, x, .cons _ t, e => by
    obtain ⟨q, h1, h2⟩ := ev_get (i := i) (x := x) t (by simpa using e)
    exact ⟨q, by simpa using h1, h2⟩
theorem edgeV_pair {K : PySem.W.Frag} {H : Hp} {v : V} {i j : Int} (h : EdgeV K H v (some (some i, some j))) : ∃ a, v = .ref a ∧ SqT K H a [.int i, .int j] := by
  cases h with
  | pair h hx hy =>
    cases hx
    cases hy
    exact ⟨_, rfl, h⟩
theorem pairs_of {K : PySem.W.Frag} {H : Hp} : ∀ {L : List (Addr × List Int)} {qs : List Pr}, L.map (·.2) = qs.map toL → (∀ p ∈ L, SqT K H p.1 (p.2.map V.int)) → PairsAt K H (L.map (·.1)) qs
  | [], [], _, _ => .nil
  | [], _ :: _, e, _ => by cases e
  | _ :: _, [], e, _ => by cases e
  | p :: L, q :: qs, e, h => by
    have e1 : p.2 = toL q := (List.cons.inj e).1
    have h1 := h p List.mem_cons_self
    rw [e1] at h1
    exact .cons h1 (pairs_of (List.cons.inj e).2 fun r hr => h r (List.mem_cons_of_mem _ hr))
section
variable {P : Program} {w : World} {K : PySem.W.Frag} {mg : Str → Option Value} {base : Heap}
theorem scInit : FnScope ["self", "size", "edges", "seen", "edge"] ["self", "size", "edges"] (defScope sInit) := ⟨rfl, rfl, rfl, by decide +kernel, rfl, by decide +kernel, by decide +kernel⟩
theorem ok_init {f C CB fN fE fL : Addr} {fd fdN fdE fdL : FuncData} (F : Fun K "__init__" "Graph.__init__" sInit f fd) (T : TxG K mg C) (B : TxE K mg "BadGraph" CB)
    (GN : FnOk P w K mg base CX0 1 fN fdN ["value"] spNum) (gN : mg "is_number" = some (.ref fN)) (kN : PySem.W.keepIn K (.ref fN) = true) (bN : Binds K fdN ["value"] [])
    (GE : FnOk P w K mg base CX0 3 fE fdE ["value", "size"] (spEdg K)) (gE : mg "is_edge" = some (.ref fE)) (kE : PySem.W.keepIn K (.ref fE) = true) (bE : Binds K fdE ["value", "size"] [])
    (GL : FnOk P w K mg base CX0 1 fL fdL ["size", "edges"] (spNls K)) (gL : mg "near_lists" = some (.ref fL)) (kL : PySem.W.keepIn K (.ref fL) = true) (bL : Binds K fdL ["size", "edges"] [])
    {tm : Tok} (gM : mg "MOST_VERTICES" = some (.int 60 tm)) (mset : mg "set" = none) (mtup : mg "tuple" = none) (msort : mg "sorted" = none) :
    FnOk P w K mg base (L2.CX P w) 4 f fd ["self", "size", "edges"] (spInit K C CB) := by
  refine F.okX scInit (fun vs H Q E h => ?_) (fun cdv A outer s H vs Q E hr h => ?_)
  · obtain ⟨p, dx, n, a, xs, es, rfl, _⟩ := h
    rfl
  · obtain ⟨p, dx, n, a, xs, es, rfl, hp, hS, hE, hlen, kE0, kQ⟩ := h
    have hr1 : Room 1 _ := hr.mono (by decide)
    have hu : _ + 64 < cLine := hr.units
    refine ⟨_, pss_cons (ps_if (PW.pt (pw_or (pt_not (pt_val (pe_call GN hr1 (by rfl) gN kN bN .nil pass0 (pa_cons (pv 1) pa_nil)))) (pw_or1 (pt_not (pt_chain op_le op_le pe_int (pv 1) (pe_glob (v := .int 60) rfl gM ⟨_, rfl⟩))))))
        (pss_one (ps_raise rfl (takes_of rfl rfl rfl rfl) (pmk_own PySem.F.excBase_ValueError B.x B.g B.k (raises_own B.b B.t) (by exact rfl)))) pss_nil)
      (pss_cons (ps_set (i := 3) scInit.nd rfl (.inl rfl) (pe_callTy0 cr_set0T (by rfl) mset (by decide +kernel)))
      (pss_cons (ps_for (passes_of rfl) rfl (pi_list (pv 2)) (pg_name (i := 4) scInit.nd rfl (.inl rfl))
        (pss_cons (ps_if (pt_not (pt_val (pe_call GE hr (by rfl) gE kE bE .nil pass0 (pa_cons (pv 4) (pa_cons (pv 1) pa_nil)))))
          (pss_one (ps_raise rfl (takes_of rfl rfl rfl rfl) (pmk_own PySem.F.excBase_ValueError B.x B.g B.k (raises_own B.b B.t) (by exact rfl)))) pss_nil)
        (pss_cons (ps_if (pt_cmpR (or_inT hu) (pv 4) (pv 3) (by rfl))
          (pss_one (ps_raise rfl (takes_of rfl rfl rfl rfl) (pmk_own PySem.F.excBase_ValueError B.x B.g B.k (raises_own B.b B.t) (by exact rfl)))) pss_nil)
        (pss_one (ps_expr (pe_addT hu (pv 3) (pa_cons (pv 4) pa_nil)))))))
      (pss_cons (ps_fld (pv 0) (pv 1) rfl)
      (pss_cons (ps_fld (pv 0) (pe_callTy call_tuple_of (by rfl) mtup (by decide +kernel) (pa_cons (pe_callB (cr_sortT2 rfl) (by rfl) msort (by decide +kernel) (pa_cons (pv 3) pa_nil)) pa_nil)) rfl)
      (pss_one (ps_fld (pv 0) (pe_call GL hr1 (by rfl) gL kL bL .nil pass0 (pa_cons (pv 1) (pa_cons (pe_fld (pv 0) rfl) pa_nil))) rfl)))))), ?_⟩
    refine ⟨_, rfl, _, some n, rfl, .int n, true, rfl, iteF ?_⟩
    refine ⟨_, rfl, _, _, rfl, rfl, _, rfl, ?_⟩
    have bad : ¬ (0 ≤ n ∧ n ≤ 60) → E (.ref CB) none H := fun c => kE0 (by unfold mkE; rw [if_neg c]) H (Same.refl H)
    refine ite2 (fun c0 => ?_) (fun c0 => ?_)
    rotate_left
    · refine ⟨_, rfl, ?_⟩
      exact iteT (bad fun z => c0 (decide_eq_true z.1))
    refine ⟨_, _, rfl, rfl, _, rfl, ?_⟩
    have n0 : 0 ≤ n := of_decide_eq_true c0
    by_cases c1 : n ≤ 60
    rotate_left
    · exact iteN c1 (bad fun z => c1 z.2)
    refine iteNS c1 ?_
    -- seen = set()
    refine ⟨rfl, fun S nS => ?_⟩
    have s1 : Same H (upd H S (TSet P w S [])) := same_upd nS
    have noS : ∀ {b : Addr} {o : HO}, H b = some o → b ≠ S := fun e => ne_of_none e nS
    have hxl : xs.length = es.length := hE.length
    refine ⟨_, rfl, a, rfl, ⟨_, s1.seq hS⟩, for_list (K := K) (a := a) (xs := xs) (fun t σ H' => ∃ (y4 : Option V) (seen : List Pr) (L : List (Addr × List Int)), σ = [some (.ref p), some (.int n), some (.ref a), some (.ref S), y4] ∧ Same H H' ∧
      H' S = some (TSet P w S L) ∧ scan n [] (es.take t) = some seen ∧ (L.map (·.2)).Perm (seen.map toL) ∧ (∀ r ∈ L, SqT K H r.1 (r.2.map V.int)) ∧ L.length ≤ t)
      ⟨none, [], [], rfl, s1, upd_same, by rw [List.take_zero]; rfl, List.Perm.refl _, (fun r hr => by cases hr), Nat.le_refl _⟩ (fun t σ H' _ ⟨_, _, _, _, s', _⟩ => s'.seq hS) ?_ ?_⟩
    · rintro t x σ H' hx ⟨y4, seen, L, rfl, sm, eS, hsc, pm, hm, hl⟩
      obtain ⟨e, he, hv⟩ := ev_get hE hx
      have tl : t < es.length := (List.getElem?_eq_some_iff.mp he).1
      have stop : ¬ (edgB n e = true ∧ prOf e ∉ seen) → ∀ H2, Same H H2 → E (.ref CB) none H2 := fun c => by
        refine kE0 ?_
        unfold mkE
        rw [if_pos ⟨n0, c1⟩]
        rw [split_at he, scan_app, hsc]
        show (if edgB n e = true ∧ prOf e ∉ seen then _ else none) = none
        rw [if_neg c]
      refine ⟨_, rfl, _, rfl, _, e, n, rfl, hv.same sm, edgB n e, rfl, ?_⟩
      cases ce : edgB n e with
      | false => exact iteT (stop (by rw [ce]; simp) H' sm)
      | true =>
        refine iteF ?_
        obtain ⟨i, j, rfl, ok⟩ := edgB_ok ce
        obtain ⟨b, rfl, hb⟩ := edgeV_pair hv
        have hm' : ∀ r ∈ L, SqT K H' r.1 (r.2.map V.int) := fun r hr => same_sqT sm (hm r hr)
        have hmem : toL (i, j) ∈ L.map (·.2) ↔ (i, j) ∈ seen := by
          rw [pm.mem_iff]
          constructor
          · intro z
            obtain ⟨q, hq, e⟩ := List.mem_map.mp z
            rw [← toL_inj e]
            exact hq
          · intro z
            exact List.mem_map.mpr ⟨_, z, rfl⟩
        refine ⟨_, rfl, _, rfl, b, S, toL (i, j), L, rfl, rfl, eS, hm', same_sqT sm hb, _, rfl, ?_⟩
        refine ite2 (fun c => ?_) (fun c => ?_)
        · have c' : (i, j) ∈ seen := hmem.mp (of_decide_eq_true c)
          exact stop (fun z => z.2 c') H' sm
        · have c' : (i, j) ∉ seen := fun z => c (decide_eq_true (hmem.mpr z))
          refine ⟨_, rfl, ⟨S, L, rfl, eS⟩, _, rfl, S, b, toL (i, j), L, rfl, rfl, eS, hm', same_sqT sm hb, by omega, fun z => c' (hmem.mp z), fun L' pm' => ?_⟩
          refine ⟨_, seen ++ [(i, j)], L', rfl, same_put sm nS, upd_same, ?_, ?_, fun r hr => ?_, ?_⟩
          · rw [L2.take_next he, scan_app, hsc]
            show (if edgB n (some (some i, some j)) = true ∧ prOf (some (some i, some j)) ∉ seen then scan n (seen ++ [prOf (some (some i, some j))]) [] else none) = _
            rw [if_pos ⟨ce, c'⟩]
            rfl
          · refine (pm'.map (·.2)).trans ?_
            rw [List.map_cons, List.map_append]
            exact (List.Perm.cons _ pm).trans (List.perm_append_singleton _ _).symm
          · rcases List.mem_cons.mp (pm'.mem_iff.mp hr) with z | z
            · rw [z]; exact hb
            · exact hm r z
          · rw [pm'.length_eq, List.length_cons]; omega
    · rintro σ H' ⟨y4, seen, L, rfl, sm, eS, hsc, pm, hm, hl⟩
      rw [hxl, List.take_length] at hsc
      have hmk : mkE n es = some seen := by unfold mkE; rw [if_pos ⟨n0, c1⟩]; exact hsc
      obtain ⟨ok, nd, sl⟩ := scan_ok n es [] seen hsc (fun q hq => by cases hq) List.nodup_nil
      have hp1 := sm _ _ hp
      have pS : p ≠ S := noS hp
      -- self.size = size
      refine ⟨_, rfl, _, rfl, p, C, dx, [], rfl, hp1, T.cl, T.nS, (by show 0 < 1000; decide), ?_⟩
      -- self.edges = tuple(sorted(seen))
      refine ⟨_, rfl, S, L, rfl, by rw [upd_ne pS.symm]; exact eS, fun r hr => ?_, fun r hr => ?_, fun L2' l2 pm2 srt2 nl2 => ?_⟩
      · exact (But.put (Same.but sm)).sqT hp (hm r hr)
      · have := (pm.mem_iff.mp (List.mem_map.mpr ⟨r, hr, rfl⟩))
        obtain ⟨q, _, e⟩ := List.mem_map.mp this
        rw [← e]
        rfl
      · obtain ⟨k, rfl⟩ : ∃ k : Nat, n = (k : Int) := ⟨n.toNat, by omega⟩
        -- the pairs in their order
        have two : ∀ r ∈ L, ∃ q, q ∈ seen ∧ r.2 = toL q := fun r hr => by
          obtain ⟨q, hq, e⟩ := List.mem_map.mp (pm.mem_iff.mp (List.mem_map.mpr ⟨r, hr, rfl⟩))
          exact ⟨q, hq, e.symm⟩
        have keyP : ∀ r ∈ L, r.2 = toL (pairOf r.2) := fun r hr => by
          obtain ⟨q, _, e⟩ := two r hr
          rw [e]
          rfl
        have eqs : L2'.map (·.2) = (L2'.map fun r => pairOf r.2).map toL := by
          rw [List.map_map]
          exact List.map_congr_left fun r hr => keyP r (pm2.mem_iff.mp hr)
        have pq : (L2'.map fun r => pairOf r.2).Perm seen := by
          have z : ((L.map (·.2)).map pairOf).Perm ((seen.map toL).map pairOf) := pm.map pairOf
          rw [List.map_map, List.map_map] at z
          have e1 : seen.map (pairOf ∘ toL) = seen := by
            rw [show (pairOf ∘ toL) = id from funext fun q => rfl]
            exact List.map_id _
          rw [e1] at z
          exact (pm2.map _).trans z
        have srtq : (L2'.map fun r => pairOf r.2).Pairwise lexlt := List.pairwise_map.mpr srt2
        have okq : ∀ q ∈ L2'.map fun r => pairOf r.2, Okp k q := fun q hq => ok q (pq.mem_iff.mp hq)
        have fewq : (L2'.map fun r => pairOf r.2).length ≤ 75 := by rw [pq.length_eq, sl, List.length_nil]; omega
        generalize hqs : (L2'.map fun r => pairOf r.2) = qs at eqs pq srtq okq fewq
        have bt0 : But p H (upd H' p (.ins C dx (putF "size" (.int k) []))) := But.put (Same.but sm)
        have nl2H : H l2 = none := by
          cases e : H l2 with
          | none => rfl
          | some o =>
            have z := bt0 l2 o e (fun y => by rw [y] at nl2; rw [upd_same] at nl2; cases nl2)
            rw [z] at nl2
            cases nl2
        have pl2 : p ≠ l2 := fun z => by rw [← z, upd_same] at nl2; cases nl2
        refine ⟨l2, _, rfl, .inl ⟨SqL.of upd_same, fun et net => ?_⟩⟩
        have bt1 : But p H (upd (upd H' p (.ins C dx (putF "size" (.int k) []))) l2 (.lst (L2'.map fun q => V.ref q.1))) := bt0.new nl2H
        have at1 : (upd (upd H' p (.ins C dx (putF "size" (.int k) []))) l2 (.lst (L2'.map fun q => V.ref q.1))) p = some (.ins C dx (putF "size" (.int k) [])) := by rw [upd_ne pl2, upd_same]
        generalize (upd (upd H' p (.ins C dx (putF "size" (.int k) []))) l2 (.lst (L2'.map fun q => V.ref q.1))) = H2 at net bt1 at1 ⊢
        have netH : H et = none := by
          cases e : H et with
          | none => rfl
          | some o =>
            have z := bt1 et o e (fun y => by rw [y, at1] at net; cases net)
            rw [z] at net
            cases net
        have pet : p ≠ et := fun z => by rw [← z, at1] at net; cases net
        refine ⟨_, rfl, p, C, dx, _, rfl, by rw [upd_ne pet]; exact at1, T.cl, T.nE, (by show 1 < 1000; decide), ?_⟩
        -- self._near = near_lists(size, self.edges)
        have bt2 : But p H (upd (upd H2 et (.tup (L2'.map fun q => V.ref q.1))) p (.ins C dx (putF "edges" (.ref et) (putF "size" (.int k) [])))) := (bt1.new netH).put
        have et2 : (upd (upd H2 et (.tup (L2'.map fun q => V.ref q.1))) p (.ins C dx (putF "edges" (.ref et) (putF "size" (.int k) [])))) et = some (.tup (L2'.map fun q => V.ref q.1)) := by rw [upd_ne pet.symm, upd_same]
        have at2 : (upd (upd H2 et (.tup (L2'.map fun q => V.ref q.1))) p (.ins C dx (putF "edges" (.ref et) (putF "size" (.int k) [])))) p = some (.ins C dx (putF "edges" (.ref et) (putF "size" (.int k) []))) := upd_same
        generalize (upd (upd H2 et (.tup (L2'.map fun q => V.ref q.1))) p (.ins C dx (putF "edges" (.ref et) (putF "size" (.int k) [])))) = H3 at bt2 et2 at2 ⊢
        have mapref : (L2'.map fun q => V.ref q.1) = (L2'.map (·.1)).map V.ref := by rw [List.map_map]; rfl
        have hm3 : ∀ r ∈ L2', SqT K H r.1 (r.2.map V.int) := fun r hr => hm r (pm2.mem_iff.mp hr)
        have pa0 : PairsAt K H (L2'.map (·.1)) qs := pairs_of eqs hm3
        have pa3 : PairsAt K H3 (L2'.map (·.1)) qs := pairs_of eqs fun r hr => bt2.sqT hp (hm3 r hr)
        rw [mapref] at et2
        refine ⟨_, rfl, _, rfl, p, C, dx, _, .ref et, rfl, at2, T.cl, T.nE, by rw [lookup_putF, if_pos rfl], ?_⟩
        refine ⟨k, et, L2'.map (·.1), qs, rfl, by omega, SqT.of et2, pa3, by omega, fun q hq => ?_, fun H4 nt nts sm4 nnt ent lnt ndn nl => ?_⟩
        · obtain ⟨z1, z2, z3⟩ := okq q hq
          exact ⟨z1, by omega, by omega, z3, by omega⟩
        · have at4 := sm4 _ _ at2
          refine ⟨_, rfl, p, C, dx, _, rfl, at4, T.cl, T.nN, (by show 2 < 1000; decide), ?_⟩
          have pnt : p ≠ nt := fun z => by rw [z] at at2; rw [at2] at nnt; cases nnt
          have sb : But p H4 (upd H4 p (.ins C dx (gflds k et nt))) := But.put (Same.but (Same.refl _))
          have g1 : SqT K (upd H4 p (.ins C dx (gflds k et nt))) et ((L2'.map (·.1)).map V.ref) := sb.sqT at4 (SqT.of (sm4 _ _ et2))
          have g2 : PairsAt K (upd H4 p (.ins C dx (gflds k et nt))) (L2'.map (·.1)) qs := pairs_of eqs fun r hr => sb.sqT at4 (same_sqT sm4 (bt2.sqT hp (hm3 r hr)))
          have ent' : upd H4 p (.ins C dx (gflds k et nt)) nt = some (.lst (nts.map V.ref)) := by rw [upd_ne pnt.symm]; exact ent
          have nl' : ∀ (i : Nat) a, nts[i]? = some a → upd H4 p (.ins C dx (gflds k et nt)) a = some (.lst ((nearOf qs i).map V.int)) := fun i a e => by
            have z := nl i a e
            rw [upd_ne (fun y => by rw [y, at4] at z; cases z)]
            exact z
          have down : ∀ q : Addr, H3 q = none → H q = none := fun q h => by
            cases e : H q with
            | none => rfl
            | some o =>
              have z := bt2 q o e (fun y => by rw [y, at2] at h; cases h)
              rw [z] at h
              cases h
          have bt5 : But p H (upd H4 p (.ins C dx (gflds k et nt))) := (bt2.same sm4).put
          refine kQ seen hmk (upd H4 p (.ins C dx (gflds k et nt))) qs bt5 pq ⟨⟨dx, et, nt, upd_same, ⟨_, g1, g2⟩, nts, ent', lnt, nl'⟩, by omega, fewq, okq, srtq⟩ fun S H'' hS bD => ?_
          have noS : ∀ b o, upd H4 p (.ins C dx (gflds k et nt)) b = some o → b ≠ p → (∀ x, o ≠ .lst x) → ¬ S b := fun b o e bp no hs => by
            obtain ⟨x, hx⟩ := hS b hs
            have z := bt5 b _ hx bp
            rw [e] at z
            exact no x (Option.some.inj z)
          have pS : ¬ S p := fun hs => by
            obtain ⟨x, hx⟩ := hS p hs
            rw [hp] at hx
            cases hx
          have keepT : ∀ {a : Addr} {xs : List V}, SqT K (upd H4 p (.ins C dx (gflds k et nt))) a xs → SqT K H'' a xs := fun {a xs} h => by
            have ap : ∀ o, upd H4 p (.ins C dx (gflds k et nt)) a = some o → (∀ c d f, o ≠ .ins c d f) → a ≠ p := fun o e no z => by
              rw [z, upd_same] at e
              exact no _ _ _ (Option.some.inj e).symm
            rcases h with (h | ⟨o, h⟩) | h
            · exact .inl (.inl (bD _ _ h (noS _ _ h (ap _ h (fun _ _ _ => HO.noConfusion)) (fun _ => HO.noConfusion))))
            · exact .inl (.inr ⟨o, bD _ _ h (noS _ _ h (ap _ h (fun _ _ _ => HO.noConfusion)) (fun _ => HO.noConfusion))⟩)
            · exact .inr h
          refine ⟨⟨dx, et, nt, bD _ _ upd_same pS, ⟨_, keepT g1, pairs_keep (fun a xs => keepT) g2⟩, nts, bD _ _ ent' (fun hs => ?_), lnt, fun i a e => bD _ _ (nl' i a e) (fun hs => ?_)⟩, by omega, fewq, okq, srtq⟩
          · obtain ⟨x, hx⟩ := hS _ hs
            rw [down nt nnt] at hx
            cases hx
          · obtain ⟨x, hx⟩ := hS _ hs
            rw [down a (ndn.2 a (List.mem_of_getElem? e))] at hx
            cases hx
end
end Sm

set_option Elab.async false
set_option linter.all false
set_option maxRecDepth 100000
set_option maxHeartbeats 4000000
namespace Sm
open PySem PySem.Spec PyProof.Rows L2
def spChk (K : PySem.W.Frag) (C CB : Addr) : Sp := fun vs H Q E => ∃ (p : Addr) (n : Nat) (qs : List Pr) (v : V) (i : Option Int), vs = [.ref p, v] ∧ GraphAt K C H p n qs ∧ IB v i ∧ (vtxB n i = false → E (.ref CB) none H) ∧ (vtxB n i = true → Q .non H)
def spNear (K : PySem.W.Frag) (C CB : Addr) : Sp := fun vs H Q E => ∃ (p : Addr) (n : Nat) (qs : List Pr) (v : V) (i : Option Int), vs = [.ref p, v] ∧ GraphAt K C H p n qs ∧ IB v i ∧ (vtxB n i = false → E (.ref CB) none H) ∧
  (∀ u : Nat, i = some (u : Int) → u < n → ∀ (l : Addr), H l = none → Q (.ref l) (upd H l (.lst ((nearOf qs u).map V.int))))
def spHas (K : PySem.W.Frag) (C CB : Addr) : Sp := fun vs H Q E => ∃ (p : Addr) (n : Nat) (qs : List Pr) (v v' : V) (i j : Option Int), vs = [.ref p, v, v'] ∧ GraphAt K C H p n qs ∧ IB v i ∧ IB v' j ∧ ((vtxB n i && vtxB n j) = false → E (.ref CB) none H) ∧
  (∀ u w : Nat, i = some (u : Int) → j = some (w : Int) → u < n → w < n → Q (.bl (decide ((w : Int) ∈ nearOf qs u))) H)
theorem vtxB_nat {n : Nat} {i : Option Int} (h : vtxB n i = true) : ∃ u : Nat, i = some (u : Int) ∧ u < n := by
  match i, h with
  | some i, h =>
    simp only [vtxB, Bool.and_eq_true, decide_eq_true_eq] at h
    exact ⟨i.toNat, by rw [show ((i.toNat : Nat) : Int) = i by omega], by omega⟩
theorem vtxB_of {n u : Nat} (h : u < n) : vtxB n (some (u : Int)) = true := by
  simp only [vtxB, Bool.and_eq_true, decide_eq_true_eq]
  omega
theorem inV_int (x : Int) : ∀ l : List Int, inV (.int x) (l.map V.int) = decide (x ∈ l)
  | [] => by simp [inV]
  | y :: l => by
    have ih := inV_int x l
    unfold inV at ih ⊢
    rw [List.map_cons, List.any_cons, ih]
    by_cases c : y = x
    · simp [eqV, c]
    · have c' : ¬ x = y := fun z => c z.symm
      simp [eqV, c, c']
theorem flat_ints : ∀ l : List Int, (l.map V.int).all flatV = true
  | [] => rfl
  | _ :: l => by rw [List.map_cons, List.all_cons, flat_ints l]; rfl
section
variable {P : Program} {w : World} {K : PySem.W.Frag} {mg : Str → Option Value} {base : Heap}
theorem scChk : FnScope ["self", "value"] ["self", "value"] (defScope sChk) := ⟨rfl, rfl, rfl, by decide +kernel, rfl, by decide +kernel, by decide +kernel⟩
theorem ok_chk {f C CB fV : Addr} {fd fdV : FuncData} (F : Fun K "_check_vertex" "Graph._check_vertex" sChk f fd) (T : TxG K mg C) (B : TxE K mg "BadGraph" CB)
    (GV : FnOk P w K mg base CX0 2 fV fdV ["value", "size"] spVtx) (kV : PySem.W.keepIn K (.ref fV) = true) (bV : Binds K fdV ["value", "size"] []) (gV : mg "is_vertex" = some (.ref fV)) :
    FnOk P w K mg base (L2.CX P w) 3 f fd ["self", "value"] (spChk K C CB) := by
  refine F.okX scChk (fun vs H Q E h => ?_) (fun cdv A outer s H vs Q E hr h => ?_)
  · obtain ⟨p, n, qs, v, i, rfl, _⟩ := h
    rfl
  · obtain ⟨p, n, qs, v, i, rfl, g, hv, kE, kQ⟩ := h
    obtain ⟨dx, et, nt, hp, _⟩ := g.ob
    refine ⟨_, pss_one (ps_if (pt_not (pt_val (pe_call GV hr (by rfl) gV kV bV .nil pass0 (pa_cons (pv 1) (pa_cons (pe_fld (pv 0) rfl) pa_nil)))))
        (pss_one (ps_raise rfl (takes_of rfl rfl rfl rfl) (pmk_own PySem.F.excBase_ValueError B.x B.g B.k (raises_own B.b B.t) (by exact rfl)))) pss_nil), ?_⟩
    refine ⟨_, rfl, _, rfl, p, C, dx, _, .int n, rfl, hp, T.cl, T.nS, gf_size _ _ _, v, i, n, rfl, hv, vtxB n i, rfl, ?_⟩
    cases c : vtxB n i with
    | false => exact iteT (kE c)
    | true => exact iteF (kQ c)
theorem scNear : FnScope ["self", "u"] ["self", "u"] (defScope sNear) := ⟨rfl, rfl, rfl, by decide +kernel, rfl, by decide +kernel, by decide +kernel⟩
theorem ok_near {f C CB fK : Addr} {fd fdK : FuncData} (F : Fun K "near" "Graph.near" sNear f fd) (T : TxG K mg C)
    (GK : FnOk P w K mg base (L2.CX P w) 3 fK fdK ["self", "value"] (spChk K C CB)) (mK : Meth K C "_check_vertex" fK) (bK : Binds K fdK ["self", "value"] []) (ml : mg "list" = none) :
    FnOk P w K mg base (L2.CX P w) 4 f fd ["self", "u"] (spNear K C CB) := by
  refine F.okX scNear (fun vs H Q E h => ?_) (fun cdv A outer s H vs Q E hr h => ?_)
  · obtain ⟨p, n, qs, v, i, rfl, _⟩ := h
    rfl
  · obtain ⟨p, n, qs, v, i, rfl, g, hv, kE, kQ⟩ := h
    have ⟨dx, et, nt, hp, _, nts, hnt, lnt, nl⟩ := g.ob
    refine ⟨_, pss_cons (ps_expr (pe_meth (pv 0) T.cl mK GK hr bK .nil (passes_call (takes_of rfl rfl rfl rfl) fun _ _ _ _ h => h) (pa_cons (pv 1) pa_nil)))
      (pss_one (ps_ret (pe_callTy call_list_of (by rfl) ml (by decide +kernel) (pa_cons (pe_ix ix_list (pe_fld (pv 0) rfl) (pv 1) (fun _ _ => rfl)) pa_nil)))), ?_⟩
    refine ⟨_, rfl, p, dx, _, rfl, hp, gf_no _ _ _ (by decide +kernel) (by decide +kernel) (by decide +kernel), _, rfl, p, n, qs, v, i, rfl, g, hv, kE, fun c => ?_⟩
    obtain ⟨u, rfl, hu⟩ := vtxB_nat c
    cases hv with
    | int =>
      obtain ⟨au, hau⟩ : ∃ a, nts[u]? = some a := ⟨_, List.getElem?_eq_getElem (by omega)⟩
      have ixu : (nts.map V.ref)[u]? = some (.ref au) := by rw [List.getElem?_map, hau]; rfl
      exact ⟨_, rfl, p, C, dx, _, .ref nt, rfl, hp, T.cl, T.nN, gf_near _ _ _, _, rfl, nt, _, _, .ref au, rfl, rfl, SqL.of hnt, atI_nat ixu, au, _, rfl, .inl (SqL.of (nl u au hau)), fun l hl => kQ u rfl hu l hl⟩
theorem scHas : FnScope ["self", "u", "v"] ["self", "u", "v"] (defScope sHas) := ⟨rfl, rfl, rfl, by decide +kernel, rfl, by decide +kernel, by decide +kernel⟩
theorem ok_has {f C CB fK : Addr} {fd fdK : FuncData} (F : Fun K "has" "Graph.has" sHas f fd) (T : TxG K mg C)
    (GK : FnOk P w K mg base (L2.CX P w) 3 fK fdK ["self", "value"] (spChk K C CB)) (mK : Meth K C "_check_vertex" fK) (bK : Binds K fdK ["self", "value"] []) :
    FnOk P w K mg base (L2.CX P w) 4 f fd ["self", "u", "v"] (spHas K C CB) := by
  refine F.okX scHas (fun vs H Q E h => ?_) (fun cdv A outer s H vs Q E hr h => ?_)
  · obtain ⟨p, n, qs, v, v', i, j, rfl, _⟩ := h
    rfl
  · obtain ⟨p, n, qs, v, v', i, j, rfl, g, hv, hv', kE, kQ⟩ := h
    have ⟨dx, et, nt, hp, _, nts, hnt, lnt, nl⟩ := g.ob
    refine ⟨_, pss_cons (ps_expr (pe_meth (pv 0) T.cl mK GK hr bK .nil (passes_call (takes_of rfl rfl rfl rfl) fun _ _ _ _ h => h) (pa_cons (pv 1) pa_nil)))
      (pss_cons (ps_expr (pe_meth (pv 0) T.cl mK GK hr bK .nil (passes_call (takes_of rfl rfl rfl rfl) fun _ _ _ _ h => h) (pa_cons (pv 2) pa_nil)))
      (pss_one (ps_ret (pe_cmpR op_in_seq (pv 2) (pe_ix ix_list (pe_fld (pv 0) rfl) (pv 1) (fun _ _ => rfl)) (by rfl))))), ?_⟩
    refine ⟨_, rfl, p, dx, _, rfl, hp, gf_no _ _ _ (by decide +kernel) (by decide +kernel) (by decide +kernel), _, rfl, p, n, qs, v, i, rfl, g, hv, fun c => kE (by rw [c]; rfl), fun c => ?_⟩
    refine ⟨_, rfl, p, dx, _, rfl, hp, gf_no _ _ _ (by decide +kernel) (by decide +kernel) (by decide +kernel), _, rfl, p, n, qs, v', j, rfl, g, hv', fun c' => kE (by rw [c']; simp), fun c' => ?_⟩
    obtain ⟨u, rfl, hu⟩ := vtxB_nat c
    obtain ⟨x, rfl, hx⟩ := vtxB_nat c'
    cases hv with
    | int =>
      cases hv' with
      | int =>
        obtain ⟨au, hau⟩ : ∃ a, nts[u]? = some a := ⟨_, List.getElem?_eq_getElem (by omega)⟩
        have ixu : (nts.map V.ref)[u]? = some (.ref au) := by rw [List.getElem?_map, hau]; rfl
        refine ⟨_, rfl, _, rfl, p, C, dx, _, .ref nt, rfl, hp, T.cl, T.nN, gf_near _ _ _, _, rfl, nt, _, _, .ref au, rfl, rfl, SqL.of hnt, atI_nat ixu, au, _, rfl, .inl (SqL.of (nl u au hau)), rfl, flat_ints _, ?_⟩
        have z := kQ u x rfl rfl hu hx
        rw [← inV_int] at z
        exact z
end
end Sm

set_option Elab.async false
set_option linter.all false
set_option maxRecDepth 100000
set_option maxHeartbeats 4000000
namespace Sm
open PySem PySem.Spec PyProof.Rows L2
abbrev sPart : Stmt := topS 11
abbrev sBtw : Stmt := topS 12
abbrev sRen : Stmt := topS 13
abbrev sWo : Stmt := topS 14
/-- the vertices of a list that are taken; none if one is refused -/
def vscan (n : Int) : List Int → List (Option Int) → Option (List Int)
  | seen, [] => some seen
  | seen, e :: r => if vtxB n e = true ∧ e.getD 0 ∉ seen then vscan n (seen ++ [e.getD 0]) r else none
theorem vscan_app (n : Int) : ∀ (l r : List (Option Int)) (seen : List Int), vscan n seen (l ++ r) = (vscan n seen l).bind fun s => vscan n s r
  | [], r, seen => rfl
  | e :: l, r, seen => by
    show (if vtxB n e = true ∧ e.getD 0 ∉ seen then vscan n (seen ++ [e.getD 0]) (l ++ r) else none) = (if vtxB n e = true ∧ e.getD 0 ∉ seen then vscan n (seen ++ [e.getD 0]) l else none).bind _
    by_cases c : vtxB n e = true ∧ e.getD 0 ∉ seen
    · rw [if_pos c, if_pos c]
      exact vscan_app n l r _
    · rw [if_neg c, if_neg c]
      rfl
theorem valV_ne {kvs : List (Key × V)} {k : Key} (h : k ∈ kvs.map (·.1)) : valV kvs k ≠ none := fun z => by
  obtain ⟨p, hp, e⟩ := List.mem_map.mp h
  have q := valV_any k kvs
  rw [z] at q
  have r : (kvs.any fun kv => decide (kv.1 = k)) = true := List.any_eq_true.mpr ⟨p, hp, decide_eq_true e⟩
  rw [r] at q
  cases q
def spBtw : Sp := fun vs H Q _ => ∃ i j : Int, vs = [.int i, .int j] ∧ ∀ p, H p = none → Q (.ref p) (upd H p (.tup [.int (if j < i then j else i), .int (if j > i then j else i)]))
/-- what part refuses -/
def spPart (K : PySem.W.Frag) (C CB : Addr) : Sp := fun vs H Q E => ∃ (g a : Addr) (n : Nat) (qs : List Pr) (xs : List V) (is : List (Option Int)), vs = [.ref g, .ref a] ∧ GraphAt K C H g n qs ∧ SqL K H a xs ∧ Paired IB xs is ∧ is.length ≤ 100 ∧
  vscan n [] is = none ∧ ∀ H', Same H H' → E (.ref CB) none H'
def spRen (K : PySem.W.Frag) (C CB : Addr) : Sp := fun vs H Q E => ∃ (g a : Addr) (n : Nat) (qs : List Pr) (xs : List V) (is : List (Option Int)), vs = [.ref g, .ref a] ∧ GraphAt K C H g n qs ∧ SqL K H a xs ∧ Paired IB xs is ∧ is.length ≤ 100 ∧
  (is.length ≠ n ∨ vscan n [] is = none) ∧ ∀ H', Same H H' → E (.ref CB) none H'
def spWo (K : PySem.W.Frag) (C CB : Addr) : Sp := fun vs H Q E => ∃ (g e : Addr) (n : Nat) (qs : List Pr) (i j : Int), vs = [.ref g, .ref e] ∧ GraphAt K C H g n qs ∧ SqT K H e [.int i, .int j] ∧ (i, j) ∉ qs ∧ ∀ H', Same H H' → E (.ref CB) none H'
theorem ib_get {xs : List V} {is : List (Option Int)} {i : Nat} {x : V} (h : Paired IB xs is) (e : xs[i]? = some x) : ∃ o, is[i]? = some o ∧ IB x o := by
  induction h generalizing i with
  | nil => simp at e
  | cons h t ih =>
    cases i with
    | zero => simp at e; subst e; exact ⟨_, rfl, h⟩
    | succ i =>
      obtain ⟨o, h1, h2⟩ := ih (i := i) (by simpa using e)
      exact ⟨o, by simpa using h1, h2⟩
section
variable {X : Cx}
def rInDT (K : PySem.W.Frag) (neg : Bool) : R2 := fun x y H Q => ∃ d ds, Dp K H x d ∧ Dp K H y (.tuple ds) ∧ SeqAt.shaped d = true ∧ SeqAt.shaped (.tuple ds) = true ∧ Q (.bl (if neg then !(ds.any fun z => PyData.eqv z d) else ds.any fun z => PyData.eqv z d)) H
theorem op_inDT (hu : X.A.units + 65 < cLine) : OpR X (compareOp .In) (rInDT X.K false) := by
  intro pins s σ H x y v u Q I rx ry ⟨d, ds, hd, he, sd, se, q⟩
  obtain ⟨as, r1⟩ := Dp.reads I d x v hd rx
  obtain ⟨bs, r2⟩ := Dp.reads I (.tuple ds) y u he ry
  exact SeqAt.in_tuple_reads r2 r1 (SeqAt.canLay_of_shaped se) (SeqAt.canLay_of_shaped sd) (room_in_shaped sd hu) ⟨.bl _, H, I, rfl, q⟩
theorem op_notInDT (hu : X.A.units + 65 < cLine) : OpR X (compareOp .NotIn) (rInDT X.K true) := by
  intro pins s σ H x y v u Q I rx ry ⟨d, ds, hd, he, sd, se, q⟩
  obtain ⟨as, r1⟩ := Dp.reads I d x v hd rx
  obtain ⟨bs, r2⟩ := Dp.reads I (.tuple ds) y u he ry
  exact SeqAt.notIn_tuple_reads r2 r1 (SeqAt.canLay_of_shaped se) (SeqAt.canLay_of_shaped sd) (room_in_shaped sd hu) ⟨.bl _, H, I, rfl, q⟩
end
theorem u65 {k : Nat} {A : Around} (r : Room k A) : A.units + 65 < cLine := by have := r.un; omega
theorem neD_at {X : Cx} {A : Around} {K : PySem.W.Frag} (hA : X.A = A) (hK : X.K = K) (hu : A.units + 64 < cLine) : OpR X (compareOp .NotEq) (rNeD K) := by
  subst hA
  subst hK
  exact op_neD hu
/-! ### pairs as data -/
def pD (q : Pr) : PyData := .tuple [.int q.1, .int q.2]
theorem pD_lay (q : Pr) : (pD q).canLay0 = true := by simp [pD, PyData.canLay0, PyData.canLayAll0]
theorem pD_depth (q : Pr) : (pD q).depth = 1 := by simp [pD, PyData.depth, PyData.depthAll]
theorem pDs_lay : ∀ qs : List Pr, PyData.canLayAll0 (qs.map pD) = true
  | [] => by simp [PyData.canLayAll0]
  | q :: qs => by simp [PyData.canLayAll0, pD_lay q, pDs_lay qs]
theorem pDs_depth : ∀ qs : List Pr, PyData.depthAll (qs.map pD) ≤ 1
  | [] => by simp [PyData.depthAll]
  | q :: qs => by
    have h1 := pDs_depth qs
    have h2 := pD_depth q
    simp only [List.map_cons, PyData.depthAll]
    omega
theorem pD_shaped (q : Pr) : SeqAt.shaped (pD q) = true := by
  have h := pD_depth q
  unfold SeqAt.shaped
  rw [Bool.and_eq_true]
  exact ⟨pD_lay q, decide_eq_true (by omega)⟩
theorem pDs_shapedT (qs : List Pr) : SeqAt.shaped (.tuple (qs.map pD)) = true := by
  have h1 := pDs_depth qs
  unfold SeqAt.shaped
  rw [Bool.and_eq_true]
  refine ⟨by simp only [PyData.canLay0]; exact pDs_lay qs, decide_eq_true ?_⟩
  simp only [PyData.depth]
  omega
theorem pDs_shapedL (qs : List Pr) : SeqAt.shaped (.list (qs.map pD)) = true := by
  have h1 := pDs_depth qs
  unfold SeqAt.shaped
  rw [Bool.and_eq_true]
  refine ⟨by simp only [PyData.canLay0]; exact pDs_lay qs, decide_eq_true ?_⟩
  simp only [PyData.depth]
  omega
theorem pD_eqv (p q : Pr) : PyData.eqv (pD p) (pD q) = decide (p = q) := by
  obtain ⟨a, b⟩ := p
  obtain ⟨c, d⟩ := q
  have e : PyData.eqv (pD (a, b)) (pD (c, d)) = ((a == c) && ((b == d) && true)) := by simp only [pD, PyData.eqv, PyData.eqvAll]
  rw [e]
  by_cases h1 : a = c
  · by_cases h2 : b = d
    · simp [h1, h2]
    · simp [h1, h2]
  · simp [h1]
theorem pDs_any (q : Pr) : ∀ qs : List Pr, ((qs.map pD).any fun z => PyData.eqv z (pD q)) = decide (q ∈ qs)
  | [] => by simp
  | p :: qs => by
    rw [List.map_cons, List.any_cons, pDs_any q qs, pD_eqv]
    by_cases c : p = q
    · simp [c]
    · have c' : ¬ q = p := fun z => c z.symm
      simp [c, c']
theorem dp_pair {K : PySem.W.Frag} {H : Hp} {a : Addr} {i j : Int} (h : SqT K H a [.int i, .int j]) : Dp K H (.ref a) (pD (i, j)) := .tup h (.cons (.int i) (.cons (.int j) .nil))
theorem dp_pairs {K : PySem.W.Frag} {H : Hp} : ∀ {as : List Addr} {qs : List Pr}, PairsAt K H as qs → DpAll K H (as.map V.ref) (qs.map pD)
  | _, _, .nil => .nil
  | _, _, .cons h t => .cons (dp_pair h) (dp_pairs t)
section
variable {P : Program} {w : World} {K : PySem.W.Frag} {mg : Str → Option Value} {base : Heap}
theorem scBtw : FnScope ["u", "v"] ["u", "v"] (defScope sBtw) := ⟨rfl, rfl, rfl, by decide +kernel, rfl, by decide +kernel, by decide +kernel⟩
theorem ok_btw {f : Addr} {fd : FuncData} (F : Fun K "edge_between" "edge_between" sBtw f fd) (m1 : mg "min" = none) (m2 : mg "max" = none) : FnOk P w K mg base CX0 1 f fd ["u", "v"] spBtw := by
  refine F.ok scBtw (fun vs H Q E h => ?_) (fun cdv A outer s H vs Q E hr h => ?_)
  · obtain ⟨i, j, rfl, _⟩ := h
    rfl
  · obtain ⟨i, j, rfl, q⟩ := h
    refine ⟨_, pss_one (ps_ret (pe_tup (pa_cons (pe_callB (call_min2 rfl) (by rfl) m1 (by decide +kernel) (pa_cons (pv 0) (pa_cons (pv 1) pa_nil)))
      (pa_cons (pe_callB (call_max2 rfl) (by rfl) m2 (by decide +kernel) (pa_cons (pv 0) (pa_cons (pv 1) pa_nil))) pa_nil)))), ?_⟩
    exact ⟨_, rfl, _, rfl, _, _, rfl, _, rfl, _, rfl, _, _, rfl, (by show 2 ≤ sizeLine; decide), q⟩
theorem scPart : FnScope ["graph", "vertices", "places", "place", "vertex", "kept", "u", "v"] ["graph", "vertices"] (defScope sPart) := ⟨rfl, rfl, rfl, by decide +kernel, rfl, by decide +kernel, by decide +kernel⟩
theorem ok_part {f C CB fV fI fB : Addr} {fd fdV fdI fdB : FuncData} (F : Fun K "part" "part" sPart f fd) (T : TxG K mg C) (B : TxE K mg "BadGraph" CB)
    (GV : FnOk P w K mg base CX0 2 fV fdV ["value", "size"] spVtx) (kV : PySem.W.keepIn K (.ref fV) = true) (bV : Binds K fdV ["value", "size"] []) (gV : mg "is_vertex" = some (.ref fV))
    (GI : FnOk P w K mg base (L2.CX P w) 4 fI fdI ["self", "size", "edges"] (spInit K C CB)) (M : Mk K C fI) (bI : Binds K fdI ["self", "size", "edges"] [])
    (GB : FnOk P w K mg base CX0 1 fB fdB ["u", "v"] spBtw) (kB : PySem.W.keepIn K (.ref fB) = true) (bB : Binds K fdB ["u", "v"] []) (gB : mg "edge_between" = some (.ref fB))
    (me : mg "enumerate" = none) (ml : mg "len" = none) :
    FnOk P w K mg base (L2.CX P w) 6 f fd ["graph", "vertices"] (spPart K C CB) := by
  refine F.okX scPart (fun vs H Q E h => ?_) (fun cdv A outer s H vs Q E hr h => ?_)
  · obtain ⟨g, a, n, qs, xs, is, rfl, _⟩ := h
    rfl
  · obtain ⟨g, a, n, qs, xs, is, rfl, G, hS, hI, hlen, hbad, kE⟩ := h
    have hu := hu_of hr
    have hr1 : Room 1 _ := hr.mono (by decide)
    have hr2 : Room 2 _ := hr.mono (by decide)
    have ⟨dx, et, nt, hg, _⟩ := G.ob
    refine ⟨_, pss_cons (ps_set (i := 2) scPart.nd rfl (.inl rfl) pe_dnewK)
      (pss_cons (ps_for (passes_of rfl) rfl (pi_enum (by rfl) me (pa_cons (pv 1) pa_nil)) (pg_tup rfl (pgs_cons (pg_name (i := 3) scPart.nd rfl (.inl rfl)) (pgs_cons (pg_name (i := 4) scPart.nd rfl (.inl rfl)) pgs_nil)))
        (pss_cons (ps_if (pt_not (pt_val (pe_call GV hr2 (by rfl) gV kV bV .nil pass0 (pa_cons (pv 4) (pa_cons (pe_fld (pv 0) rfl) pa_nil)))))
          (pss_one (ps_raise rfl (takes_of rfl rfl rfl rfl) (pmk_own PySem.F.excBase_ValueError B.x B.g B.k (raises_own B.b B.t) (by exact rfl)))) pss_nil)
        (pss_cons (ps_if (pt_cmp (pc_din hu (pv 4) (pv 2)))
          (pss_one (ps_raise rfl (takes_of rfl rfl rfl rfl) (pmk_own PySem.F.excBase_ValueError B.x B.g B.k (raises_own B.b B.t) (by exact rfl)))) pss_nil)
        (pss_one (ps_dput hu (pv 2) (pv 4) (pv 3) rfl)))))
      (pss_cons (ps_set (i := 5) scPart.nd rfl (.inl rfl) (pe_lst pa_nil))
      (pss_cons (ps_for (passes_of rfl) rfl (pi_tup (pe_fld (pv 0) rfl)) (pg_tup rfl (pgs_cons (pg_name (i := 6) scPart.nd rfl (.inl rfl)) (pgs_cons (pg_name (i := 7) scPart.nd rfl (.inl rfl)) pgs_nil)))
        (pss_one (ps_if (PW.pt (pw_and (pt_cmp (pc_din hu (pv 6) (pv 2))) (pw_and1 (pt_cmp (pc_din hu (pv 7) (pv 2))))))
          (pss_one (ps_expr (pe_bm PySem.F.plainAttrs_list PySem.F.slot_list_append PySem.F.type_list_append mt_append (pv 5)
            (pa_cons (pe_call GB hr1 (by rfl) gB kB bB .nil pass0 (pa_cons (pe_dget hu (pv 2) (pv 6) (fun _ _ => rfl)) (pa_cons (pe_dget hu (pv 2) (pv 7) (fun _ _ => rfl)) pa_nil))) pa_nil)))) pss_nil)))
      (pss_one (ps_ret (pe_make M GI hr (by rfl) T.g bI .nil (passes_call (takes_of rfl rfl rfl rfl) fun _ _ _ _ h => h) (pa_cons (pe_callB call_lenD (by rfl) ml PySem.boot_len (pa_cons (pv 2) pa_nil)) (pa_cons (pv 5) pa_nil)))))))), ?_⟩
    intro d hd
    have s1 : Same H (upd H d (.dK [])) := same_upd hd
    refine ⟨_, rfl, a, xs, rfl, s1.seq hS, for_it (walk_enum (K := K) (a := a) (xs := xs)) (fun t σ H' => ∃ (y3 y4 : Option V) (seen : List Int) (kvs : List (Key × V)), σ = [some (.ref g), some (.ref a), some (.ref d), y3, y4, none, none, none] ∧ Same H H' ∧
      H' d = some (.dK kvs) ∧ vscan n [] (is.take t) = some seen ∧ kvs.map (·.1) = seen.map Sum.inl ∧ kvs.length = t)
      ⟨none, none, [], [], rfl, s1, upd_same, by rw [List.take_zero]; rfl, rfl, rfl⟩ (fun t σ H' _ ⟨_, _, _, _, _, s', _⟩ => s'.seq hS) ?_ ?_⟩
    · rintro t x σ H1 H' ht ⟨y3, y4, seen, kvs, rfl, sm, ed, hsc, hk, hl⟩ ⟨T1, v1, v2, rfl, nT, rfl, e1, e2⟩
      cases e1
      obtain ⟨o, he, hv⟩ := ib_get hI e2
      have sm' : Same H (upd H1 T1 (.tup [.int (t : Nat), v2])) := same_put sm (sm.free nT)
      have dT : d ≠ T1 := fun z => by rw [← z, ed] at nT; cases nT
      have stop : ¬ (vtxB n o = true ∧ o.getD 0 ∉ seen) → ∀ H2, Same H H2 → E (.ref CB) none H2 := fun _ => kE
      refine ⟨T1, _, rfl, SqT.of upd_same, rfl, _, _, rfl, _, _, rfl, rfl, ?_⟩
      refine ⟨_, rfl, _, rfl, g, C, dx, _, .int n, rfl, sm' _ _ hg, T.cl, T.nS, gf_size _ _ _, v2, o, n, rfl, hv, vtxB n o, rfl, ?_⟩
      cases c : vtxB n o with
      | false => exact iteT (kE _ sm')
      | true =>
        refine iteF ?_
        obtain ⟨u, rfl, hu'⟩ := vtxB_nat c
        cases hv with
        | int =>
          refine ⟨_, rfl, _, rfl, d, _, rfl, DGet.k (k := Sum.inl (u : Int)) (by rw [upd_ne dT]; exact ed), _, rfl, ?_⟩
          cases ev : valV kvs (Sum.inl (u : Int) : Key) with
          | some v => exact iteT (kE _ sm')
          | none =>
            refine iteF ?_
            have isl : t < is.length := (List.getElem?_eq_some_iff.mp he).1
            refine ⟨_, rfl, _, rfl, _, rfl, d, _, rfl, DPut.k (k := Sum.inl (u : Int)) (by rw [upd_ne dT]; exact ed) (small1000 (by omega)), ?_⟩
            have nin : (u : Int) ∉ seen := fun z => by
              have z2 : (Sum.inl (u : Int) : Key) ∈ kvs.map (·.1) := by rw [hk]; exact List.mem_map.mpr ⟨_, z, rfl⟩
              exact valV_ne z2 ev
            refine ⟨_, _, seen ++ [(u : Int)], putK kvs (Sum.inl (u : Int)) (.int (t : Nat)), rfl, same_put sm' hd, upd_same, ?_, ?_, ?_⟩
            · rw [L2.take_next he, vscan_app, hsc]
              show (if vtxB n (some (u : Int)) = true ∧ (some (u : Int)).getD 0 ∉ seen then _ else none) = _
              rw [if_pos ⟨c, nin⟩]
              rfl
            · rw [putK_new _ ev, List.map_append, hk, List.map_append]
              rfl
            · rw [putK_new _ ev, List.length_append, hl]
              rfl
    · rintro σ H' ⟨y3, y4, seen, kvs, rfl, sm, ed, hsc, hk, hl⟩
      rw [hI.length, List.take_length, hbad] at hsc
      cases hsc
theorem scRen : FnScope ["graph", "order"] ["graph", "order"] (defScope sRen) := ⟨rfl, rfl, rfl, by decide +kernel, rfl, by decide +kernel, by decide +kernel⟩
theorem ok_ren {f C CB fP : Addr} {fd fdP : FuncData} (F : Fun K "renumbered" "renumbered" sRen f fd) (T : TxG K mg C) (B : TxE K mg "BadGraph" CB)
    (GP : FnOk P w K mg base (L2.CX P w) 6 fP fdP ["graph", "vertices"] (spPart K C CB)) (kP : PySem.W.keepIn K (.ref fP) = true) (bP : Binds K fdP ["graph", "vertices"] []) (gP : mg "part" = some (.ref fP)) (ml : mg "len" = none) :
    FnOk P w K mg base (L2.CX P w) 7 f fd ["graph", "order"] (spRen K C CB) := by
  refine F.okX scRen (fun vs H Q E h => ?_) (fun cdv A outer s H vs Q E hr h => ?_)
  · obtain ⟨g, a, n, qs, xs, is, rfl, _⟩ := h
    rfl
  · obtain ⟨g, a, n, qs, xs, is, rfl, G, hS, hI, hlen, hbad, kE⟩ := h
    have ⟨dx, et, nt, hg, _⟩ := G.ob
    refine ⟨_, pss_cons (ps_if (pt_cmpR op_ne (pe_callB call_len_seq (by rfl) ml PySem.boot_len (pa_cons (pv 1) pa_nil)) (pe_fld (pv 0) rfl) (nomark _))
        (pss_one (ps_raise rfl (takes_of rfl rfl rfl rfl) (pmk_own PySem.F.excBase_ValueError B.x B.g B.k (raises_own B.b B.t) (by exact rfl)))) pss_nil)
      (pss_one (ps_ret (pe_call GP hr (by rfl) gP kP bP .nil (passes_call (takes_of rfl rfl rfl rfl) fun _ _ _ _ h => h) (pa_cons (pv 0) (pa_cons (pv 1) pa_nil))))), ?_⟩
    refine ⟨_, rfl, a, xs, rfl, .inl hS, _, rfl, g, C, dx, _, .int n, rfl, hg, T.cl, T.nS, gf_size _ _ _, rfl, _, rfl, ?_⟩
    by_cases c : is.length = n
    · refine iteNS (by rw [hI.length, c]) ?_
      exact ⟨_, rfl, _, rfl, g, a, n, qs, xs, is, rfl, G, hS, hI, hlen, hbad.resolve_left (fun z => z c), kE⟩
    · refine iteN (fun z => c ?_) (kE H (Same.refl H))
      have z' := Int.ofNat.inj (V.int.inj z)
      rw [← hI.length]
      exact z'
theorem scWo : FnScope ["graph", "edge", "other"] ["graph", "edge"] (defScope sWo) := ⟨rfl, rfl, rfl, by decide +kernel, rfl, by decide +kernel, by decide +kernel⟩
theorem ok_wo {f C CB fE fI : Addr} {fd fdE fdI : FuncData} (F : Fun K "without" "without" sWo f fd) (T : TxG K mg C) (B : TxE K mg "BadGraph" CB)
    (GE : FnOk P w K mg base CX0 3 fE fdE ["value", "size"] (spEdg K)) (kE' : PySem.W.keepIn K (.ref fE) = true) (bE : Binds K fdE ["value", "size"] []) (gE : mg "is_edge" = some (.ref fE))
    (GI : FnOk P w K mg base (L2.CX P w) 4 fI fdI ["self", "size", "edges"] (spInit K C CB)) (M : Mk K C fI) (bI : Binds K fdI ["self", "size", "edges"] []) :
    FnOk P w K mg base (L2.CX P w) 6 f fd ["graph", "edge"] (spWo K C CB) := by
  refine F.okX scWo (fun vs H Q E h => ?_) (fun cdv A outer s H vs Q E hr h => ?_)
  · obtain ⟨g, e, n, qs, i, j, rfl, _⟩ := h
    rfl
  · obtain ⟨g, e, n, qs, i, j, rfl, G, hS, hni, kE⟩ := h
    have ⟨dx, et, nt, hg, ⟨ets, hT, hP⟩, _⟩ := G.ob
    have hu : _ + 64 < cLine := hr.units
    have hr3 : Room 3 _ := hr.mono (by decide)
    refine ⟨_, pss_cons (ps_if (PW.pt (pw_or (pt_not (pt_val (pe_call GE hr3 (by rfl) gE kE' bE .nil pass0 (pa_cons (pv 1) (pa_cons (pe_fld (pv 0) rfl) pa_nil))))) (pw_or1 (pt_cmpR (op_notInDT (u65 hr)) (pv 1) (pe_fld (pv 0) rfl) (by rfl)))))
        (pss_one (ps_raise rfl (takes_of rfl rfl rfl rfl) (pmk_own PySem.F.excBase_ValueError B.x B.g B.k (raises_own B.b B.t) (by exact rfl)))) pss_nil)
      (pss_one (ps_ret (pe_make M GI hr (by rfl) T.g bI .nil (passes_call (takes_of rfl rfl rfl rfl) fun _ _ _ _ h => h) (pa_cons (pe_fld (pv 0) rfl)
        (pa_cons (pe_lc (own := [("other", 2)]) (g := gName 2) (by rfl) scWo.nd (pi_tup (pe_fld (pv 0) rfl)) (blkOk_by (own := [("other", 2)]) (N := ["graph", "edge", "other"]) (sc := defScope sWo) (by decide +kernel))
          (fun _ _ _ _ _ => pg_name (i := 2) scWo.nd rfl (Or.inl rfl)) (fun _ _ _ _ _ => pts_one (pt_cmpR (neD_at rfl rfl hu) (pv 2) (pv 1) (nomark _))) (fun _ _ _ _ _ => pv 2)) pa_nil))))), ?_⟩
    refine ⟨_, rfl, _, rfl, g, C, dx, _, .int n, rfl, hg, T.cl, T.nS, gf_size _ _ _, .ref e, _, n, rfl, .pair hS (.int i) (.int j), _, rfl, ?_⟩
    have fin : (!decide ((i, j) ∈ qs)) = true := by rw [decide_eq_false hni]; rfl
    refine ite2 (fun _ => ?_) (fun _ => ?_)
    · exact kE H (Same.refl H)
    · refine ⟨_, rfl, _, rfl, g, C, dx, _, .ref et, rfl, hg, T.cl, T.nE, gf_edges _ _ _, pD (i, j), qs.map pD, dp_pair hS, .tup hT (dp_pairs hP), pD_shaped _, pDs_shapedT _, _, rfl, ?_⟩
      rw [if_pos rfl, pDs_any, fin]
      exact iteT (kE H (Same.refl H))
end
end Sm

set_option Elab.async false
set_option linter.all false
set_option maxRecDepth 100000
set_option maxHeartbeats 4000000
namespace Sm
open PySem PySem.Spec PyProof.Rows L2
abbrev sNums : Stmt := topS 21
abbrev sTake : Stmt := topS 22
abbrev sPrs : Stmt := topS 23
abbrev sGr : Stmt := topS 24
/-- a number as the law draws it -/
def Dig (x : Int) : Prop := 0 ≤ x ∧ x < 1000
theorem cut_take (ns : List Int) (m : Nat) : cutV (ns.map V.int) none (some (m : Int)) = (ns.take m).map V.int := by
  unfold cutV
  rw [HT.sIx_none, HT.sIx_nat, List.drop_zero, Nat.sub_zero, List.length_map, ← List.map_take]
  congr 1
  by_cases h : m ≤ ns.length
  · rw [Nat.min_eq_left h]
  · rw [Nat.min_eq_right (by omega), List.take_length, List.take_of_length_le (by omega)]
def spNums (K : PySem.W.Frag) : Sp := fun vs H Q _ => ∃ (a : Addr) (ns : List Int) (m : Nat), vs = [.ref a, .int m] ∧ SqL K H a (ns.map V.int) ∧ ns.length ≤ 63 ∧
  ∀ (H' : Hp) (p : Addr) (out : List Int), Same H H' → H p = none → H' p = some (.lst (out.map V.int)) → (∀ x ∈ out, Dig x) → out.length ≤ m → Q (.ref p) H'
section
variable {P : Program} {w : World} {K : PySem.W.Frag} {mg : Str → Option Value} {base : Heap}
theorem scNums : FnScope ["script", "many", "numbers", "k", "cell", "j", "mixed"] ["script", "many"] (defScope sNums) := ⟨rfl, rfl, rfl, by decide +kernel, rfl, by decide +kernel, by decide +kernel⟩
theorem dig_mod (x : Int) : Dig (x % 1000) := ⟨by omega, by omega⟩
theorem dig_more {out : List Int} {x : Int} (h : ∀ x ∈ out, Dig x) (hx : Dig x) : ∀ y ∈ out ++ [x], Dig y := fun y hy => by
  rcases List.mem_append.mp hy with z | z
  · exact h y z
  · rw [List.mem_singleton.mp z]; exact hx
theorem ok_nums {f : Addr} {fd : FuncData} (F : Fun K "_law_numbers" "_law_numbers" sNums f fd) (mr : mg "range" = none) (ml : mg "len" = none) (ma : mg "abs" = none) (mi : mg "int" = none) : FnOk P w K mg base CX0 1 f fd ["script", "many"] (spNums K) := by
  refine F.ok scNums (fun vs H Q E h => ?_) (fun cdv A outer s H vs Q E hr h => ?_)
  · obtain ⟨a, ns, m, rfl, _⟩ := h
    rfl
  · obtain ⟨a, ns, m, rfl, hS, hlen, q⟩ := h
    refine ⟨_, pss_cons (ps_set (i := 2) scNums.nd rfl (.inl rfl) (pe_lst pa_nil))
      (pss_cons (ps_for PassesOwn.never rfl (pi_range1 rfl mr (pa_cons (pe_callB call_len_seq (by rfl) ml PySem.boot_len (pa_cons (pv 0) pa_nil)) pa_nil)) (pg_name (i := 3) scNums.nd rfl (.inl rfl))
        (pss_cons (ps_set (i := 4) scNums.nd rfl (.inl rfl) (pe_callB call_abs (by rfl) ma (by decide +kernel) (pa_cons (pe_ix ix_list (pv 0) (pv 3) (fun _ _ => rfl)) pa_nil)))
        (pss_one (ps_if (pt_cmpR op_ge (pv 4) (pe_op op_pow pe_int pe_int) (nomark _))
          (pss_one (ps_for PassesOwn.never rfl (pi_range1 rfl mr (pa_cons pe_int pa_nil)) (pg_name (i := 5) scNums.nd rfl (.inl rfl))
            (pss_one (ps_if (PW.pt (pw_and (pt_cmpR op_gt (pv 4) pe_int (nomark _)) (pw_and1 (pt_cmpR op_lt (pe_callB call_len_seq (by rfl) ml PySem.boot_len (pa_cons (pv 2) pa_nil)) (pv 1) (nomark _)))))
              (pss_cons (ps_expr (pe_bm PySem.F.plainAttrs_list PySem.F.slot_list_append PySem.F.type_list_append mt_append (pv 2) (pa_cons (pe_op op_mod (pv 4) pe_int) pa_nil)))
              (pss_one (ps_set (i := 4) scNums.nd rfl (.inl rfl) (pe_op op_fdiv (pv 4) pe_int)))) pss_nil))))
          (pss_one (ps_for PassesOwn.never rfl (pi_range1 rfl mr (pa_cons pe_int pa_nil)) (pg_name (i := 5) scNums.nd rfl (.inl rfl))
            (pss_cons (ps_set (i := 6) scNums.nd rfl (.inl rfl) (pe_op op_mod (pe_callTy call_int1 (by rfl) mi (by decide +kernel) (pa_cons (pe_op op_add (pe_op op_add (pe_op op_add (pe_op op_mul (pv 4) pe_int) (pe_op op_mul (pv 3) pe_int)) (pe_op op_mul (pv 5) pe_int)) pe_int) pa_nil)) pe_int))
            (pss_cons (ps_set (i := 6) scNums.nd rfl (.inl rfl) (pe_op op_mod (pe_callTy call_int1 (by rfl) mi (by decide +kernel) (pa_cons (pe_op op_add (pe_op op_mul (pv 6) (pv 6)) (pv 5)) pa_nil)) pe_int))
            (pss_one (ps_expr (pe_bm PySem.F.plainAttrs_list PySem.F.slot_list_append PySem.F.type_list_append mt_append (pv 2) (pa_cons (pe_op op_mod (pe_op op_fdiv (pv 6) pe_int) pe_int) pa_nil))))))))))))
      (pss_one (ps_ret (pe_slice sl_list (pv 2) po_none (po_some (pv 1)))))), ?_⟩
    refine ⟨Nat.zero_le _, fun p np => ?_⟩
    have s1 : Same H (upd H p (.lst [])) := same_upd np
    refine ⟨_, rfl, a, _, rfl, .inl (s1.seq hS), _, rfl, by rw [List.length_map]; omega, by rw [List.length_map]; omega, ?_⟩
    have toNat : ((((ns.map V.int).length : Nat) : Int)).toNat = ns.length := by rw [List.length_map]; omega
    rw [toNat]
    refine for_range (lo := 0) (n := ns.length) (fun i σ H' => ∃ (y3 y4 y5 y6 : Option V) (out : List Int), σ = [some (.ref a), some (.int m), some (.ref p), y3, y4, y5, y6] ∧ Same H H' ∧ H' p = some (.lst (out.map V.int)) ∧ (∀ x ∈ out, Dig x) ∧ out.length ≤ 60 * i)
      ⟨none, none, none, none, [], rfl, s1, upd_same, (fun x hx => by cases hx), by simp⟩ ?_ ?_
    · rintro i σ H' hi ⟨y3, y4, y5, y6, out, rfl, sm, ep, hd, hl⟩
      have hA := sm.seq hS
      have gi : (ns.map V.int)[i]? = some (.int ns[i]) := by rw [List.getElem?_map, List.getElem?_eq_getElem hi]; rfl
      generalize ns[i] = z at gi
      refine ⟨_, rfl, _, rfl, a, _, _, _, rfl, rfl, hA, (by rw [show (0 : Int) + i = (i : Int) by omega]; exact atI_nat gi), _, rfl, ?_⟩
      have cell0 : 0 ≤ (if z < 0 then -z else z) := by split <;> omega
      generalize (if z < 0 then -z else z) = cell at cell0
      refine ⟨_, rfl, _, _, rfl, rfl, ⟨by decide, by decide, by decide⟩, _, _, rfl, rfl, _, rfl, ?_⟩
      refine ite2 (fun _ => ?_) (fun c => ?_)
      · refine ⟨60, rfl, by decide, by decide, ?_⟩
        refine for_range (lo := 0) (n := 60) (fun j σ H2 => ∃ (y5 y6 : Option V) (cell : Int) (out : List Int), σ = [some (.ref a), some (.int m), some (.ref p), some (.int (0 + (i : Int))), some (.int cell), y5, y6] ∧ Same H H2 ∧ H2 p = some (.lst (out.map V.int)) ∧ (∀ x ∈ out, Dig x) ∧ out.length ≤ 60 * i + j ∧ 0 ≤ cell)
          ⟨_, _, cell, out, rfl, sm, ep, hd, by omega, cell0⟩ ?_ ?_
        · rintro j σ H2 hj ⟨y5, y6, cell, out, rfl, sm, ep, hd, hl, cell0⟩
          refine ⟨_, rfl, _, _, rfl, rfl, _, rfl, ?_⟩
          refine ite2 (fun _ => ?_) (fun _ => ?_)
          · refine ⟨_, rfl, p, _, rfl, .inl (SqL.of ep), _, rfl, _, _, rfl, rfl, _, rfl, ?_⟩
            refine ite2 (fun _ => ?_) (fun _ => ?_)
            · refine ⟨_, rfl, .inl ⟨rfl, _, SqL.of ep⟩, _, rfl, _, _, rfl, rfl, (by show (0 : Int) < 1000; decide), p, _, _, rfl, rfl, ep, by rw [List.length_map, sizeLine_eq]; omega, ?_⟩
              refine ⟨_, rfl, _, _, rfl, rfl, ⟨by decide, by decide⟩, ?_⟩
              exact ⟨_, _, cell / 1000, out ++ [cell % 1000], rfl, same_put sm np, by rw [upd_same, List.map_append]; rfl, dig_more hd (dig_mod _), by rw [List.length_append]; simp only [List.length_cons, List.length_nil]; omega, by omega⟩
            · exact ⟨_, _, cell, out, rfl, sm, ep, hd, by omega, cell0⟩
          · exact ⟨_, _, cell, out, rfl, sm, ep, hd, by omega, cell0⟩
        · rintro σ H2 ⟨y5, y6, cell, out, rfl, sm, ep, hd, hl, cell0⟩
          exact ⟨_, _, _, _, out, rfl, sm, ep, hd, by omega⟩
      · have cl : cell < 10 ^ 18 := Int.not_le.mp fun z => c (decide_eq_true z)
        refine ⟨5, rfl, by decide, by decide, ?_⟩
        refine for_range (lo := 0) (n := 5) (fun j σ H2 => ∃ (y5 y6 : Option V) (out : List Int), σ = [some (.ref a), some (.int m), some (.ref p), some (.int (0 + (i : Int))), some (.int cell), y5, y6] ∧ Same H H2 ∧ H2 p = some (.lst (out.map V.int)) ∧ (∀ x ∈ out, Dig x) ∧ out.length ≤ 60 * i + j)
          ⟨_, _, out, rfl, sm, ep, hd, by omega⟩ ?_ ?_
        · rintro j σ H2 hj ⟨y5, y6, out, rfl, sm, ep, hd, hl⟩
          refine ⟨_, rfl, _, _, rfl, rfl, .inl ⟨by omega, by omega⟩, ?_⟩
          refine ⟨_, rfl, _, _, rfl, rfl, .inl ⟨by omega, by omega⟩, _, _, rfl, rfl, ?_⟩
          refine ⟨_, rfl, _, _, rfl, rfl, .inl ⟨by omega, by omega⟩, _, _, rfl, rfl, _, _, rfl, rfl, .inl ⟨_, rfl, _, _, rfl, rfl, (by show (0 : Int) < 2147483647; decide), ?_⟩⟩
          have m0 : ∀ x : Int, 0 ≤ x % 2147483647 ∧ x % 2147483647 < 2147483647 := fun x => by omega
          generalize hm : (cell * 48271 + (0 + (i : Int)) * 69621 + (0 + (j : Int)) * 16807 + 11) % 2147483647 = mixed
          obtain ⟨mx0, mx1⟩ : 0 ≤ mixed ∧ mixed < 2147483647 := by rw [← hm]; exact m0 _
          refine ⟨_, rfl, _, rfl, _, _, rfl, rfl, .inl ⟨by omega, by omega⟩, _, rfl, _, _, rfl, rfl, .inl ⟨_, rfl, _, _, rfl, rfl, (by show (0 : Int) < 2147483629; decide), ?_⟩⟩
          refine ⟨_, rfl, .inl ⟨rfl, _, SqL.of ep⟩, _, rfl, _, _, rfl, rfl, ⟨by decide, by decide⟩, _, _, rfl, rfl, (by show (0 : Int) < 1000; decide), p, _, _, rfl, rfl, ep, by rw [List.length_map, sizeLine_eq]; omega, ?_⟩
          exact ⟨_, _, out ++ [_], rfl, same_put sm np, by rw [upd_same, List.map_append]; rfl, dig_more hd (dig_mod _), by rw [List.length_append]; simp only [List.length_cons, List.length_nil]; omega⟩
        · rintro σ H2 ⟨y5, y6, out, rfl, sm, ep, hd, hl⟩
          exact ⟨_, _, _, _, out, rfl, sm, ep, hd, by omega⟩
    · rintro σ H' ⟨y3, y4, y5, y6, out, rfl, sm, ep, hd, hl⟩
      refine ⟨_, rfl, _, rfl, _, rfl, p, _, rfl, SqL.of ep, fun l nl => ?_⟩
      rw [cut_take]
      exact q _ l (out.take m) (same_put sm (sm.free nl)) (sm.free nl) upd_same (fun x hx => hd x (List.mem_of_mem_take hx)) (by rw [List.length_take]; omega)
end
end Sm

set_option Elab.async false
set_option linter.all false
set_option maxRecDepth 100000
set_option maxHeartbeats 4000000
namespace Sm
open PySem PySem.Spec PyProof.Rows L2
/-- all as it was but at b, which is a list of one number that counts -/
def spTake (K : PySem.W.Frag) : Sp := fun vs H Q _ => ∃ (a b : Addr) (ns : List Int) (i : Nat), vs = [.ref a, .ref b] ∧ a ≠ b ∧ SqL K H a (ns.map V.int) ∧ (∀ x ∈ ns, Dig x) ∧ H b = some (.lst [.int i]) ∧
  ∀ (x : Int) (i' : Nat) (H' : Hp), Dig x → But b H H' → (∀ c, H c = none → H' c = none) → H' b = some (.lst [.int i']) → Q (.int x) H'
def rowP (n u : Nat) : List Pr := (List.range (n - (u + 1))).map fun i => ((u : Int), ((u + 1 + i : Nat) : Int))
def pairsL (n : Nat) : List Pr := (List.range n).flatMap fun u => rowP n u
theorem rowP_len (n u : Nat) : (rowP n u).length = n - (u + 1) := by unfold rowP; rw [List.length_map, List.length_range]
theorem flat_len (n : Nat) : ∀ k, k ≤ n → ((List.range k).flatMap fun u => rowP n u).length ≤ k * n
  | 0, _ => by simp
  | k + 1, h => by
    rw [List.range_succ, List.flatMap_append, List.length_append, List.flatMap_singleton, rowP_len]
    have := flat_len n k (by omega)
    rw [Nat.succ_mul]
    omega
theorem mem_rowP {n u : Nat} {q : Pr} (h : q ∈ rowP n u) (hu : u < n) : Okp n q := by
  obtain ⟨i, hi, rfl⟩ := List.mem_map.mp h
  have := List.mem_range.mp hi
  refine ⟨?_, ?_, ?_⟩ <;> dsimp only <;> omega
theorem mem_pairs {n : Nat} {q : Pr} (h : q ∈ pairsL n) : Okp n q := by
  obtain ⟨u, hu, h2⟩ := List.mem_flatMap.mp h
  exact mem_rowP h2 (List.mem_range.mp hu)
def spPrs (K : PySem.W.Frag) : Sp := fun vs H Q _ => ∃ n : Nat, vs = [.int n] ∧ n ≤ 60 ∧ ∀ (H' : Hp) (p : Addr) (as : List Addr), Same H H' → H p = none → H' p = some (.lst (as.map V.ref)) → PairsAt K H' as (pairsL n) → (∀ a ∈ as, a ≠ p) → Q (.ref p) H'
def spGr (K : PySem.W.Frag) : Sp := fun vs H Q _ => ∃ (a b : Addr) (ns : List Int) (i m : Nat), vs = [.ref a, .ref b, .int m] ∧ a ≠ b ∧ SqL K H a (ns.map V.int) ∧ (∀ x ∈ ns, Dig x) ∧ H b = some (.lst [.int i]) ∧ m ≤ 20 ∧
  ∀ (H' : Hp) (t e : Addr) (as : List Addr) (n i' : Nat) (es : List Pr), n ≤ m → But b H H' → H' b = some (.lst [.int i']) → H t = none → H e = none → H' t = some (.tup [.int n, .ref e]) → H' e = some (.lst (as.map V.ref)) → PairsAt K H' as es → es.Sublist (pairsL n) → Q (.ref t) H'
theorem Dig.nat {x : Int} (h : Dig x) (m : Nat) : ∃ k : Nat, x % ((m : Int) + 1) = k ∧ k ≤ m := by
  refine ⟨(x % ((m : Int) + 1)).toNat, ?_, ?_⟩
  · have := Int.emod_nonneg x (b := (m : Int) + 1) (by omega)
    omega
  · have := Int.emod_lt_of_pos x (b := (m : Int) + 1) (by omega)
    omega
theorem But.sqL {K : PySem.W.Frag} {p a : Addr} {H H' : Hp} {xs ys : List V} (s : But p H H') (hp : H p = some (.lst ys)) (h : SqL K H a xs) (ne : a ≠ p) : SqL K H' a xs := by
  rcases h with (h | ⟨o, h⟩) | h
  · exact .inl (.inl (s _ _ h ne))
  · exact .inl (.inr ⟨o, s _ _ h ne⟩)
  · exact .inr h
theorem But.trans {p : Addr} {H H1 H2 : Hp} (s : But p H H1) (t : But p H1 H2) : But p H H2 := fun b o e n => t b o (s b o e n) n
theorem But.sqTl {K : PySem.W.Frag} {p a : Addr} {H H' : Hp} {xs ys : List V} (s : But p H H') (hp : H p = some (.lst ys)) (h : SqT K H a xs) : SqT K H' a xs := by
  rcases h with (h | ⟨o, h⟩) | h
  · exact .inl (.inl (s _ _ h (fun z => by rw [z, hp] at h; cases h)))
  · exact .inl (.inr ⟨o, s _ _ h (fun z => by rw [z, hp] at h; cases h)⟩)
  · exact .inr h
theorem But.pairs {K : PySem.W.Frag} {p : Addr} {H H' : Hp} {ys : List V} (s : But p H H') (hp : H p = some (.lst ys)) : ∀ {as : List Addr} {qs : List Pr}, PairsAt K H as qs → PairsAt K H' as qs
  | _, _, .nil => .nil
  | _, _, .cons h t => .cons (s.sqTl hp h) (But.pairs s hp t)
theorem PairsAt.snoc {K : PySem.W.Frag} {H : Hp} {a : Addr} {q : Pr} (h : SqT K H a [.int q.1, .int q.2]) : ∀ {as : List Addr} {qs : List Pr}, PairsAt K H as qs → PairsAt K H (as ++ [a]) (qs ++ [q])
  | _, _, .nil => .cons h .nil
  | _, _, .cons h' t => .cons h' (PairsAt.snoc h t)
section
variable {P : Program} {w : World} {K : PySem.W.Frag} {mg : Str → Option Value} {base : Heap}
theorem scTake : FnScope ["numbers", "place"] ["numbers", "place"] (defScope sTake) := ⟨rfl, rfl, rfl, by decide +kernel, rfl, by decide +kernel, by decide +kernel⟩
theorem ok_take {f : Addr} {fd : FuncData} (F : Fun K "_law_take" "_law_take" sTake f fd) (ml : mg "len" = none) : FnOk P w K mg base CX0 1 f fd ["numbers", "place"] (spTake K) := by
  refine F.ok scTake (fun vs H Q E h => ?_) (fun cdv A outer s H vs Q E hr h => ?_)
  · obtain ⟨a, b, ns, i, rfl, _⟩ := h
    rfl
  · obtain ⟨a, b, ns, i, rfl, ne, hS, hd, hb, q⟩ := h
    refine ⟨_, pss_cons (ps_if (pt_cmpR op_lt (pe_ix ix_list (pv 1) pe_int (fun _ _ => rfl)) (pe_callB call_len_seq (by rfl) ml PySem.boot_len (pa_cons (pv 0) pa_nil)) (nomark _))
        (pss_cons (ps_asg (pe_op op_add (pe_ix ix_list (pv 1) pe_int (fun _ _ => rfl)) pe_int) (pg_sub (pv 1) pe_int set_list))
        (pss_one (ps_ret (pe_ix ix_list (pv 0) (pe_op op_sub (pe_ix ix_list (pv 1) pe_int (fun _ _ => rfl)) pe_int) (fun _ _ => rfl))))) pss_nil)
      (pss_one (ps_ret pe_int)), ?_⟩
    refine ⟨_, rfl, b, _, 0, .int i, rfl, rfl, SqL.of hb, atI_nat (j := 0) rfl, _, rfl, a, _, rfl, .inl hS, _, _, rfl, rfl, _, rfl, ?_⟩
    refine ite2 (fun c => ?_) (fun c => ?_)
    · have il : i < ns.length := by
        have z := of_decide_eq_true c
        rw [List.length_map] at z
        omega
      refine ⟨_, rfl, b, _, 0, .int i, rfl, rfl, SqL.of hb, atI_nat (j := 0) rfl, _, _, rfl, rfl, ?_⟩
      refine ⟨_, rfl, b, [.int i], 0, 0, rfl, rfl, hb, rfl, ?_⟩
      refine ⟨_, rfl, _, rfl, b, [.int (i + 1)], 0, .int (i + 1), rfl, rfl, SqL.of upd_same, atI_nat (j := 0) rfl, _, _, rfl, rfl, ?_⟩
      have e1 : (i : Int) + 1 - 1 = (i : Int) := by omega
      have sb : But b H (upd H b (.lst [.int (i + 1 : Nat)])) := fun c o e n => by rw [upd_ne n]; exact e
      have fr : ∀ c, H c = none → (upd H b (.lst [.int (i + 1 : Nat)])) c = none := fun c e => by rw [upd_ne (fun z => by rw [z, hb] at e; cases e)]; exact e
      have gi : (ns.map V.int)[i]? = some (.int ns[i]) := by rw [List.getElem?_map, List.getElem?_eq_getElem il]; rfl
      have gj : atI (ns.map V.int) ((i : Int) + 1 - 1) = some (.int ns[i]) := by rw [e1]; exact atI_nat gi
      exact ⟨a, _, _, .int ns[i], rfl, rfl, sb.sqL hb hS ne, gj, q _ (i + 1) _ (hd _ (List.getElem_mem il)) sb fr upd_same⟩
    · exact q 0 i H ⟨by decide, by decide⟩ (fun c o e _ => e) (fun c e => e) hb
theorem scPrs : FnScope ["size", "pairs", "u", "v"] ["size"] (defScope sPrs) := ⟨rfl, rfl, rfl, by decide +kernel, rfl, by decide +kernel, by decide +kernel⟩
theorem ok_prs {f : Addr} {fd : FuncData} (F : Fun K "_law_pairs" "_law_pairs" sPrs f fd) (mr : mg "range" = none) : FnOk P w K mg base CX0 1 f fd ["size"] (spPrs K) := by
  refine F.ok scPrs (fun vs H Q E h => ?_) (fun cdv A outer s H vs Q E hr h => ?_)
  · obtain ⟨n, rfl, _⟩ := h
    rfl
  · obtain ⟨n, rfl, hn, q⟩ := h
    refine ⟨_, pss_cons (ps_set (i := 1) scPrs.nd rfl (.inl rfl) (pe_lst pa_nil))
      (pss_cons (ps_for PassesOwn.never rfl (pi_range1 rfl mr (pa_cons (pv 0) pa_nil)) (pg_name (i := 2) scPrs.nd rfl (.inl rfl))
        (pss_one (ps_for PassesOwn.never rfl (pi_range2 (by rfl) mr (pa_cons (pe_op op_add (pv 2) pe_int) (pa_cons (pv 0) pa_nil))) (pg_name (i := 3) scPrs.nd rfl (.inl rfl))
          (pss_one (ps_expr (pe_bm PySem.F.plainAttrs_list PySem.F.slot_list_append PySem.F.type_list_append mt_append (pv 1) (pa_cons (pe_tup (pa_cons (pv 2) (pa_cons (pv 3) pa_nil))) pa_nil)))))))
      (pss_one (ps_ret (pv 1)))), ?_⟩
    refine ⟨Nat.zero_le _, fun p np => ?_⟩
    have s1 : Same H (upd H p (.lst [])) := same_upd np
    refine ⟨_, rfl, n, rfl, by omega, by omega, ?_⟩
    have toNat : ((n : Nat) : Int).toNat = n := by omega
    rw [toNat]
    refine for_range (lo := 0) (n := n) (fun u σ H' => ∃ (y2 y3 : Option V) (as : List Addr), σ = [some (.int n), some (.ref p), y2, y3] ∧ Same H H' ∧ H' p = some (.lst (as.map V.ref)) ∧ PairsAt K H' as ((List.range u).flatMap fun u => rowP n u) ∧ ∀ a ∈ as, a ≠ p)
      ⟨none, none, [], rfl, s1, upd_same, .nil, fun a ha => by cases ha⟩ ?_ ?_
    · rintro u σ H' hu ⟨y2, y3, as, rfl, sm, ep, pa, na⟩
      refine ⟨_, rfl, _, _, rfl, rfl, _, rfl, (0 + (u : Int) + 1), n, rfl, ⟨by omega, by omega, by omega, by omega⟩, ?_⟩
      have toN : ((n : Int) - (0 + (u : Int) + 1)).toNat = n - (u + 1) := by omega
      rw [toN]
      refine for_range (lo := (0 + (u : Int) + 1)) (n := n - (u + 1)) (fun i σ H' => ∃ (y3 : Option V) (as : List Addr), σ = [some (.int n), some (.ref p), some (.int (0 + (u : Int))), y3] ∧ Same H H' ∧ H' p = some (.lst (as.map V.ref)) ∧
        PairsAt K H' as (((List.range u).flatMap fun u => rowP n u) ++ (rowP n u).take i) ∧ ∀ a ∈ as, a ≠ p)
        ⟨_, as, rfl, sm, ep, by rw [List.take_zero, List.append_nil]; exact pa, na⟩ ?_ ?_
      · rintro i σ H' hi ⟨y3, as, rfl, sm, ep, pa, na⟩
        refine ⟨_, rfl, .inl ⟨rfl, _, SqL.of ep⟩, _, rfl, _, rfl, (by show 2 ≤ sizeLine; decide), fun t nt => ?_⟩
        have pt : p ≠ t := fun z => by rw [← z, ep] at nt; cases nt
        have st : Same H' (upd H' t (.tup [.int (0 + (u : Int)), .int (0 + (u : Int) + 1 + (i : Int))])) := same_upd nt
        have len : as.length ≤ n * n + n := by
          have z := pa.length
          rw [z, List.length_append, List.length_take, rowP_len]
          have f1 := flat_len n u (by omega)
          have f2 : u * n ≤ n * n := Nat.mul_le_mul_right n (by omega)
          omega
        have len2 : n * n ≤ 60 * 60 := Nat.mul_le_mul hn hn
        refine ⟨p, _, _, rfl, rfl, st _ _ ep, by rw [List.length_map, sizeLine_eq]; omega, ?_⟩
        have e1 : (rowP n u)[i]? = some ((u : Int), ((u + 1 + i : Nat) : Int)) := by
          unfold rowP
          rw [List.getElem?_map, List.getElem?_range hi]
          rfl
        have bt : But p H' (upd (upd H' t (.tup [.int (0 + (u : Int)), .int (0 + (u : Int) + 1 + (i : Int))])) p (.lst (as.map V.ref ++ [.ref t]))) := (Same.but st).put
        refine ⟨_, as ++ [t], rfl, same_put (same_put sm (sm.free nt)) np, by rw [upd_same, List.map_append]; rfl, ?_, fun a ha => ?_⟩
        · rw [L2.take_next e1, ← List.append_assoc]
          refine PairsAt.snoc ?_ (bt.pairs ep pa)
          refine SqT.of ?_
          rw [upd_ne pt.symm, upd_same]
          have a1 : (0 : Int) + (u : Int) = (u : Int) := by omega
          have a2 : (u : Int) + 1 + (i : Int) = ((u + 1 + i : Nat) : Int) := by omega
          rw [a1, a2]
        · rcases List.mem_append.mp ha with z | z
          · exact na a z
          · rw [List.mem_singleton.mp z]; exact pt.symm
      · rintro σ H' ⟨y3, as, rfl, sm, ep, pa, na⟩
        refine ⟨_, _, as, rfl, sm, ep, ?_, na⟩
        rw [List.range_succ, List.flatMap_append, List.flatMap_singleton]
        rw [List.take_of_length_le (by rw [rowP_len]; omega)] at pa
        exact pa
    · rintro σ H' ⟨y2, y3, as, rfl, sm, ep, pa, na⟩
      exact ⟨_, rfl, q H' p as sm np ep pa na⟩
end
end Sm

set_option Elab.async false
set_option linter.all false
set_option maxRecDepth 100000
set_option maxHeartbeats 4000000
namespace Sm
open PySem PySem.Spec PyProof.Rows L2
theorem But.free {p q : Addr} {H H' : Hp} {o : HO} (s : But p H H') (hp : H' p = some o) (h : H' q = none) : H q = none := by
  cases e : H q with
  | none => rfl
  | some o' =>
    by_cases z : q = p
    · rw [z, hp] at h; cases h
    · rw [s _ _ e z] at h; cases h
section
variable {P : Program} {w : World} {K : PySem.W.Frag} {mg : Str → Option Value} {base : Heap}
theorem scGr : FnScope ["numbers", "place", "most", "size", "dense", "edges", "pair"] ["numbers", "place", "most"] (defScope sGr) := ⟨rfl, rfl, rfl, by decide +kernel, rfl, by decide +kernel, by decide +kernel⟩
theorem ok_gr {f fT fP : Addr} {fd fdT fdP : FuncData} (F : Fun K "_law_graph" "_law_graph" sGr f fd)
    (GT : FnOk P w K mg base CX0 1 fT fdT ["numbers", "place"] (spTake K)) (kT : PySem.W.keepIn K (.ref fT) = true) (bT : Binds K fdT ["numbers", "place"] []) (gT : mg "_law_take" = some (.ref fT))
    (GP : FnOk P w K mg base CX0 1 fP fdP ["size"] (spPrs K)) (kP : PySem.W.keepIn K (.ref fP) = true) (bP : Binds K fdP ["size"] []) (gP : mg "_law_pairs" = some (.ref fP)) :
    FnOk P w K mg base CX0 2 f fd ["numbers", "place", "most"] (spGr K) := by
  refine F.ok scGr (fun vs H Q E h => ?_) (fun cdv A outer s H vs Q E hr h => ?_)
  · obtain ⟨a, b, ns, i, m, rfl, _⟩ := h
    rfl
  · obtain ⟨a, b, ns, i, m, rfl, ne, hS, hd, hb, hm, q⟩ := h
    refine ⟨_, pss_cons (ps_set (i := 3) scGr.nd rfl (.inl rfl) (pe_op op_mod (pe_call GT hr (by rfl) gT kT bT .nil pass0 (pa_cons (pv 0) (pa_cons (pv 1) pa_nil))) (pe_op op_add (pv 2) pe_int)))
      (pss_cons (ps_set (i := 4) scGr.nd rfl (.inl rfl) (pe_op op_add pe_int (pe_op op_mod (pe_call GT hr (by rfl) gT kT bT .nil pass0 (pa_cons (pv 0) (pa_cons (pv 1) pa_nil))) pe_int)))
      (pss_cons (ps_set (i := 5) scGr.nd rfl (.inl rfl) (pe_lst pa_nil))
      (pss_cons (ps_for PassesOwn.never rfl (pi_list (pe_call GP hr (by rfl) gP kP bP .nil pass0 (pa_cons (pv 3) pa_nil))) (pg_name (i := 6) scGr.nd rfl (.inl rfl))
        (pss_one (ps_if (pt_cmpR op_lt (pe_op op_mod (pe_call GT hr (by rfl) gT kT bT .nil pass0 (pa_cons (pv 0) (pa_cons (pv 1) pa_nil))) pe_int) (pv 4) (nomark _))
          (pss_one (ps_expr (pe_bm PySem.F.plainAttrs_list PySem.F.slot_list_append PySem.F.type_list_append mt_append (pv 5) (pa_cons (pv 6) pa_nil)))) pss_nil)))
      (pss_one (ps_ret (pe_tup (pa_cons (pv 3) (pa_cons (pv 5) pa_nil)))))))), ?_⟩
    -- size
    refine ⟨_, rfl, _, rfl, a, b, ns, i, rfl, ne, hS, hd, hb, fun x1 i1 H1 d1 b1 _ e1 => ?_⟩
    obtain ⟨n, en, hn⟩ := d1.nat m
    refine ⟨_, rfl, _, _, rfl, rfl, _, _, rfl, rfl, (by show (0 : Int) < (m : Int) + 1; omega), ?_⟩
    dsimp only
    rw [en]
    -- dense
    refine ⟨_, rfl, _, rfl, a, b, ns, i1, rfl, ne, b1.sqL hb hS ne, hd, e1, fun x2 i2 H2 d2 b2 _ e2 => ?_⟩
    have B2 : But b H H2 := b1.trans b2
    refine ⟨_, _, rfl, rfl, (by show (0 : Int) < 5; decide), _, _, rfl, rfl, ?_⟩
    -- edges = []
    refine ⟨Nat.zero_le _, fun e ne2 => ?_⟩
    have eb : e ≠ b := fun z => by rw [z, e2] at ne2; cases ne2
    have neH : H e = none := B2.free e2 ne2
    have S3 : Same H2 (upd H2 e (.lst [])) := same_upd ne2
    -- for pair in _law_pairs(size)
    refine ⟨_, rfl, n, rfl, by omega, fun H4 p aps S4 np ep pa na => ?_⟩
    have np2 : H2 p = none := S3.free np
    have pe' : p ≠ e := fun z => by rw [z, upd_same] at np; cases np
    have pb : p ≠ b := fun z => by rw [z, S3 _ _ e2] at np; cases np
    have B4 : But b H H4 := (B2.same S3).same S4
    have e4 : H4 b = some (.lst [.int i2]) := S4 _ _ (S3 _ _ e2)
    have ee4 : H4 e = some (.lst []) := S4 _ _ upd_same
    refine ⟨p, rfl, ⟨_, SqL.of ep⟩, for_list (K := K) (a := p) (xs := aps.map V.ref) (fun t σ H' => ∃ (y6 : Option V) (i' : Nat) (as' : List Addr) (es' : List Pr), σ = [some (.ref a), some (.ref b), some (.int m), some (.int n), some (.int (1 + x2 % 5)), some (.ref e), y6] ∧
      But b H H' ∧ H' b = some (.lst [.int i']) ∧ H' p = some (.lst (aps.map V.ref)) ∧ PairsAt K H' aps (pairsL n) ∧ H' e = some (.lst (as'.map V.ref)) ∧ PairsAt K H' as' es' ∧ es'.Sublist ((pairsL n).take t))
      ⟨none, i2, [], [], rfl, B4, e4, ep, pa, ee4, .nil, List.nil_sublist _⟩ (fun t σ H' _ ⟨_, _, _, _, _, _, _, h, _⟩ => SqL.of h) ?_ ?_⟩
    · rintro t x σ H' hx ⟨y6, i', as', es', rfl, bh, ib, ep', pa', ee', pe2, sl⟩
      rw [List.getElem?_map] at hx
      cases ea : aps[t]? with
      | none => rw [ea] at hx; cases hx
      | some at_ =>
        rw [ea] at hx
        cases hx
        obtain ⟨pq, hq, _⟩ := pa'.get ea
        refine ⟨_, rfl, _, rfl, a, b, ns, i', rfl, ne, bh.sqL hb hS ne, hd, ib, fun x3 i3 H5 d3 b5 _ e5 => ?_⟩
        have ep5 := b5 _ _ ep' pb
        have ee5 := b5 _ _ ee' eb
        have pa5 := b5.pairs ib pa'
        have pe5 := b5.pairs ib pe2
        have tq : t < (pairsL n).length := (List.getElem?_eq_some_iff.mp hq).1
        refine ⟨_, _, rfl, rfl, (by show (0 : Int) < 6; decide), _, rfl, _, _, rfl, rfl, _, rfl, ?_⟩
        refine ite2 (fun _ => ?_) (fun _ => ?_)
        · have few : as'.length ≤ 400 := by
            have z1 := pe2.length
            have z2 := sl.length_le
            rw [List.length_take] at z2
            have z3 := flat_len n n (Nat.le_refl _)
            have z4 : n * n ≤ 20 * 20 := Nat.mul_le_mul (by omega) (by omega)
            unfold pairsL at z2
            omega
          refine ⟨_, rfl, .inl ⟨rfl, _, SqL.of ee5⟩, _, rfl, e, _, _, rfl, rfl, ee5, by rw [List.length_map]; exact small1000 (by omega), ?_⟩
          have be : But e H5 (upd H5 e (.lst (as'.map V.ref ++ [.ref at_]))) := fun c o h n => by rw [upd_ne n]; exact h
          have pa6 := be.pairs ee5 pa5
          obtain ⟨pq', hq', hs'⟩ := pa6.get ea
          rw [hq] at hq'
          cases hq'
          refine ⟨_, i3, as' ++ [at_], es' ++ [pq], rfl, ?_, by rw [upd_ne eb.symm]; exact e5, by rw [upd_ne pe']; exact ep5, pa6, by rw [upd_same, List.map_append]; rfl, PairsAt.snoc hs' (be.pairs ee5 pe5), ?_⟩
          · exact (bh.trans b5).new neH
          · rw [L2.take_next hq]
            exact sl.append (List.Sublist.refl _)
        · exact ⟨_, i3, as', es', rfl, bh.trans b5, e5, ep5, pa5, ee5, pe5, sl.trans (List.take_sublist_take_left (by omega))⟩
    · rintro σ H' ⟨y6, i', as', es', rfl, bh, ib, ep', pa', ee', pe2, sl⟩
      refine ⟨_, rfl, _, rfl, (by show 2 ≤ sizeLine; decide), fun t nt => ?_⟩
      have et : e ≠ t := fun z => by rw [← z, ee'] at nt; cases nt
      have bt : b ≠ t := fun z => by rw [← z, ib] at nt; cases nt
      have st : Same H' (upd H' t (.tup [.int n, .ref e])) := same_upd nt
      exact q _ t e as' n i' es' hn (bh.same st) (st _ _ ib) (bh.free ib nt) neH upd_same (st _ _ ee') (pe2.same st) (sl.trans (List.take_sublist _ _))
end
end Sm

set_option Elab.async false
set_option linter.all false
set_option maxRecDepth 100000
set_option maxHeartbeats 4000000
namespace Sm
open PySem PySem.Spec PyProof.Rows L2
/-! ### what an expression gives, whatever follows -/
/-- from where Pre holds, te ends in a value of which G holds; what stood stands -/
def Giv (Pre : L2.St → Hp → Prop) (te : TE) (G : V → Hp → Prop) : Prop := ∀ σ H Q, Pre σ H → (∀ v H', Same H H' → G v H' → Q v H') → te σ H Q
/-- that a fact is kept -/
def Stay (G : Hp → Prop) : Prop := ∀ H H', Same H H' → G H → G H'
section
variable {Pre : L2.St → Hp → Prop} (hP : ∀ σ, Stay (Pre σ))
include hP
theorem giv_all {G : V → Hp → Prop} (hG : ∀ v, Stay (G v)) : ∀ {tes : List TE} {ta : TA}, (∀ te ∈ tes, Giv Pre te G) → ta = tes.foldr tCons tNil → ∀ σ H (Q : List V → Hp → Prop), Pre σ H →
    (∀ vs H', Same H H' → vs.length = tes.length → (∀ v ∈ vs, G v H') → Q vs H') → ta σ H Q
  | [], _, _, rfl, σ, H, Q, _, q => q [] H (Same.refl H) rfl fun v hv => by cases hv
  | te :: tes, _, h, rfl, σ, H, Q, p, q => by
    refine h te List.mem_cons_self σ H _ p fun v H1 s1 g1 => ?_
    refine giv_all hG (fun te' h' => h te' (List.mem_cons_of_mem _ h')) rfl σ H1 _ (hP σ _ _ s1 p) fun vs H2 s2 l2 g2 => ?_
    refine q (v :: vs) H2 (s1.trans s2) (by rw [List.length_cons, List.length_cons, l2]) fun u hu => ?_
    rcases List.mem_cons.mp hu with z | z
    · rw [z]; exact hG v _ _ s2 g1
    · exact g2 u z
/-- a list or a tuple displayed -/
theorem giv_lst {G : V → Hp → Prop} {tes : List TE} {ta : TA} (hG : ∀ v, Stay (G v)) (h : ∀ te ∈ tes, Giv Pre te G) (e : ta = tes.foldr tCons tNil) (few : tes.length ≤ 1000) :
    Giv Pre (tLst ta) fun v H => ∃ p vs, v = .ref p ∧ H p = some (.lst vs) ∧ vs.length = tes.length ∧ ∀ u ∈ vs, G u H := fun σ H Q p q => by
  refine giv_all hP hG h e σ H _ p fun vs H1 s1 l1 g1 => ⟨Nat.le_of_lt (small1000 (by omega)), fun r nr => ?_⟩
  have s2 : Same H1 (upd H1 r (.lst vs)) := same_upd nr
  exact q _ _ (s1.trans s2) ⟨r, vs, rfl, upd_same, l1, fun u hu => hG u _ _ s2 (g1 u hu)⟩
theorem lst_from {G : V → Hp → Prop} {tes : List TE} {ta : TA} (hG : ∀ v, Stay (G v)) (h : ∀ te ∈ tes, Giv Pre te G) (e : ta = tes.foldr tCons tNil) (few : tes.length ≤ 1000) (σ : L2.St) (H : Hp) (Q : VK) (p : Pre σ H)
    (q : ∀ r vs H1, Same H H1 → Pre σ H1 → H1 r = none → vs.length = tes.length → (∀ u ∈ vs, G u H1) → Q (.ref r) (upd H1 r (.lst vs))) : tLst ta σ H Q := by
  refine giv_all hP hG h e σ H _ p fun vs H1 s1 l1 g1 => ⟨Nat.le_of_lt (small1000 (by omega)), fun r nr => ?_⟩
  exact q r vs H1 s1 (hP σ _ _ s1 p) nr l1 g1
theorem tup_from {G : V → Hp → Prop} {tes : List TE} {ta : TA} (hG : ∀ v, Stay (G v)) (h : ∀ te ∈ tes, Giv Pre te G) (e : ta = tes.foldr tCons tNil) (few : tes.length ≤ 1000) (σ : L2.St) (H : Hp) (Q : VK) (p : Pre σ H)
    (q : ∀ v H1, Same H H1 → (∃ r vs, v = .ref r ∧ H1 r = some (.tup vs) ∧ vs.length = tes.length ∧ ∀ u ∈ vs, G u H1) → Q v H1) : tTup ta σ H Q := by
  refine giv_all hP hG h e σ H _ p fun vs H1 s1 l1 g1 => ⟨Nat.le_of_lt (small1000 (by omega)), fun r nr => ?_⟩
  have s2 : Same H1 (upd H1 r (.tup vs)) := same_upd nr
  exact q _ _ (s1.trans s2) ⟨r, vs, rfl, upd_same, l1, fun u hu => hG u _ _ s2 (g1 u hu)⟩
/-- a loop over a tuple displayed: what holds between its turns is said of the heap ahead of it -/
theorem for_disp {K : PySem.W.Frag} {G : V → Hp → Prop} {tes : List TE} {ta : TA} {g : TG} {tb : TS} {D : Ends} (hG : ∀ v, Stay (G v)) (h : ∀ te ∈ tes, Giv Pre te G) (e : ta = tes.foldr tCons tNil) (few : tes.length ≤ 1000) (σ : L2.St) (H : Hp) (p : Pre σ H)
    (Pv : Hp → L2.St → Hp → Prop) (h0 : ∀ H1, Same H H1 → Pv H1 σ H1) (hl : ∀ H1 σ2 H2, Pv H1 σ2 H2 → Same H1 H2)
    (hs : ∀ H1 x σ2 H2, Same H H1 → Pv H1 σ2 H2 → G x H2 → g x σ2 H2 fun σ3 H3 => tb { D with nx := Pv H1, ct := Pv H1, bk := D.nx } σ3 H3) (hd : ∀ H1 σ2 H2, Same H H1 → Pv H1 σ2 H2 → D.nx σ2 H2) : tFor (iTup K (tTup ta)) g tb D σ H := by
  unfold tFor iTup
  refine tup_from hP hG h e few σ H _ p fun v H1 s1 hv => ?_
  obtain ⟨r, vs, rfl, hr, _, hg⟩ := hv
  exact ⟨r, rfl, ⟨_, SqT.of hr⟩, for_tup (K := K) (a := r) (xs := vs) (fun _ => Pv H1) (h0 H1 s1) (fun _ σ2 H2 _ q => SqT.of (hl _ _ _ q _ _ hr)) (fun i x σ2 H2 hx q => hs H1 x σ2 H2 s1 q (hG x _ _ (hl _ _ _ q) (hg x (List.mem_of_getElem? hx)))) (fun σ2 H2 q => hd H1 σ2 H2 s1 q)⟩
theorem giv_tup {G : V → Hp → Prop} {tes : List TE} {ta : TA} (hG : ∀ v, Stay (G v)) (h : ∀ te ∈ tes, Giv Pre te G) (e : ta = tes.foldr tCons tNil) (few : tes.length ≤ 1000) :
    Giv Pre (tTup ta) fun v H => ∃ p vs, v = .ref p ∧ H p = some (.tup vs) ∧ vs.length = tes.length ∧ ∀ u ∈ vs, G u H := fun σ H Q p q => by
  refine giv_all hP hG h e σ H _ p fun vs H1 s1 l1 g1 => ⟨Nat.le_of_lt (small1000 (by omega)), fun r nr => ?_⟩
  have s2 : Same H1 (upd H1 r (.tup vs)) := same_upd nr
  exact q _ _ (s1.trans s2) ⟨r, vs, rfl, upd_same, l1, fun u hu => hG u _ _ s2 (g1 u hu)⟩
end
/-! ### edges that are refused at the end of a list -/
theorem scan_bad {n : Int} {e : EV} (h : edgB n e = false) : ∀ (l : List EV) (seen : List Pr), scan n seen (l ++ [e]) = none := fun l seen => by
  rw [scan_app]
  cases scan n seen l with
  | none => rfl
  | some s =>
    show (if edgB n e = true ∧ prOf e ∉ s then _ else none) = none
    rw [if_neg (by rw [h]; simp)]
theorem mk_bad {n : Int} {e : EV} (h : edgB n e = false) (l : List EV) : mkE n (l ++ [e]) = none := by
  unfold mkE
  split
  · exact scan_bad h l []
  · rfl
def evs (es : List Pr) : List EV := es.map fun q => some (some q.1, some q.2)
theorem ev_pairs {K : PySem.W.Frag} {H : Hp} : ∀ {as : List Addr} {es : List Pr}, PairsAt K H as es → Paired (EdgeV K H) (as.map V.ref) (evs es)
  | _, _, .nil => .nil
  | _, _, .cons h t => .cons (.pair h (.int _) (.int _)) (ev_pairs t)
theorem ev_app {K : PySem.W.Frag} {H : Hp} : ∀ {xs ys : List V} {es fs : List EV}, Paired (EdgeV K H) xs es → Paired (EdgeV K H) ys fs → Paired (EdgeV K H) (xs ++ ys) (es ++ fs)
  | _, _, _, _, .nil, h => h
  | _, _, _, _, .cons h t, h' => .cons h (ev_app t h')
theorem ev_take {K : PySem.W.Frag} {H : Hp} : ∀ {xs : List V} {es : List EV} (n : Nat), Paired (EdgeV K H) xs es → Paired (EdgeV K H) (xs.take n) (es.take n)
  | _, _, 0, _ => .nil
  | _, _, _ + 1, .nil => .nil
  | _, _, n + 1, .cons h t => .cons h (ev_take n t)
theorem scan_evs {n : Int} : ∀ (es seen : List Pr), (∀ q ∈ es, Okp n q) → (∀ q ∈ es, q ∉ seen) → es.Nodup → scan n seen (evs es) = some (seen ++ es)
  | [], seen, _, _, _ => by rw [List.append_nil]; rfl
  | q :: es, seen, h1, h2, h3 => by
    obtain ⟨a, b, c⟩ := h1 q List.mem_cons_self
    have e : edgB n (some (some q.1, some q.2)) = true := by
      simp only [edgB, vtxB, Bool.and_eq_true, decide_eq_true_eq]
      omega
    show (if edgB n (some (some q.1, some q.2)) = true ∧ prOf (some (some q.1, some q.2)) ∉ seen then scan n (seen ++ [prOf (some (some q.1, some q.2))]) (evs es) else none) = _
    rw [if_pos ⟨e, h2 q List.mem_cons_self⟩]
    obtain ⟨d1, d2⟩ := List.nodup_cons.mp h3
    rw [scan_evs es _ (fun r hr => h1 r (List.mem_cons_of_mem _ hr)) (fun r hr hm => ?_) d2]
    · show some (seen ++ [q] ++ es) = _
      rw [List.append_assoc]
      rfl
    · rcases List.mem_append.mp hm with z | z
      · exact h2 r (List.mem_cons_of_mem _ hr) z
      · rw [List.mem_singleton.mp z] at hr
        exact d1 hr
theorem mk_evs {n : Nat} {es : List Pr} (h : n ≤ 60) (h1 : ∀ q ∈ es, Okp n q) (h3 : es.Nodup) : mkE n (evs es) = some es := by
  unfold mkE
  rw [if_pos ⟨by omega, by omega⟩]
  exact scan_evs es [] h1 (fun q _ => by simp) h3
/-! ### vertices that are refused -/
theorem vscan_eq {n : Int} : ∀ (l : List (Option Int)) (seen s : List Int), vscan n seen l = some s → s = seen ++ l.map (·.getD 0)
  | [], seen, s, h => by
    cases h
    rw [List.map_nil, List.append_nil]
  | e :: l, seen, s, h => by
    have h' : (if vtxB n e = true ∧ e.getD 0 ∉ seen then vscan n (seen ++ [e.getD 0]) l else none) = some s := h
    by_cases c : vtxB n e = true ∧ e.getD 0 ∉ seen
    · rw [if_pos c] at h'
      rw [vscan_eq l _ s h', List.append_assoc]
      rfl
    · rw [if_neg c] at h'
      cases h'
theorem vscan_last {n : Int} {o : Option Int} (l : List (Option Int)) (h : vtxB n o = false ∨ o.getD 0 ∈ l.map (·.getD 0)) : vscan n [] (l ++ [o]) = none := by
  rw [vscan_app]
  cases e : vscan n [] l with
  | none => rfl
  | some s =>
    have z := vscan_eq l [] s e
    show (if vtxB n o = true ∧ o.getD 0 ∉ s then _ else none) = none
    refine if_neg fun c => ?_
    rcases h with h | h
    · rw [h] at c; cases c.1
    · exact c.2 (by rw [z, List.nil_append]; exact h)
theorem vscan_first {n : Int} {o : Option Int} (l : List (Option Int)) (h : vtxB n o = false) : vscan n [] (o :: l) = none := by
  show (if vtxB n o = true ∧ o.getD 0 ∉ [] then _ else none) = none
  rw [if_neg (by rw [h]; simp)]
end Sm

set_option Elab.async false
set_option linter.all false
set_option maxRecDepth 100000
set_option maxHeartbeats 4000000
namespace Sm
open PySem PySem.Spec PyProof.Rows L2
/-! ### the place of a vertex in a list -/
def posOf (s : List Int) (v : Int) : Option Nat := if v ∈ s then some (s.idxOf v) else none
theorem posOf_snoc {s : List Int} {u : Int} (h : u ∉ s) (v : Int) : posOf (s ++ [u]) v = if v = u then some s.length else posOf s v := by
  unfold posOf
  by_cases e : v = u
  · subst e
    rw [if_pos (by simp), if_pos rfl, List.idxOf_append, if_neg h]
    simp
  · rw [if_neg e]
    by_cases m : v ∈ s
    · rw [if_pos (by simp [m]), if_pos m, List.idxOf_append, if_pos m]
    · rw [if_neg (by simp [m, e]), if_neg m]
theorem posOf_lt {s : List Int} {v : Int} {i : Nat} (h : posOf s v = some i) : i < s.length ∧ s[i]? = some v := by
  unfold posOf at h
  by_cases m : v ∈ s
  · rw [if_pos m] at h
    cases h
    refine ⟨List.idxOf_lt_length_of_mem m, ?_⟩
    rw [List.getElem?_eq_getElem (List.idxOf_lt_length_of_mem m)]
    exact congrArg some (List.getElem_idxOf _)
  · rw [if_neg m] at h
    cases h
theorem posOf_at {s : List Int} (nd : s.Nodup) {v : Int} {i : Nat} (h : s[i]? = some v) : posOf s v = some i := by
  obtain ⟨hi, e⟩ := List.getElem?_eq_some_iff.mp h
  have m : v ∈ s := e ▸ List.getElem_mem hi
  unfold posOf
  rw [if_pos m]
  have z := List.idxOf_lt_length_of_mem m
  have g : s[s.idxOf v] = v := List.getElem_idxOf z
  exact congrArg some ((List.getElem_inj nd).mp (g.trans e.symm))
theorem posOf_inj {s : List Int} {u v : Int} {i : Nat} (h1 : posOf s u = some i) (h2 : posOf s v = some i) : u = v := by
  have a := (posOf_lt h1).2
  have b := (posOf_lt h2).2
  rw [a] at b
  exact Option.some.inj b
/-- the edge between the places of the ends of an edge -/
def mvE (s : List Int) (q : Pr) : Option Pr := match posOf s q.1, posOf s q.2 with
  | some i, some j => some (if (j : Int) < i then (j : Int) else i, if (j : Int) > i then (j : Int) else i)
  | _, _ => none
def partE (qs : List Pr) (s : List Int) : List Pr := qs.filterMap (mvE s)
theorem mvE_ok {s : List Int} {q r : Pr} (h : mvE s q = some r) (ne : q.1 ≠ q.2) : Okp s.length r := by
  unfold mvE at h
  split at h
  · rename_i i j hi hj
    cases h
    have a := (posOf_lt hi).1
    have b := (posOf_lt hj).1
    have c : i ≠ j := fun z => by subst z; exact ne (posOf_inj hi hj)
    unfold Okp
    dsimp only
    by_cases d : (j : Int) < i
    · rw [if_pos d, if_neg (by omega)]; omega
    · rw [if_neg d, if_pos (by omega)]; omega
  · cases h
theorem mvE_inj {s : List Int} {q q' r : Pr} (h : mvE s q = some r) (h' : mvE s q' = some r) (l : q.1 < q.2) (l' : q'.1 < q'.2) : q = q' := by
  unfold mvE at h h'
  split at h
  · rename_i i j hi hj
    split at h'
    · rename_i i' j' hi' hj'
      cases h
      have e := Option.some.inj h'
      have e1 : (if (j' : Int) < i' then (j' : Int) else i') = (if (j : Int) < i then (j : Int) else i) := congrArg Prod.fst e
      have e2 : (if (j' : Int) > i' then (j' : Int) else i') = (if (j : Int) > i then (j : Int) else i) := congrArg Prod.snd e
      have both : (i = i' ∧ j = j') ∨ (i = j' ∧ j = i') := by
        by_cases c : (j : Int) < i
        · rw [if_pos c] at e1
          rw [if_neg (show ¬ (j : Int) > i by omega)] at e2
          by_cases c' : (j' : Int) < i'
          · rw [if_pos c'] at e1
            rw [if_neg (show ¬ (j' : Int) > i' by omega)] at e2
            omega
          · rw [if_neg c'] at e1
            by_cases c2 : (j' : Int) > i'
            · rw [if_pos c2] at e2; omega
            · rw [if_neg c2] at e2; omega
        · rw [if_neg c] at e1
          by_cases c' : (j' : Int) < i'
          · rw [if_pos c'] at e1
            rw [if_neg (show ¬ (j' : Int) > i' by omega)] at e2
            by_cases c2 : (j : Int) > i
            · rw [if_pos c2] at e2; omega
            · rw [if_neg c2] at e2; omega
          · rw [if_neg c'] at e1
            by_cases c2 : (j : Int) > i
            · rw [if_pos c2] at e2
              by_cases c3 : (j' : Int) > i'
              · rw [if_pos c3] at e2; omega
              · rw [if_neg c3] at e2; omega
            · rw [if_neg c2] at e2
              by_cases c3 : (j' : Int) > i'
              · rw [if_pos c3] at e2; omega
              · rw [if_neg c3] at e2; omega
      rcases both with ⟨rfl, rfl⟩ | ⟨rfl, rfl⟩
      · exact Prod.ext (posOf_inj hi hi') (posOf_inj hj hj')
      · have a := posOf_inj hi hj'
        have b := posOf_inj hj hi'
        omega
    · cases h'
  · cases h
theorem nodup_filterMap {α β : Type} {f : α → Option β} : ∀ {l : List α}, l.Nodup → (∀ a ∈ l, ∀ a' ∈ l, ∀ b, f a = some b → f a' = some b → a = a') → (l.filterMap f).Nodup
  | [], _, _ => List.nodup_nil
  | a :: l, nd, inj => by
    obtain ⟨n1, n2⟩ := List.nodup_cons.mp nd
    have ih := nodup_filterMap n2 fun x hx y hy => inj x (List.mem_cons_of_mem _ hx) y (List.mem_cons_of_mem _ hy)
    cases e : f a with
    | none => rw [List.filterMap_cons_none e]; exact ih
    | some b =>
      rw [List.filterMap_cons_some e]
      refine List.nodup_cons.mpr ⟨fun hm => ?_, ih⟩
      obtain ⟨a', ha', e'⟩ := List.mem_filterMap.mp hm
      have z := inj a List.mem_cons_self a' (List.mem_cons_of_mem _ ha') b e e'
      subst z
      exact n1 ha'
theorem lex_nd {qs : List Pr} (h : qs.Pairwise lexlt) : qs.Nodup := List.Pairwise.imp (fun {p q} h e => by
  subst e
  have z := SrtO.lexB_iff.mp h
  omega) h
theorem partE_ok {n : Nat} {qs : List Pr} {s : List Int} (h : ∀ q ∈ qs, Okp n q) : ∀ r ∈ partE qs s, Okp s.length r := fun r hr => by
  obtain ⟨q, hq, e⟩ := List.mem_filterMap.mp hr
  have := h q hq
  unfold Okp at this
  exact mvE_ok e (by omega)
theorem partE_nd {n : Nat} {qs : List Pr} {s : List Int} (h : ∀ q ∈ qs, Okp n q) (nd : qs.Nodup) : (partE qs s).Nodup := nodup_filterMap nd fun q hq q' hq' r e e' => mvE_inj e e' (h q hq).2.1 (h q' hq').2.1
end Sm

set_option Elab.async false
set_option linter.all false
set_option maxRecDepth 100000
set_option maxHeartbeats 4000000
namespace Sm
open PySem PySem.Spec PyProof.Rows L2
/-- part: the graph on the places of the vertices -/
def spPartG (K : PySem.W.Frag) (C CB : Addr) : Sp := fun vs H Q E => ∃ (g a : Addr) (n : Nat) (qs : List Pr) (xs : List V) (is : List (Option Int)), vs = [.ref g, .ref a] ∧ GraphAt K C H g n qs ∧ SqL K H a xs ∧ Paired IB xs is ∧ is.length ≤ 60 ∧
  (vscan n [] is = none → ∀ H', Same H H' → E (.ref CB) none H') ∧
  (∀ s, vscan n [] is = some s → ∀ (H' : Hp) (r : Addr) (rs : List Pr), Same H H' → H r = none → GraphAt K C H' r s.length rs → rs.Perm (partE qs s) → Q (.ref r) H')
def spRenG (K : PySem.W.Frag) (C CB : Addr) : Sp := fun vs H Q E => ∃ (g a : Addr) (n : Nat) (qs : List Pr) (xs : List V) (is : List (Option Int)), vs = [.ref g, .ref a] ∧ GraphAt K C H g n qs ∧ SqL K H a xs ∧ Paired IB xs is ∧ is.length ≤ 60 ∧
  (is.length ≠ n ∨ vscan n [] is = none → ∀ H', Same H H' → E (.ref CB) none H') ∧
  (∀ s, vscan n [] is = some s → is.length = n → ∀ (H' : Hp) (r : Addr) (rs : List Pr), Same H H' → H r = none → GraphAt K C H' r s.length rs → rs.Perm (partE qs s) → Q (.ref r) H')
def spWoG (K : PySem.W.Frag) (C CB : Addr) : Sp := fun vs H Q E => ∃ (g e : Addr) (n : Nat) (qs : List Pr) (i j : Int), vs = [.ref g, .ref e] ∧ GraphAt K C H g n qs ∧ SqT K H e [.int i, .int j] ∧
  ((i, j) ∉ qs → ∀ H', Same H H' → E (.ref CB) none H') ∧
  ((i, j) ∈ qs → ∀ (H' : Hp) (r : Addr) (rs : List Pr), Same H H' → H r = none → GraphAt K C H' r n rs → rs.Perm (qs.filter fun q => decide (q ≠ (i, j))) → Q (.ref r) H')
theorem vscan_len {n : Int} {l : List (Option Int)} {s : List Int} (h : vscan n [] l = some s) : s.length = l.length := by
  rw [vscan_eq l [] s h, List.nil_append, List.length_map]
section
variable {P : Program} {w : World} {K : PySem.W.Frag} {mg : Str → Option Value} {base : Heap}
theorem ok_partG {f C CB fV fI fB : Addr} {fd fdV fdI fdB : FuncData} (F : Fun K "part" "part" sPart f fd) (T : TxG K mg C) (B : TxE K mg "BadGraph" CB)
    (GV : FnOk P w K mg base CX0 2 fV fdV ["value", "size"] spVtx) (kV : PySem.W.keepIn K (.ref fV) = true) (bV : Binds K fdV ["value", "size"] []) (gV : mg "is_vertex" = some (.ref fV))
    (GI : FnOk P w K mg base (L2.CX P w) 4 fI fdI ["self", "size", "edges"] (spInit K C CB)) (M : Mk K C fI) (bI : Binds K fdI ["self", "size", "edges"] [])
    (GB : FnOk P w K mg base CX0 1 fB fdB ["u", "v"] spBtw) (kB : PySem.W.keepIn K (.ref fB) = true) (bB : Binds K fdB ["u", "v"] []) (gB : mg "edge_between" = some (.ref fB))
    (me : mg "enumerate" = none) (ml : mg "len" = none) :
    FnOk P w K mg base (L2.CX P w) 6 f fd ["graph", "vertices"] (spPartG K C CB) := by
  refine F.okX scPart (fun vs H Q E h => ?_) (fun cdv A outer s H vs Q E hr h => ?_)
  · obtain ⟨g, a, n, qs, xs, is, rfl, _⟩ := h
    rfl
  · obtain ⟨g, a, n, qs, xs, is, rfl, G, hS, hI, hlen, kE, kQ⟩ := h
    have hu := hu_of hr
    have hr1 : Room 1 _ := hr.mono (by decide)
    have hr2 : Room 2 _ := hr.mono (by decide)
    have ⟨dx, et, nt, hg, ⟨ets, hT, hP⟩, _⟩ := G.ob
    refine ⟨_, pss_cons (ps_set (i := 2) scPart.nd rfl (.inl rfl) pe_dnewK)
      (pss_cons (ps_for (passes_of rfl) rfl (pi_enum (by rfl) me (pa_cons (pv 1) pa_nil)) (pg_tup rfl (pgs_cons (pg_name (i := 3) scPart.nd rfl (.inl rfl)) (pgs_cons (pg_name (i := 4) scPart.nd rfl (.inl rfl)) pgs_nil)))
        (pss_cons (ps_if (pt_not (pt_val (pe_call GV hr2 (by rfl) gV kV bV .nil pass0 (pa_cons (pv 4) (pa_cons (pe_fld (pv 0) rfl) pa_nil)))))
          (pss_one (ps_raise rfl (takes_of rfl rfl rfl rfl) (pmk_own PySem.F.excBase_ValueError B.x B.g B.k (raises_own B.b B.t) (by exact rfl)))) pss_nil)
        (pss_cons (ps_if (pt_cmp (pc_din hu (pv 4) (pv 2)))
          (pss_one (ps_raise rfl (takes_of rfl rfl rfl rfl) (pmk_own PySem.F.excBase_ValueError B.x B.g B.k (raises_own B.b B.t) (by exact rfl)))) pss_nil)
        (pss_one (ps_dput hu (pv 2) (pv 4) (pv 3) rfl)))))
      (pss_cons (ps_set (i := 5) scPart.nd rfl (.inl rfl) (pe_lst pa_nil))
      (pss_cons (ps_for (passes_of rfl) rfl (pi_tup (pe_fld (pv 0) rfl)) (pg_tup rfl (pgs_cons (pg_name (i := 6) scPart.nd rfl (.inl rfl)) (pgs_cons (pg_name (i := 7) scPart.nd rfl (.inl rfl)) pgs_nil)))
        (pss_one (ps_if (PW.pt (pw_and (pt_cmp (pc_din hu (pv 6) (pv 2))) (pw_and1 (pt_cmp (pc_din hu (pv 7) (pv 2))))))
          (pss_one (ps_expr (pe_bm PySem.F.plainAttrs_list PySem.F.slot_list_append PySem.F.type_list_append mt_append (pv 5)
            (pa_cons (pe_call GB hr1 (by rfl) gB kB bB .nil pass0 (pa_cons (pe_dget hu (pv 2) (pv 6) (fun _ _ => rfl)) (pa_cons (pe_dget hu (pv 2) (pv 7) (fun _ _ => rfl)) pa_nil))) pa_nil)))) pss_nil)))
      (pss_one (ps_ret (pe_make M GI hr (by rfl) T.g bI .nil (passes_call (takes_of rfl rfl rfl rfl) fun _ _ _ _ h => h) (pa_cons (pe_callB call_lenD (by rfl) ml PySem.boot_len (pa_cons (pv 2) pa_nil)) (pa_cons (pv 5) pa_nil)))))))), ?_⟩
    intro d hd
    have s1 : Same H (upd H d (.dK [])) := same_upd hd
    refine ⟨_, rfl, a, xs, rfl, s1.seq hS, for_it (walk_enum (K := K) (a := a) (xs := xs)) (fun t σ H' => ∃ (y3 y4 : Option V) (seen : List Int) (kvs : List (Key × V)), σ = [some (.ref g), some (.ref a), some (.ref d), y3, y4, none, none, none] ∧ Same H H' ∧
      H' d = some (.dK kvs) ∧ vscan n [] (is.take t) = some seen ∧ (∀ v, valV kvs (Sum.inl v : Key) = (posOf seen v).map fun (i : Nat) => V.int i) ∧ seen.length = t ∧ seen.Nodup ∧ kvs.length = t)
      ⟨none, none, [], [], rfl, s1, upd_same, by rw [List.take_zero]; rfl, fun v => rfl, rfl, List.nodup_nil, rfl⟩ (fun t σ H' _ ⟨_, _, _, _, _, s', _⟩ => s'.seq hS) ?_ ?_⟩
    · rintro t x σ H1 H' ht ⟨y3, y4, seen, kvs, rfl, sm, ed, hsc, hk, hl, nd, kl⟩ ⟨T1, v1, v2, rfl, nT, rfl, e1, e2⟩
      cases e1
      obtain ⟨o, he, hv⟩ := ib_get hI e2
      have sm' : Same H (upd H1 T1 (.tup [.int (t : Nat), v2])) := same_put sm (sm.free nT)
      have dT : d ≠ T1 := fun z => by rw [← z, ed] at nT; cases nT
      have stop : ¬ (vtxB n o = true ∧ o.getD 0 ∉ seen) → ∀ H2, Same H H2 → E (.ref CB) none H2 := fun c => by
        refine kE ?_
        rw [split_at he, vscan_app, hsc]
        show (if vtxB n o = true ∧ o.getD 0 ∉ seen then _ else none) = none
        rw [if_neg c]
      refine ⟨T1, _, rfl, SqT.of upd_same, rfl, _, _, rfl, _, _, rfl, rfl, ?_⟩
      refine ⟨_, rfl, _, rfl, g, C, dx, _, .int n, rfl, sm' _ _ hg, T.cl, T.nS, gf_size _ _ _, v2, o, n, rfl, hv, vtxB n o, rfl, ?_⟩
      cases c : vtxB n o with
      | false => exact iteT (stop (by rw [c]; simp) _ sm')
      | true =>
        refine iteF ?_
        obtain ⟨u, rfl, hu'⟩ := vtxB_nat c
        cases hv with
        | int =>
          refine ⟨_, rfl, _, rfl, d, _, rfl, DGet.k (k := Sum.inl (u : Int)) (by rw [upd_ne dT]; exact ed), _, rfl, ?_⟩
          have hku := hk (u : Int)
          by_cases m : (u : Int) ∈ seen
          · have z : valV kvs (Sum.inl (u : Int) : Key) = some (.int (seen.idxOf (u : Int))) := by rw [hku]; unfold posOf; rw [if_pos m]; rfl
            rw [z]
            exact iteT (stop (fun y => y.2 m) _ sm')
          · have z : valV kvs (Sum.inl (u : Int) : Key) = none := by rw [hku]; unfold posOf; rw [if_neg m]; rfl
            rw [z]
            refine iteF ?_
            have isl : t < is.length := (List.getElem?_eq_some_iff.mp he).1
            refine ⟨_, rfl, _, rfl, _, rfl, d, _, rfl, DPut.k (k := Sum.inl (u : Int)) (by rw [upd_ne dT]; exact ed) (small1000 (by omega)), ?_⟩
            refine ⟨_, _, seen ++ [(u : Int)], putK kvs (Sum.inl (u : Int)) (.int (t : Nat)), rfl, same_put sm' hd, upd_same, ?_, fun v => ?_, ?_, ?_, ?_⟩
            · rw [L2.take_next he, vscan_app, hsc]
              show (if vtxB n (some (u : Int)) = true ∧ (some (u : Int)).getD 0 ∉ seen then _ else none) = _
              rw [if_pos ⟨c, m⟩]
              rfl
            · rw [putK_new _ z, valV_snoc _ _ _ _ z, posOf_snoc m, hk v]
              by_cases ev : v = (u : Int)
              · rw [if_pos (by rw [ev]), if_pos ev, hl]
                rfl
              · rw [if_neg (fun y => ev (Sum.inl.inj y)), if_neg ev]
            · rw [List.length_append, hl]; rfl
            · exact List.nodup_append.mpr ⟨nd, by simp, fun x hx y hy e => by rw [List.mem_singleton.mp hy] at e; exact m (e ▸ hx)⟩
            · rw [putK_new _ z, List.length_append, kl]; rfl
    · rintro σ H' ⟨y3, y4, seen, kvs, rfl, sm, ed, hsc, hk, hl, nd, kl⟩
      rw [hI.length, List.take_length] at hsc
      have il : seen.length = is.length := vscan_len hsc
      -- kept = []
      refine ⟨Nat.zero_le _, fun p np => ?_⟩
      have dp : d ≠ p := fun z => by rw [← z, ed] at np; cases np
      have s2 : Same H' (upd H' p (.lst [])) := same_upd np
      refine ⟨_, rfl, g, C, dx, _, .ref et, rfl, s2 _ _ (sm _ _ hg), T.cl, T.nE, gf_edges _ _ _, et, rfl, ⟨_, same_sqT s2 (same_sqT sm hT)⟩, for_tup (K := K) (a := et) (xs := ets.map V.ref) (fun t σ H2 => ∃ (y6 y7 : Option V) (ks : List Addr), σ = [some (.ref g), some (.ref a), some (.ref d), y3, y4, some (.ref p), y6, y7] ∧ Same H' H2 ∧
        H2 p = some (.lst (ks.map V.ref)) ∧ PairsAt K H2 ks (partE (qs.take t) seen)) ⟨none, none, [], rfl, s2, upd_same, by rw [List.take_zero]; exact .nil⟩ (fun t σ H2 _ ⟨_, _, _, _, s', _⟩ => same_sqT s' (same_sqT sm hT)) ?_ ?_⟩
      · rintro t x σ H2 hx ⟨y6, y7, ks, rfl, sm2, ep, pk⟩
        rw [List.getElem?_map] at hx
        cases ea : ets[t]? with
        | none => rw [ea] at hx; cases hx
        | some ea' =>
          rw [ea] at hx
          cases hx
          obtain ⟨⟨u, v⟩, hq, hs⟩ := ((hP.same sm).same sm2).get ea
          have tq : t < qs.length := (List.getElem?_eq_some_iff.mp hq).1
          have ed2 := sm2 _ _ ed
          have few := G.few
          have pkl : ks.length ≤ qs.length := by
            rw [pk.length]
            exact Nat.le_trans (List.length_filterMap_le _ _) (by rw [List.length_take]; omega)
          have pt := L2.take_next hq
          have more : partE (qs.take (t + 1)) seen = partE (qs.take t) seen ++ partE [(u, v)] seen := by unfold partE; rw [pt, List.filterMap_append]
          refine ⟨ea', _, rfl, hs, rfl, _, _, rfl, _, _, rfl, rfl, ?_⟩
          refine ⟨_, rfl, _, rfl, d, _, rfl, DGet.k (k := Sum.inl u) ed2, _, rfl, ?_⟩
          have ku := hk u
          have kv := hk v
          cases pu : posOf seen u with
          | none =>
            rw [pu] at ku
            rw [ku]
            refine iteF ⟨_, _, ks, rfl, sm2, ep, ?_⟩
            have z : partE [(u, v)] seen = [] := by unfold partE mvE; simp [pu]
            rw [more, z, List.append_nil]
            exact pk
          | some i =>
            rw [pu] at ku
            rw [ku]
            refine iteT ?_
            refine ⟨_, rfl, _, rfl, d, _, rfl, DGet.k (k := Sum.inl v) ed2, _, rfl, ?_⟩
            cases pw' : posOf seen v with
            | none =>
              rw [pw'] at kv
              rw [kv]
              refine iteF ⟨_, _, ks, rfl, sm2, ep, ?_⟩
              have z : partE [(u, v)] seen = [] := by unfold partE mvE; simp [pu, pw']
              rw [more, z, List.append_nil]
              exact pk
            | some j =>
              rw [pw'] at kv
              rw [kv]
              refine iteT ?_
              refine ⟨_, rfl, .inl ⟨rfl, _, SqL.of ep⟩, ?_⟩
              refine ⟨_, rfl, _, rfl, d, .int i, rfl, ?_, _, rfl, _, rfl, d, .int j, rfl, ?_, i, j, rfl, fun T2 nT2 => ?_⟩
              · have z := DGet.k (k := Sum.inl u) ed2
                rw [ku] at z
                exact z
              · have z := DGet.k (k := Sum.inl v) ed2
                rw [kv] at z
                exact z
              · have st := same_upd (o := .tup [V.int (if (j : Int) < i then (j : Int) else i), V.int (if (j : Int) > i then (j : Int) else i)]) nT2
                have pT : p ≠ T2 := fun z => by rw [← z, ep] at nT2; cases nT2
                refine ⟨p, _, _, rfl, rfl, st _ _ ep, by rw [List.length_map]; exact small1000 (by omega), ?_⟩
                have bt : But p H2 (upd (upd H2 T2 (.tup [V.int (if (j : Int) < i then (j : Int) else i), V.int (if (j : Int) > i then (j : Int) else i)])) p (.lst (ks.map V.ref ++ [.ref T2]))) := (Same.but st).put
                refine ⟨_, _, ks ++ [T2], rfl, same_put (sm2.trans st) np, by rw [upd_same, List.map_append]; rfl, ?_⟩
                have z : partE [(u, v)] seen = [(if (j : Int) < i then (j : Int) else i, if (j : Int) > i then (j : Int) else i)] := by
                  unfold partE
                  rw [List.filterMap_cons_some (b := (if (j : Int) < i then (j : Int) else i, if (j : Int) > i then (j : Int) else i)) (by unfold mvE; dsimp only; rw [pu, pw'])]
                  rfl
                rw [more, z]
                refine PairsAt.snoc (SqT.of ?_) (bt.pairs ep pk)
                rw [upd_ne pT.symm, upd_same]
      · rintro σ H2 ⟨y6, y7, ks, rfl, sm2, ep, pk⟩
        rw [List.length_map, hP.length, List.take_length] at pk
        have ed2 := sm2 _ _ ed
        refine ⟨_, rfl, d, kvs, rfl, ed2, _, rfl, fun r dr nr ndr _ => ?_⟩
        have sg : Same H2 (upd (upd H2 dr (.own r)) r (.ins C dr [])) := same_put (same_upd ndr) nr
        have okp := partE_ok (s := seen) G.ok
        have ndp := partE_nd (s := seen) G.ok (lex_nd G.srt)
        have klen : (kvs.length : Int) = ((seen.length : Nat) : Int) := by rw [kl, hl]
        have few := G.few
        have pkl : (partE qs seen).length ≤ 75 := Nat.le_trans (List.length_filterMap_le _ _) few
        have mkk : mkE ((seen.length : Nat) : Int) (evs (partE qs seen)) = some (partE qs seen) := mk_evs (by omega) okp ndp
        rw [klen]
        refine ⟨r, dr, _, p, _, evs (partE qs seen), rfl, upd_same, SqL.of (sg _ _ ep), ev_pairs (pk.same sg), by rw [evs, List.length_map]; exact pkl, fun hbad => ?_, fun ps hps H5 rs bt pm ga _ => ⟨rfl, ?_⟩⟩
        · rw [mkk] at hbad
          cases hbad
        · rw [mkk] at hps
          cases hps
          have s5 : Same H2 H5 := fun b o h => bt b o (sg b o h) (ne_of_none h nr)
          exact kQ seen hsc H5 r rs ((sm.trans sm2).trans s5) ((sm.trans sm2).free nr) ga pm
theorem ok_renG {f C CB fP : Addr} {fd fdP : FuncData} (F : Fun K "renumbered" "renumbered" sRen f fd) (T : TxG K mg C) (B : TxE K mg "BadGraph" CB)
    (GP : FnOk P w K mg base (L2.CX P w) 6 fP fdP ["graph", "vertices"] (spPartG K C CB)) (kP : PySem.W.keepIn K (.ref fP) = true) (bP : Binds K fdP ["graph", "vertices"] []) (gP : mg "part" = some (.ref fP)) (ml : mg "len" = none) :
    FnOk P w K mg base (L2.CX P w) 7 f fd ["graph", "order"] (spRenG K C CB) := by
  refine F.okX scRen (fun vs H Q E h => ?_) (fun cdv A outer s H vs Q E hr h => ?_)
  · obtain ⟨g, a, n, qs, xs, is, rfl, _⟩ := h
    rfl
  · obtain ⟨g, a, n, qs, xs, is, rfl, G, hS, hI, hlen, kE, kQ⟩ := h
    have ⟨dx, et, nt, hg, _⟩ := G.ob
    refine ⟨_, pss_cons (ps_if (pt_cmpR op_ne (pe_callB call_len_seq (by rfl) ml PySem.boot_len (pa_cons (pv 1) pa_nil)) (pe_fld (pv 0) rfl) (nomark _))
        (pss_one (ps_raise rfl (takes_of rfl rfl rfl rfl) (pmk_own PySem.F.excBase_ValueError B.x B.g B.k (raises_own B.b B.t) (by exact rfl)))) pss_nil)
      (pss_one (ps_ret (pe_call GP hr (by rfl) gP kP bP .nil (passes_call (takes_of rfl rfl rfl rfl) fun _ _ _ _ h => h) (pa_cons (pv 0) (pa_cons (pv 1) pa_nil))))), ?_⟩
    refine ⟨_, rfl, a, xs, rfl, .inl hS, _, rfl, g, C, dx, _, .int n, rfl, hg, T.cl, T.nS, gf_size _ _ _, rfl, _, rfl, ?_⟩
    by_cases c : is.length = n
    · refine iteNS (by rw [hI.length, c]) ?_
      exact ⟨_, rfl, _, rfl, g, a, n, qs, xs, is, rfl, G, hS, hI, hlen, fun h => kE (.inr h), fun s h => kQ s h c⟩
    · refine iteN (fun z => c ?_) (kE (.inl c) H (Same.refl H))
      have z' := Int.ofNat.inj (V.int.inj z)
      rw [← hI.length]
      exact z'
theorem ok_woG {f C CB fE fI : Addr} {fd fdE fdI : FuncData} (F : Fun K "without" "without" sWo f fd) (T : TxG K mg C) (B : TxE K mg "BadGraph" CB)
    (GE : FnOk P w K mg base CX0 3 fE fdE ["value", "size"] (spEdg K)) (kE' : PySem.W.keepIn K (.ref fE) = true) (bE : Binds K fdE ["value", "size"] []) (gE : mg "is_edge" = some (.ref fE))
    (GI : FnOk P w K mg base (L2.CX P w) 4 fI fdI ["self", "size", "edges"] (spInit K C CB)) (M : Mk K C fI) (bI : Binds K fdI ["self", "size", "edges"] []) :
    FnOk P w K mg base (L2.CX P w) 6 f fd ["graph", "edge"] (spWoG K C CB) := by
  refine F.okX scWo (fun vs H Q E h => ?_) (fun cdv A outer s H vs Q E hr h => ?_)
  · obtain ⟨g, e, n, qs, i, j, rfl, _⟩ := h
    rfl
  · obtain ⟨g, e, n, qs, i, j, rfl, G, hS, kE, kQ⟩ := h
    have ⟨dx, et, nt, hg, ⟨ets, hT, hP⟩, _⟩ := G.ob
    have hu : _ + 64 < cLine := hr.units
    have hr3 : Room 3 _ := hr.mono (by decide)
    refine ⟨_, pss_cons (ps_if (PW.pt (pw_or (pt_not (pt_val (pe_call GE hr3 (by rfl) gE kE' bE .nil pass0 (pa_cons (pv 1) (pa_cons (pe_fld (pv 0) rfl) pa_nil))))) (pw_or1 (pt_cmpR (op_notInDT (u65 hr)) (pv 1) (pe_fld (pv 0) rfl) (by rfl)))))
        (pss_one (ps_raise rfl (takes_of rfl rfl rfl rfl) (pmk_own PySem.F.excBase_ValueError B.x B.g B.k (raises_own B.b B.t) (by exact rfl)))) pss_nil)
      (pss_one (ps_ret (pe_make M GI hr (by rfl) T.g bI .nil (passes_call (takes_of rfl rfl rfl rfl) fun _ _ _ _ h => h) (pa_cons (pe_fld (pv 0) rfl)
        (pa_cons (pe_lc (own := [("other", 2)]) (g := gName 2) (by rfl) scWo.nd (pi_tup (pe_fld (pv 0) rfl)) (blkOk_by (own := [("other", 2)]) (N := ["graph", "edge", "other"]) (sc := defScope sWo) (by decide +kernel))
          (fun _ _ _ _ _ => pg_name (i := 2) scWo.nd rfl (Or.inl rfl)) (fun _ _ _ _ _ => pts_one (pt_cmpR (neD_at rfl rfl hu) (pv 2) (pv 1) (nomark _))) (fun _ _ _ _ _ => pv 2)) pa_nil))))), ?_⟩
    refine ⟨_, rfl, _, rfl, g, C, dx, _, .int n, rfl, hg, T.cl, T.nS, gf_size _ _ _, .ref e, _, n, rfl, .pair hS (.int i) (.int j), _, rfl, ?_⟩
    refine ite2 (fun c => ?_) (fun _ => ?_)
    · refine kE (fun m => ?_) H (Same.refl H)
      obtain ⟨a, b, c'⟩ := G.ok _ m
      have z : edgB n (some (some i, some j)) = true := by
        simp only [edgB, vtxB, Bool.and_eq_true, decide_eq_true_eq]
        dsimp only at a b c'
        omega
      rw [z] at c
      cases c
    · refine ⟨_, rfl, _, rfl, g, C, dx, _, .ref et, rfl, hg, T.cl, T.nE, gf_edges _ _ _, pD (i, j), qs.map pD, dp_pair hS, .tup hT (dp_pairs hP), pD_shaped _, pDs_shapedT _, _, rfl, ?_⟩
      rw [if_pos rfl, pDs_any]
      by_cases m : (i, j) ∈ qs
      · rw [decide_eq_true m]
        refine iteF ?_
        refine ⟨_, rfl, g, C, dx, _, .int n, rfl, hg, T.cl, T.nS, gf_size _ _ _, _, rfl, g, C, dx, _, .ref et, rfl, hg, T.cl, T.nE, gf_edges _ _ _, et, rfl, ⟨_, hT⟩, fun D hD => ?_⟩
        have few := G.few
        refine lc_tup (K := K) (a := et) (xs := ets.map V.ref) (fun t H' => Same H H' ∧ ∃ ks : List Addr, H' D = some (.lst (ks.map V.ref)) ∧ PairsAt K H ks ((qs.take t).filter fun q => decide (q ≠ (i, j)))) ⟨same_upd hD, [], upd_same, by rw [List.take_zero]; exact .nil⟩ (fun t H' _ h => same_sqT h.1 hT) ?_ ?_
        · rintro t x H' hx ⟨sm, ks, eD, pk⟩
          rw [List.getElem?_map] at hx
          cases ea : ets[t]? with
          | none => rw [ea] at hx; cases hx
          | some ea' =>
            rw [ea] at hx
            cases hx
            obtain ⟨q, hq, hs⟩ := hP.get ea
            have pkl : ks.length ≤ qs.length := by
              rw [pk.length]
              exact Nat.le_trans (List.length_filter_le _ _) (by rw [List.length_take]; omega)
            refine ⟨rfl, _, rfl, _, rfl, pD q, pD (i, j), dp_pair (same_sqT sm hs), dp_pair (same_sqT sm hS), pD_shaped _, pD_shaped _, _, rfl, ?_⟩
            rw [pD_eqv]
            by_cases c : q = (i, j)
            · rw [decide_eq_true c]
              refine iteF ⟨sm, ks, eD, ?_⟩
              rw [L2.take_next hq, List.filter_append, List.filter_cons_of_neg (by simp [c]), List.filter_nil, List.append_nil]
              exact pk
            · rw [decide_eq_false c]
              refine iteT ⟨_, rfl, _, eD, by rw [List.length_map]; exact small1000 (by omega), same_put sm hD, ks ++ [ea'], by rw [upd_same, List.map_append]; rfl, ?_⟩
              rw [L2.take_next hq, List.filter_append, List.filter_cons_of_pos (by simp [c]), List.filter_nil]
              exact PairsAt.snoc hs pk
        · rintro H' ⟨sm, ks, eD, pk⟩
          rw [List.length_map, hP.length, List.take_length] at pk
          refine fun r dr nr ndr _ => ?_
          have sg : Same H' (upd (upd H' dr (.own r)) r (.ins C dr [])) := same_put (same_upd ndr) nr
          have lim := G.lim
          have pkl : (qs.filter fun q => decide (q ≠ (i, j))).length ≤ 75 := Nat.le_trans (List.length_filter_le _ _) few
          have mkk : mkE n (evs (qs.filter fun q => decide (q ≠ (i, j)))) = some (qs.filter fun q => decide (q ≠ (i, j))) := mk_evs lim (fun q hq => G.ok q (List.mem_filter.mp hq).1) ((lex_nd G.srt).filter _)
          refine ⟨r, dr, _, D, _, evs (qs.filter fun q => decide (q ≠ (i, j))), rfl, upd_same, SqL.of (sg _ _ eD), ev_pairs ((pk.same sm).same sg), by rw [evs, List.length_map]; exact pkl, fun hbad => ?_, fun ps hps H5 rs bt pm ga _ => ⟨rfl, ?_⟩⟩
          · rw [mkk] at hbad
            cases hbad
          · rw [mkk] at hps
            cases hps
            have s5 : Same H' H5 := fun b o h => bt b o (sg b o h) (ne_of_none h nr)
            exact kQ m H5 r rs (sm.trans s5) (sm.free nr) ga pm
      · rw [decide_eq_false m]
        exact iteT (kE m H (Same.refl H))
end
end Sm

set_option Elab.async false
set_option linter.all false
set_option maxRecDepth 100000
set_option maxHeartbeats 4000000
namespace Sm
open PySem PySem.Spec PyProof.Rows L2
abbrev sSame : Stmt := topS 10
abbrev sTog : Stmt := topS 15
def spSame (K : PySem.W.Frag) (C : Addr) : Sp := fun vs H Q _ => ∃ (g g' : Addr) (n n' : Nat) (qs qs' : List Pr), vs = [.ref g, .ref g'] ∧ GraphAt K C H g n qs ∧ GraphAt K C H g' n' qs' ∧ Q (.bl (decide (n = n' ∧ qs = qs'))) H
def rise (m : Nat) (q : Pr) : Pr := (q.1 + m, q.2 + m)
def spTog (K : PySem.W.Frag) (C CB : Addr) : Sp := fun vs H Q E => ∃ (g g' : Addr) (n n' : Nat) (qs qs' : List Pr), vs = [.ref g, .ref g'] ∧ GraphAt K C H g n qs ∧ GraphAt K C H g' n' qs' ∧ n + n' ≤ 60 ∧ qs.length + qs'.length ≤ 75 ∧
  ∀ (H' : Hp) (r : Addr) (rs : List Pr), Same H H' → H r = none → GraphAt K C H' r (n + n') rs → rs.Perm (qs ++ qs'.map (rise n)) → Q (.ref r) H'
theorem pD_inj : ∀ {ps qs : List Pr}, ps.map pD = qs.map pD → ps = qs
  | [], [], _ => rfl
  | [], _ :: _, h => by cases h
  | _ :: _, [], h => by cases h
  | p :: ps, q :: qs, h => by
    have h1 := (List.cons.inj h).1
    have h2 := pD_inj (List.cons.inj h).2
    obtain ⟨a, b⟩ := p
    obtain ⟨c, d⟩ := q
    unfold pD at h1
    injection h1 with h1
    have e1 := (List.cons.inj h1).1
    have e2 := (List.cons.inj (List.cons.inj h1).2).1
    injection e1 with e1
    injection e2 with e2
    rw [h2]
    dsimp only at e1 e2
    rw [e1, e2]
theorem pDs_eqv : ∀ ps qs : List Pr, PyData.eqvAll (ps.map pD) (qs.map pD) = decide (ps = qs)
  | [], [] => by simp [PyData.eqvAll]
  | [], q :: qs => by simp [PyData.eqvAll]
  | p :: ps, [] => by simp [PyData.eqvAll]
  | p :: ps, q :: qs => by
    have e : PyData.eqvAll ((p :: ps).map pD) ((q :: qs).map pD) = (PyData.eqv (pD p) (pD q) && PyData.eqvAll (ps.map pD) (qs.map pD)) := by simp only [List.map_cons, PyData.eqvAll]
    rw [e, pDs_eqv ps qs, pD_eqv]
    by_cases h1 : p = q
    · by_cases h2 : ps = qs
      · simp [h1, h2]
      · simp [h1, h2]
    · simp [h1]
theorem PairsAt.app {K : PySem.W.Frag} {H : Hp} : ∀ {as bs : List Addr} {ps qs : List Pr}, PairsAt K H as ps → PairsAt K H bs qs → PairsAt K H (as ++ bs) (ps ++ qs)
  | _, _, _, _, .nil, h => h
  | _, _, _, _, .cons h t, h' => .cons h (PairsAt.app t h')
theorem fld_at {X : Cx} {K : PySem.W.Frag} {e : Expr} {f : Str} {pos : Pos} {ta : TE} (hK : X.K = K) (he : PE X e ta) (hb : attributeBase e f X.env (eval e X.env) = eval e X.env) : PE X (.Attribute e f pos) (tFld K ta f) := by
  subst hK
  exact pe_fld he hb
section
variable {P : Program} {w : World} {K : PySem.W.Frag} {mg : Str → Option Value} {base : Heap}
theorem scSame : FnScope ["first", "second"] ["first", "second"] (defScope sSame) := ⟨rfl, rfl, rfl, by decide +kernel, rfl, by decide +kernel, by decide +kernel⟩
theorem ok_same {f C : Addr} {fd : FuncData} (F : Fun K "same" "same" sSame f fd) (T : TxG K mg C) : FnOk P w K mg base CX0 1 f fd ["first", "second"] (spSame K C) := by
  refine F.ok scSame (fun vs H Q E h => ?_) (fun cdv A outer s H vs Q E hr h => ?_)
  · obtain ⟨g, g', n, n', qs, qs', rfl, _⟩ := h
    rfl
  · obtain ⟨g, g', n, n', qs, qs', rfl, G, G', q⟩ := h
    have hu : _ + 64 < cLine := hr.units
    have ⟨dx, et, nt, hg, ⟨ets, hT, hP⟩, _⟩ := G.ob
    have ⟨dx', et', nt', hg', ⟨ets', hT', hP'⟩, _⟩ := G'.ob
    refine ⟨_, pss_one (ps_ret (pe_and (pe_cmpR op_eq (pe_fld (pv 0) rfl) (pe_fld (pv 1) rfl) (nomark _)) (pe_one (pe_cmpR (op_eqD hu) (pe_fld (pv 0) rfl) (pe_fld (pv 1) rfl) (nomark _))))), ?_⟩
    refine ⟨_, rfl, g, C, dx, _, .int n, rfl, hg, T.cl, T.nS, gf_size _ _ _, _, rfl, g', C, dx', _, .int n', rfl, hg', T.cl, T.nS, gf_size _ _ _, rfl, _, rfl, ?_⟩
    by_cases c : n = n'
    · refine iteY (by rw [c]) ?_
      refine ⟨_, rfl, g, C, dx, _, .ref et, rfl, hg, T.cl, T.nE, gf_edges _ _ _, _, rfl, g', C, dx', _, .ref et', rfl, hg', T.cl, T.nE, gf_edges _ _ _, .tuple (qs.map pD), .tuple (qs'.map pD), .tup hT (dp_pairs hP), .tup hT' (dp_pairs hP'), pDs_shapedT _, pDs_shapedT _, ?_⟩
      have e : PyData.eqv (.tuple (qs.map pD)) (.tuple (qs'.map pD)) = PyData.eqvAll (qs.map pD) (qs'.map pD) := by simp only [PyData.eqv]
      rw [e, pDs_eqv]
      have z : decide (n = n' ∧ qs = qs') = decide (qs = qs') := by simp [c]
      rw [z] at q
      exact q
    · refine iteD (fun z => c (Int.ofNat.inj (V.int.inj z))) ?_
      have z : decide (n = n' ∧ qs = qs') = false := by simp [c]
      rw [z] at q
      exact q
theorem scTog : FnScope ["first", "second", "raised", "u", "v"] ["first", "second"] (defScope sTog) := ⟨rfl, rfl, rfl, by decide +kernel, rfl, by decide +kernel, by decide +kernel⟩
theorem ok_tog {f C CB fI : Addr} {fd fdI : FuncData} (F : Fun K "together" "together" sTog f fd) (T : TxG K mg C)
    (GI : FnOk P w K mg base (L2.CX P w) 4 fI fdI ["self", "size", "edges"] (spInit K C CB)) (M : Mk K C fI) (bI : Binds K fdI ["self", "size", "edges"] []) :
    FnOk P w K mg base (L2.CX P w) 6 f fd ["first", "second"] (spTog K C CB) := by
  refine F.okX scTog (fun vs H Q E h => ?_) (fun cdv A outer s H vs Q E hr h => ?_)
  · obtain ⟨g, g', n, n', qs, qs', rfl, _⟩ := h
    rfl
  · obtain ⟨g, g', n, n', qs, qs', rfl, G, G', hn, hl, kQ⟩ := h
    have ⟨dx, et, nt, hg, ⟨ets, hT, hP⟩, _⟩ := G.ob
    have ⟨dx', et', nt', hg', ⟨ets', hT', hP'⟩, _⟩ := G'.ob
    refine ⟨_, pss_cons (ps_setLc (i := 2) (own := [("u", 3), ("v", 4)]) (g := gTup K 2 (gCons (gName 3) (gCons (gName 4) gNil))) (tt := tYes) (by rfl) scTog.nd rfl rfl (sw_true rfl rfl rfl (by decide +kernel)) (pi_tup (pe_fld (pv 1) rfl))
        (blkOk_by (own := [("u", 3), ("v", 4)]) (N := ["first", "second", "raised", "u", "v"]) (sc := defScope sTog) (by decide +kernel)) (fun _ _ _ _ _ => pg_tup rfl (pgs_cons (pg_name (i := 3) scTog.nd rfl (Or.inl rfl)) (pgs_cons (pg_name (i := 4) scTog.nd rfl (Or.inl rfl)) pgs_nil))) (fun _ _ _ _ _ => pts_nil)
        (fun _ _ _ _ _ => pe_tup (pa_cons (pe_op op_add (pv 3) (fld_at (K := K) rfl (pv 0) rfl)) (pa_cons (pe_op op_add (pv 4) (fld_at (K := K) rfl (pv 0) rfl)) pa_nil))))
      (pss_one (ps_ret (pe_make M GI hr (by rfl) T.g bI .nil (passes_call (takes_of rfl rfl rfl rfl) fun _ _ _ _ h => h) (pa_cons (pe_op op_add (pe_fld (pv 0) rfl) (pe_fld (pv 1) rfl)) (pa_cons (pe_lst (StX.pa_star (pe_fld (pv 0) rfl) (StX.pa_star (pv 2) pa_nil))) pa_nil))))), ?_⟩
    refine ⟨_, rfl, g', C, dx', _, .ref et', rfl, hg', T.cl, T.nE, gf_edges _ _ _, et', rfl, ⟨_, hT'⟩, fun D hD => ?_⟩
    refine lc_tup (K := K) (a := et') (xs := ets'.map V.ref) (fun t H' => Same H H' ∧ ∃ ks : List Addr, H' D = some (.lst (ks.map V.ref)) ∧ PairsAt K H' ks ((qs'.take t).map (rise n))) ⟨same_upd hD, [], upd_same, by rw [List.take_zero]; exact .nil⟩ (fun t H' _ h => same_sqT h.1 hT') ?_ ?_
    · rintro t x H' hx ⟨sm, ks, eD, pk⟩
      rw [List.getElem?_map] at hx
      cases ea : ets'[t]? with
      | none => rw [ea] at hx; cases hx
      | some ea' =>
        rw [ea] at hx
        cases hx
        obtain ⟨⟨u, v⟩, hq, hs⟩ := (hP'.same sm).get ea
        have few' := G'.few
        have pkl : ks.length ≤ qs'.length := by rw [pk.length, List.length_map, List.length_take]; omega
        refine ⟨ea', _, rfl, hs, rfl, _, _, rfl, _, _, rfl, rfl, rfl, ?_⟩
        refine ⟨_, rfl, _, rfl, g, C, dx, _, .int n, rfl, sm _ _ hg, T.cl, T.nS, gf_size _ _ _, _, _, rfl, rfl, _, rfl, _, rfl, g, C, dx, _, .int n, rfl, sm _ _ hg, T.cl, T.nS, gf_size _ _ _, _, _, rfl, rfl, (by show 2 ≤ sizeLine; decide), fun T1 nT => ?_⟩
        have st := same_upd (o := .tup [V.int (u + n), V.int (v + n)]) nT
        have DT : D ≠ T1 := fun z => by rw [← z, eD] at nT; cases nT
        have bt : But D H' (upd (upd H' T1 (.tup [V.int (u + n), V.int (v + n)])) D (.lst (ks.map V.ref ++ [.ref T1]))) := (Same.but st).put
        refine ⟨_, st _ _ eD, by rw [List.length_map]; exact small1000 (by omega), same_put (sm.trans st) hD, ks ++ [T1], by rw [upd_same, List.map_append]; rfl, ?_⟩
        rw [L2.take_next hq, List.map_append]
        refine PairsAt.snoc (SqT.of ?_) (bt.pairs eD pk)
        rw [upd_ne DT.symm, upd_same]
        rfl
    · rintro H' ⟨sm, ks, eD, pk⟩
      rw [List.length_map, hP'.length, List.take_length] at pk
      refine ⟨_, rfl, g, C, dx, _, .int n, rfl, sm _ _ hg, T.cl, T.nS, gf_size _ _ _, _, rfl, g', C, dx', _, .int n', rfl, sm _ _ hg', T.cl, T.nS, gf_size _ _ _, _, _, rfl, rfl, ?_⟩
      refine ⟨_, rfl, g, C, dx, _, .ref et, rfl, sm _ _ hg, T.cl, T.nE, gf_edges _ _ _, et, _, rfl, .inl (same_sqT sm hT), _, rfl, D, _, rfl, .inr (SqL.of eD), ?_⟩
      have la := hP.length
      have lk := pk.length
      rw [List.length_map] at lk
      refine ⟨by rw [List.append_nil, List.length_append, List.length_map, List.length_map, sizeLine_eq]; omega, fun l nl => ?_⟩
      rw [List.append_nil, ← List.map_append] at *
      have sl := same_upd (o := .lst ((ets ++ ks).map V.ref)) nl
      have pall : PairsAt K H' (ets ++ ks) (qs ++ qs'.map (rise n)) := PairsAt.app (hP.same sm) pk
      have oks : ∀ q ∈ qs ++ qs'.map (rise n), Okp ((n + n' : Nat) : Int) q := fun q hq => by
        rcases List.mem_append.mp hq with z | z
        · obtain ⟨a, b, c⟩ := G.ok q z
          exact ⟨a, b, by omega⟩
        · obtain ⟨r, hr', rfl⟩ := List.mem_map.mp z
          obtain ⟨a, b, c⟩ := G'.ok r hr'
          refine ⟨?_, ?_, ?_⟩ <;> show _ <;> unfold rise <;> dsimp only <;> omega
      have nds : (qs ++ qs'.map (rise n)).Nodup := by
        refine List.nodup_append.mpr ⟨lex_nd G.srt, ?_, fun p hp q hq e => ?_⟩
        · refine List.pairwise_map.mpr (List.Pairwise.imp (fun {p q} h e => h ?_) (lex_nd G'.srt))
          unfold rise at e
          have e1 := congrArg Prod.fst e
          have e2 := congrArg Prod.snd e
          dsimp only at e1 e2
          exact Prod.ext (by omega) (by omega)
        · obtain ⟨r, hr', rfl⟩ := List.mem_map.mp hq
          obtain ⟨a, b, c⟩ := G.ok p hp
          obtain ⟨a', b', c'⟩ := G'.ok r hr'
          rw [e] at c
          unfold rise at c
          dsimp only at c
          omega
      intro r dr nr ndr _
      have sg : Same (upd H' l (.lst ((ets ++ ks).map V.ref))) (upd (upd (upd H' l (.lst ((ets ++ ks).map V.ref))) dr (.own r)) r (.ins C dr [])) := same_put (same_upd ndr) nr
      have e0 : (n : Int) + (n' : Int) = ((n + n' : Nat) : Int) := by omega
      have mkk : mkE ((n + n' : Nat) : Int) (evs (qs ++ qs'.map (rise n))) = some (qs ++ qs'.map (rise n)) := mk_evs hn oks nds
      dsimp only
      rw [e0]
      refine ⟨r, dr, _, l, _, evs (qs ++ qs'.map (rise n)), rfl, upd_same, SqL.of (sg _ _ upd_same), ev_pairs ((pall.same sl).same sg), by rw [evs, List.length_map, List.length_append, List.length_map]; exact hl, fun hbad => ?_, fun ps hps H5 rs bt pm ga _ => ⟨rfl, ?_⟩⟩
      · rw [mkk] at hbad
        cases hbad
      · rw [mkk] at hps
        cases hps
        have s5 : Same (upd H' l (.lst ((ets ++ ks).map V.ref))) H5 := fun b o h => bt b o (sg b o h) (ne_of_none h nr)
        exact kQ H5 r rs ((sm.trans sl).trans s5) ((sm.trans sl).free nr) ga pm
end
end Sm

set_option Elab.async false
set_option linter.all false
set_option maxRecDepth 100000
set_option maxHeartbeats 4000000
namespace Sm
open PySem PySem.Spec PyProof.Rows L2
/-! ### neighbours, and what a path leads to -/
theorem mem_near {qs : List Pr} {u v : Int} : v ∈ nearOf qs u ↔ (u, v) ∈ qs ∨ (v, u) ∈ qs := by
  unfold nearOf
  rw [List.mem_flatMap]
  constructor
  · rintro ⟨q, hq, h⟩
    rcases List.mem_append.mp h with z | z
    · by_cases c : q.1 = u
      · rw [if_pos c] at z
        have e := List.mem_singleton.mp z
        exact .inl (by rw [show (u, v) = q from Prod.ext c.symm e]; exact hq)
      · rw [if_neg c] at z; cases z
    · by_cases c : q.2 = u
      · rw [if_pos c] at z
        have e := List.mem_singleton.mp z
        exact .inr (by rw [show (v, u) = q from Prod.ext e c.symm]; exact hq)
      · rw [if_neg c] at z; cases z
  · rintro (h | h)
    · exact ⟨_, h, List.mem_append_left _ (by rw [if_pos rfl]; exact List.mem_singleton.mpr rfl)⟩
    · exact ⟨_, h, List.mem_append_right _ (by rw [if_pos rfl]; exact List.mem_singleton.mpr rfl)⟩
theorem near_sym {qs : List Pr} {u v : Int} (h : v ∈ nearOf qs u) : u ∈ nearOf qs v := mem_near.mpr ((mem_near.mp h).symm)
inductive Rch (qs : List Pr) (s : Int) : Int → Prop where
  | refl : Rch qs s s
  | step {u v : Int} : Rch qs s u → v ∈ nearOf qs u → Rch qs s v
theorem Rch.trans {qs : List Pr} {a b c : Int} (h : Rch qs a b) (h' : Rch qs b c) : Rch qs a c := by
  induction h' with
  | refl => exact h
  | step _ hn ih => exact .step ih hn
theorem Rch.symm {qs : List Pr} {a b : Int} (h : Rch qs a b) : Rch qs b a := by
  induction h with
  | refl => exact .refl
  | step _ hn ih => exact (Rch.step .refl (near_sym hn)).trans ih
def Vx (n : Nat) (k : Int) : Prop := 0 ≤ k ∧ k < n
theorem near_vx {n : Nat} {qs : List Pr} (ok : ∀ q ∈ qs, Okp n q) {u v : Int} (h : v ∈ nearOf qs u) : Vx n v := by
  unfold Vx
  rcases mem_near.mp h with z | z
  · obtain ⟨a, b, c⟩ := ok _ z
    dsimp only at a b c
    omega
  · obtain ⟨a, b, c⟩ := ok _ z
    dsimp only at a b c
    omega
theorem Rch.vx {n : Nat} {qs : List Pr} (ok : ∀ q ∈ qs, Okp n q) {s k : Int} (hs : Vx n s) (h : Rch qs s k) : Vx n k := by
  cases h with
  | refl => exact hs
  | step _ hn => exact near_vx ok hn
/-- numbers below n, none twice -/
theorem few_vx {n : Nat} {l : List Int} (nd : l.Nodup) (h : ∀ k ∈ l, Vx n k) : l.length ≤ n := by
  have nd2 : (l.map Int.toNat).Nodup := by
    refine List.pairwise_map.mpr (List.Pairwise.imp_of_mem (fun {a b} ha hb ne e => ne ?_) nd)
    have x := h a ha
    have y := h b hb
    unfold Vx at x y
    omega
  have z := nat_nodup_len (l.map Int.toNat) (List.range n) nd2 fun x hx => by
    obtain ⟨k, hk, rfl⟩ := List.mem_map.mp hx
    have y := h k hk
    unfold Vx at y
    exact List.mem_range.mpr (by omega)
  rw [List.length_map, List.length_range] at z
  exact z
theorem near_len {n : Nat} {qs : List Pr} (few : qs.length ≤ 75) (u : Int) : (nearOf qs u).length ≤ 150 := by
  have := nearOf_len qs u
  omega
/-! ### sets by lists -/
def SL (w : World) (p : Addr) (l : List Int) : HO := SetO w p (fun j => decide (j ∈ l)) l.length
theorem sl_one {w : World} {p : Addr} (k : Int) : SetO w p (fun j => decide (j = k)) 1 = SL w p [k] := by
  have e1 : (fun j => decide (j = k)) = fun j => decide (j ∈ [k]) := funext fun j => by simp
  unfold SL
  rw [e1]
  rfl
theorem sl_nil {w : World} {p : Addr} : SetO w p (fun _ => false) 0 = SL w p [] := by
  have e1 : (fun _ : Int => false) = fun j => decide (j ∈ ([] : List Int)) := funext fun j => by simp
  unfold SL
  rw [e1]
  rfl
theorem sl_add {w : World} {p : Addr} {l : List Int} {k : Int} (h : k ∉ l) : SetO w p (fun j => (fun j => decide (j ∈ l)) j || decide (j = k)) (if (fun j => decide (j ∈ l)) k = true then l.length else l.length + 1) = SL w p (l ++ [k]) := by
  have e1 : (fun j => (fun j => decide (j ∈ l)) j || decide (j = k)) = fun j => decide (j ∈ l ++ [k]) := funext fun j => by
    by_cases a : j ∈ l
    · simp [a]
    · by_cases b : j = k
      · simp [a, b]
      · simp [a, b]
  have e2 : (if (fun j => decide (j ∈ l)) k = true then l.length else l.length + 1) = (l ++ [k]).length := by
    rw [if_neg (by simp [h]), List.length_append]
    rfl
  rw [e1, e2]
  rfl
theorem sl_add' {w : World} {p : Addr} {l : List Int} {k : Int} (h : k ∈ l) : SetO w p (fun j => (fun j => decide (j ∈ l)) j || decide (j = k)) (if (fun j => decide (j ∈ l)) k = true then l.length else l.length + 1) = SL w p l := by
  have e1 : (fun j => (fun j => decide (j ∈ l)) j || decide (j = k)) = fun j => decide (j ∈ l) := funext fun j => by
    by_cases a : j ∈ l
    · simp [a]
    · by_cases b : j = k
      · rw [b] at a; exact absurd h a
      · simp [a, b]
  have e2 : (if (fun j => decide (j ∈ l)) k = true then l.length else l.length + 1) = l.length := by
    rw [if_pos (by simp [h])]
  rw [e1, e2]
  rfl
/-! ### reached -/
/-- the edges that no vertex of G bears -/
def cutE (qs : List Pr) (G : List Int) : List Pr := qs.filter fun q => decide (q.1 ∉ G) && decide (q.2 ∉ G)
theorem mem_cutE {qs : List Pr} {G : List Int} {q : Pr} : q ∈ cutE qs G ↔ q ∈ qs ∧ q.1 ∉ G ∧ q.2 ∉ G := by
  unfold cutE
  rw [List.mem_filter, Bool.and_eq_true, decide_eq_true_eq, decide_eq_true_eq]
theorem cutE_nil (qs : List Pr) : cutE qs [] = qs := List.filter_eq_self.mpr fun q _ => by simp
theorem near_cut {qs : List Pr} {G : List Int} {u v : Int} : v ∈ nearOf (cutE qs G) u ↔ v ∈ nearOf qs u ∧ u ∉ G ∧ v ∉ G := by
  rw [mem_near, mem_near, mem_cutE, mem_cutE]
  constructor
  · rintro (⟨a, b, c⟩ | ⟨a, b, c⟩)
    · exact ⟨.inl a, b, c⟩
    · exact ⟨.inr a, c, b⟩
  · rintro ⟨a | a, b, c⟩
    · exact .inl ⟨a, b, c⟩
    · exact .inr ⟨a, c, b⟩
theorem valV_keys {kvs : List (Key × V)} {S : List Int} (e : kvs.map (·.1) = S.map Sum.inl) (k : Int) : (valV kvs (Sum.inl k : Key)).isSome = decide (k ∈ S) := by
  have h : (Sum.inl k : Key) ∈ kvs.map (·.1) ↔ k ∈ S := by
    rw [e, List.mem_map]
    exact ⟨fun ⟨j, hj, z⟩ => by rw [← Sum.inl.inj z]; exact hj, fun hk => ⟨k, hk, rfl⟩⟩
  unfold valV
  rw [Option.isSome_map, Bool.eq_iff_iff, List.find?_isSome, decide_eq_true_eq, ← h, List.mem_map]
  exact ⟨fun ⟨x, hx, z⟩ => ⟨x, hx, of_decide_eq_true z⟩, fun ⟨x, hx, z⟩ => ⟨x, hx, decide_eq_true z⟩⟩
theorem valV_no {kvs : List (Key × V)} {S : List Int} (e : kvs.map (·.1) = S.map Sum.inl) {k : Int} (h : k ∉ S) : valV kvs (Sum.inl k : Key) = none := by
  have z := valV_keys e k
  rw [decide_eq_false h] at z
  cases y : valV kvs (Sum.inl k : Key) with
  | none => rfl
  | some v => rw [y] at z; cases z
theorem putK_keys {kvs : List (Key × V)} {S : List Int} (e : kvs.map (·.1) = S.map Sum.inl) {k : Int} (h : k ∉ S) (v : V) : (putK kvs (Sum.inl k : Key) v).map (·.1) = (S ++ [k]).map Sum.inl := by
  rw [putK_new _ (valV_no e h), List.map_append, e, List.map_append]
  rfl
theorem lt_of_le {l : List Int} (h : l.Pairwise (· ≤ ·)) (nd : l.Nodup) : l.Pairwise (· < ·) := List.Pairwise.imp (fun {a b} h => by omega) (List.Pairwise.and h nd)
abbrev sRch : Stmt := topS 18
def spRch (K : PySem.W.Frag) (C : Addr) : Sp := fun vs H Q _ => ∃ (g d : Addr) (n : Nat) (qs : List Pr) (G S : List Int) (kvs : List (Key × V)) (u : Nat) (H0 : Hp), vs = [.ref g, .int u, .ref d] ∧ GraphAt K C H0 g n qs ∧ Same H0 H ∧ H0 d = none ∧ u < n ∧
  H d = some (.dK kvs) ∧ kvs.map (·.1) = S.map Sum.inl ∧ S.Nodup ∧ (∀ k ∈ S, Vx n k) ∧ (∀ k ∈ G, k ∈ S) ∧ (u : Int) ∉ S ∧ (∀ k ∈ S, k ∉ G → ∀ j ∈ nearOf qs k, j ∈ S) ∧
  ∀ (H' : Hp) (l : Addr) (ns L : List Int) (kvs' : List (Key × V)), But d H H' → H l = none → H' l = some (.lst (ns.map V.int)) → ns.Pairwise (· < ·) → (∀ k, k ∈ ns ↔ Rch (cutE qs G) u k) → H' d = some (.dK kvs') → kvs'.map (·.1) = L.map Sum.inl → L.Nodup → (∀ k, k ∈ L ↔ k ∈ S ∨ Rch (cutE qs G) u k) → Q (.ref l) H'
section
variable {P : Program} {w : World} {K : PySem.W.Frag} {mg : Str → Option Value} {base : Heap}
theorem scRch : FnScope ["graph", "start", "seen", "waiting", "piece", "vertex", "other"] ["graph", "start", "seen"] (defScope sRch) := ⟨rfl, rfl, rfl, by decide +kernel, rfl, by decide +kernel, by decide +kernel⟩
theorem ok_rch {f C CB fNe : Addr} {fd fdNe : FuncData} (F : Fun K "reached" "reached" sRch f fd) (T : TxG K mg C)
    (GNe : FnOk P w K mg base (L2.CX P w) 4 fNe fdNe ["self", "u"] (spNear K C CB)) (mNe : Meth K C "near" fNe) (bNe : Binds K fdNe ["self", "u"] []) (ms : mg "sorted" = none) :
    FnOk P w K mg base (L2.CX P w) 5 f fd ["graph", "start", "seen"] (spRch K C) := by
  refine F.okX scRch (fun vs H Q E h => ?_) (fun cdv A outer s H vs Q E hr h => ?_)
  · obtain ⟨g, d, n, qs, G, S, kvs, u, H0, rfl, _⟩ := h
    rfl
  · obtain ⟨g, d, n, qs, G, S, kvs, u, H0, rfl, GA, s0, d0, hu0, hd, hk, ndS, vxS, hGS, huS, hcS, q⟩ := h
    have hu := hu_of hr
    have lim := GA.lim
    have few := GA.few
    refine ⟨_, pss_cons (ps_dput hu (pv 2) (pv 1) pe_bl rfl)
      (pss_cons (ps_set (i := 3) scRch.nd rfl (.inl rfl) (pe_lst (pa_cons (pv 1) pa_nil)))
      (pss_cons (ps_set (i := 4) scRch.nd rfl (.inl rfl) (pe_lst pa_nil))
      (pss_cons (ps_while (passes_of rfl) (pt_truth (pv 3) (by intro _; rfl))
        (pss_cons (ps_set (i := 5) scRch.nd rfl (.inl rfl) (pe_bm0 PySem.F.plainAttrs_list PySem.F.slot_list_pop PySem.F.type_list_pop mt_pop (pv 3)))
        (pss_cons (ps_expr (pe_bm PySem.F.plainAttrs_list PySem.F.slot_list_append PySem.F.type_list_append mt_append (pv 4) (pa_cons (pv 5) pa_nil)))
        (pss_one (ps_for (passes_of rfl) rfl (pi_list (pe_meth (pv 0) T.cl mNe GNe hr bNe .nil (passes_call (takes_of rfl rfl rfl rfl) fun _ _ _ _ h => h) (pa_cons (pv 5) pa_nil))) (pg_name (i := 6) scRch.nd rfl (.inl rfl))
          (pss_one (ps_if (pt_cmp (pc_dnotin hu (pv 6) (pv 2)))
            (pss_cons (ps_dput hu (pv 2) (pv 6) pe_bl rfl)
            (pss_one (ps_expr (pe_bm PySem.F.plainAttrs_list PySem.F.slot_list_append PySem.F.type_list_append mt_append (pv 3) (pa_cons (pv 6) pa_nil))))) pss_nil)))))))
      (pss_one (ps_ret (pe_callB cr_sortedI (by rfl) ms (by decide +kernel) (pa_cons (pv 4) pa_nil))))))), ?_⟩
    have ⟨dx, et, nt, hg, _⟩ := GA.ob
    have llS := few_vx ndS vxS
    have lkS : kvs.length = S.length := by have := congrArg List.length hk; rwa [List.length_map, List.length_map] at this
    refine ⟨_, rfl, _, rfl, d, _, rfl, DPut.k (k := Sum.inl (u : Int)) hd (small1000 (by omega)), ?_⟩
    have b1 : But d H (upd H d (.dK (putK kvs (Sum.inl (u : Int)) (.bl true)))) := But.put fun b o e _ => e
    refine ⟨_, rfl, (by show 1 ≤ sizeLine; decide), fun q1 nq => ?_⟩
    have dq : d ≠ q1 := fun z => by rw [← z, upd_same] at nq; cases nq
    have nqH : H q1 = none := by rw [upd_ne dq.symm] at nq; exact nq
    refine ⟨Nat.zero_le _, fun p1 np => ?_⟩
    have qp : q1 ≠ p1 := fun z => by rw [← z, upd_same] at np; cases np
    have dp : d ≠ p1 := fun z => by rw [← z, upd_ne dq, upd_same] at np; cases np
    have npH : H p1 = none := by rw [upd_ne qp.symm, upd_ne dp.symm] at np; exact np
    have npu : ∀ {x : Int} {b : Addr}, b ≠ p1 → True := fun _ => trivial
    refine ⟨fun m σ H' => ∃ (y5 y6 : Option V) (l ws pc : List Int) (kvs' : List (Key × V)), σ = [some (.ref g), some (.int u), some (.ref d), some (.ref q1), some (.ref p1), y5, y6] ∧ But d H H' ∧ H' d = some (.dK kvs') ∧ kvs'.map (·.1) = (S ++ l).map Sum.inl ∧ H' q1 = some (.lst (ws.map V.int)) ∧ H' p1 = some (.lst (pc.map V.int)) ∧
      (S ++ l).Nodup ∧ (∀ k ∈ l, Rch (cutE qs G) u k) ∧ (u : Int) ∈ l ∧ l.Perm (pc ++ ws) ∧ (∀ k ∈ pc, ∀ j ∈ nearOf qs k, j ∈ S ++ l) ∧ 2 * (n - l.length) + ws.length ≤ 2 * n ∧ m = 2 * (n - l.length) + ws.length,
      ⟨_, none, none, [(u : Int)], [(u : Int)], [], _, rfl, (b1.new nqH).new npH, by rw [upd_ne dp, upd_ne dq, upd_same], putK_keys hk huS _, by rw [upd_ne qp, upd_same]; rfl, upd_same,
        List.nodup_append.mpr ⟨ndS, by simp, fun x hx y hy e => by rw [List.mem_singleton.mp hy] at e; exact huS (e ▸ hx)⟩, fun k hk => by rw [List.mem_singleton.mp hk]; exact .refl, List.mem_singleton.mpr rfl, .refl _, (fun k hk => by cases hk), by simp only [List.length_cons, List.length_nil]; omega, rfl⟩, ?_⟩
    rintro m σ H' ⟨y5, y6, l, ws, pc, kvs1, rfl, sm, hd1, hk1, hq, hp, nd, hre, hul, hpm, hcl, hmx, rfl⟩
    have okc : ∀ q ∈ cutE qs G, Okp n q := fun q hq => GA.ok q (mem_cutE.mp hq).1
    have vxu : Vx n (u : Int) := by unfold Vx; omega
    have vxl : ∀ k ∈ l, Vx n k := fun k hk => (hre k hk).vx okc vxu
    have ndl := (List.nodup_append.mp nd).2.1
    have ll := few_vx ndl vxl
    refine ⟨_, rfl, _, .inl ⟨_, SqL.of hq, rfl⟩, ?_⟩
    rcases List.eq_nil_or_concat ws with rfl | ⟨ws', x, rfl⟩
    · refine iteF ?_
      rw [List.append_nil] at hpm
      refine ⟨_, rfl, p1, pc, rfl, SqL.of hp, fun ns l2 pm le nl => ?_⟩
      have d2 : d ≠ l2 := fun z => by rw [← z, hd1] at nl; cases nl
      have nlH : H l2 = none := by
        cases e : H l2 with
        | none => rfl
        | some o => have z := sm _ _ e d2.symm; rw [nl] at z; cases z
      have all : ∀ k, k ∈ l ↔ Rch (cutE qs G) u k := fun k => by
        refine ⟨hre k, fun hk => ?_⟩
        induction hk with
        | refl => exact hul
        | @step a b _ hn ih =>
          obtain ⟨hn1, ha, hb⟩ := near_cut.mp hn
          rcases List.mem_append.mp (hcl _ (hpm.mem_iff.mp ih) _ hn1) with z | z
          · exact absurd rfl ((List.nodup_append.mp nd).2.2 _ (hcS _ z hb _ (near_sym hn1)) _ ih)
          · exact z
      refine q _ l2 ns (S ++ l) kvs1 (sm.new nlH) nlH upd_same (lt_of_le le (pm.nodup_iff.mpr (hpm.nodup_iff.mp ndl))) (fun k => ?_) (by rw [upd_ne d2]; exact hd1) hk1 nd fun k => by rw [List.mem_append, all]
      rw [pm.mem_iff, ← hpm.mem_iff, all]
    · have ne0 : (!((ws'.concat x).map V.int).isEmpty) = true := by rw [List.concat_eq_append, List.map_append]; cases ws' <;> rfl
      rw [ne0]
      refine iteT ⟨_, fun σ' H'' h => h, ?_⟩
      rw [List.concat_eq_append] at *
      have hx : x ∈ l := hpm.mem_iff.mpr (by simp)
      have vxx := vxl x hx
      have lastx : ((ws' ++ [x]).map V.int)[((ws' ++ [x]).map V.int).length - 1]? = some (.int x) := by
        rw [List.map_append, List.length_append]
        simp
      refine ⟨_, rfl, .inl ⟨rfl, _, SqL.of hq⟩, q1, _, .int x, rfl, rfl, hq, lastx, ?_⟩
      have dl : ((ws' ++ [x]).map V.int).dropLast = ws'.map V.int := by rw [List.map_append]; simp
      rw [dl]
      have lpc : pc.length ≤ n := by
        have e := hpm.length_eq
        rw [List.length_append] at e
        omega
      refine ⟨_, rfl, .inl ⟨rfl, _, SqL.of (by rw [upd_ne qp.symm]; exact hp)⟩, _, rfl, p1, _, _, rfl, rfl, by rw [upd_ne qp.symm]; exact hp, by rw [List.length_map]; exact small1000 (by omega), ?_⟩
      have s3 : But d H (upd (upd H' q1 (.lst (ws'.map V.int))) p1 (.lst (pc.map V.int ++ [.int x]))) := (sm.new nqH).new npH
      have hd3 : (upd (upd H' q1 (.lst (ws'.map V.int))) p1 (.lst (pc.map V.int ++ [.int x]))) d = some (.dK kvs1) := by rw [upd_ne dp, upd_ne dq]; exact hd1
      have hq3 : (upd (upd H' q1 (.lst (ws'.map V.int))) p1 (.lst (pc.map V.int ++ [.int x]))) q1 = some (.lst (ws'.map V.int)) := by rw [upd_ne qp, upd_same]
      have hp3 : (upd (upd H' q1 (.lst (ws'.map V.int))) p1 (.lst (pc.map V.int ++ [.int x]))) p1 = some (.lst ((pc ++ [x]).map V.int)) := by rw [upd_same, List.map_append]; rfl
      generalize (upd (upd H' q1 (.lst (ws'.map V.int))) p1 (.lst (pc.map V.int ++ [.int x]))) = H3 at s3 hd3 hq3 hp3 ⊢
      have sg : ∀ {H4 : Hp}, But d H H4 → Same H0 H4 := fun s b o e => s b o (s0 b o e) (ne_of_none e d0)
      refine ⟨_, rfl, g, dx, _, rfl, sg s3 _ _ hg, gf_no _ _ _ (by decide +kernel) (by decide +kernel) (by decide +kernel), _, rfl, g, n, qs, .int x, some x, rfl, GA.same (sg s3), .int x, fun hbad => ?_, fun x' ex hx' l1 nl1 => ?_⟩
      · exfalso
        unfold Vx at vxx
        have z : vtxB n (some x) = true := by simp only [vtxB, Bool.and_eq_true, decide_eq_true_eq]; exact vxx
        rw [z] at hbad
        cases hbad
      · cases ex
        have nearl := near_len (n := n) few (x' : Int)
        have l1d : l1 ≠ d := fun z => by rw [z, hd3] at nl1; cases nl1
        have l1q : l1 ≠ q1 := fun z => by rw [z, hq3] at nl1; cases nl1
        have l1p : l1 ≠ p1 := fun z => by rw [z, hp3] at nl1; cases nl1
        have nl1H : H l1 = none := by
          cases e : H l1 with
          | none => rfl
          | some o => have z := s3 _ _ e l1d; rw [nl1] at z; cases z
        have hpm1 : l.Perm ((pc ++ [(x' : Int)]) ++ ws') := by
          refine hpm.trans ?_
          rw [List.append_assoc]
          exact List.Perm.append_left _ List.perm_append_comm
        refine ⟨l1, rfl, ⟨_, SqL.of upd_same⟩, for_list (K := K) (a := l1) (xs := (nearOf qs (x' : Int)).map V.int) (fun j σ H4 => ∃ (y6 : Option V) (l2 ws2 : List Int) (kvs2 : List (Key × V)), σ = [some (.ref g), some (.int u), some (.ref d), some (.ref q1), some (.ref p1), some (.int (x' : Int)), y6] ∧ But d H H4 ∧ H4 d = some (.dK kvs2) ∧ kvs2.map (·.1) = (S ++ l2).map Sum.inl ∧ H4 q1 = some (.lst (ws2.map V.int)) ∧
          H4 p1 = some (.lst ((pc ++ [(x' : Int)]).map V.int)) ∧ H4 l1 = some (.lst ((nearOf qs (x' : Int)).map V.int)) ∧ (S ++ l2).Nodup ∧ (∀ k ∈ l2, Rch (cutE qs G) u k) ∧ (u : Int) ∈ l2 ∧ (x' : Int) ∈ l2 ∧ l2.Perm ((pc ++ [(x' : Int)]) ++ ws2) ∧ (∀ k ∈ pc, ∀ j ∈ nearOf qs k, j ∈ S ++ l2) ∧ (∀ k ∈ (nearOf qs (x' : Int)).take j, k ∈ S ++ l2) ∧
          2 * (n - l2.length) + ws2.length + 1 ≤ 2 * (n - l.length) + (ws' ++ [(x' : Int)]).length)
          ⟨_, l, ws', kvs1, rfl, s3.new nl1H, by rw [upd_ne l1d.symm]; exact hd3, hk1, by rw [upd_ne l1q.symm]; exact hq3, by rw [upd_ne l1p.symm]; exact hp3, upd_same, nd, hre, hul, hx, hpm1, hcl, (fun k hk => by rw [List.take_zero] at hk; cases hk), by rw [List.length_append]; simp only [List.length_cons, List.length_nil]; omega⟩ (fun j σ H4 _ ⟨_, _, _, _, _, _, _, _, _, _, h, _⟩ => SqL.of h) ?_ ?_⟩
        · rintro j v σ H4 hv ⟨y6, l2, ws2, kvs2, rfl, s5, hd5, hk5, hq5, hp5, hl5, nd2, hre2, hul2, hx2, hpm2, hcl2, htk, hm⟩
          rw [List.getElem?_map] at hv
          cases ek : (nearOf qs (x' : Int))[j]? with
          | none => rw [ek] at hv; cases hv
          | some k =>
            rw [ek] at hv
            cases hv
            have kn : k ∈ nearOf qs (x' : Int) := List.mem_of_getElem? ek
            have tk1 : (nearOf qs (x' : Int)).take (j + 1) = (nearOf qs (x' : Int)).take j ++ [k] := L2.take_next ek
            have vx2 : ∀ k ∈ l2, Vx n k := fun k hk => (hre2 k hk).vx okc vxu
            have vxS2 : ∀ k ∈ S ++ l2, Vx n k := fun k hk => (List.mem_append.mp hk).elim (vxS k) (vx2 k)
            have ll2 := few_vx nd2 vxS2
            have lk2 : kvs2.length = (S ++ l2).length := by have := congrArg List.length hk5; rwa [List.length_map, List.length_map] at this
            refine ⟨_, rfl, _, rfl, d, _, rfl, DGet.k (k := Sum.inl k) hd5, _, rfl, ?_⟩
            rw [valV_keys hk5]
            by_cases c : k ∈ S ++ l2
            · rw [decide_eq_true c]
              refine iteF ⟨_, l2, ws2, kvs2, rfl, s5, hd5, hk5, hq5, hp5, hl5, nd2, hre2, hul2, hx2, hpm2, hcl2, fun y hy => ?_, hm⟩
              rw [tk1] at hy
              rcases List.mem_append.mp hy with z | z
              · exact htk y z
              · rw [List.mem_singleton.mp z]; exact c
            · rw [decide_eq_false c]
              refine iteT ⟨_, rfl, _, rfl, d, _, rfl, DPut.k (k := Sum.inl k) hd5 (small1000 (by omega)), ?_⟩
              have nd3 : (S ++ (l2 ++ [k])).Nodup := by
                rw [← List.append_assoc]
                exact List.nodup_append.mpr ⟨nd2, by simp, fun x hx y hy e => by rw [List.mem_singleton.mp hy] at e; exact c (e ▸ hx)⟩
              have hre3 : ∀ y ∈ l2 ++ [k], Rch (cutE qs G) u y := fun y hy => by
                rcases List.mem_append.mp hy with z | z
                · exact hre2 y z
                · rw [List.mem_singleton.mp z]
                  refine .step (hre2 _ hx2) (near_cut.mpr ⟨kn, fun z => ?_, fun z => c (List.mem_append_left _ (hGS _ z))⟩)
                  exact absurd rfl ((List.nodup_append.mp nd2).2.2 _ (hGS _ z) _ hx2)
              have ll3 := few_vx (List.nodup_append.mp nd3).2.1 fun y hy => (hre3 y hy).vx okc vxu
              rw [List.length_append] at ll3
              simp only [List.length_cons, List.length_nil] at ll3
              have wl : ws2.length ≤ 200 := by
                rw [List.length_append] at hm
                simp only [List.length_cons, List.length_nil] at hm
                rw [List.length_append] at hmx
                simp only [List.length_cons, List.length_nil] at hmx
                omega
              refine ⟨_, rfl, .inl ⟨rfl, _, SqL.of (by rw [upd_ne dq.symm]; exact hq5)⟩, _, rfl, q1, _, _, rfl, rfl, by rw [upd_ne dq.symm]; exact hq5, by rw [List.length_map]; exact small1000 (by omega), ?_⟩
              refine ⟨_, l2 ++ [k], ws2 ++ [k], _, rfl, s5.put.new nqH, by rw [upd_ne dq, upd_same], by rw [putK_keys hk5 c, List.append_assoc], by rw [upd_same, List.map_append]; rfl, by rw [upd_ne qp.symm, upd_ne dp.symm]; exact hp5, by rw [upd_ne l1q, upd_ne l1d]; exact hl5, nd3, hre3, List.mem_append_left _ hul2, List.mem_append_left _ hx2, ?_, fun y hy t ht => ?_, fun y hy => ?_, ?_⟩
              · rw [← List.append_assoc]
                exact List.Perm.append_right _ hpm2
              · rw [← List.append_assoc]; exact List.mem_append_left _ (hcl2 y hy t ht)
              · rw [tk1] at hy
                rw [← List.append_assoc]
                rcases List.mem_append.mp hy with z | z
                · exact List.mem_append_left _ (htk y z)
                · exact List.mem_append_right _ z
              · rw [List.length_append, List.length_append (as := ws2)]
                simp only [List.length_cons, List.length_nil]
                omega
        · rintro σ H4 ⟨y6, l2, ws2, kvs2, rfl, s5, hd5, hk5, hq5, hp5, hl5, nd2, hre2, hul2, hx2, hpm2, hcl2, htk, hm⟩
          rw [List.length_map, List.take_length] at htk
          refine ⟨_, by omega, _, _, l2, ws2, pc ++ [(x' : Int)], kvs2, rfl, s5, hd5, hk5, hq5, hp5, nd2, hre2, hul2, hpm2, fun k hk => ?_, by omega, rfl⟩
          rcases List.mem_append.mp hk with z | z
          · exact hcl2 k z
          · rw [List.mem_singleton.mp z]; exact htk
end
end Sm

set_option Elab.async false
set_option linter.all false
set_option maxRecDepth 100000
set_option maxHeartbeats 4000000
namespace Sm
open PySem PySem.Spec PyProof.Rows L2
/-! ### a dict comprehension that a local name takes -/
section
variable {X : Cx}
theorem sw_dict {kx vx : Expr} {gens : List Comprehension} {sc : Scope} {at1 at2 : Pos} {nm : Str} {ln : Nat} {en : Env}
    (e1 : en.scope.kind = .function) (e2 : en.scope.names.lookup nm = some .local) (e3 : (at2.line == at1.line) = true)
    (e4 : (sc.names.any fun (n, k) => n == nm && (k == .local || k == .cell)) = false) :
    swapsWith (.DictComp kx vx gens sc at1) (some (.Name nm at2)) ln en = pure true := by
  have z1 : en.kindOf nm = some .local := e2
  have z2 : en.blockKind = .function := by
    unfold Env.blockKind
    rw [e1]
    rfl
  unfold swapsWith
  simp only [z2, z1, e4, e3, Expr.pos]
  rfl
abbrev BlkFam (X : Cx) (sc : Scope) (p : Cx → Prop) : Prop := ∀ (s : Shared) (H : Hp) (C : Addr) (cl : List (Str × Addr)) (fp : List Addr), p (X.blk s H sc (compEnvC sc cl C X.env) fp)
theorem ps_setDc {i : Nat} {nm : Str} {at2 : Pos} {kx vx tg iter : Expr} {ifs : List Expr} {sc : Scope} {own : List (Str × Nat)} {at1 at0 : Pos} {wi : TI} {g : TG} {tt : TT} {tk tv : TE}
    (hc : X.calm = true) (hN : X.N.Nodup) (hy : X.N[i]? = some nm) (hyl : X.env.scope.names.lookup nm = some .local)
    (hsw : swapsWith (.DictComp kx vx [⟨tg, iter, ifs, 0⟩] sc at1) (some (.Name nm at2)) at0.line X.env = pure true)
    (hi : PI X tg iter wi) (ok : BlkOk X.N X.env.scope sc own)
    (hg : BlkFam X sc fun Y => PG Y tg g) (ht : BlkFam X sc fun Y => PTs Y ifs tt) (hk : BlkFam X sc fun Y => PE Y kx tk) (he : BlkFam X sc fun Y => PE Y vx tv)
    (hs : ∀ x, foldedSetIterable iter X.env x = pure x := by intro _; rfl) :
    PS X (.Assign [.Name nm at2] (.DictComp kx vx [⟨tg, iter, ifs, 0⟩] sc at1) at0) (tAsg (tDc wi g tt tk tv (own.map (·.2))) (gName i)) := by
  constructor
  intro pins s σ H D I h
  rw [exec_Assign_Name_used _ _ _ _ hsw]
  refine wpAny_bind (wpAny_standAt (wpAny_bind ?_))
  show wpAny _ X.A (do
    let _ ← comprehension (.DictComp kx vx [⟨tg, iter, ifs, 0⟩] sc at1) sc X.env (firstIterPos [⟨tg, iter, ifs, 0⟩] at1) newDict false (eval iter X.env) (some (assign (.Name nm at2) X.env))) _ _ s
  have h1 : tDc wi g tt tk tv (own.map (·.2)) σ H (fun x H1 => gName i x σ H1 D.nx) := h
  refine wpAny_bind (thn (dc_core (Qf := fun _ s' => SP X pins D .next s') hc hN I hi ok hg ht hk he hs h1 ?_) fun _ s' hq => wpAny_pure (wpAny_pure hq))
  rintro L C s' m H' I' q hn ⟨f0, f1, f2, f3, f4, f5⟩
  show wpAny _ _ (assign (.Name nm at2) X.env (.ref L)) _ _ _
  refine wpAny_assign_Name (store_ok2 (v := V.ref L) I' hN hy (.inl hyl) rfl ?_ (.inr hyl))
  rintro s2 I2 ⟨a, sb, ha⟩
  have ne : C ≠ a := by
    rcases ha with z | z
    · rw [z]
      exact f1
    · intro e
      exact f4 nm a z e.symm
  refine ⟨m, hn.sameBut sb ne, fun h3 sb3 => ⟨_, H', ?_, q⟩⟩
  exact I2.turned (t' := s2.toks) (fun b o hb e => (sb3.2 b hb).trans e) f0 f1 f3 f4 f5
end
end Sm

set_option Elab.async false
set_option linter.all false
set_option maxRecDepth 100000
set_option maxHeartbeats 4000000
namespace Sm
open PySem PySem.Spec PyProof.Rows L2
/-! ### components -/
theorem lt_ext : ∀ {l m : List Int}, l.Pairwise (· < ·) → m.Pairwise (· < ·) → (∀ k, k ∈ l ↔ k ∈ m) → l = m
  | [], [], _, _, _ => rfl
  | [], b :: m, _, _, h => by have z := (h b).mpr List.mem_cons_self; cases z
  | a :: l, [], _, _, h => by have z := (h a).mp List.mem_cons_self; cases z
  | a :: l, b :: m, hl, hm, h => by
    obtain ⟨l1, l2⟩ := List.pairwise_cons.mp hl
    obtain ⟨m1, m2⟩ := List.pairwise_cons.mp hm
    have e : a = b := by
      rcases List.mem_cons.mp ((h a).mp List.mem_cons_self) with z | z
      · exact z
      · rcases List.mem_cons.mp ((h b).mpr List.mem_cons_self) with y | y
        · exact y.symm
        · have := m1 a z
          have := l1 b y
          omega
    subst e
    refine congrArg (a :: ·) (lt_ext l2 m2 fun k => ?_)
    constructor
    · intro hk
      rcases List.mem_cons.mp ((h k).mp (List.mem_cons_of_mem _ hk)) with z | z
      · have := l1 k hk
        omega
      · exact z
    · intro hk
      rcases List.mem_cons.mp ((h k).mpr (List.mem_cons_of_mem _ hk)) with z | z
      · have := m1 k hk
        omega
      · exact z
def vxs (n : Nat) : List Int := (List.range n).map fun (i : Nat) => (i : Int)
theorem vxs_lt (n : Nat) : (vxs n).Pairwise (· < ·) := List.pairwise_map.mpr (List.Pairwise.imp (fun {a b} h => by omega) List.pairwise_lt_range)
theorem mem_vxs {n : Nat} {k : Int} : k ∈ vxs n ↔ Vx n k := by
  unfold vxs Vx
  rw [List.mem_map]
  constructor
  · rintro ⟨i, hi, rfl⟩
    have := List.mem_range.mp hi
    omega
  · intro h
    exact ⟨k.toNat, List.mem_range.mpr (by omega), by omega⟩
open Classical in
noncomputable def compL (n : Nat) (qs : List Pr) (u : Int) : List Int := (vxs n).filter fun k => decide (Rch qs u k)
open Classical in
noncomputable def comps (n : Nat) (qs : List Pr) (i : Nat) : List (List Int) := ((List.range i).filter fun u => decide (∀ v : Nat, v < u → ¬ Rch qs v u)).map fun (u : Nat) => compL n qs (u : Int)
open Classical in
theorem compL_lt (n : Nat) (qs : List Pr) (u : Int) : (compL n qs u).Pairwise (· < ·) := (vxs_lt n).filter _
open Classical in
theorem mem_compL {n : Nat} {qs : List Pr} (ok : ∀ q ∈ qs, Okp n q) {u k : Int} (hu : Vx n u) : k ∈ compL n qs u ↔ Rch qs u k := by
  unfold compL
  rw [List.mem_filter, mem_vxs, decide_eq_true_eq]
  exact ⟨fun h => h.2, fun h => ⟨h.vx ok hu, h⟩⟩
open Classical in
theorem comps_no {n i : Nat} {qs : List Pr} (h : ∃ v : Nat, v < i ∧ Rch qs v i) : comps n qs (i + 1) = comps n qs i := by
  unfold comps
  rw [List.range_succ, List.filter_append, List.filter_cons_of_neg, List.filter_nil, List.append_nil]
  simp only [decide_eq_true_eq]
  intro z
  obtain ⟨v, hv, hr⟩ := h
  exact z v hv hr
open Classical in
theorem comps_yes {n i : Nat} {qs : List Pr} (h : ¬ ∃ v : Nat, v < i ∧ Rch qs v i) : comps n qs (i + 1) = comps n qs i ++ [compL n qs (i : Int)] := by
  unfold comps
  rw [List.range_succ, List.filter_append, List.filter_cons_of_pos, List.filter_nil, List.map_append]
  · rfl
  · simp only [decide_eq_true_eq]
    exact fun v hv hr => h ⟨v, hv, hr⟩
theorem seen_next {qs : List Pr} {i : Nat} {k : Int} (h : ∃ v : Nat, v < i ∧ Rch qs v i) : (∃ v : Nat, v < i + 1 ∧ Rch qs v k) ↔ ∃ v : Nat, v < i ∧ Rch qs v k := by
  obtain ⟨v, hv, hr⟩ := h
  constructor
  · rintro ⟨x, hx, hk⟩
    by_cases c : x = i
    · subst c
      exact ⟨v, hv, hr.trans hk⟩
    · exact ⟨x, by omega, hk⟩
  · rintro ⟨x, hx, hk⟩
    exact ⟨x, by omega, hk⟩
theorem seen_more {qs : List Pr} {i : Nat} {k : Int} : (∃ v : Nat, v < i + 1 ∧ Rch qs v k) ↔ (∃ v : Nat, v < i ∧ Rch qs v k) ∨ Rch qs i k := by
  constructor
  · rintro ⟨x, hx, hk⟩
    by_cases c : x = i
    · subst c
      exact .inr hk
    · exact .inl ⟨x, by omega, hk⟩
  · rintro (⟨x, hx, hk⟩ | hk)
    · exact ⟨x, by omega, hk⟩
    · exact ⟨i, by omega, hk⟩
abbrev ListsAt (H : Hp) : List Addr → List (List Int) → Prop := Paired fun a c => H a = some (.lst (c.map V.int))
theorem ListsAt.keep {H H' : Hp} (h : ∀ a c, H a = some (.lst c) → H' a = some (.lst c)) : ∀ {ps : List Addr} {cs : List (List Int)}, ListsAt H ps cs → ListsAt H' ps cs
  | _, _, .nil => .nil
  | _, _, .cons e t => .cons (h _ _ e) (ListsAt.keep h t)
theorem ListsAt.keep2 {H H' : Hp} {f : Addr} (h : ∀ a c, a ≠ f → H a = some (.lst c) → H' a = some (.lst c)) : ∀ {ps : List Addr} {cs : List (List Int)}, (∀ a ∈ ps, a ≠ f) → ListsAt H ps cs → ListsAt H' ps cs
  | _, _, _, .nil => .nil
  | _, _, n, .cons e t => .cons (h _ _ (n _ List.mem_cons_self) e) (ListsAt.keep2 h (fun a ha => n a (List.mem_cons_of_mem _ ha)) t)
theorem ListsAt.snoc {H : Hp} {a : Addr} {c : List Int} (e : H a = some (.lst (c.map V.int))) : ∀ {ps : List Addr} {cs : List (List Int)}, ListsAt H ps cs → ListsAt H (ps ++ [a]) (cs ++ [c])
  | _, _, .nil => .cons e .nil
  | _, _, .cons e' t => .cons e' (ListsAt.snoc e t)
open Classical in
/-- the components of what is left without G, of the least vertices below i -/
noncomputable def compG (n : Nat) (qs : List Pr) (G : List Int) (i : Nat) : List (List Int) := ((List.range i).filter fun (u : Nat) => decide ((u : Int) ∉ G ∧ ∀ v : Nat, v < u → ¬ Rch (cutE qs G) v u)).map fun (u : Nat) => compL n (cutE qs G) (u : Int)
open Classical in
theorem compG_nil (n : Nat) (qs : List Pr) (i : Nat) : compG n qs [] i = comps n qs i := by
  unfold compG comps
  rw [cutE_nil]
  simp
open Classical in
theorem compG_no {n i : Nat} {qs : List Pr} {G : List Int} (h : (i : Int) ∈ G ∨ ∃ v : Nat, v < i ∧ Rch (cutE qs G) v i) : compG n qs G (i + 1) = compG n qs G i := by
  unfold compG
  rw [List.range_succ, List.filter_append, List.filter_cons_of_neg, List.filter_nil, List.append_nil]
  simp only [decide_eq_true_eq]
  rintro ⟨z1, z2⟩
  rcases h with h | ⟨v, hv, hr⟩
  · exact z1 h
  · exact z2 v hv hr
open Classical in
theorem compG_yes {n i : Nat} {qs : List Pr} {G : List Int} (h1 : (i : Int) ∉ G) (h : ¬ ∃ v : Nat, v < i ∧ Rch (cutE qs G) v i) : compG n qs G (i + 1) = compG n qs G i ++ [compL n (cutE qs G) (i : Int)] := by
  unfold compG
  rw [List.range_succ, List.filter_append, List.filter_cons_of_pos, List.filter_nil, List.map_append]
  · rfl
  · simp only [decide_eq_true_eq]
    exact ⟨h1, fun v hv hr => h ⟨v, hv, hr⟩⟩
theorem Rch.stay {qs : List Pr} {G : List Int} {a b : Int} (h : Rch (cutE qs G) a b) (ha : a ∉ G) : b ∉ G := by
  cases h with
  | refl => exact ha
  | step _ hn => exact (near_cut.mp hn).2.2
theorem Rch.stuck {qs : List Pr} {G : List Int} {a b : Int} (h : Rch (cutE qs G) a b) (ha : a ∈ G) : b = a := by
  induction h with
  | refl => rfl
  | step _ hn ih => subst ih; exact absurd ha (near_cut.mp hn).2.1
abbrev sPcs : Stmt := topS 16
abbrev sPcw : Stmt := topS 17
abbrev sCon : Stmt := topS 19
def spPcw (K : PySem.W.Frag) (C : Addr) : Sp := fun vs H Q _ => ∃ (g t : Addr) (n : Nat) (qs : List Pr) (G : List Int), vs = [.ref g, .ref t] ∧ GraphAt K C H g n qs ∧ SqT K H t (G.map V.int) ∧ G.Nodup ∧ (∀ k ∈ G, Vx n k) ∧
  ∀ (H' : Hp) (f : Addr) (ps : List Addr), Same H H' → H f = none → H' f = some (.lst (ps.map V.ref)) → ListsAt H' ps (compG n qs G n) → (∀ a ∈ ps, a ≠ f) → Q (.ref f) H'
def spPcs (K : PySem.W.Frag) (C : Addr) : Sp := fun vs H Q _ => ∃ (g : Addr) (n : Nat) (qs : List Pr), vs = [.ref g] ∧ GraphAt K C H g n qs ∧
  ∀ (H' : Hp) (f : Addr) (ps : List Addr), Same H H' → H f = none → H' f = some (.lst (ps.map V.ref)) → ListsAt H' ps (comps n qs n) → Q (.ref f) H'
def spCon (K : PySem.W.Frag) (C : Addr) : Sp := fun vs H Q _ => ∃ (g : Addr) (n : Nat) (qs : List Pr), vs = [.ref g] ∧ GraphAt K C H g n qs ∧ ∀ H', Same H H' → Q (.bl (decide ((comps n qs n).length ≤ 1))) H'
section
variable {P : Program} {w : World} {K : PySem.W.Frag} {mg : Str → Option Value} {base : Heap}
theorem scPcw : FnScope ["graph", "gone", "seen", "found", "start", "vertex"] ["graph", "gone"] (defScope sPcw) := ⟨rfl, rfl, rfl, by decide +kernel, rfl, by decide +kernel, by decide +kernel⟩
theorem ok_pcw {f C fR : Addr} {fd fdR : FuncData} (F : Fun K "pieces_without" "pieces_without" sPcw f fd) (T : TxG K mg C)
    (GR : FnOk P w K mg base (L2.CX P w) 5 fR fdR ["graph", "start", "seen"] (spRch K C)) (kR : PySem.W.keepIn K (.ref fR) = true) (bR : Binds K fdR ["graph", "start", "seen"] []) (gR : mg "reached" = some (.ref fR))
    (mr : mg "range" = none) :
    FnOk P w K mg base (L2.CX P w) 6 f fd ["graph", "gone"] (spPcw K C) := by
  refine F.okX scPcw (fun vs H Q E h => ?_) (fun cdv A outer s H vs Q E hr h => ?_)
  · obtain ⟨g, t, n, qs, G, rfl, _⟩ := h
    rfl
  · obtain ⟨g, t, n, qs, G, rfl, GA, hT, ndG, vxG, q⟩ := h
    have lim := GA.lim
    have hu := hu_of hr
    have ⟨dx, et, nt, hg, _⟩ := GA.ob
    have llG := few_vx ndG vxG
    refine ⟨_, pss_cons (ps_setDc (i := 2) (own := [("vertex", 5)]) (g := gName 5) (tt := tYes) (by rfl) scPcw.nd rfl rfl (sw_dict rfl rfl rfl (by decide +kernel)) (pi_tup (pv 1))
        (blkOk_by (own := [("vertex", 5)]) (N := ["graph", "gone", "seen", "found", "start", "vertex"]) (sc := defScope sPcw) (by decide +kernel)) (fun _ _ _ _ _ => pg_name (i := 5) scPcw.nd rfl (Or.inl rfl)) (fun _ _ _ _ _ => pts_nil) (fun _ _ _ _ _ => pv 5) (fun _ _ _ _ _ => pe_bl))
      (pss_cons (ps_set (i := 3) scPcw.nd rfl (.inl rfl) (pe_lst pa_nil))
      (pss_cons (ps_for (passes_of rfl) rfl (pi_range1 rfl mr (pa_cons (pe_fld (pv 0) rfl) pa_nil)) (pg_name (i := 4) scPcw.nd rfl (.inl rfl))
        (pss_one (ps_if (pt_cmp (pc_dnotin hu (pv 4) (pv 2)))
          (pss_one (ps_expr (pe_bm PySem.F.plainAttrs_list PySem.F.slot_list_append PySem.F.type_list_append mt_append (pv 3)
            (pa_cons (pe_call GR hr (by rfl) gR kR bR .nil (passes_call (takes_of rfl rfl rfl rfl) fun _ _ _ _ h => h) (pa_cons (pv 0) (pa_cons (pv 4) (pa_cons (pv 2) pa_nil)))) pa_nil)))) pss_nil)))
      (pss_one (ps_ret (pv 3))))), ?_⟩
    refine ⟨_, rfl, t, rfl, ⟨_, hT⟩, fun d nd => ?_⟩
    refine dc_tup (K := K) (a := t) (xs := G.map V.int) (fun i H' => Same H H' ∧ ∃ kvs : List (Key × V), H' d = some (.dK kvs) ∧ kvs.map (·.1) = (G.take i).map Sum.inl) ⟨same_upd nd, [], upd_same, by rw [List.take_zero]; rfl⟩ (fun i H' _ h => same_sqT h.1 hT) ?_ ?_
    · rintro i x H' hx ⟨sm, kvs, hd, hk⟩
      rw [List.getElem?_map] at hx
      cases ek : G[i]? with
      | none => rw [ek] at hx; cases hx
      | some k =>
        rw [ek] at hx
        cases hx
        have tk := L2.take_next ek
        have nk : k ∉ G.take i := fun z => by
          have nd2 := ndG
          rw [← List.take_append_drop (i + 1) G, tk] at nd2
          exact absurd rfl ((List.nodup_append.mp (List.nodup_append.mp nd2).1).2.2 _ z _ (List.mem_singleton.mpr rfl))
        have lk : kvs.length ≤ 60 := by
          have := congrArg List.length hk
          rw [List.length_map, List.length_map, List.length_take] at this
          omega
        exact ⟨rfl, _, rfl, kvs, Sum.inl k, rfl, hd, small1000 (by omega), same_put sm nd, _, upd_same, by rw [putK_keys hk nk, tk]⟩
    · rintro H1 ⟨s1, kvs0, hd0, hk0⟩
      rw [List.length_map, List.take_length] at hk0
      refine ⟨Nat.zero_le _, fun f1 nf => ?_⟩
      have nfH : H f1 = none := s1.free nf
      have df : d ≠ f1 := fun z => by rw [← z, hd0] at nf; cases nf
      have s2 := same_upd (o := .lst []) nf
      refine ⟨_, rfl, g, C, dx, _, .int n, rfl, s2 _ _ (s1 _ _ hg), T.cl, T.nS, gf_size _ _ _, n, rfl, by omega, by omega, ?_⟩
      have toNat : ((n : Nat) : Int).toNat = n := by omega
      rw [toNat]
      refine for_range (lo := 0) (n := n) (fun i σ H' => ∃ (y4 : Option V) (L : List Int) (kvs : List (Key × V)) (ps : List Addr), σ = [some (.ref g), some (.ref t), some (.ref d), some (.ref f1), y4, none] ∧ Same H H' ∧ H' d = some (.dK kvs) ∧ kvs.map (·.1) = L.map Sum.inl ∧ H' f1 = some (.lst (ps.map V.ref)) ∧ L.Nodup ∧
        (∀ k, k ∈ L ↔ k ∈ G ∨ ∃ v : Nat, v < i ∧ (v : Int) ∉ G ∧ Rch (cutE qs G) v k) ∧ ListsAt H' ps (compG n qs G i) ∧ (∀ a ∈ ps, a ≠ f1 ∧ a ≠ d))
        ⟨none, G, kvs0, [], rfl, s1.trans s2, s2 _ _ hd0, hk0, upd_same, ndG, fun k => ⟨fun h => .inl h, (fun h => h.elim id fun ⟨v, hv, _⟩ => by omega)⟩, .nil, fun a ha => by cases ha⟩ ?_ ?_
      · rintro i σ H' hi ⟨y4, L, kvs, ps, rfl, sm, hd, hk, hf, ndL, hL, pl, na⟩
        have e0 : (0 : Int) + (i : Int) = (i : Int) := by omega
        have okc : ∀ q ∈ cutE qs G, Okp n q := fun q hq => GA.ok q (mem_cutE.mp hq).1
        have vxL : ∀ k ∈ L, Vx n k := fun k hk => by
          rcases (hL k).mp hk with z | ⟨v, hv, _, hr'⟩
          · exact vxG k z
          · exact hr'.vx okc (by unfold Vx; omega)
        rw [e0]
        refine ⟨_, rfl, _, rfl, d, _, rfl, DGet.k (k := Sum.inl (i : Int)) hd, _, rfl, ?_⟩
        rw [valV_keys hk]
        by_cases c : (i : Int) ∈ L
        · rw [decide_eq_true c]
          have ex := (hL _).mp c
          have ex' : (i : Int) ∈ G ∨ ∃ v : Nat, v < i ∧ Rch (cutE qs G) v i := ex.imp id fun ⟨v, hv, _, hr'⟩ => ⟨v, hv, hr'⟩
          refine iteF ⟨_, L, kvs, ps, rfl, sm, hd, hk, hf, ndL, fun k => (hL k).trans ?_, by rw [compG_no ex']; exact pl, na⟩
          constructor
          · exact fun h => h.imp id fun ⟨v, hv, r⟩ => ⟨v, by omega, r⟩
          · rintro (h | ⟨v, hv, ng, r⟩)
            · exact .inl h
            · by_cases cv : v = i
              · subst cv
                rcases ex with z | ⟨x, hx, nx, rx⟩
                · exact absurd z ng
                · exact .inr ⟨x, hx, nx, rx.trans r⟩
              · exact .inr ⟨v, by omega, ng, r⟩
        · rw [decide_eq_false c]
          have nG : (i : Int) ∉ G := fun z => c ((hL _).mpr (.inl z))
          have nex : ¬ ∃ v : Nat, v < i ∧ Rch (cutE qs G) v i := fun ⟨v, hv, r⟩ => by
            by_cases cg : (v : Int) ∈ G
            · have := r.stuck cg
              omega
            · exact c ((hL _).mpr (.inr ⟨v, hv, cg, r⟩))
          refine iteT ⟨_, rfl, .inl ⟨rfl, _, SqL.of hf⟩, _, rfl, _, rfl, _, rfl, g, d, n, qs, G, L, kvs, i, H, rfl, GA, sm, nd, hi, hd, hk, ndL, vxL, fun k hk => (hL k).mpr (.inl hk), c, fun k hk ng j hj => ?_, fun H2 l1 ns L2 kvs2 b2 nl1 hl1 pw mem hd2 hk2 nd2 mem2 => ?_⟩
          · rcases (hL k).mp hk with z | ⟨v, hv, nv, r⟩
            · exact absurd z ng
            · by_cases cj : j ∈ G
              · exact (hL j).mpr (.inl cj)
              · exact (hL j).mpr (.inr ⟨v, hv, nv, .step r (near_cut.mpr ⟨hj, ng, cj⟩)⟩)
          · have hf2 := b2 _ _ hf df.symm
            have f1l : f1 ≠ l1 := fun z => by rw [← z, hf] at nl1; cases nl1
            have dl1 : d ≠ l1 := fun z => by rw [← z, hd] at nl1; cases nl1
            have psl : ps.length ≤ 60 := by
              have z := pl.length
              rw [z]
              unfold compG
              rw [List.length_map]
              exact Nat.le_trans (List.length_filter_le _ _) (by rw [List.length_range]; omega)
            refine ⟨f1, _, _, rfl, rfl, hf2, by rw [List.length_map]; exact small1000 (by omega), ?_⟩
            have nse : ns = compL n (cutE qs G) (i : Int) := lt_ext pw (compL_lt n _ _) fun k => (mem k).trans (mem_compL okc (by unfold Vx; omega)).symm
            refine ⟨_, L2, kvs2, ps ++ [l1], rfl, fun b o e => ?_, by rw [upd_ne df]; exact hd2, hk2, by rw [upd_same, List.map_append]; rfl, nd2, fun k => ?_, ?_, fun a ha => ?_⟩
            · rw [upd_ne (ne_of_none e nfH)]
              exact b2 _ _ (sm _ _ e) (ne_of_none e nd)
            · rw [mem2, hL, or_assoc]
              refine or_congr Iff.rfl ⟨?_, ?_⟩
              · rintro (⟨v, hv, r⟩ | r)
                · exact ⟨v, by omega, r⟩
                · exact ⟨i, by omega, nG, r⟩
              · rintro ⟨v, hv, ng, r⟩
                by_cases cv : v = i
                · subst cv
                  exact .inr r
                · exact .inl ⟨v, by omega, ng, r⟩
            · rw [compG_yes nG nex, ← nse]
              refine ListsAt.snoc (by rw [upd_ne f1l.symm]; exact hl1) ?_
              have keepL : ∀ {qs' : List Addr} {cs : List (List Int)}, (∀ a ∈ qs', a ≠ f1 ∧ a ≠ d) → ListsAt H' qs' cs → ListsAt (upd H2 f1 (.lst (ps.map V.ref ++ [.ref l1]))) qs' cs := by
                intro qs' cs hn hh
                induction hh with
                | nil => exact .nil
                | @cons a c qs'' cs' e t ih =>
                  have z := hn a List.mem_cons_self
                  exact .cons (by rw [upd_ne z.1]; exact b2 _ _ e z.2) (ih fun b hb => hn b (List.mem_cons_of_mem _ hb))
              exact keepL na pl
            · rcases List.mem_append.mp ha with z | z
              · exact na a z
              · rw [List.mem_singleton.mp z]; exact ⟨f1l.symm, dl1.symm⟩
      · rintro σ H' ⟨y4, L, kvs, ps, rfl, sm, hd, hk, hf, ndL, hL, pl, na⟩
        exact ⟨_, rfl, q H' f1 ps sm nfH hf pl fun a ha => (na a ha).1⟩
theorem scPcs : FnScope ["graph"] ["graph"] (defScope sPcs) := ⟨rfl, rfl, rfl, by decide +kernel, rfl, by decide +kernel, by decide +kernel⟩
theorem ok_pcs {f C fR : Addr} {fd fdR : FuncData} (F : Fun K "pieces" "pieces" sPcs f fd)
    (GR : FnOk P w K mg base (L2.CX P w) 6 fR fdR ["graph", "gone"] (spPcw K C)) (kR : PySem.W.keepIn K (.ref fR) = true) (bR : Binds K fdR ["graph", "gone"] []) (gR : mg "pieces_without" = some (.ref fR)) :
    FnOk P w K mg base (L2.CX P w) 7 f fd ["graph"] (spPcs K C) := by
  refine F.okX scPcs (fun vs H Q E h => ?_) (fun cdv A outer s H vs Q E hr h => ?_)
  · obtain ⟨g, n, qs, rfl, _⟩ := h
    rfl
  · obtain ⟨g, n, qs, rfl, GA, q⟩ := h
    refine ⟨_, pss_one (ps_ret (pe_call GR hr (by rfl) gR kR bR .nil (passes_call (takes_of rfl rfl rfl rfl) fun _ _ _ _ h => h) (pa_cons (pv 0) (pa_cons (pe_tup pa_nil) pa_nil)))), ?_⟩
    refine ⟨_, rfl, Nat.zero_le _, fun t nt => ?_⟩
    have s1 := same_upd (o := .tup []) nt
    refine ⟨g, t, n, qs, [], rfl, GA.same s1, SqT.of upd_same, List.nodup_nil, (fun k hk => by cases hk), fun H' f1 ps sm nf hf pl na => ?_⟩
    refine q H' f1 ps (s1.trans sm) (s1.free nf) hf ?_
    rw [compG_nil] at pl
    exact pl
theorem scCon : FnScope ["graph"] ["graph"] (defScope sCon) := ⟨rfl, rfl, rfl, by decide +kernel, rfl, by decide +kernel, by decide +kernel⟩
theorem ok_con {f C fP : Addr} {fd fdP : FuncData} (F : Fun K "is_connected" "is_connected" sCon f fd)
    (GP : FnOk P w K mg base (L2.CX P w) 7 fP fdP ["graph"] (spPcs K C)) (kP : PySem.W.keepIn K (.ref fP) = true) (bP : Binds K fdP ["graph"] []) (gP : mg "pieces" = some (.ref fP)) (ml : mg "len" = none) :
    FnOk P w K mg base (L2.CX P w) 8 f fd ["graph"] (spCon K C) := by
  refine F.okX scCon (fun vs H Q E h => ?_) (fun cdv A outer s H vs Q E hr h => ?_)
  · obtain ⟨g, n, qs, rfl, _⟩ := h
    rfl
  · obtain ⟨g, n, qs, rfl, G, q⟩ := h
    refine ⟨_, pss_one (ps_ret (pe_cmpR op_le (pe_callB call_len_seq (by rfl) ml PySem.boot_len (pa_cons (pe_call GP hr (by rfl) gP kP bP .nil (passes_call (takes_of rfl rfl rfl rfl) fun _ _ _ _ h => h) (pa_cons (pv 0) pa_nil)) pa_nil)) pe_int (nomark _))), ?_⟩
    refine ⟨_, rfl, g, n, qs, rfl, G, fun H' f1 ps sm nf hf pl => ?_⟩
    refine ⟨f1, _, rfl, .inl (SqL.of hf), _, _, rfl, rfl, ?_⟩
    have z := pl.length
    have e : decide (((ps.map V.ref).length : Int) ≤ 1) = decide ((comps n qs n).length ≤ 1) := by
      rw [List.length_map, z]
      by_cases c : (comps n qs n).length ≤ 1
      · rw [decide_eq_true c, decide_eq_true (by omega)]
      · rw [decide_eq_false c, decide_eq_false (by omega)]
    show Q (.bl (decide (((ps.map V.ref).length : Int) ≤ 1))) H'
    rw [e]
    exact q H' sm
end
end Sm

set_option Elab.async false
set_option linter.all false
set_option maxRecDepth 100000
set_option maxHeartbeats 4000000
namespace Sm
open PySem PySem.Spec PyProof.Rows L2
abbrev sOrd : Stmt := topS 25
abbrev sLpt : Stmt := topS 26
theorem rg_vxs (n : Nat) : rgV 0 (n : Int) = (vxs n).map V.int := by
  unfold rgV vxs
  rw [List.map_map]
  have e : ((n : Int) - 0).toNat = n := by omega
  rw [e]
  exact List.map_congr_left fun i _ => by
    show V.int (0 + (i : Int)) = V.int (i : Int)
    rw [Int.zero_add]
/-- an order of 0 .. n - 1, drawn -/
def spOrd (K : PySem.W.Frag) : Sp := fun vs H Q _ => ∃ (a b : Addr) (ns : List Int) (i n : Nat), vs = [.ref a, .ref b, .int n] ∧ a ≠ b ∧ SqL K H a (ns.map V.int) ∧ (∀ x ∈ ns, Dig x) ∧ H b = some (.lst [.int i]) ∧ n ≤ 60 ∧
  ∀ (H' : Hp) (l : Addr) (os : List Int) (i' : Nat), But b H H' → H' b = some (.lst [.int i']) → H l = none → H' l = some (.lst (os.map V.int)) → os.Perm (vxs n) → Q (.ref l) H'
def lptB (es : List Pr) (s : List Int) (q : Pr) : Bool := decide ((if s.getD q.2.toNat 0 < s.getD q.1.toNat 0 then s.getD q.2.toNat 0 else s.getD q.1.toNat 0, if s.getD q.2.toNat 0 > s.getD q.1.toNat 0 then s.getD q.2.toNat 0 else s.getD q.1.toNat 0) ∈ es)
def lpart (es : List Pr) (s : List Int) : List Pr := (pairsL s.length).filter (lptB es s)
def spLpt (K : PySem.W.Frag) : Sp := fun vs H Q _ => ∃ (e a : Addr) (as : List Addr) (es : List Pr) (s : List Int), vs = [.ref e, .ref a] ∧ SqL K H e (as.map V.ref) ∧ PairsAt K H as es ∧ SqL K H a (s.map V.int) ∧ s.length ≤ 20 ∧
  ∀ (H' : Hp) (f : Addr) (fs : List Addr), Same H H' → H f = none → H' f = some (.lst (fs.map V.ref)) → PairsAt K H' fs (lpart es s) → Q (.ref f) H'
theorem erase_perm {l : List Int} {k : Nat} {y : Int} (h : l[k]? = some y) : (y :: l.eraseIdx k).Perm l := by
  obtain ⟨hk, e⟩ := List.getElem?_eq_some_iff.mp h
  rw [List.eraseIdx_eq_take_drop_succ]
  have z := split_at h
  conv => rhs; rw [z]
  exact List.perm_middle.symm
section
variable {P : Program} {w : World} {K : PySem.W.Frag} {mg : Str → Option Value} {base : Heap}
theorem scOrd : FnScope ["numbers", "place", "size", "order", "left", "k"] ["numbers", "place", "size"] (defScope sOrd) := ⟨rfl, rfl, rfl, by decide +kernel, rfl, by decide +kernel, by decide +kernel⟩
theorem ok_ord {f fT : Addr} {fd fdT : FuncData} (F : Fun K "_law_order" "_law_order" sOrd f fd)
    (GT : FnOk P w K mg base CX0 1 fT fdT ["numbers", "place"] (spTake K)) (kT : PySem.W.keepIn K (.ref fT) = true) (bT : Binds K fdT ["numbers", "place"] []) (gT : mg "_law_take" = some (.ref fT))
    (mli : mg "list" = none) (mr : mg "range" = none) (ml : mg "len" = none) :
    FnOk P w K mg base CX0 2 f fd ["numbers", "place", "size"] (spOrd K) := by
  refine F.ok scOrd (fun vs H Q E h => ?_) (fun cdv A outer s H vs Q E hr h => ?_)
  · obtain ⟨a, b, ns, i, n, rfl, _⟩ := h
    rfl
  · obtain ⟨a, b, ns, i, n, rfl, ne, hS, hd, hb, hn, q⟩ := h
    refine ⟨_, pss_cons (ps_set (i := 3) scOrd.nd rfl (.inl rfl) (pe_lst pa_nil))
      (pss_cons (ps_set (i := 4) scOrd.nd rfl (.inl rfl) (pe_listRg rfl (by rfl) mli (prg_1 (by rfl) mr (pv 2))))
      (pss_cons (ps_for PassesOwn.never rfl (pi_range1 rfl mr (pa_cons (pv 2) pa_nil)) (pg_name (i := 5) scOrd.nd rfl (.inl rfl))
        (pss_one (ps_expr (pe_bm PySem.F.plainAttrs_list PySem.F.slot_list_append PySem.F.type_list_append mt_append (pv 3)
          (pa_cons (pe_bm PySem.F.plainAttrs_list PySem.F.slot_list_pop PySem.F.type_list_pop mt_popAt (pv 4) (pa_cons (pe_op op_mod (pe_call GT hr (by rfl) gT kT bT .nil pass0 (pa_cons (pv 0) (pa_cons (pv 1) pa_nil))) (pe_callB call_len_seq (by rfl) ml PySem.boot_len (pa_cons (pv 4) pa_nil))) pa_nil)) pa_nil)))))
      (pss_one (ps_ret (pv 3))))), ?_⟩
    refine ⟨Nat.zero_le _, fun o no => ?_⟩
    have s1 := same_upd (o := .lst []) no
    refine ⟨_, rfl, n, rfl, RgOk.of_le (by omega) (by omega) (by omega) (by omega), fun l nl => ?_⟩
    have s2 := same_upd (o := .lst (rgV 0 (n : Int))) nl
    have ol : o ≠ l := fun z => by rw [← z, upd_same] at nl; cases nl
    have ob : o ≠ b := fun z => by rw [z, hb] at no; cases no
    have lb : l ≠ b := fun z => by rw [z, s1 _ _ hb] at nl; cases nl
    have nlH : H l = none := s1.free nl
    refine ⟨_, rfl, n, rfl, by omega, by omega, ?_⟩
    have toNat : ((n : Nat) : Int).toNat = n := by omega
    rw [toNat]
    refine for_range (lo := 0) (n := n) (fun t σ H' => ∃ (y5 : Option V) (os ls : List Int) (i' : Nat), σ = [some (.ref a), some (.ref b), some (.int n), some (.ref o), some (.ref l), y5] ∧ But b H H' ∧ H' b = some (.lst [.int i']) ∧ H' o = some (.lst (os.map V.int)) ∧ H' l = some (.lst (ls.map V.int)) ∧
      (os ++ ls).Perm (vxs n) ∧ ls.length + t = n) ⟨none, [], vxs n, i, rfl, Same.but (s1.trans s2), s2 _ _ (s1 _ _ hb), s2 _ _ upd_same, by rw [upd_same, rg_vxs], List.Perm.refl _, by unfold vxs; rw [List.length_map, List.length_range]; rfl⟩ ?_ ?_
    · rintro t σ H' ht ⟨y5, os, ls, i', rfl, bh, ib, ho, hl, pm, len⟩
      refine ⟨_, rfl, .inl ⟨rfl, _, SqL.of ho⟩, _, rfl, .inl ⟨rfl, _, SqL.of hl⟩, ?_⟩
      refine ⟨_, rfl, _, rfl, a, b, ns, i', rfl, ne, bh.sqL hb hS ne, hd, ib, fun x i2 H2 dx b2 _ e2 => ?_⟩
      have hl2 := b2 _ _ hl lb
      have ho2 := b2 _ _ ho ob
      have lpos : 0 < ls.length := by omega
      refine ⟨_, rfl, l, _, rfl, .inl (SqL.of hl2), _, _, rfl, rfl, (by show (0 : Int) < ((ls.map V.int).length : Int); rw [List.length_map]; omega), ?_⟩
      dsimp only
      rw [List.length_map]
      have m1 : 0 ≤ x % (ls.length : Int) := Int.emod_nonneg _ (by omega)
      have m2 : x % (ls.length : Int) < ls.length := Int.emod_lt_of_pos _ (by omega)
      obtain ⟨k, hk⟩ : ∃ k : Nat, x % (ls.length : Int) = k := ⟨(x % (ls.length : Int)).toNat, by omega⟩
      rw [hk] at m2 ⊢
      have kl : k < ls.length := by omega
      have ek : ls[k]? = some ls[k] := List.getElem?_eq_getElem kl
      have six : seqIndex? (k : Int) (ls.map V.int).length = some k := by
        unfold seqIndex?
        rw [List.length_map]
        simp
        omega
      refine ⟨l, _, (k : Int), k, .int ls[k], rfl, rfl, hl2, by omega, by omega, six, by rw [List.getElem?_map, ek]; rfl, ?_⟩
      have ev : (ls.map V.int).eraseIdx k = (ls.eraseIdx k).map V.int := by
        rw [List.eraseIdx_eq_take_drop_succ, List.eraseIdx_eq_take_drop_succ, List.map_append, List.map_take, List.map_drop]
      rw [ev]
      have lo : os.length ≤ n := by
        have z := pm.length_eq
        rw [List.length_append] at z
        unfold vxs at z
        rw [List.length_map, List.length_range] at z
        omega
      refine ⟨o, _, _, rfl, rfl, by rw [upd_ne ol]; exact ho2, by rw [List.length_map]; exact small1000 (by omega), ?_⟩
      refine ⟨_, os ++ [ls[k]], ls.eraseIdx k, i2, rfl, ((bh.trans b2).new nlH).new no, by rw [upd_ne ob.symm, upd_ne lb.symm]; exact e2, by rw [upd_same, List.map_append]; rfl, by rw [upd_ne ol.symm, upd_same], ?_, by rw [List.length_eraseIdx_of_lt kl]; omega⟩
      rw [List.append_assoc]
      exact (List.Perm.append_left os (erase_perm ek)).trans pm
    · rintro σ H' ⟨y5, os, ls, i', rfl, bh, ib, ho, hl, pm, len⟩
      have z : ls = [] := List.eq_nil_of_length_eq_zero (by omega)
      subst z
      rw [List.append_nil] at pm
      exact ⟨_, rfl, q H' o os i' bh ib no ho pm⟩
theorem scLpt : FnScope ["edges", "vertices", "found", "k", "j", "pair"] ["edges", "vertices"] (defScope sLpt) := ⟨rfl, rfl, rfl, by decide +kernel, rfl, by decide +kernel, by decide +kernel⟩
theorem ok_lpt {f : Addr} {fd : FuncData} (F : Fun K "_law_part" "_law_part" sLpt f fd) (mr : mg "range" = none) (ml : mg "len" = none) (mi : mg "min" = none) (mx : mg "max" = none) :
    FnOk P w K mg base CX0 2 f fd ["edges", "vertices"] (spLpt K) := by
  refine F.ok scLpt (fun vs H Q E h => ?_) (fun cdv A outer s H vs Q E hr h => ?_)
  · obtain ⟨e, a, as, es, s, rfl, _⟩ := h
    rfl
  · obtain ⟨e, a, as, es, s, rfl, hE, hP, hS, hl, q⟩ := h
    refine ⟨_, pss_cons (ps_set (i := 2) scLpt.nd rfl (.inl rfl) (pe_lst pa_nil))
      (pss_cons (ps_for PassesOwn.never rfl (pi_range1 rfl mr (pa_cons (pe_callB call_len_seq (by rfl) ml PySem.boot_len (pa_cons (pv 1) pa_nil)) pa_nil)) (pg_name (i := 3) scLpt.nd rfl (.inl rfl))
        (pss_one (ps_for PassesOwn.never rfl (pi_range2 (by rfl) mr (pa_cons (pe_op op_add (pv 3) pe_int) (pa_cons (pe_callB call_len_seq (by rfl) ml PySem.boot_len (pa_cons (pv 1) pa_nil)) pa_nil))) (pg_name (i := 4) scLpt.nd rfl (.inl rfl))
          (pss_cons (ps_set (i := 5) scLpt.nd rfl (.inl rfl) (pe_tup (pa_cons (pe_callB (call_min2 rfl) (by rfl) mi (by decide +kernel) (pa_cons (pe_ix ix_list (pv 1) (pv 3) (fun _ _ => rfl)) (pa_cons (pe_ix ix_list (pv 1) (pv 4) (fun _ _ => rfl)) pa_nil)))
            (pa_cons (pe_callB (call_max2 rfl) (by rfl) mx (by decide +kernel) (pa_cons (pe_ix ix_list (pv 1) (pv 3) (fun _ _ => rfl)) (pa_cons (pe_ix ix_list (pv 1) (pv 4) (fun _ _ => rfl)) pa_nil))) pa_nil))))
          (pss_one (ps_if (pt_cmpR (op_inD (u65 hr)) (pv 5) (pv 0) (by rfl))
            (pss_one (ps_expr (pe_bm PySem.F.plainAttrs_list PySem.F.slot_list_append PySem.F.type_list_append mt_append (pv 2) (pa_cons (pe_tup (pa_cons (pv 3) (pa_cons (pv 4) pa_nil))) pa_nil)))) pss_nil))))))
      (pss_one (ps_ret (pv 2)))), ?_⟩
    refine ⟨Nat.zero_le _, fun p np => ?_⟩
    have s1 : Same H (upd H p (.lst [])) := same_upd np
    refine ⟨_, rfl, a, _, rfl, .inl (s1.seq hS), _, rfl, by rw [List.length_map]; omega, by rw [List.length_map]; omega, ?_⟩
    have toNat : (((s.map V.int).length : Nat) : Int).toNat = s.length := by rw [List.length_map]; omega
    rw [toNat]
    have hn2 : s.length * s.length ≤ 20 * 20 := Nat.mul_le_mul hl hl
    refine for_range (lo := 0) (n := s.length) (fun u σ H' => ∃ (y3 y4 y5 : Option V) (fs : List Addr), σ = [some (.ref e), some (.ref a), some (.ref p), y3, y4, y5] ∧ Same H H' ∧ H' p = some (.lst (fs.map V.ref)) ∧ PairsAt K H' fs (((List.range u).flatMap fun u => rowP s.length u).filter (lptB es s)))
      ⟨none, none, none, [], rfl, s1, upd_same, .nil⟩ ?_ ?_
    · rintro u σ H' hu ⟨y3, y4, y5, fs, rfl, sm, ep, pa⟩
      refine ⟨_, rfl, _, _, rfl, rfl, _, rfl, a, _, rfl, .inl (sm.seq hS), (0 + (u : Int) + 1), _, rfl, ⟨by omega, by omega, by omega, by rw [List.length_map]; omega⟩, ?_⟩
      have toN : (((s.map V.int).length : Int) - (0 + (u : Int) + 1)).toNat = s.length - (u + 1) := by rw [List.length_map]; omega
      rw [toN]
      refine for_range (lo := (0 + (u : Int) + 1)) (n := s.length - (u + 1)) (fun i σ H' => ∃ (y4 y5 : Option V) (fs : List Addr), σ = [some (.ref e), some (.ref a), some (.ref p), some (.int (0 + (u : Int))), y4, y5] ∧ Same H H' ∧ H' p = some (.lst (fs.map V.ref)) ∧
        PairsAt K H' fs ((((List.range u).flatMap fun u => rowP s.length u) ++ (rowP s.length u).take i).filter (lptB es s)))
        ⟨_, _, fs, rfl, sm, ep, by rw [List.take_zero, List.append_nil]; exact pa⟩ ?_ ?_
      · rintro i σ H' hi ⟨y4, y5, fs, rfl, sm, ep, pa⟩
        have hS' := sm.seq hS
        have a1 : (0 : Int) + (u : Int) = (u : Int) := by omega
        have a2 : (u : Int) + 1 + (i : Int) = ((u + 1 + i : Nat) : Int) := by omega
        have jl : u + 1 + i < s.length := by omega
        have gu : (s.map V.int)[u]? = some (.int s[u]) := by rw [List.getElem?_map, List.getElem?_eq_getElem hu]; rfl
        have gj : (s.map V.int)[u + 1 + i]? = some (.int s[u + 1 + i]) := by rw [List.getElem?_map, List.getElem?_eq_getElem jl]; rfl
        have du : s.getD u 0 = s[u] := by simp [List.getD_eq_getElem?_getD, List.getElem?_eq_getElem hu]
        have dj : s.getD (u + 1 + i) 0 = s[u + 1 + i] := by simp [List.getD_eq_getElem?_getD, List.getElem?_eq_getElem jl]
        rw [a1, a2]
        refine ⟨_, rfl, _, rfl, a, _, _, _, rfl, rfl, hS', atI_nat gu, _, rfl, _, rfl, a, _, _, _, rfl, rfl, hS', atI_nat gj, _, _, rfl, _, rfl, _, rfl, a, _, _, _, rfl, rfl, hS', atI_nat gu, _, rfl, _, rfl, a, _, _, _, rfl, rfl, hS', atI_nat gj, _, _, rfl, (by show 2 ≤ sizeLine; decide), fun t nt => ?_⟩
        have st := same_upd (o := .tup [V.int (if s[u + 1 + i] < s[u] then s[u + 1 + i] else s[u]), V.int (if s[u + 1 + i] > s[u] then s[u + 1 + i] else s[u])]) nt
        have pt : p ≠ t := fun z => by rw [← z, ep] at nt; cases nt
        have sm2 := sm.trans st
        have len : fs.length ≤ s.length * s.length + s.length := by
          have z := pa.length
          rw [z]
          refine Nat.le_trans (List.length_filter_le _ _) ?_
          rw [List.length_append, List.length_take, rowP_len]
          have f1 := flat_len s.length u (by omega)
          have f2 : u * s.length ≤ s.length * s.length := Nat.mul_le_mul_right s.length (by omega)
          omega
        have e1 : (rowP s.length u)[i]? = some ((u : Int), ((u + 1 + i : Nat) : Int)) := by
          unfold rowP
          rw [List.getElem?_map, List.getElem?_range hi]
          rfl
        have dv : decide ((if s[u + 1 + i] < s[u] then s[u + 1 + i] else s[u], if s[u + 1 + i] > s[u] then s[u + 1 + i] else s[u]) ∈ es) = lptB es s ((u : Int), ((u + 1 + i : Nat) : Int)) := by
          unfold lptB
          dsimp only
          rw [show ((u : Nat) : Int).toNat = u by omega, show ((u + 1 + i : Nat) : Int).toNat = u + 1 + i by omega, du, dj]
        refine ⟨_, rfl, _, rfl, pD (if s[u + 1 + i] < s[u] then s[u + 1 + i] else s[u], if s[u + 1 + i] > s[u] then s[u + 1 + i] else s[u]), es.map pD, dp_pair (SqT.of upd_same), .lst (sm2.seq hE) (dp_pairs (hP.same sm2)), pD_shaped _, pDs_shapedL _, _, rfl, ?_⟩
        rw [pDs_any, dv]
        cases c : lptB es s ((u : Int), ((u + 1 + i : Nat) : Int)) with
        | false =>
          refine iteF ⟨_, _, fs, rfl, sm2, st _ _ ep, ?_⟩
          rw [L2.take_next e1, ← List.append_assoc, List.filter_append, List.filter_cons_of_neg (by rw [c]; decide), List.filter_nil, List.append_nil]
          exact pa.same st
        | true =>
          refine iteT ⟨_, rfl, .inl ⟨rfl, _, SqL.of (st _ _ ep)⟩, _, rfl, _, rfl, (by show 2 ≤ sizeLine; decide), fun t2 nt2 => ?_⟩
          have st2 := same_upd (o := .tup [V.int (u : Int), V.int ((u + 1 + i : Nat) : Int)]) nt2
          have pt2 : p ≠ t2 := fun z => by rw [← z, st _ _ ep] at nt2; cases nt2
          refine ⟨p, _, _, rfl, rfl, st2 _ _ (st _ _ ep), by rw [List.length_map, sizeLine_eq]; omega, ?_⟩
          have bt : But p H' (upd (upd (upd H' t (.tup [V.int (if s[u + 1 + i] < s[u] then s[u + 1 + i] else s[u]), V.int (if s[u + 1 + i] > s[u] then s[u + 1 + i] else s[u])])) t2 (.tup [V.int (u : Int), V.int ((u + 1 + i : Nat) : Int)])) p (.lst (fs.map V.ref ++ [.ref t2]))) := (Same.but (st.trans st2)).put
          refine ⟨_, _, fs ++ [t2], rfl, same_put (sm2.trans st2) np, by rw [upd_same, List.map_append]; rfl, ?_⟩
          rw [L2.take_next e1, ← List.append_assoc, List.filter_append, List.filter_cons_of_pos (by rw [c]), List.filter_nil]
          refine PairsAt.snoc (SqT.of ?_) (bt.pairs ep pa)
          rw [upd_ne pt2.symm, upd_same]
      · rintro σ H' ⟨y4, y5, fs, rfl, sm, ep, pa⟩
        refine ⟨_, _, _, fs, rfl, sm, ep, ?_⟩
        rw [List.range_succ, List.flatMap_append, List.flatMap_singleton]
        rw [List.take_of_length_le (by rw [rowP_len]; omega)] at pa
        exact pa
    · rintro σ H' ⟨y3, y4, y5, fs, rfl, sm, ep, pa⟩
      exact ⟨_, rfl, q H' p fs sm np ep pa⟩
end
end Sm

set_option Elab.async false
set_option linter.all false
set_option maxRecDepth 100000
set_option maxHeartbeats 4000000
namespace Sm
open PySem PySem.Spec PyProof.Rows L2
abbrev sLsm : Stmt := topS 27
/-- two values that are the same number, or tuples of such, at most d within one another -/
inductive Eqd (K : PySem.W.Frag) (H : Hp) : Nat → V → V → Prop where
  | int (d : Nat) (i : Int) : Eqd K H d (.int i) (.int i)
  | tup {d : Nat} {a b : Addr} {xs ys : List V} : SqT K H a xs → SqT K H b ys → xs.length = ys.length → (∀ (i : Nat) x y, xs[i]? = some x → ys[i]? = some y → Eqd K H d x y) → xs.length ≤ 1000 → Eqd K H (d + 1) (.ref a) (.ref b)
def spLsm (K : PySem.W.Frag) (d : Nat) : Sp := fun vs H Q _ => ∃ v v', vs = [v, v'] ∧ Eqd K H d v v' ∧ Q (.bl true) H
structure TxS (mg : Str → Option Value) : Prop where
  isi : mg "isinstance" = none
  tup : mg "tuple" = none
  len : mg "len" = none
  ran : mg "range" = none
  str : mg "str" = none
  int : mg "int" = none
  boo : mg "bool" = none
section
variable {P : Program} {w : World} {K : PySem.W.Frag} {mg : Str → Option Value} {base : Heap}
theorem scLsm : FnScope ["actual", "expected", "k"] ["actual", "expected"] (defScope sLsm) := ⟨rfl, rfl, rfl, by decide +kernel, rfl, by decide +kernel, by decide +kernel⟩
theorem ok_lsm0 {f : Addr} {fd : FuncData} (F : Fun K "_law_same" "_law_same" sLsm f fd) (T : TxS mg) : FnOk P w K mg base CX0 1 f fd ["actual", "expected"] (spLsm K 0) := by
  refine F.ok scLsm (fun vs H Q E h => ?_) (fun cdv A outer s H vs Q E hr h => ?_)
  · obtain ⟨v, v', rfl, _⟩ := h
    rfl
  · obtain ⟨v, v', rfl, hv, q⟩ := h
    refine ⟨_, pss_cons (ps_if (pt_val (pe_callB call_isi (by rfl) T.isi (by decide +kernel) (pa_cons (pv 1) (pa_cons (pe_bltn (v := .ty "tuple") (by rfl) T.tup (by decide +kernel) rfl) pa_nil)))) (pss_cons ps_never (pss_cons ps_never (pss_one ps_never))) pss_nil)
      (pss_cons (ps_if (pt_cmpR op_isN (pv 1) pe_non (nomark _)) (pss_one ps_never) pss_nil)
      (pss_cons (ps_if (pt_val (pe_callB call_isi (by rfl) T.isi (by decide +kernel) (pa_cons (pv 1) (pa_cons (pe_bltn (v := .ty "str") (by rfl) T.str (by decide +kernel) rfl) pa_nil)))) (pss_one ps_never) pss_nil)
      (pss_one (ps_ret (pe_and (pe_callB call_isi (by rfl) T.isi (by decide +kernel) (pa_cons (pv 0) (pa_cons (pe_bltn (v := .ty "int") (by rfl) T.int (by decide +kernel) rfl) pa_nil)))
        (pe_and (pe_not (pe_callB call_isi (by rfl) T.isi (by decide +kernel) (pa_cons (pv 0) (pa_cons (pe_bltn (v := .ty "bool") (by rfl) T.boo (by decide +kernel) rfl) pa_nil))))
          (pe_one (pe_cmpR op_eq (pv 0) (pv 1) (nomark _))))))))), ?_⟩
    cases hv with
    | int d i =>
      refine ⟨_, rfl, .int i, .ty "tuple", .type "int", .type "tuple", false, rfl, .ty "tuple", .base (.int i), kit_ty (by decide +kernel), false, rfl, iteF ?_⟩
      refine ⟨_, rfl, rfl, _, rfl, iteD (fun z => by cases z) ?_⟩
      refine ⟨_, rfl, .int i, .ty "str", .type "int", .type "str", false, rfl, .ty "str", .base (.int i), kit_ty (by decide +kernel), false, rfl, iteF ?_⟩
      refine ⟨_, rfl, .int i, .ty "int", .type "int", .type "int", true, rfl, .ty "int", .base (.int i), kit_ty (by decide +kernel), true, rfl, iteT ?_⟩
      refine ⟨_, rfl, .int i, .ty "bool", .type "int", .type "bool", false, rfl, .ty "bool", .base (.int i), kit_ty (by decide +kernel), false, rfl, true, rfl, iteT ?_⟩
      refine ⟨_, rfl, _, rfl, rfl, ?_⟩
      rw [decide_eq_true rfl]
      exact q
theorem ok_lsmS {f : Addr} {fd : FuncData} {d k : Nat} (F : Fun K "_law_same" "_law_same" sLsm f fd) (T : TxS mg) (GS : FnOk P w K mg base CX0 k f fd ["actual", "expected"] (spLsm K d)) (b : Binds K fd ["actual", "expected"] []) (g : mg "_law_same" = some (.ref f)) :
    FnOk P w K mg base CX0 (k + 1) f fd ["actual", "expected"] (spLsm K (d + 1)) := by
  refine F.ok scLsm (fun vs H Q E h => ?_) (fun cdv A outer s H vs Q E hr h => ?_)
  · obtain ⟨v, v', rfl, _⟩ := h
    rfl
  · obtain ⟨v, v', rfl, hv, q⟩ := h
    refine ⟨_, pss_cons (ps_if (pt_val (pe_callB call_isi (by rfl) T.isi (by decide +kernel) (pa_cons (pv 1) (pa_cons (pe_bltn (v := .ty "tuple") (by rfl) T.tup (by decide +kernel) rfl) pa_nil))))
        (pss_cons (ps_if (PW.pt (pw_or (pt_not (pt_val (pe_callB call_isi (by rfl) T.isi (by decide +kernel) (pa_cons (pv 0) (pa_cons (pe_bltn (v := .ty "tuple") (by rfl) T.tup (by decide +kernel) rfl) pa_nil)))))
          (pw_or1 (pt_cmpR op_ne (pe_callB call_len_seq (by rfl) T.len PySem.boot_len (pa_cons (pv 0) pa_nil)) (pe_callB call_len_seq (by rfl) T.len PySem.boot_len (pa_cons (pv 1) pa_nil)) (nomark _))))) (pss_one (ps_ret pe_bl)) pss_nil)
        (pss_cons (ps_for PassesOwn.never rfl (pi_range1 rfl T.ran (pa_cons (pe_callB call_len_seq (by rfl) T.len PySem.boot_len (pa_cons (pv 1) pa_nil)) pa_nil)) (pg_name (i := 2) scLsm.nd rfl (.inl rfl))
          (pss_one (ps_if (pt_not (pt_val (pe_call GS hr (by rfl) g F.kp b .nil pass0 (pa_cons (pe_ix ix_tup (pv 0) (pv 2) (fun _ _ => rfl)) (pa_cons (pe_ix ix_tup (pv 1) (pv 2) (fun _ _ => rfl)) pa_nil))))) (pss_one (ps_ret pe_bl)) pss_nil)))
        (pss_one (ps_ret pe_bl)))) pss_nil)
      (pss_cons (ps_if (pt_cmpR op_isN (pv 1) pe_non (nomark _)) (pss_one ps_never) pss_nil)
      (pss_cons (ps_if (pt_val (pe_callB call_isi (by rfl) T.isi (by decide +kernel) (pa_cons (pv 1) (pa_cons (pe_bltn (v := .ty "str") (by rfl) T.str (by decide +kernel) rfl) pa_nil)))) (pss_one ps_never) pss_nil)
      (pss_one (ps_ret (pe_and (pe_callB call_isi (by rfl) T.isi (by decide +kernel) (pa_cons (pv 0) (pa_cons (pe_bltn (v := .ty "int") (by rfl) T.int (by decide +kernel) rfl) pa_nil)))
        (pe_and (pe_not (pe_callB call_isi (by rfl) T.isi (by decide +kernel) (pa_cons (pv 0) (pa_cons (pe_bltn (v := .ty "bool") (by rfl) T.boo (by decide +kernel) rfl) pa_nil))))
          (pe_one (pe_cmpR op_eq (pv 0) (pv 1) (nomark _))))))))), ?_⟩
    cases hv with
    | int d i =>
      refine ⟨_, rfl, .int i, .ty "tuple", .type "int", .type "tuple", false, rfl, .ty "tuple", .base (.int i), kit_ty (by decide +kernel), false, rfl, iteF ?_⟩
      refine ⟨_, rfl, rfl, _, rfl, iteD (fun z => by cases z) ?_⟩
      refine ⟨_, rfl, .int i, .ty "str", .type "int", .type "str", false, rfl, .ty "str", .base (.int i), kit_ty (by decide +kernel), false, rfl, iteF ?_⟩
      refine ⟨_, rfl, .int i, .ty "int", .type "int", .type "int", true, rfl, .ty "int", .base (.int i), kit_ty (by decide +kernel), true, rfl, iteT ?_⟩
      refine ⟨_, rfl, .int i, .ty "bool", .type "int", .type "bool", false, rfl, .ty "bool", .base (.int i), kit_ty (by decide +kernel), false, rfl, true, rfl, iteT ?_⟩
      refine ⟨_, rfl, _, rfl, rfl, ?_⟩
      rw [decide_eq_true rfl]
      exact q
    | @tup _ a a' xs ys hx hy hl he hf =>
      refine ⟨_, rfl, _, .ty "tuple", .type "tuple", .type "tuple", true, rfl, .ty "tuple", tyx_T hy, kit_ty (by decide +kernel), true, rfl, iteT ?_⟩
      refine ⟨_, rfl, _, .ty "tuple", .type "tuple", .type "tuple", true, rfl, .ty "tuple", tyx_T hx, kit_ty (by decide +kernel), true, rfl, iteF ?_⟩
      refine ⟨_, rfl, a, xs, rfl, .inr hx, _, rfl, a', ys, rfl, .inr hy, rfl, _, rfl, iteNS (by rw [hl]) ?_⟩
      refine ⟨_, rfl, a', ys, rfl, .inr hy, _, rfl, by omega, by omega, ?_⟩
      have toNat : ((ys.length : Nat) : Int).toNat = ys.length := by omega
      rw [toNat]
      refine for_range (lo := 0) (n := ys.length) (fun i σ H' => ∃ y2 : Option V, σ = [some (.ref a), some (.ref a'), y2] ∧ H' = H) ⟨none, rfl, rfl⟩ ?_ ?_
      · rintro i σ H' hi ⟨y2, rfl, rfl⟩
        have e0 : (0 : Int) + (i : Int) = (i : Int) := by omega
        have ex : xs[i]? = some (xs[i]'(by omega)) := List.getElem?_eq_getElem (by omega)
        have ey : ys[i]? = some (ys[i]'hi) := List.getElem?_eq_getElem hi
        rw [e0]
        refine ⟨_, rfl, _, rfl, a, _, _, _, rfl, rfl, hx, atI_nat ex, _, rfl, _, rfl, a', _, _, _, rfl, rfl, hy, atI_nat ey, _, _, rfl, he i _ _ ex ey, ?_⟩
        exact ⟨true, rfl, iteF ⟨_, rfl, rfl⟩⟩
      · rintro σ H' ⟨y2, rfl, rfl⟩
        exact q
end
end Sm

set_option Elab.async false
set_option linter.all false
set_option maxRecDepth 100000
set_option maxHeartbeats 4000000
namespace Sm
open PySem PySem.Spec PyProof.Rows L2
abbrev sLps : Stmt := topS 28
theorem same_of_but {p : Addr} {H Hs H' : Hp} (s : Same H Hs) (np : H p = none) (b : But p Hs H') : Same H H' := fun c o e => b _ _ (s _ _ e) (ne_of_none e np)
def clE (pc : List Int) (q : Pr) : Prop := (q.1 ∈ pc → q.2 ∈ pc) ∧ (q.2 ∈ pc → q.1 ∈ pc)
/-- what a pass over the edges has made of pc0: pc, with the edges done (and of the next one the directions b) looked at -/
structure Pss (es : List Pr) (u : Int) (pc0 : List Int) (done : List Pr) (half : Prop) (pc : List Int) : Prop where
  ex : ∃ t, pc = pc0 ++ t ∧ (t = [] → (∀ q ∈ done, clE pc0 q) ∧ half) ∧ ((∀ q ∈ es, clE pc0 q) → t = [])
  nd : pc.Nodup
  re : ∀ k ∈ pc, Rch es u k
theorem Pss.put {es : List Pr} {u : Int} {pc0 pc : List Int} {done : List Pr} {half half' : Prop} {a c : Int} (h : Pss es u pc0 done half pc) (he : (a, c) ∈ es ∨ (c, a) ∈ es) (ha : a ∈ pc) (hc : c ∉ pc) : Pss es u pc0 done half' (pc ++ [c]) := by
  obtain ⟨t, rfl, h1, h2⟩ := h.ex
  refine ⟨⟨t ++ [c], by rw [List.append_assoc], fun z => absurd z (by simp), fun cl => ?_⟩, ?_, fun k hk => ?_⟩
  · exfalso
    have z := h2 cl
    subst z
    rw [List.append_nil] at ha hc
    rcases he with e | e
    · exact hc ((cl _ e).1 ha)
    · exact hc ((cl _ e).2 ha)
  · exact List.nodup_append.mpr ⟨h.nd, by simp, fun x hx y hy e => by rw [List.mem_singleton.mp hy] at e; exact hc (e ▸ hx)⟩
  · rcases List.mem_append.mp hk with z | z
    · exact h.re k z
    · rw [List.mem_singleton.mp z]
      exact .step (h.re a ha) (mem_near.mpr he)
theorem Pss.leave {es : List Pr} {u : Int} {pc0 pc : List Int} {done : List Pr} {half half' : Prop} (h : Pss es u pc0 done half pc) (hh : pc = pc0 → half → half') : Pss es u pc0 done half' pc := by
  obtain ⟨t, e, h1, h2⟩ := h.ex
  refine ⟨⟨t, e, fun z => ⟨(h1 z).1, hh ?_ (h1 z).2⟩, h2⟩, h.nd, h.re⟩
  rw [e, z, List.append_nil]
theorem Pss.next {es : List Pr} {u : Int} {pc0 pc : List Int} {t : Nat} {q : Pr} (hq : es[t]? = some q) (h : Pss es u pc0 (es.take t) (clE pc0 q) pc) : Pss es u pc0 (es.take (t + 1)) True pc := by
  obtain ⟨x, e, h1, h2⟩ := h.ex
  refine ⟨⟨x, e, fun z => ⟨fun r hr => ?_, trivial⟩, h2⟩, h.nd, h.re⟩
  rw [L2.take_next hq] at hr
  rcases List.mem_append.mp hr with y | y
  · exact (h1 z).1 r y
  · rw [List.mem_singleton.mp y]; exact (h1 z).2
theorem clE_all {es : List Pr} {pc : List Int} {u : Int} (cl : ∀ q ∈ es, clE pc q) (hu : u ∈ pc) {k : Int} (h : Rch es u k) : k ∈ pc := by
  induction h with
  | refl => exact hu
  | step _ hn ih =>
    rcases mem_near.mp hn with e | e
    · exact (cl _ e).1 ih
    · exact (cl _ e).2 ih
theorem lt_of_le_nd {l : List Int} (h : l.Pairwise (· ≤ ·)) (nd : l.Nodup) : l.Pairwise (· < ·) := List.Pairwise.imp (fun {a b} h => by have := h.1; have := h.2; omega) (List.Pairwise.and h nd)
theorem notInS_at {X : Cx} {K : PySem.W.Frag} (hK : X.K = K) : OpR X (compareOp .NotIn) (rIn K true) := by
  subst hK
  exact op_notIn_seq
def halfE (pc0 : List Int) (q : Pr) : Nat → Prop
  | 0 => True
  | 1 => q.1 ∈ pc0 → q.2 ∈ pc0
  | _ + 2 => clE pc0 q
theorem iteIn {x : Int} {l : List Int} {A B : Prop} (h1 : x ∈ l → A) (h2 : x ∉ l → B) : if (if false = true then !inV (.int x) (l.map V.int) else inV (.int x) (l.map V.int)) = true then A else B := by
  rw [if_neg Bool.false_ne_true, inV_int]
  by_cases c : x ∈ l
  · rw [decide_eq_true c]; exact iteT (h1 c)
  · rw [decide_eq_false c]; exact iteF (h2 c)
theorem iteNIn {x : Int} {l : List Int} {A B : Prop} (h1 : x ∉ l → A) (h2 : x ∈ l → B) : if (if true = true then !inV (.int x) (l.map V.int) else inV (.int x) (l.map V.int)) = true then A else B := by
  rw [if_pos rfl, inV_int]
  by_cases c : x ∈ l
  · rw [decide_eq_true c]; exact iteF (h2 c)
  · rw [decide_eq_false c]; exact iteT (h1 c)
theorem take_next' {α : Type} {l : List α} {t : Nat} {x : α} (h : l[t]? = some x) : l.take (t + 1) = l.take t ++ [x] := L2.take_next h
def spLps (K : PySem.W.Frag) : Sp := fun vs H Q _ => ∃ (n : Nat) (e : Addr) (as : List Addr) (es : List Pr), vs = [.int n, .ref e] ∧ n ≤ 60 ∧ SqL K H e (as.map V.ref) ∧ PairsAt K H as es ∧ (∀ q ∈ es, Okp n q) ∧
  ∀ (H' : Hp) (f : Addr) (ps : List Addr), Same H H' → H f = none → H' f = some (.lst (ps.map V.ref)) → ListsAt H' ps (comps n es n) → Q (.ref f) H'
section
variable {P : Program} {w : World} {K : PySem.W.Frag} {mg : Str → Option Value} {base : Heap}
abbrev lpsN : List Str := ["size", "edges", "left", "found", "start", "piece", "k", "edge", "pair", "vertex"]
theorem scLps : FnScope lpsN ["size", "edges"] (defScope sLps) := ⟨rfl, rfl, rfl, by decide +kernel, rfl, by decide +kernel, by decide +kernel⟩
theorem ok_lps {f : Addr} {fd : FuncData} (F : Fun K "_law_pieces" "_law_pieces" sLps f fd) (mli : mg "list" = none) (mr : mg "range" = none) (ms : mg "sorted" = none) :
    FnOk P w K mg base CX0 2 f fd ["size", "edges"] (spLps K) := by
  refine F.ok scLps (fun vs H Q E h => ?_) (fun cdv A outer s H vs Q E hr h => ?_)
  · obtain ⟨n, e, as, es, rfl, _⟩ := h
    rfl
  · obtain ⟨n, e, as, es, rfl, hn, hE, hP, ok, q⟩ := h
    refine ⟨_, pss_cons (ps_set (i := 2) scLps.nd rfl (.inl rfl) (pe_listRg rfl (by rfl) mli (prg_1 (by rfl) mr (pv 0))))
      (pss_cons (ps_set (i := 3) scLps.nd rfl (.inl rfl) (pe_lst pa_nil))
      (pss_cons (ps_for PassesOwn.never rfl (pi_range1 rfl mr (pa_cons (pv 0) pa_nil)) (pg_name (i := 4) scLps.nd rfl (.inl rfl))
        (pss_one (ps_if (pt_cmpR op_in_seq (pv 4) (pv 2) (by rfl))
          (pss_cons (ps_set (i := 5) scLps.nd rfl (.inr rfl) (pe_lst (pa_cons (pv 4) pa_nil)))
          (pss_cons (ps_for PassesOwn.never rfl (pi_range1 rfl mr (pa_cons (pv 0) pa_nil)) (pg_name (i := 6) scLps.nd rfl (.inl rfl))
            (pss_one (ps_for PassesOwn.never rfl (pi_list (pv 1)) (pg_name (i := 7) scLps.nd rfl (.inl rfl))
              (pss_one (ps_for PassesOwn.never rfl (pi_tup (pe_tup (pa_cons (pv 7) (pa_cons (pe_tup (pa_cons (pe_ix ix_tup (pv 7) pe_int (fun _ _ => rfl)) (pa_cons (pe_ix ix_tup (pv 7) pe_int (fun _ _ => rfl)) pa_nil))) pa_nil)))) (pg_name (i := 8) scLps.nd rfl (.inl rfl))
                (pss_one (ps_if (PW.pt (pw_and (pt_cmpR op_in_seq (pe_ix ix_tup (pv 8) pe_int (fun _ _ => rfl)) (pv 5) (by rfl)) (pw_and1 (pt_cmpR op_notIn_seq (pe_ix ix_tup (pv 8) pe_int (fun _ _ => rfl)) (pv 5) (by rfl)))))
                  (pss_one (ps_expr (pe_bm PySem.F.plainAttrs_list PySem.F.slot_list_append PySem.F.type_list_append mt_append (pv 5) (pa_cons (pe_ix ix_tup (pv 8) pe_int (fun _ _ => rfl)) pa_nil)))) pss_nil)))))))
          (pss_cons (ps_expr (pe_bm PySem.F.plainAttrs_list PySem.F.slot_list_append PySem.F.type_list_append mt_append (pv 3) (pa_cons (pe_callB cr_sortedI (by rfl) ms (by decide +kernel) (pa_cons (pv 5) pa_nil)) pa_nil)))
          (pss_one (ps_setLc (i := 2) (own := [("vertex", 9)]) (g := gName 9) (by rfl) scLps.nd rfl rfl (sw_true rfl rfl rfl (by decide +kernel)) (pi_list (pv 2))
            (blkOk_by (own := [("vertex", 9)]) (N := lpsN) (sc := defScope sLps) (by decide +kernel)) (fun _ _ _ _ _ => pg_name (i := 9) scLps.nd rfl (Or.inl rfl)) (fun _ _ _ _ _ => pts_one (pt_cmpR (notInS_at rfl) (pv 9) (pv 5) (by rfl))) (fun _ _ _ _ _ => pv 9)))))) pss_nil)))
      (pss_one (ps_ret (pv 3))))), ?_⟩
    refine ⟨_, rfl, n, rfl, RgOk.of_le (by omega) (by omega) (by omega) (by omega), fun l0 nl => ?_⟩
    have s1 := same_upd (o := .lst (rgV 0 (n : Int))) nl
    refine ⟨Nat.zero_le _, fun f1 nf => ?_⟩
    have s2 := same_upd (o := .lst []) nf
    have nfH := s1.free nf
    have lf : l0 ≠ f1 := fun z => by rw [← z, upd_same] at nf; cases nf
    refine ⟨_, rfl, n, rfl, by omega, by omega, ?_⟩
    have toNat : ((n : Nat) : Int).toNat = n := by omega
    rw [toNat]
    refine for_range (lo := 0) (n := n) (fun i σ H' => ∃ (y4 y5 y6 y7 y8 : Option V) (dl : Addr) (ls : List Int) (ps : List Addr), σ = [some (.int n), some (.ref e), some (.ref dl), some (.ref f1), y4, y5, y6, y7, y8, none] ∧ Same H H' ∧ H' dl = some (.lst (ls.map V.int)) ∧ H' f1 = some (.lst (ps.map V.ref)) ∧ dl ≠ f1 ∧
      ls.length ≤ 60 ∧ (∀ k, k ∈ ls ↔ Vx n k ∧ ¬ ∃ v : Nat, v < i ∧ Rch es v k) ∧ ListsAt H' ps (comps n es i) ∧ (∀ a ∈ ps, a ≠ f1))
      ⟨none, none, none, none, none, l0, vxs n, [], rfl, s1.trans s2, by rw [upd_ne lf, upd_same, rg_vxs], upd_same, lf, by unfold vxs; rw [List.length_map, List.length_range]; exact hn, fun k => ⟨fun h => ⟨mem_vxs.mp h, fun ⟨v, hv, _⟩ => by omega⟩, fun h => mem_vxs.mpr h.1⟩, .nil, fun a ha => by cases ha⟩ ?_ ?_
    · rintro i σ H' hi ⟨y4, y5, y6, y7, y8, dl, ls, ps, rfl, sm, hd, hf, df, ll, hl, pl, na⟩
      have e0 : (0 : Int) + (i : Int) = (i : Int) := by omega
      have vi : Vx n (i : Int) := by unfold Vx; omega
      rw [e0]
      refine ⟨_, rfl, _, rfl, dl, ls.map V.int, rfl, .inl (SqL.of hd), rfl, flat_ints _, _, rfl, iteIn (fun c => ?_) (fun c => ?_)⟩
      · have nex := ((hl _).mp c).2
        refine ⟨_, rfl, (by show 1 ≤ sizeLine; decide), fun p np => ?_⟩
        have s3 := same_upd (o := .lst [.int (i : Int)]) np
        have fp : f1 ≠ p := fun z => by rw [← z, hf] at np; cases np
        have dp : dl ≠ p := fun z => by rw [← z, hd] at np; cases np
        refine ⟨_, rfl, n, rfl, by omega, by omega, ?_⟩
        rw [toNat]
        refine for_range (lo := 0) (n := n) (fun k σ H2 => ∃ (y6 y7 y8 : Option V) (pc : List Int), σ = [some (.int n), some (.ref e), some (.ref dl), some (.ref f1), some (.int (i : Int)), some (.ref p), y6, y7, y8, none] ∧ Same H' H2 ∧ H2 p = some (.lst (pc.map V.int)) ∧
          pc.Nodup ∧ (i : Int) ∈ pc ∧ (∀ x ∈ pc, Rch es i x) ∧ ((∀ q ∈ es, clE pc q) ∨ k + 1 ≤ pc.length))
          ⟨_, _, _, [(i : Int)], rfl, s3, upd_same, by simp, by simp, fun x hx => by rw [List.mem_singleton.mp hx]; exact .refl, .inr (Nat.le_refl _)⟩ ?_ ?_
        · rintro k σ H2 hk ⟨y6, y7, y8, pc0, rfl, sm2, hp2, nd0, in0, re0, cl0⟩
          have hE2 := sm2.seq (sm.seq hE)
          have hP2 := (hP.same sm).same sm2
          refine ⟨_, rfl, e, rfl, ⟨_, hE2⟩, for_list (K := K) (a := e) (xs := as.map V.ref) (fun j σ H3 => ∃ (y7 y8 : Option V) (pc : List Int), σ = [some (.int n), some (.ref e), some (.ref dl), some (.ref f1), some (.int (i : Int)), some (.ref p), some (.int (0 + (k : Int))), y7, y8, none] ∧ Same H' H3 ∧ H3 p = some (.lst (pc.map V.int)) ∧
            Pss es i pc0 (es.take j) True pc) ⟨_, _, pc0, rfl, sm2, hp2, ⟨[], by simp, fun _ => ⟨fun q hq => (by rw [List.take_zero] at hq; cases hq), trivial⟩, fun _ => rfl⟩, nd0, re0⟩
            (fun j σ H3 _ ⟨_, _, _, _, s', _⟩ => s'.seq (sm.seq hE)) ?_ ?_⟩
          · rintro j x σ H3 hx ⟨y7, y8, pc, rfl, sm3, hp3, ps3⟩
            rw [List.getElem?_map] at hx
            cases ea : as[j]? with
            | none => rw [ea] at hx; cases hx
            | some a =>
              rw [ea] at hx
              cases hx
              obtain ⟨⟨qa, qc⟩, hq, hs⟩ := ((hP.same sm).same sm3).get ea
              have qm : (qa, qc) ∈ es := List.mem_of_getElem? hq
              refine ⟨_, rfl, _, rfl, a, _, _, _, rfl, rfl, hs, rfl, _, rfl, a, _, _, _, rfl, rfl, hs, rfl, (by show 2 ≤ sizeLine; decide), fun r nr => ⟨(by show 2 ≤ sizeLine; decide), fun t nt => ?_⟩⟩
              have hE3 := sm3.seq (sm.seq hE)
              have st3 := same_upd (o := .tup [V.int qc, V.int qa]) nr
              have st4 := same_upd (o := .tup [V.ref a, V.ref r]) nt
              have rt : r ≠ t := fun z => by rw [← z, upd_same] at nt; cases nt
              have hp5 := st4 _ _ (st3 _ _ hp3)
              have ht5 : SqT K (upd (upd H3 r (.tup [V.int qc, V.int qa])) t (.tup [V.ref a, V.ref r])) t [V.ref a, V.ref r] := SqT.of upd_same
              have hs5 := same_sqT st4 (same_sqT st3 hs)
              have hr5 : SqT K (upd (upd H3 r (.tup [V.int qc, V.int qa])) t (.tup [V.ref a, V.ref r])) r [V.int qc, V.int qa] := SqT.of (by rw [upd_ne rt, upd_same])
              have sm5 : Same H' (upd (upd H3 r (.tup [V.int qc, V.int qa])) t (.tup [V.ref a, V.ref r])) := sm3.trans (st3.trans st4)
              have sz : ∀ pc' : List Int, pc'.Nodup → (∀ x ∈ pc', Rch es i x) → (pc'.map V.int).length < sizeLine := fun pc' nd re => by
                rw [List.length_map]
                have := few_vx (n := n) nd fun x hx => (re x hx).vx ok vi
                exact small1000 (by omega)
              refine ⟨t, rfl, ⟨_, ht5⟩, for_tup (K := K) (a := t) (xs := [V.ref a, V.ref r]) (fun m σ H6 => ∃ (y8 : Option V) (pc' : List Int), σ = [some (.int n), some (.ref e), some (.ref dl), some (.ref f1), some (.int (i : Int)), some (.ref p), some (.int (0 + (k : Int))), some (.ref a), y8, none] ∧
                But p (upd (upd H3 r (.tup [V.int qc, V.int qa])) t (.tup [V.ref a, V.ref r])) H6 ∧ H6 p = some (.lst (pc'.map V.int)) ∧ Pss es i pc0 (es.take j) (halfE pc0 (qa, qc) m) pc')
                ⟨_, pc, rfl, fun _ _ e _ => e, hp5, ps3⟩ (fun m σ H6 _ ⟨_, _, _, b, _⟩ => b.sqTl hp5 ht5) ?_ ?_⟩
              · rintro m x σ H6 hx ⟨y8, pc', rfl, b6, hp6, ps6⟩
                have hs6 := b6.sqTl hp5 hs5
                have hr6 := b6.sqTl hp5 hr5
                match m, hx with
                | 0, hx =>
                  cases hx
                  refine ⟨_, rfl, a, _, _, _, rfl, rfl, hs6, rfl, _, rfl, p, pc'.map V.int, rfl, .inl (SqL.of hp6), rfl, flat_ints _, _, rfl, iteIn (fun c1 => ?_) (fun c1 => ?_)⟩
                  · refine ⟨_, rfl, a, _, _, _, rfl, rfl, hs6, rfl, _, rfl, p, pc'.map V.int, rfl, .inl (SqL.of hp6), rfl, flat_ints _, _, rfl, iteNIn (fun c2 => ?_) (fun c2 => ?_)⟩
                    · exact ⟨_, rfl, .inl ⟨rfl, _, SqL.of hp6⟩, _, rfl, a, _, _, _, rfl, rfl, hs6, rfl, p, _, _, rfl, rfl, hp6, sz _ ps6.nd ps6.re, _, pc' ++ [qc], rfl, b6.put, by rw [upd_same, List.map_append]; rfl, ps6.put (.inl qm) c1 c2⟩
                    · exact ⟨_, pc', rfl, b6, hp6, ps6.leave fun e _ _ => e ▸ c2⟩
                  · exact ⟨_, pc', rfl, b6, hp6, ps6.leave fun e _ h => absurd (e ▸ h) c1⟩
                | 1, hx =>
                  cases hx
                  refine ⟨_, rfl, r, _, _, _, rfl, rfl, hr6, rfl, _, rfl, p, pc'.map V.int, rfl, .inl (SqL.of hp6), rfl, flat_ints _, _, rfl, iteIn (fun c1 => ?_) (fun c1 => ?_)⟩
                  · refine ⟨_, rfl, r, _, _, _, rfl, rfl, hr6, rfl, _, rfl, p, pc'.map V.int, rfl, .inl (SqL.of hp6), rfl, flat_ints _, _, rfl, iteNIn (fun c2 => ?_) (fun c2 => ?_)⟩
                    · exact ⟨_, rfl, .inl ⟨rfl, _, SqL.of hp6⟩, _, rfl, r, _, _, _, rfl, rfl, hr6, rfl, p, _, _, rfl, rfl, hp6, sz _ ps6.nd ps6.re, _, pc' ++ [qa], rfl, b6.put, by rw [upd_same, List.map_append]; rfl, ps6.put (.inr qm) c1 c2⟩
                    · exact ⟨_, pc', rfl, b6, hp6, ps6.leave fun e h => ⟨h, fun _ => e ▸ c2⟩⟩
                  · exact ⟨_, pc', rfl, b6, hp6, ps6.leave fun e h => ⟨h, fun h' => absurd (e ▸ h') c1⟩⟩
                | m + 2, hx => simp at hx
              · rintro σ H6 ⟨y8, pc', rfl, b6, hp6, ps6⟩
                exact ⟨_, _, pc', rfl, same_of_but sm5 np b6, hp6, Pss.next hq ps6⟩
          · rintro σ H3 ⟨y7, y8, pc, rfl, sm3, hp3, ps3⟩
            have z : as.length = es.length := hP.length
            rw [List.length_map, z, List.take_length] at ps3
            obtain ⟨t, e1, h1, h2⟩ := ps3.ex
            refine ⟨_, _, _, pc, rfl, sm3, hp3, ps3.nd, by rw [e1]; exact List.mem_append_left _ in0, ps3.re, ?_⟩
            by_cases tn : t = []
            · refine .inl ?_
              rw [e1, tn, List.append_nil]
              exact (h1 tn).1
            · have tl : 1 ≤ t.length := by
                cases t with
                | nil => exact absurd rfl tn
                | cons _ _ => simp
              rcases cl0 with y | y
              · exact absurd (h2 y) tn
              · exact .inr (by rw [e1, List.length_append]; omega)
        · rintro σ H2 ⟨y6, y7, y8, pc, rfl, sm2, hp2, nd, inp, re, cl⟩
          have vx : ∀ k ∈ pc, Vx n k := fun k hk => (re k hk).vx ok vi
          have pl' := few_vx nd vx
          have cl' : ∀ q ∈ es, clE pc q := by
            rcases cl with y | y
            · exact y
            · omega
          have mem : ∀ k, k ∈ pc ↔ Rch es i k := fun k => ⟨re k, clE_all cl' inp⟩
          have hf2 := sm2 _ _ hf
          have hd2 := sm2 _ _ hd
          refine ⟨_, rfl, .inl ⟨rfl, _, SqL.of hf2⟩, _, rfl, p, pc, rfl, SqL.of hp2, fun ns l1 pm pw nl1 => ?_⟩
          have s4 := same_upd (o := .lst (ns.map V.int)) nl1
          have f1l : f1 ≠ l1 := fun z => by rw [← z, hf2] at nl1; cases nl1
          have dl1 : dl ≠ l1 := fun z => by rw [← z, hd2] at nl1; cases nl1
          have pl1 : p ≠ l1 := fun z => by rw [← z, hp2] at nl1; cases nl1
          have hf3 := s4 _ _ hf2
          have psl : ps.length ≤ 60 := by
            have z := pl.length
            rw [z]
            unfold comps
            rw [List.length_map]
            exact Nat.le_trans (List.length_filter_le _ _) (by rw [List.length_range]; omega)
          have nse : ns = compL n es (i : Int) := lt_ext (lt_of_le_nd pw (pm.symm.nodup nd)) (compL_lt n es _) fun k => by rw [pm.mem_iff, mem, mem_compL ok vi]
          refine ⟨f1, _, _, rfl, rfl, hf3, by rw [List.length_map]; exact small1000 (by omega), ?_⟩
          have hd4 : upd (upd H2 l1 (.lst (ns.map V.int))) f1 (.lst (ps.map V.ref ++ [V.ref l1])) dl = some (.lst (ls.map V.int)) := by rw [upd_ne df]; exact s4 _ _ hd2
          have hp4 : upd (upd H2 l1 (.lst (ns.map V.int))) f1 (.lst (ps.map V.ref ++ [V.ref l1])) p = some (.lst (pc.map V.int)) := by rw [upd_ne fp.symm]; exact s4 _ _ hp2
          have hl4 : upd (upd H2 l1 (.lst (ns.map V.int))) f1 (.lst (ps.map V.ref ++ [V.ref l1])) l1 = some (.lst (ns.map V.int)) := by rw [upd_ne f1l.symm, upd_same]
          refine ⟨_, rfl, dl, rfl, ⟨_, SqL.of hd4⟩, fun D nD => ?_⟩
          refine lc_list (K := K) (a := dl) (xs := ls.map V.int) (fun m H7 => Same (upd (upd H2 l1 (.lst (ns.map V.int))) f1 (.lst (ps.map V.ref ++ [V.ref l1]))) H7 ∧ H7 D = some (.lst (((ls.take m).filter fun k => decide (k ∉ pc)).map V.int))) ⟨same_upd nD, upd_same⟩ (fun m H7 _ h => SqL.of (h.1 _ _ hd4)) ?_ ?_
          · rintro m x H7 hx ⟨s7, hD⟩
            rw [List.getElem?_map] at hx
            cases ek : ls[m]? with
            | none => rw [ek] at hx; cases hx
            | some k =>
              rw [ek] at hx
              cases hx
              have tk := take_next' ek
              refine ⟨rfl, _, rfl, _, rfl, p, pc.map V.int, rfl, .inl (SqL.of (s7 _ _ hp4)), rfl, flat_ints _, _, rfl, iteNIn (fun c2 => ?_) (fun c2 => ?_)⟩
              · refine ⟨_, rfl, _, hD, ?_, same_put s7 nD, ?_⟩
                · rw [List.length_map]
                  have := List.length_filter_le (fun k => decide (k ∉ pc)) (ls.take m)
                  have := List.length_take_le m ls
                  have : (ls.take m).length ≤ ls.length := by rw [List.length_take]; omega
                  exact small1000 (by omega)
                · rw [upd_same, tk, List.filter_append, List.map_append, List.filter_cons_of_pos (by simpa using c2)]
                  rfl
              · refine ⟨s7, ?_⟩
                rw [hD, tk, List.filter_append, List.filter_cons_of_neg (by simpa using c2), List.filter_nil, List.append_nil]
          · rintro H7 ⟨s7, hD⟩
            rw [List.length_map, List.take_length] at hD
            have hf7 := s7 _ _ (upd_same (H := upd H2 l1 (.lst (ns.map V.int))) (a := f1) (o := .lst (ps.map V.ref ++ [V.ref l1])))
            have Df : D ≠ f1 := fun z => by rw [z, upd_same] at nD; cases nD
            refine ⟨_, _, _, _, _, D, _, ps ++ [l1], rfl, fun b o e => s7 _ _ (by rw [upd_ne (ne_of_none e nfH)]; exact s4 _ _ (sm2 _ _ (sm _ _ e))), hD, by rw [List.map_append]; exact hf7, Df, Nat.le_trans (List.length_filter_le _ _) ll, fun k => ?_, ?_, fun a ha => ?_⟩
            · rw [List.mem_filter, hl, decide_eq_true_eq, mem, seen_more]
              exact ⟨fun h => ⟨h.1.1, fun z => z.elim h.1.2 h.2⟩, fun h => ⟨⟨h.1, fun z => h.2 (.inl z)⟩, fun z => h.2 (.inr z)⟩⟩
            · rw [comps_yes nex, ← nse]
              refine ListsAt.snoc (s7 _ _ hl4) (ListsAt.keep2 (f := f1) (fun a cc ne e => s7 _ _ ?_) na pl)
              rw [upd_ne ne]
              exact s4 _ _ (sm2 _ _ e)
            · rcases List.mem_append.mp ha with z | z
              · exact na a z
              · rw [List.mem_singleton.mp z]; exact f1l.symm
      · have ex : ∃ v : Nat, v < i ∧ Rch es v i := Classical.byContradiction fun z => c ((hl _).mpr ⟨vi, z⟩)
        exact ⟨_, _, _, _, _, dl, ls, ps, rfl, sm, hd, hf, df, ll, fun k => by rw [seen_next ex]; exact hl k, by rw [comps_no ex]; exact pl, na⟩
    · rintro σ H' ⟨y4, y5, y6, y7, y8, dl, ls, ps, rfl, sm, hd, hf, df, ll, hl, pl, na⟩
      exact ⟨_, rfl, q H' f1 ps sm nfH hf pl⟩
end
end Sm

set_option Elab.async false
set_option linter.all false
set_option maxRecDepth 100000
set_option maxHeartbeats 4000000
namespace Sm
open PySem PySem.Spec PyProof.Rows L2
/-! ### the sorted list of pairs -/
theorem sorted_uniq {qs es : List Pr} (h1 : qs.Pairwise lexlt) (h2 : es.Pairwise fun x y => SrtO.lexB y x = false) (pm : es.Perm qs) : es = qs := by
  refine List.Perm.eq_of_pairwise (le := fun x y => SrtO.lexB y x = false) (fun a b _ _ h h' => ?_) h2 (List.Pairwise.imp (fun {a b} h => ?_) h1) pm
  · have x := SrtO.lexB_no.mp h
    have y := SrtO.lexB_no.mp h'
    have e1 : a.1 = b.1 := by omega
    have e2 : a.2 = b.2 := by omega
    exact Prod.ext e1 e2
  · have x := SrtO.lexB_iff.mp h
    refine SrtO.lexB_no.mpr ?_
    omega
open Classical in
noncomputable def keyP (K : PySem.W.Frag) (H : Hp) (x : V) : Pr := if h : ∃ q : Pr, ∃ a, x = .ref a ∧ SqT K H a [.int q.1, .int q.2] then h.choose else (0, 0)
theorem keyP_spec {K : PySem.W.Frag} {H : Hp} {a : Addr} {q : Pr} (h : SqT K H a [.int q.1, .int q.2]) : SqT K H a [.int (keyP K H (.ref a)).1, .int (keyP K H (.ref a)).2] := by
  have ex : ∃ q : Pr, ∃ b, V.ref a = .ref b ∧ SqT K H b [.int q.1, .int q.2] := ⟨q, a, rfl, h⟩
  unfold keyP
  rw [dif_pos ex]
  obtain ⟨b, e, z⟩ := ex.choose_spec
  cases e
  exact z
/-- sorted(xs), xs a list of pairs -/
def rSortedPE (K : PySem.W.Frag) : List V → Hp → VK → Prop := fun vs H Q => ∃ (a : Addr) (as : List Addr) (es : List Pr), vs = [V.ref a] ∧ SqL K H a (as.map V.ref) ∧ PairsAt K H as es ∧
  ∀ (as' : List Addr) (es' : List Pr) (p : Addr), PairsAt K H as' es' → es'.Perm es → (es'.Pairwise fun x y => SrtO.lexB y x = false) → H p = none → Q (.ref p) (upd H p (.lst (as'.map V.ref)))
theorem pairs_keys {K : PySem.W.Frag} {H : Hp} : ∀ {ys : List V}, (∀ y ∈ ys, ∃ t, y = V.ref t ∧ SqT K H t [.int (keyP K H y).1, .int (keyP K H y).2]) → ∃ as', ys = as'.map V.ref ∧ PairsAt K H as' (ys.map (keyP K H))
  | [], _ => ⟨[], rfl, .nil⟩
  | y :: ys, h => by
    obtain ⟨t, rfl, ht⟩ := h y List.mem_cons_self
    obtain ⟨as', e, hp⟩ := pairs_keys fun z hz => h z (List.mem_cons_of_mem _ hz)
    exact ⟨t :: as', by rw [e]; rfl, .cons ht hp⟩
section
variable {X : Cx}
theorem keys_eq {pins : List (Addr × Obj)} {s : Shared} {σ : L2.St} {H : Hp} (I : Inv X pins σ H s) : ∀ {as : List Addr} {es : List Pr}, PairsAt X.K H as es → (as.map V.ref).map (keyP X.K H) = es
  | _, _, .nil => rfl
  | a :: _, q :: _, .cons h t => by
    have z := I.tuple_inj (keyP_spec h) h
    have e1 := (List.cons.inj z).1
    have e2 := (List.cons.inj (List.cons.inj z).2).1
    injection e1 with e1
    injection e2 with e2
    have r := keys_eq I t
    show keyP X.K H (.ref a) :: _ = _
    rw [r]
    congr 1
    exact Prod.ext e1 e2
theorem cr_sortedPE : CallR X (.builtin "sorted") (rSortedPE X.K) := by
  intro pins s σ H vs us Q I r h
  obtain ⟨a, as, es, rfl, hs, hP, q⟩ := h
  obtain ⟨its, rv, hl, hz⟩ := I.list hs
  obtain ⟨u, rfl, ru⟩ := vals1 r
  obtain rfl : u = Value.ref a := ru
  have hx : ∀ x ∈ as.map V.ref, ∃ t, x = V.ref t ∧ SqT X.K H t [.int (keyP X.K H x).1, .int (keyP X.K H x).2] := fun x hx => by
    obtain ⟨t, ht, rfl⟩ := List.mem_map.mp hx
    obtain ⟨i, hi⟩ := List.getElem?_of_mem ht
    obtain ⟨q, _, hq⟩ := hP.get hi
    exact ⟨t, rfl, keyP_spec hq⟩
  obtain ⟨e1, e2⟩ := refs_back rv fun x m => by
    obtain ⟨t, e, _⟩ := hx x m
    exact ⟨t, e⟩
  refine SrtO.sorted_pairsO (k := fun u => keyP X.K H (backV u)) hl.isList (by rw [← rv.length]; exact hz) (fun v hv => ?_) fun h' d out h1 h2 kp hd hn => ?_
  · obtain ⟨t, rfl⟩ := e2 v hv
    have hm : V.ref t ∈ as.map V.ref := by rw [e1]; exact List.mem_map.mpr ⟨_, hv, rfl⟩
    obtain ⟨t', e, ht⟩ := hx _ hm
    cases e
    obtain ⟨its2, r2, ⟨o, ho, hc, n, hd⟩, _⟩ := I.tuple ht
    obtain ⟨u1, u2, rfl, ri, rj⟩ := vals2 r2
    obtain ⟨t1, rfl⟩ := ri
    obtain ⟨t2, rfl⟩ := rj
    exact ⟨t, o, t1, t2, n, rfl, ho, hc, hd⟩
  · have h3 : ∀ u ∈ out, ∃ a, u = Value.ref a := fun u hu => e2 u (h2.perm.mem_iff.mp hu)
    obtain ⟨n, hn⟩ := hn
    have hb : SrtO.Stb (ltP (keyP X.K H)) (out.map backV) (as.map V.ref) := by
      rw [e1]
      exact SrtO.Stb.map (ltP_swo (keyP X.K H)) backV h2
    obtain ⟨as', ea, pa⟩ := pairs_keys (K := X.K) (H := H) (ys := out.map backV) fun y hy => hx y (hb.perm.mem_iff.mp hy)
    have pm : ((out.map backV).map (keyP X.K H)).Perm es := by
      have z := hb.perm.map (keyP X.K H)
      rw [keys_eq I hP] at z
      exact z
    have sr : ((out.map backV).map (keyP X.K H)).Pairwise fun x y => SrtO.lexB y x = false := List.pairwise_map.mpr (SrtO.srtd_map h1)
    refine ⟨.ref d, upd H d (.lst (out.map backV)), I.laid (t' := s.toks) kp hd ⟨?_, out, n, vals_back h3, hn⟩, rfl, ?_⟩
    · rw [hb.len]
      exact hz
    · have z := q as' _ d pa pm sr (I.hok.fresh hd)
      rw [← ea] at z
      exact z
theorem inD_at {X : Cx} {A : Around} {K : PySem.W.Frag} (hA : X.A = A) (hK : X.K = K) (hu : A.units + 65 < cLine) : OpR X (compareOp .In) (rInD K) := by
  subst hA
  subst hK
  exact op_inD hu
end
/-! ### neighbours ascend -/
theorem nearOf_lt {n : Nat} {qs : List Pr} (ok : ∀ q ∈ qs, Okp n q) (srt : qs.Pairwise lexlt) (u : Int) : (nearOf qs u).Pairwise (· < ·) := by
  unfold nearOf
  refine List.pairwise_flatMap.mpr ⟨fun q hq => ?_, List.Pairwise.imp_of_mem (fun {q r} hq hr h x hx y hy => ?_) srt⟩
  · obtain ⟨a, b, c⟩ := ok q hq
    by_cases c1 : q.1 = u
    · by_cases c2 : q.2 = u
      · omega
      · rw [if_pos c1, if_neg c2]
        exact List.pairwise_singleton _ _
    · rw [if_neg c1]
      by_cases c2 : q.2 = u
      · rw [if_pos c2]
        exact List.pairwise_singleton _ _
      · rw [if_neg c2]
        exact List.Pairwise.nil
  · obtain ⟨a, b, c⟩ := ok q hq
    obtain ⟨a', b', c'⟩ := ok r hr
    have l := SrtO.lexB_iff.mp h
    have kx : (q.1 = u ∧ x = q.2) ∨ (q.2 = u ∧ x = q.1) := by
      rcases List.mem_append.mp hx with z | z
      · by_cases c1 : q.1 = u
        · rw [if_pos c1] at z; exact .inl ⟨c1, List.mem_singleton.mp z⟩
        · rw [if_neg c1] at z; cases z
      · by_cases c1 : q.2 = u
        · rw [if_pos c1] at z; exact .inr ⟨c1, List.mem_singleton.mp z⟩
        · rw [if_neg c1] at z; cases z
    have ky : (r.1 = u ∧ y = r.2) ∨ (r.2 = u ∧ y = r.1) := by
      rcases List.mem_append.mp hy with z | z
      · by_cases c1 : r.1 = u
        · rw [if_pos c1] at z; exact .inl ⟨c1, List.mem_singleton.mp z⟩
        · rw [if_neg c1] at z; cases z
      · by_cases c1 : r.2 = u
        · rw [if_pos c1] at z; exact .inr ⟨c1, List.mem_singleton.mp z⟩
        · rw [if_neg c1] at z; cases z
    omega
/-- what the law takes for the neighbours of u -/
def lnear (n : Nat) (es : List Pr) (u : Int) : List Int := (vxs n).filter fun v => decide ((if v < u then v else u, if v > u then v else u) ∈ es)
theorem mm_mem {es : List Pr} {n : Nat} (ok : ∀ q ∈ es, Okp n q) {u v : Int} : (if v < u then v else u, if v > u then v else u) ∈ es ↔ v ∈ nearOf es u := by
  rw [mem_near]
  by_cases c : v < u
  · rw [if_pos c, if_neg (by omega)]
    exact ⟨.inr, fun h => h.elim (fun z => by have := (ok _ z).2.1; dsimp only at this; omega) id⟩
  · rw [if_neg c]
    by_cases c2 : v > u
    · rw [if_pos c2]
      exact ⟨.inl, fun h => h.elim id (fun z => by have := (ok _ z).2.1; dsimp only at this; omega)⟩
    · rw [if_neg c2]
      have e : u = v := by omega
      subst e
      exact ⟨.inl, fun h => h.elim id id⟩
theorem near_perm {qs es : List Pr} (pm : qs.Perm es) {u v : Int} : v ∈ nearOf qs u ↔ v ∈ nearOf es u := by
  rw [mem_near, mem_near, pm.mem_iff, pm.mem_iff]
theorem near_lnear {n : Nat} {qs es : List Pr} (ok : ∀ q ∈ qs, Okp n q) (srt : qs.Pairwise lexlt) (pm : qs.Perm es) (u : Int) : nearOf qs u = lnear n es u := by
  refine lt_ext (nearOf_lt ok srt u) ((vxs_lt n).filter _) fun k => ?_
  have ok' : ∀ q ∈ es, Okp n q := fun q hq => ok q (pm.mem_iff.mpr hq)
  unfold lnear
  rw [List.mem_filter, mem_vxs, decide_eq_true_eq, mm_mem ok', ← near_perm pm]
  exact ⟨fun h => ⟨near_vx ok h, h⟩, fun h => h.2⟩
end Sm

set_option Elab.async false
set_option linter.all false
set_option maxRecDepth 100000
set_option maxHeartbeats 4000000
namespace Sm
open PySem PySem.Spec PyProof.Rows L2
abbrev sLrt : Stmt := topS 29
def spLrt (K : PySem.W.Frag) (C : Addr) : Sp := fun vs H Q _ => ∃ (g e : Addr) (n : Nat) (qs es : List Pr) (as : List Addr), vs = [.ref g, .int n, .ref e] ∧ GraphAt K C H g n qs ∧ SqL K H e (as.map V.ref) ∧ PairsAt K H as es ∧ qs.Perm es ∧ ∀ H', Same H H' → Q (.bl true) H'
theorem ints_eqv : ∀ l : List Int, PyData.eqvAll (l.map PyData.int) (l.map PyData.int) = true
  | [] => by simp [PyData.eqvAll]
  | i :: l => by simp only [List.map_cons, PyData.eqvAll, ints_eqv l, PyData.eqv]; simp
theorem dp_ints {K : PySem.W.Frag} {H : Hp} : ∀ l : List Int, DpAll K H (l.map V.int) (l.map PyData.int)
  | [] => .nil
  | i :: l => .cons (.int i) (dp_ints l)
theorem ints_lay : ∀ l : List Int, PyData.canLayAll0 (l.map PyData.int) = true
  | [] => by simp [PyData.canLayAll0]
  | i :: l => by simp only [List.map_cons, PyData.canLayAll0, ints_lay l, PyData.canLay0]; simp
theorem ints_depth : ∀ l : List Int, PyData.depthAll (l.map PyData.int) ≤ 0
  | [] => by simp [PyData.depthAll]
  | i :: l => by
    have z := ints_depth l
    simp only [List.map_cons, PyData.depthAll, PyData.depth]
    omega
theorem flt1 {p : Int → Bool} {a : Int} (h : p a = true) : [a].filter p = [a] := List.filter_cons_of_pos h
theorem flt0 {p : Int → Bool} {a : Int} (h : p a = false) : [a].filter p = [] := List.filter_cons_of_neg (by rw [h]; decide)
theorem ints_shaped (l : List Int) : SeqAt.shaped (.list (l.map PyData.int)) = true := by
  have h1 := ints_depth l
  unfold SeqAt.shaped
  rw [Bool.and_eq_true]
  refine ⟨by simp only [PyData.canLay0]; exact ints_lay l, decide_eq_true ?_⟩
  simp only [PyData.depth]
  omega
theorem eqd_pairs {K : PySem.W.Frag} {H : Hp} : ∀ {as bs : List Addr} {es : List Pr}, PairsAt K H as es → PairsAt K H bs es → ∀ (i : Nat) x y, (as.map V.ref)[i]? = some x → (bs.map V.ref)[i]? = some y → Eqd K H 1 x y
  | _, _, _, .nil, .nil, i, x, y, hx, _ => by simp at hx
  | _, _, _, .cons h t, .cons h' t', 0, x, y, hx, hy => by
    cases hx
    cases hy
    refine .tup h h' rfl (fun i x y hx hy => ?_) (by show 2 ≤ 1000; decide)
    rw [hx] at hy
    cases hy
    match i, hx with
    | 0, hx => cases hx; exact .int _ _
    | 1, hx => cases hx; exact .int _ _
    | m + 2, hx => simp at hx
  | _, _, _, .cons h t, .cons h' t', i + 1, x, y, hx, hy => eqd_pairs t t' i x y hx hy
section
variable {P : Program} {w : World} {K : PySem.W.Frag} {mg : Str → Option Value} {base : Heap}
abbrev lrtN : List Str := ["graph", "size", "edges", "u", "near", "v"]
theorem scLrt : FnScope lrtN ["graph", "size", "edges"] (defScope sLrt) := ⟨rfl, rfl, rfl, by decide +kernel, rfl, by decide +kernel, by decide +kernel⟩
theorem ok_lrt {f C CB fS fN fH : Addr} {fd fdS fdN fdH : FuncData} (F : Fun K "_law_right" "_law_right" sLrt f fd) (T : TxG K mg C) (TX : TxS mg)
    (GS : FnOk P w K mg base CX0 4 fS fdS ["actual", "expected"] (spLsm K 3)) (kS : PySem.W.keepIn K (.ref fS) = true) (bS : Binds K fdS ["actual", "expected"] []) (gS : mg "_law_same" = some (.ref fS))
    (GN : FnOk P w K mg base (L2.CX P w) 4 fN fdN ["self", "u"] (spNear K C CB)) (mN : Meth K C "near" fN) (bN : Binds K fdN ["self", "u"] [])
    (GH : FnOk P w K mg base (L2.CX P w) 4 fH fdH ["self", "u", "v"] (spHas K C CB)) (mH : Meth K C "has" fH) (bH : Binds K fdH ["self", "u", "v"] [])
    (mso : mg "sorted" = none) (mi : mg "min" = none) (mx : mg "max" = none) :
    FnOk P w K mg base (L2.CX P w) 5 f fd ["graph", "size", "edges"] (spLrt K C) := by
  refine F.okX scLrt (fun vs H Q E h => ?_) (fun cdv A outer s H vs Q E hr h => ?_)
  · obtain ⟨g, e, n, qs, es, as, rfl, _⟩ := h
    rfl
  · obtain ⟨g, e, n, qs, es, as, rfl, G, hE, hP, pm, q⟩ := h
    have hu : _ + 64 < cLine := hr.units
    have ⟨dx, et, nt, hg, ⟨ets, hT, hPq⟩, _⟩ := G.ob
    refine ⟨_, pss_cons (ps_if (pt_not (pt_val (pe_call GS hr (by rfl) gS kS bS .nil pass0 (pa_cons (pe_tup (pa_cons (pe_fld (pv 0) rfl) (pa_cons (pe_fld (pv 0) rfl) pa_nil))) (pa_cons (pe_tup (pa_cons (pv 1) (pa_cons (pe_callTy call_tuple_of (by rfl) TX.tup (by decide +kernel) (pa_cons (pe_callB cr_sortedPE (by rfl) mso (by decide +kernel) (pa_cons (pv 2) pa_nil)) pa_nil)) pa_nil))) pa_nil)))))
        (pss_one (ps_ret pe_bl)) pss_nil)
      (pss_cons (ps_for (passes_of rfl) rfl (pi_range1 rfl TX.ran (pa_cons (pv 1) pa_nil)) (pg_name (i := 3) scLrt.nd rfl (.inr rfl))
        (pss_cons (ps_set (i := 4) scLrt.nd rfl (.inl rfl) (pe_meth (pv 0) T.cl mN GN hr bN .nil (passes_call (takes_of rfl rfl rfl rfl) fun _ _ _ _ h => h) (pa_cons (pv 3) pa_nil)))
        (pss_cons (ps_if (pt_cmpR (op_neD hu) (pv 4) (pe_lc (own := [("v", 5)]) (g := gName 5) (by rfl) scLrt.nd (pi_range1 rfl TX.ran (pa_cons (pv 1) pa_nil)) (blkOk_by (own := [("v", 5)]) (N := lrtN) (sc := defScope sLrt) (by decide +kernel)) (fun _ _ _ _ _ => pg_name (i := 5) scLrt.nd rfl (Or.inl rfl))
            (fun _ _ _ _ _ => pts_one (pt_cmpR (inD_at rfl rfl (u65 hr)) (pe_tup (pa_cons (pe_callB (call_min2 rfl) (by rfl) mi (by decide +kernel) (pa_cons (pv 3) (pa_cons (pv 5) pa_nil))) (pa_cons (pe_callB (call_max2 rfl) (by rfl) mx (by decide +kernel) (pa_cons (pv 3) (pa_cons (pv 5) pa_nil))) pa_nil))) (pv 2) (by rfl))) (fun _ _ _ _ _ => pv 5)) (nomark _))
          (pss_one (ps_ret pe_bl)) pss_nil)
        (pss_cons (ps_expr (pe_bm PySem.F.plainAttrs_list PySem.F.slot_list_append PySem.F.type_list_append mt_append (pv 4) (pa_cons (pv 3) pa_nil)))
        (pss_one (ps_for (passes_of rfl) rfl (pi_range1 rfl TX.ran (pa_cons (pv 1) pa_nil)) (pg_name (i := 5) scLrt.nd rfl (.inl rfl))
          (pss_one (ps_if (PW.pt (pw_or (pt_not (pt_val (pe_callB call_isi (by rfl) TX.isi (by decide +kernel) (pa_cons (pe_meth (pv 0) T.cl mH GH hr bH .nil (passes_call (takes_of rfl rfl rfl rfl) fun _ _ _ _ h => h) (pa_cons (pv 3) (pa_cons (pv 5) pa_nil))) (pa_cons (pe_bltn (v := .ty "bool") (by rfl) TX.boo (by decide +kernel) rfl) pa_nil)))))
              (pw_or1 (pt_cmpR op_ne (pe_meth (pv 0) T.cl mH GH hr bH .nil (passes_call (takes_of rfl rfl rfl rfl) fun _ _ _ _ h => h) (pa_cons (pv 3) (pa_cons (pv 5) pa_nil)))
                (pe_cmpR (op_inD (u65 hr)) (pe_tup (pa_cons (pe_callB (call_min2 rfl) (by rfl) mi (by decide +kernel) (pa_cons (pv 3) (pa_cons (pv 5) pa_nil))) (pa_cons (pe_callB (call_max2 rfl) (by rfl) mx (by decide +kernel) (pa_cons (pv 3) (pa_cons (pv 5) pa_nil))) pa_nil))) (pv 2) (by rfl)) (nomark _)))))
            (pss_one (ps_ret pe_bl)) pss_nil))))))))
      (pss_one (ps_ret pe_bl))), ?_⟩
    refine ⟨_, rfl, g, C, dx, _, .int n, rfl, hg, T.cl, T.nS, gf_size _ _ _, _, rfl, g, C, dx, _, .ref et, rfl, hg, T.cl, T.nE, gf_edges _ _ _, (by show 2 ≤ sizeLine; decide), fun t1 nt1 => ?_⟩
    have s1 := same_upd (o := .tup [V.int (n : Int), V.ref et]) nt1
    refine ⟨_, rfl, _, rfl, e, as, es, rfl, s1.seq hE, hP.same s1, fun as' es' p pa pm' sr np => ⟨p, _, rfl, .inl ⟨SqL.of upd_same, fun l nl => ⟨(by show 2 ≤ sizeLine; decide), fun t2 nt2 => ?_⟩⟩⟩⟩
    have s2 := same_upd (o := .lst (as'.map V.ref)) np
    have s3 := same_upd (o := .tup (as'.map V.ref)) nl
    have s4 := same_upd (o := .tup [V.int (n : Int), V.ref l]) nt2
    have ee : es' = qs := sorted_uniq G.srt sr (pm'.trans pm.symm)
    subst ee
    have s24 := s3.trans s4
    have s14 := s2.trans s24
    have few := G.few
    refine ⟨_, _, rfl, .tup (SqT.of (s14 _ _ upd_same)) (SqT.of upd_same) rfl (fun i x y hx hy => ?_) (by show 2 ≤ 1000; decide), true, rfl, iteF ?_⟩
    · match i, hx, hy with
      | 0, hx, hy =>
        cases hx
        cases hy
        exact .int _ _
      | 1, hx, hy =>
        cases hx
        cases hy
        refine .tup (same_sqT (s1.trans s14) hT) (SqT.of (s4 _ _ upd_same)) (by rw [List.length_map, List.length_map, hPq.length, pa.length]) (eqd_pairs ((hPq.same s1).same s14) ((pa.same s2).same s24)) (by rw [List.length_map, hPq.length]; omega)
      | m + 2, hx, hy => simp at hx
    refine ⟨_, rfl, n, rfl, by have := G.lim; omega, by have := G.lim; omega, ?_⟩
    have lim := G.lim
    have toNat : ((n : Nat) : Int).toNat = n := by omega
    rw [toNat]
    refine for_range (lo := 0) (n := n) (fun u σ H' => ∃ (y3 y4 y5 : Option V), σ = [some (.ref g), some (.int n), some (.ref e), y3, y4, y5] ∧ Same H H') ⟨none, none, none, rfl, s1.trans s14⟩ ?_ ?_
    · rintro u σ H' hi ⟨y3, y4, y5, rfl, sm⟩
      have e0 : (0 : Int) + (u : Int) = (u : Int) := by omega
      rw [e0]
      refine ⟨_, rfl, g, dx, _, rfl, sm _ _ hg, gf_no _ _ _ (by decide +kernel) (by decide +kernel) (by decide +kernel), _, rfl, g, n, es', .int u, some u, rfl, G.same sm, .int _, fun c => absurd (vtxB_of hi) (by rw [c]; decide), fun u' eu hu' l1 nl1 => ?_⟩
      have eu' : u = u' := Int.ofNat.inj (Option.some.inj eu)
      subst eu'
      have s5 := same_upd (o := .lst ((nearOf es' (u : Int)).map V.int)) nl1
      refine ⟨_, rfl, _, rfl, n, rfl, by omega, by omega, fun D nD => ?_⟩
      rw [toNat]
      refine lc_range (lo := 0) (n := n) (fun m H7 => Same (upd H' l1 (.lst ((nearOf es' (u : Int)).map V.int))) H7 ∧ H7 D = some (.lst ((((vxs n).take m).filter fun v => decide ((if v < (u : Int) then v else (u : Int), if v > (u : Int) then v else (u : Int)) ∈ es)).map V.int))) ⟨same_upd nD, upd_same⟩ ?_ ?_
      · rintro m H7 hm ⟨s7, hD⟩
        have e1 : (0 : Int) + (m : Int) = (m : Int) := by omega
        rw [e1]
        have sH7 := sm.trans (s5.trans s7)
        have ek : (vxs n)[m]? = some (m : Int) := by
          unfold vxs
          rw [List.getElem?_map, List.getElem?_range hm]
          rfl
        have tk := take_next' ek
        refine ⟨rfl, _, rfl, _, rfl, _, _, rfl, _, rfl, _, rfl, _, _, rfl, (by show 2 ≤ sizeLine; decide), fun t nt => ?_⟩
        have st := same_upd (o := .tup [V.int (if (m : Int) < (u : Int) then (m : Int) else (u : Int)), V.int (if (m : Int) > (u : Int) then (m : Int) else (u : Int))]) nt
        refine ⟨_, rfl, pD (if (m : Int) < (u : Int) then (m : Int) else (u : Int), if (m : Int) > (u : Int) then (m : Int) else (u : Int)), es.map pD, dp_pair (SqT.of upd_same), .lst ((sH7.trans st).seq hE) (dp_pairs (hP.same (sH7.trans st))), pD_shaped _, pDs_shapedL _, _, rfl, ?_⟩
        rw [pDs_any]
        by_cases c : (if (m : Int) < (u : Int) then (m : Int) else (u : Int), if (m : Int) > (u : Int) then (m : Int) else (u : Int)) ∈ es
        · rw [decide_eq_true c]
          refine iteT ⟨_, rfl, _, st _ _ hD, ?_, same_put (s7.trans st) nD, ?_⟩
          · rw [List.length_map]
            have z1 := List.length_filter_le (fun v => decide ((if v < (u : Int) then v else (u : Int), if v > (u : Int) then v else (u : Int)) ∈ es)) ((vxs n).take m)
            have z2 : ((vxs n).take m).length ≤ m := by rw [List.length_take]; omega
            exact small1000 (by omega)
          · rw [upd_same, tk, List.filter_append, List.map_append, flt1 (p := fun v : Int => decide ((if v < (u : Int) then v else (u : Int), if v > (u : Int) then v else (u : Int)) ∈ es)) (a := (m : Int)) (decide_eq_true c)]
            rfl
        · rw [decide_eq_false c]
          refine iteF ⟨s7.trans st, ?_⟩
          rw [st _ _ hD, tk, List.filter_append, flt0 (p := fun v : Int => decide ((if v < (u : Int) then v else (u : Int), if v > (u : Int) then v else (u : Int)) ∈ es)) (a := (m : Int)) (decide_eq_false c), List.append_nil]
      · rintro H7 ⟨s7, hD⟩
        have vl : (vxs n).length = n := by unfold vxs; rw [List.length_map, List.length_range]
        rw [List.take_of_length_le (by omega)] at hD
        have nr := near_lnear G.ok G.srt pm (u : Int)
        have hl7 := s7 _ _ (upd_same (H := H') (a := l1) (o := .lst ((nearOf es' (u : Int)).map V.int)))
        have sH7 := sm.trans (s5.trans s7)
        refine ⟨.list ((nearOf es' (u : Int)).map PyData.int), .list ((lnear n es (u : Int)).map PyData.int), .lst (SqL.of hl7) (dp_ints _), .lst (SqL.of hD) (dp_ints _), ints_shaped _, ints_shaped _, _, rfl, ?_⟩
        rw [← nr]
        have eq : PyData.eqv (.list ((nearOf es' (u : Int)).map PyData.int)) (.list ((nearOf es' (u : Int)).map PyData.int)) = true := by
          simp only [PyData.eqv]
          exact ints_eqv _
        rw [eq]
        have nlen := near_len (n := n) few (u : Int)
        refine iteF ⟨_, rfl, .inl ⟨rfl, _, SqL.of hl7⟩, _, rfl, l1, _, _, rfl, rfl, hl7, by rw [List.length_map]; exact small1000 (by omega), ?_⟩
        have nlH : H l1 = none := sm.free nl1
        have s8 : Same H (upd H7 l1 (.lst ((nearOf es' (u : Int)).map V.int ++ [V.int (u : Int)]))) := same_put sH7 nlH
        refine ⟨_, rfl, n, rfl, by omega, by omega, ?_⟩
        rw [toNat]
        refine for_range (lo := 0) (n := n) (fun v σ H' => ∃ (y5 : Option V), σ = [some (.ref g), some (.int n), some (.ref e), some (.int (u : Int)), some (.ref l1), y5] ∧ Same H H') ⟨_, rfl, s8⟩ ?_ ?_
        · rintro v σ H9 hv ⟨y5, rfl, s9⟩
          have e2 : (0 : Int) + (v : Int) = (v : Int) := by omega
          rw [e2]
          have uv := vtxB_of hi
          have vv := vtxB_of hv
          refine ⟨_, rfl, g, dx, _, rfl, s9 _ _ hg, gf_no _ _ _ (by decide +kernel) (by decide +kernel) (by decide +kernel), _, rfl, _, rfl, g, n, es', .int u, .int v, some u, some v, rfl, G.same s9, .int _, .int _, fun c => (by rw [uv, vv] at c; cases c), fun u' v' eu ev hu' hv' => ?_⟩
          have eu' : u = u' := Int.ofNat.inj (Option.some.inj eu)
          have ev' : v = v' := Int.ofNat.inj (Option.some.inj ev)
          subst eu'
          subst ev'
          refine ⟨.bl (decide ((v : Int) ∈ nearOf es' (u : Int))), .ty "bool", .type "bool", .type "bool", true, rfl, .ty "bool", .base (.bl _), kit_ty (by decide +kernel), true, rfl, iteF ?_⟩
          refine ⟨_, rfl, g, dx, _, rfl, s9 _ _ hg, gf_no _ _ _ (by decide +kernel) (by decide +kernel) (by decide +kernel), _, rfl, _, rfl, g, n, es', .int u, .int v, some u, some v, rfl, G.same s9, .int _, .int _, fun c => (by rw [uv, vv] at c; cases c), fun u' v' eu ev hu' hv' => ?_⟩
          have eu' : u = u' := Int.ofNat.inj (Option.some.inj eu)
          have ev' : v = v' := Int.ofNat.inj (Option.some.inj ev)
          subst eu'
          subst ev'
          refine ⟨_, rfl, _, rfl, _, _, rfl, _, rfl, _, rfl, _, _, rfl, (by show 2 ≤ sizeLine; decide), fun t nt => ?_⟩
          have st := same_upd (o := .tup [V.int (if (v : Int) < (u : Int) then (v : Int) else (u : Int)), V.int (if (v : Int) > (u : Int) then (v : Int) else (u : Int))]) nt
          refine ⟨_, rfl, pD (if (v : Int) < (u : Int) then (v : Int) else (u : Int), if (v : Int) > (u : Int) then (v : Int) else (u : Int)), es.map pD, dp_pair (SqT.of upd_same), .lst ((s9.trans st).seq hE) (dp_pairs (hP.same (s9.trans st))), pD_shaped _, pDs_shapedL _, rfl, _, rfl, ?_⟩
          rw [pDs_any]
          have ok' : ∀ q ∈ es, Okp n q := fun q hq => G.ok q (pm.mem_iff.mpr hq)
          have dq : decide ((if (v : Int) < (u : Int) then (v : Int) else (u : Int), if (v : Int) > (u : Int) then (v : Int) else (u : Int)) ∈ es) = decide ((v : Int) ∈ nearOf es' (u : Int)) := decide_eq_decide.mpr ((mm_mem ok').trans (near_perm pm).symm)
          rw [dq]
          refine iteNS rfl ⟨_, rfl, s9.trans st⟩
        · rintro σ H9 ⟨y5, rfl, s9⟩
          exact ⟨_, _, _, rfl, s9⟩
    · rintro σ H' ⟨y3, y4, y5, rfl, sm⟩
      exact q H' sm
end
end Sm

set_option Elab.async false
set_option linter.all false
set_option maxRecDepth 100000
set_option maxHeartbeats 4000000
namespace Sm
open PySem PySem.Spec PyProof.Rows L2
theorem memRow {n u : Nat} {q : Pr} : q ∈ rowP n u ↔ ∃ i, i < n - (u + 1) ∧ ((u : Int), ((u + 1 + i : Nat) : Int)) = q := by
  unfold rowP
  rw [List.mem_map]
  constructor
  · rintro ⟨i, hi, e⟩
    exact ⟨i, List.mem_range.mp hi, e⟩
  · rintro ⟨i, hi, e⟩
    exact ⟨i, List.mem_range.mpr hi, e⟩
theorem mem_pairsL {n : Nat} {q : Pr} : q ∈ pairsL n ↔ Okp n q := by
  refine ⟨mem_pairs, fun ⟨a, b, c⟩ => ?_⟩
  unfold pairsL
  refine List.mem_flatMap.mpr ⟨q.1.toNat, List.mem_range.mpr (by omega), memRow.mpr ⟨(q.2 - q.1 - 1).toNat, by omega, Prod.ext ?_ ?_⟩⟩
  · show ((q.1.toNat : Nat) : Int) = q.1
    omega
  · show ((q.1.toNat + 1 + (q.2 - q.1 - 1).toNat : Nat) : Int) = q.2
    omega
theorem pairsL_lt (n : Nat) : (pairsL n).Pairwise lexlt := by
  unfold pairsL
  refine List.pairwise_flatMap.mpr ⟨fun u _ => ?_, List.Pairwise.imp (fun {u v} h x hx y hy => ?_) List.pairwise_lt_range⟩
  · unfold rowP
    refine List.pairwise_map.mpr (List.Pairwise.imp (R := (· < ·)) (fun {i j} h => ?_) List.pairwise_lt_range)
    refine SrtO.lexB_iff.mpr (.inr ⟨rfl, ?_⟩)
    show ((u + 1 + i : Nat) : Int) < ((u + 1 + j : Nat) : Int)
    omega
  · obtain ⟨i, _, rfl⟩ := memRow.mp hx
    obtain ⟨j, _, rfl⟩ := memRow.mp hy
    refine SrtO.lexB_iff.mpr (.inl ?_)
    show ((u : Nat) : Int) < ((v : Nat) : Int)
    omega
theorem lex_le {es : List Pr} (h : es.Pairwise lexlt) : es.Pairwise fun x y => SrtO.lexB y x = false := List.Pairwise.imp (fun {a b} h => by
  have x := SrtO.lexB_iff.mp h
  refine SrtO.lexB_no.mpr ?_
  omega) h
theorem lex_eq {qs es : List Pr} (h1 : qs.Pairwise lexlt) (h2 : es.Pairwise lexlt) (pm : qs.Perm es) : qs = es := (sorted_uniq h1 (lex_le h2) pm.symm).symm
theorem getD_at {s : List Int} {i : Nat} {v : Int} (h : s[i]? = some v) : s.getD i 0 = v := by
  rw [List.getD_eq_getElem?_getD, h]
  rfl
/-- what the law takes for the edges of a part -/
theorem lpart_perm {n : Nat} {es : List Pr} {s : List Int} (ok : ∀ q ∈ es, Okp n q) (nde : es.Nodup) (nd : s.Nodup) : (partE es s).Perm (lpart es s) := by
  refine (List.perm_ext_iff_of_nodup (partE_nd ok nde) ((lex_nd (pairsL_lt _)).filter _)).mpr fun r => ?_
  rw [List.mem_filter, mem_pairsL]
  constructor
  · intro h
    refine ⟨partE_ok ok r h, ?_⟩
    obtain ⟨q, hq, e⟩ := List.mem_filterMap.mp h
    have qo := (ok q hq).2.1
    unfold mvE at e
    split at e
    · rename_i i j hi hj
      cases e
      have gi := getD_at (posOf_lt hi).2
      have gj := getD_at (posOf_lt hj).2
      unfold lptB
      refine decide_eq_true ?_
      dsimp only
      by_cases c : (j : Int) < i
      · rw [if_pos c, if_neg (show ¬ (j : Int) > i by omega), show ((j : Nat) : Int).toNat = j by omega, show ((i : Nat) : Int).toNat = i by omega, gi, gj, if_pos (show q.1 < q.2 by omega), if_neg (show ¬ q.1 > q.2 by omega)]
        exact hq
      · have z : i ≠ j := fun z => by subst z; have := posOf_inj hi hj; omega
        rw [if_neg c, if_pos (show (j : Int) > i by omega), show ((j : Nat) : Int).toNat = j by omega, show ((i : Nat) : Int).toNat = i by omega, gi, gj, if_neg (by omega), if_pos (by omega)]
        exact hq
    · cases e
  · rintro ⟨⟨a, b, c⟩, h⟩
    have h := of_decide_eq_true (show decide _ = true from h)
    obtain ⟨r1, r2⟩ := r
    dsimp only at a b c h
    obtain ⟨k, rfl⟩ : ∃ k : Nat, r1 = k := ⟨r1.toNat, by omega⟩
    obtain ⟨j, rfl⟩ : ∃ k : Nat, r2 = k := ⟨r2.toNat, by omega⟩
    rw [show ((j : Nat) : Int).toNat = j by omega, show ((k : Nat) : Int).toNat = k by omega] at h
    have kl : k < s.length := by omega
    have jl : j < s.length := by omega
    have gk : s[k]? = some s[k] := List.getElem?_eq_getElem kl
    have gj : s[j]? = some s[j] := List.getElem?_eq_getElem jl
    rw [getD_at gk, getD_at gj] at h
    have ne : s[k] ≠ s[j] := fun z => by
      have := (List.getElem_inj nd).mp z
      omega
    have pk := posOf_at nd gk
    have pj := posOf_at nd gj
    refine List.mem_filterMap.mpr ?_
    by_cases c1 : s[j] < s[k]
    · rw [if_pos c1, if_neg (by omega)] at h
      refine ⟨_, h, ?_⟩
      unfold mvE
      dsimp only
      rw [pj, pk]
      dsimp only
      rw [if_pos (by omega), if_neg (by omega)]
    · rw [if_neg c1, if_pos (by omega)] at h
      refine ⟨_, h, ?_⟩
      unfold mvE
      dsimp only
      rw [pj, pk]
      dsimp only
      rw [if_neg (by omega), if_pos (by omega)]
end Sm

set_option Elab.async false
set_option linter.all false
set_option maxRecDepth 100000
set_option maxHeartbeats 4000000
namespace Sm
open PySem PySem.Spec PyProof.Rows L2
/-- a graph that stays one whatever is done to pl -/
def FrG (K : PySem.W.Frag) (C pl : Addr) (H : Hp) (g : Addr) (n : Nat) (es : List Pr) : Prop := ∀ H'', But pl H H'' → GraphAt K C H'' g n es
theorem FrG.at {K : PySem.W.Frag} {C pl : Addr} {H : Hp} {g : Addr} {n : Nat} {es : List Pr} (f : FrG K C pl H g n es) : GraphAt K C H g n es := f H fun _ _ e _ => e
theorem FrG.but {K : PySem.W.Frag} {C pl : Addr} {H H' : Hp} {g : Addr} {n : Nat} {es : List Pr} (b : But pl H H') (f : FrG K C pl H g n es) : FrG K C pl H' g n es := fun H'' b' => f H'' fun x o e ne => b' x o (b x o e ne) ne
structure LS (K : PySem.W.Frag) (C : Addr) (p pl t1 t2 e1 e2 g h : Addr) (n m : Nat) (out : List Int) (as1 as2 : List Addr) (es1 es2 : List Pr) (H : Hp) (i : Nat) : Prop where
  ppl : p ≠ pl
  sp : SqL K H p (out.map V.int)
  dg : ∀ x ∈ out, Dig x
  hpl : H pl = some (.lst [.int i])
  ht1 : H t1 = some (.tup [.int n, .ref e1])
  ht2 : H t2 = some (.tup [.int m, .ref e2])
  he1 : H e1 = some (.lst (as1.map V.ref))
  he2 : H e2 = some (.lst (as2.map V.ref))
  n1 : e1 ≠ pl
  n2 : e2 ≠ pl
  pa1 : PairsAt K H as1 es1
  pa2 : PairsAt K H as2 es2
  fg : FrG K C pl H g n es1
  fh : FrG K C pl H h m es2
section
variable {K : PySem.W.Frag} {C : Addr} {p pl t1 t2 e1 e2 g h : Addr} {n m : Nat} {out : List Int} {as1 as2 : List Addr} {es1 es2 : List Pr}
theorem LS.but {H H' : Hp} {i i' : Nat} (b : But pl H H') (e : H' pl = some (.lst [.int i'])) (L : LS K C p pl t1 t2 e1 e2 g h n m out as1 as2 es1 es2 H i) : LS K C p pl t1 t2 e1 e2 g h n m out as1 as2 es1 es2 H' i' := by
  have z := L.hpl
  refine ⟨L.ppl, b.sqL z L.sp L.ppl, L.dg, e, b _ _ L.ht1 (fun y => ?_), b _ _ L.ht2 (fun y => ?_), b _ _ L.he1 L.n1, b _ _ L.he2 L.n2, L.n1, L.n2, b.pairs z L.pa1, b.pairs z L.pa2, L.fg.but b, L.fh.but b⟩
  · have x := L.ht1
    rw [y, z] at x
    cases x
  · have x := L.ht2
    rw [y, z] at x
    cases x
theorem LS.same {H H' : Hp} {i : Nat} (s : Same H H') (L : LS K C p pl t1 t2 e1 e2 g h n m out as1 as2 es1 es2 H i) : LS K C p pl t1 t2 e1 e2 g h n m out as1 as2 es1 es2 H' i := L.but (Same.but s) (s _ _ L.hpl)
end
theorem vscan_ok {n : Nat} : ∀ {l seen : List Int}, (∀ x ∈ l, Vx n x) → (seen ++ l).Nodup → vscan n seen (l.map some) = some (seen ++ l)
  | [], seen, _, _ => by
    rw [List.append_nil]
    rfl
  | x :: l, seen, hv, nd => by
    have hx := hv x List.mem_cons_self
    unfold Vx at hx
    have c : vtxB n (some x) = true ∧ (some x).getD 0 ∉ seen := by
      refine ⟨by simp only [vtxB, Bool.and_eq_true, decide_eq_true_eq]; exact hx, fun z => ?_⟩
      exact (List.nodup_append.mp nd).2.2 x z x List.mem_cons_self rfl
    show (if vtxB n (some x) = true ∧ (some x).getD 0 ∉ seen then vscan n (seen ++ [(some x).getD 0]) (l.map some) else none) = _
    rw [if_pos c]
    have z := vscan_ok (n := n) (l := l) (seen := seen ++ [x]) (fun y hy => hv y (List.mem_cons_of_mem _ hy)) (by rw [List.append_assoc]; exact nd)
    rw [List.append_assoc] at z
    exact z
theorem ib_ints : ∀ l : List Int, Paired IB (l.map V.int) (l.map some)
  | [] => .nil
  | x :: l => .cons (.int x) (ib_ints l)
theorem vx_perm {n : Nat} {os : List Int} (pm : os.Perm (vxs n)) : (∀ x ∈ os, Vx n x) ∧ os.Nodup ∧ os.length = n := by
  refine ⟨fun x hx => mem_vxs.mp (pm.mem_iff.mp hx), pm.symm.nodup (List.Pairwise.imp (fun {a b} h e => by omega) (vxs_lt n)), ?_⟩
  rw [pm.length_eq]
  unfold vxs
  rw [List.length_map, List.length_range]
theorem pick_pairs {K : PySem.W.Frag} {H : Hp} {as : List Addr} {es : List Pr} (h : PairsAt K H as es) : ∀ {os : List Int}, (∀ x ∈ os, Vx as.length x) → PairsAt K H (os.map fun k => as.getD k.toNat 0) (os.map fun k => es.getD k.toNat (0, 0))
  | [], _ => .nil
  | x :: os, hv => by
    have hx := hv x List.mem_cons_self
    unfold Vx at hx
    have l : x.toNat < as.length := by omega
    have ga : as[x.toNat]? = some as[x.toNat] := List.getElem?_eq_getElem l
    obtain ⟨q, hq, hs⟩ := h.get ga
    have e1 : as.getD x.toNat 0 = as[x.toNat] := by rw [List.getD_eq_getElem?_getD, ga]; rfl
    have e2 : es.getD x.toNat (0, 0) = q := by rw [List.getD_eq_getElem?_getD, hq]; rfl
    refine .cons ?_ (pick_pairs h fun y hy => hv y (List.mem_cons_of_mem _ hy))
    show SqT K H (as.getD x.toNat 0) [.int (es.getD x.toNat (0, 0)).1, .int (es.getD x.toNat (0, 0)).2]
    rw [e1, e2]
    exact hs
theorem pick_perm {es : List Pr} {os : List Int} (pm : os.Perm (vxs es.length)) : (os.map fun k => es.getD k.toNat (0, 0)).Perm es := by
  have z := pm.map fun k : Int => es.getD k.toNat (0, 0)
  have e : ((vxs es.length).map fun k : Int => es.getD k.toNat (0, 0)) = es := by
    unfold vxs
    rw [List.map_map]
    refine List.ext_getElem? fun i => ?_
    rw [List.getElem?_map]
    by_cases c : i < es.length
    · rw [List.getElem?_range c, List.getElem?_eq_getElem c]
      show some (es.getD (i : Int).toNat (0, 0)) = _
      rw [List.getD_eq_getElem?_getD, show ((i : Nat) : Int).toNat = i by omega, List.getElem?_eq_getElem c]
      rfl
    · rw [List.getElem?_eq_none (by rw [List.length_range]; omega), List.getElem?_eq_none (by omega)]
      rfl
  rw [e] at z
  exact z
/-! ### data -/
def gD (n : Nat) (es : List Pr) : PyData := .tuple [.int n, .list (es.map pD)]
theorem gD_shaped (n : Nat) (es : List Pr) : SeqAt.shaped (gD n es) = true := by
  have h1 := pDs_depth es
  have h2 := pDs_lay es
  unfold SeqAt.shaped gD
  rw [Bool.and_eq_true]
  refine ⟨by simp only [PyData.canLay0, PyData.canLayAll0, h2]; rfl, decide_eq_true ?_⟩
  simp only [PyData.depth, PyData.depthAll]
  omega
theorem gD_eqv (n m : Nat) (es fs : List Pr) : PyData.eqv (gD n es) (gD m fs) = decide (n = m ∧ es = fs) := by
  unfold gD
  simp only [PyData.eqv, PyData.eqvAll, pDs_eqv]
  by_cases c : n = m
  · by_cases d : es = fs
    · simp [c, d]
    · simp [c, d]
  · simp [c]
    omega
theorem gD_at {K : PySem.W.Frag} {H : Hp} {t e : Addr} {n : Nat} {as : List Addr} {es : List Pr} (ht : H t = some (.tup [.int n, .ref e])) (he : H e = some (.lst (as.map V.ref))) (pa : PairsAt K H as es) : Dp K H (.ref t) (gD n es) :=
  .tup (SqT.of ht) (.cons (.int _) (.cons (.lst (SqL.of he) (dp_pairs pa)) .nil))
def csD (cs : List (List Int)) : List PyData := cs.map fun c => .list (c.map PyData.int)
theorem csD_at {K : PySem.W.Frag} {H : Hp} : ∀ {ps : List Addr} {cs : List (List Int)}, ListsAt H ps cs → DpAll K H (ps.map V.ref) (csD cs)
  | _, _, .nil => .nil
  | _, _, .cons h t => .cons (.lst (SqL.of h) (dp_ints _)) (csD_at t)
theorem csD_lay : ∀ cs, PyData.canLayAll0 (csD cs) = true
  | [] => by simp [csD, PyData.canLayAll0]
  | c :: cs => by
    have z := csD_lay cs
    unfold csD at z
    simp only [csD, List.map_cons, PyData.canLayAll0, PyData.canLay0, ints_lay, z]
    rfl
theorem csD_depth : ∀ cs, PyData.depthAll (csD cs) ≤ 1
  | [] => by simp [csD, PyData.depthAll]
  | c :: cs => by
    have z := csD_depth cs
    have y := ints_depth c
    unfold csD at z
    simp only [csD, List.map_cons, PyData.depthAll, PyData.depth]
    omega
theorem csD_shaped (cs : List (List Int)) : SeqAt.shaped (.list (csD cs)) = true := by
  have h1 := csD_depth cs
  have h2 := csD_lay cs
  unfold SeqAt.shaped
  rw [Bool.and_eq_true]
  refine ⟨by simp only [PyData.canLay0]; exact h2, decide_eq_true ?_⟩
  simp only [PyData.depth]
  omega
theorem csD_eqv : ∀ cs, PyData.eqvAll (csD cs) (csD cs) = true
  | [] => by simp [csD, PyData.eqvAll]
  | c :: cs => by
    have z := csD_eqv cs
    unfold csD at z
    simp only [csD, List.map_cons, PyData.eqvAll, PyData.eqv, ints_eqv, z]
    rfl
end Sm

set_option Elab.async false
set_option linter.all false
set_option maxRecDepth 100000
set_option maxHeartbeats 8000000
namespace Sm
open PySem PySem.Spec PyProof.Rows L2
abbrev sLaw : Stmt := topS 30
abbrev lawN : List Str := ["script", "numbers", "place", "first", "second", "given", "graph", "other", "order", "some", "edge", "raised", "expected", "k", "one"]
abbrev slots (a p pl t1 t2 d g h : Addr) (y8 y9 y10 y11 y12 : Option V) : L2.St := [some (.ref a), some (.ref p), some (.ref pl), some (.ref t1), some (.ref t2), some (.ref d), some (.ref g), some (.ref h), y8, y9, y10, y11, y12, none, none]
theorem pairs_few {n : Nat} (h : n ≤ 9) : (pairsL n).length ≤ 36 := by
  have z : ((List.range 10).all fun n => decide ((pairsL n).length ≤ 36)) = true := by decide +kernel
  exact of_decide_eq_true (List.all_eq_true.mp z n (List.mem_range.mpr (by omega)))
theorem fltP1 {f : Pr → Bool} {a : Pr} (h : f a = true) : [a].filter f = [a] := List.filter_cons_of_pos h
theorem fltP0 {f : Pr → Bool} {a : Pr} (h : f a = false) : [a].filter f = [] := List.filter_cons_of_neg (by rw [h]; decide)
theorem ixT_at {X : Cx} {K : PySem.W.Frag} (hK : X.K = K) : IxR X (rIxT K) := by
  subst hK
  exact ix_tup
theorem ixL_at {X : Cx} {K : PySem.W.Frag} (hK : X.K = K) : IxR X (rIxL K) := by
  subst hK
  exact ix_list
def spLaw (K : PySem.W.Frag) : Sp := fun vs H Q _ => ∃ (a : Addr) (ns : List Int), vs = [.ref a] ∧ SqL K H a (ns.map V.int) ∧ ns.length ≤ 63 ∧ ∀ H', Q (.bl true) H'
section
variable {P : Program} {w : World} {K : PySem.W.Frag} {mg : Str → Option Value} {base : Heap}
theorem scLaw : FnScope lawN ["script"] (defScope sLaw) := ⟨rfl, rfl, rfl, by decide +kernel, rfl, by decide +kernel, by decide +kernel⟩
set_option maxHeartbeats 0 in
theorem ok_law {f C CB fI fN fG fO fT fS fR fP fL fE fW fH fZ fC fD : Addr} {fd fdI fdN fdG fdO fdT fdS fdR fdP fdL fdE fdW fdH fdZ fdC fdD : FuncData} (F : Fun K "law" "law" sLaw f fd) (T : TxG K mg C)
    (GI : FnOk P w K mg base (L2.CX P w) 4 fI fdI ["self", "size", "edges"] (spInit K C CB)) (M : Mk K C fI) (bI : Binds K fdI ["self", "size", "edges"] [])
    (GN : FnOk P w K mg base CX0 1 fN fdN ["script", "many"] (spNums K)) (kN : PySem.W.keepIn K (.ref fN) = true) (bN : Binds K fdN ["script", "many"] []) (gN : mg "_law_numbers" = some (.ref fN))
    (GG : FnOk P w K mg base CX0 2 fG fdG ["numbers", "place", "most"] (spGr K)) (kG : PySem.W.keepIn K (.ref fG) = true) (bG : Binds K fdG ["numbers", "place", "most"] []) (gG : mg "_law_graph" = some (.ref fG))
    (GO : FnOk P w K mg base CX0 2 fO fdO ["numbers", "place", "size"] (spOrd K)) (kO : PySem.W.keepIn K (.ref fO) = true) (bO : Binds K fdO ["numbers", "place", "size"] []) (gO : mg "_law_order" = some (.ref fO))
    (GT : FnOk P w K mg base CX0 1 fT fdT ["numbers", "place"] (spTake K)) (kT : PySem.W.keepIn K (.ref fT) = true) (bT : Binds K fdT ["numbers", "place"] []) (gT : mg "_law_take" = some (.ref fT))
    (GS : FnOk P w K mg base CX0 1 fS fdS ["first", "second"] (spSame K C)) (kS : PySem.W.keepIn K (.ref fS) = true) (bS : Binds K fdS ["first", "second"] []) (gS : mg "same" = some (.ref fS))
    (GR : FnOk P w K mg base (L2.CX P w) 5 fR fdR ["graph", "size", "edges"] (spLrt K C)) (kR : PySem.W.keepIn K (.ref fR) = true) (bR : Binds K fdR ["graph", "size", "edges"] []) (gR : mg "_law_right" = some (.ref fR))
    (GP : FnOk P w K mg base (L2.CX P w) 6 fP fdP ["graph", "vertices"] (spPartG K C CB)) (kP : PySem.W.keepIn K (.ref fP) = true) (bP : Binds K fdP ["graph", "vertices"] []) (gP : mg "part" = some (.ref fP))
    (GL : FnOk P w K mg base CX0 2 fL fdL ["edges", "vertices"] (spLpt K)) (kL : PySem.W.keepIn K (.ref fL) = true) (bL : Binds K fdL ["edges", "vertices"] []) (gL : mg "_law_part" = some (.ref fL))
    (GE : FnOk P w K mg base (L2.CX P w) 7 fE fdE ["graph", "order"] (spRenG K C CB)) (kE : PySem.W.keepIn K (.ref fE) = true) (bE : Binds K fdE ["graph", "order"] []) (gE : mg "renumbered" = some (.ref fE))
    (GW : FnOk P w K mg base (L2.CX P w) 6 fW fdW ["graph", "edge"] (spWoG K C CB)) (kW : PySem.W.keepIn K (.ref fW) = true) (bW : Binds K fdW ["graph", "edge"] []) (gW : mg "without" = some (.ref fW))
    (GH : FnOk P w K mg base (L2.CX P w) 6 fH fdH ["first", "second"] (spTog K C CB)) (kH : PySem.W.keepIn K (.ref fH) = true) (bH : Binds K fdH ["first", "second"] []) (gH : mg "together" = some (.ref fH))
    (GZ : FnOk P w K mg base CX0 2 fZ fdZ ["size", "edges"] (spLps K)) (kZ : PySem.W.keepIn K (.ref fZ) = true) (bZ : Binds K fdZ ["size", "edges"] []) (gZ : mg "_law_pieces" = some (.ref fZ))
    (GC : FnOk P w K mg base (L2.CX P w) 7 fC fdC ["graph"] (spPcs K C)) (kC : PySem.W.keepIn K (.ref fC) = true) (bC : Binds K fdC ["graph"] []) (gC : mg "pieces" = some (.ref fC))
    (GD : FnOk P w K mg base (L2.CX P w) 8 fD fdD ["graph"] (spCon K C)) (kD : PySem.W.keepIn K (.ref fD) = true) (bD : Binds K fdD ["graph"] []) (gD : mg "is_connected" = some (.ref fD))
    (mli : mg "list" = none) (mle : mg "len" = none) :
    FnOk P w K mg base CX0 9 f fd ["script"] (spLaw K) := by
  refine F.ok scLaw (fun vs H Q E h => ?_) (fun cdv A outer s H vs Q E hr h => ?_)
  · obtain ⟨a, ns, rfl, _⟩ := h
    rfl
  · obtain ⟨a, ns, rfl, hS, hlen, q⟩ := h
    have hr1 : Room 1 _ := hr.mono (by decide)
    have hr2 : Room 2 _ := hr.mono (by decide)
    have hr4 : Room 4 _ := hr.mono (by decide)
    have hr5 : Room 5 _ := hr.mono (by decide)
    have hr6 : Room 6 _ := hr.mono (by decide)
    have hr7 : Room 7 _ := hr.mono (by decide)
    have hr8 : Room 8 _ := hr.mono (by decide)
    have hu : _ + 64 < cLine := hr.units
    refine ⟨_, (pss_cons (ps_set (i := 1) scLaw.nd rfl (.inl rfl) (pe_call GN hr1 (by rfl) gN kN bN .nil pass0 (pa_cons (pv 0) (pa_cons pe_int pa_nil))))
      (pss_cons (ps_set (i := 2) scLaw.nd rfl (.inl rfl) (pe_lst (pa_cons pe_int pa_nil)))
      (pss_cons (ps_set (i := 3) scLaw.nd rfl (.inr rfl) (pe_call GG hr2 (by rfl) gG kG bG .nil pass0 (pa_cons (pv 1) (pa_cons (pv 2) (pa_cons pe_int pa_nil)))))
      (pss_cons (ps_set (i := 4) scLaw.nd rfl (.inl rfl) (pe_call GG hr2 (by rfl) gG kG bG .nil pass0 (pa_cons (pv 1) (pa_cons (pv 2) (pa_cons pe_int pa_nil)))))
      (pss_cons (ps_setLc (i := 5) (own := [("k", 13)]) (g := gName 13) (tt := tYes) (by rfl) scLaw.nd rfl rfl (sw_true rfl rfl rfl (by decide +kernel)) (pi_list (pe_call GO hr2 (by rfl) gO kO bO .nil pass0 (pa_cons (pv 1) (pa_cons (pv 2) (pa_cons (pe_callB call_len_seq (by rfl) mle PySem.boot_len (pa_cons (pe_ix ix_tup (pv 3) pe_int (fun _ _ => rfl)) pa_nil)) pa_nil))))) (blkOk_by (own := [("k", 13)]) (N := lawN) (sc := defScope sLaw) (by decide +kernel)) (fun _ _ _ _ _ => pg_name (i := 13) scLaw.nd rfl (Or.inl rfl)) (fun _ _ _ _ _ => pts_nil) (fun _ _ _ _ _ => (pe_ix (ixL_at rfl) (pe_ix (ixT_at rfl) (pv 3) pe_int (fun _ _ => rfl)) (pv 13) (fun _ _ => rfl))))
      (pss_cons (ps_set (i := 6) scLaw.nd rfl (.inl rfl) (pe_make M GI hr5 (by rfl) T.g bI .nil passL (pa_cons (pe_ix ix_tup (pv 3) pe_int (fun _ _ => rfl)) (pa_cons (pv 5) pa_nil))))
      (pss_cons (ps_expr (pe_bm PySem.F.plainAttrs_list PySem.F.slot_list_append PySem.F.type_list_append mt_append (pv 5) (pa_cons (pe_tup (pa_cons pe_int (pa_cons pe_int pa_nil))) pa_nil)))
      (C8.pss_cut (ps_set (i := 7) scLaw.nd rfl (.inl rfl) (pe_make M GI hr5 (by rfl) T.g bI .nil passL (pa_cons (pe_ix ix_tup (pv 4) pe_int (fun _ _ => rfl)) (pa_cons (pe_callTy call_list_of (by rfl) mli (by decide +kernel) (pa_cons (pe_ix ix_tup (pv 4) pe_int (fun _ _ => rfl)) pa_nil)) pa_nil))))
      (C8.pss_cut (ps_if (PW.pt (pw_or (pt_not (pt_val (pe_call GR hr5 (by rfl) gR kR bR .nil passL (pa_cons (pv 6) (pa_cons (pe_ix ix_tup (pv 3) pe_int (fun _ _ => rfl)) (pa_cons (pe_ix ix_tup (pv 3) pe_int (fun _ _ => rfl)) pa_nil)))))) (pw_or1 (pt_not (pt_val (pe_call GR hr5 (by rfl) gR kR bR .nil passL (pa_cons (pv 7) (pa_cons (pe_ix ix_tup (pv 4) pe_int (fun _ _ => rfl)) (pa_cons (pe_ix ix_tup (pv 4) pe_int (fun _ _ => rfl)) pa_nil))))))))) (pss_one (ps_ret pe_bl)) pss_nil)
      (C8.pss_cut (ps_if (PW.pt (pw_or (pt_cmpR op_ne (pe_call GS hr1 (by rfl) gS kS bS .nil pass0 (pa_cons (pv 6) (pa_cons (pv 7) pa_nil))) (pe_cmpR (op_eqD hu) (pv 3) (pv 4) (nomark _)) (nomark _)) (pw_or1 (pt_cmpR op_isnot_bl (pe_call GS hr1 (by rfl) gS kS bS .nil pass0 (pa_cons (pv 6) (pa_cons (pe_make M GI hr5 (by rfl) T.g bI .nil passL (pa_cons (pe_ix ix_tup (pv 3) pe_int (fun _ _ => rfl)) (pa_cons (pe_ix ix_tup (pv 3) pe_int (fun _ _ => rfl)) pa_nil))) pa_nil))) pe_bl (nomark _))))) (pss_one (ps_ret pe_bl)) pss_nil)
      (C8.pss_cut (ps_if (pt_cmpR op_isnot_bl (pe_call GS hr1 (by rfl) gS kS bS .nil pass0 (pa_cons (pv 6) (pa_cons (pe_make M GI hr5 (by rfl) T.g bI .nil passL (pa_cons (pe_op op_add (pe_ix ix_tup (pv 3) pe_int (fun _ _ => rfl)) pe_int) (pa_cons (pe_ix ix_tup (pv 3) pe_int (fun _ _ => rfl)) pa_nil))) pa_nil))) pe_bl (nomark _)) (pss_one (ps_ret pe_bl)) pss_nil)
      (pss_cons (ps_set (i := 8) scLaw.nd rfl (.inl rfl) (pe_call GO hr2 (by rfl) gO kO bO .nil pass0 (pa_cons (pv 1) (pa_cons (pv 2) (pa_cons (pe_ix ix_tup (pv 3) pe_int (fun _ _ => rfl)) pa_nil)))))
      (C8.pss_cut (ps_set (i := 9) scLaw.nd rfl (.inl rfl) (pe_slice sl_list (pv 8) po_none (po_some (pe_op op_mod (pe_call GT hr1 (by rfl) gT kT bT .nil pass0 (pa_cons (pv 1) (pa_cons (pv 2) pa_nil))) (pe_op op_add (pe_ix ix_tup (pv 3) pe_int (fun _ _ => rfl)) pe_int)))))
      (C8.pss_cut (ps_if (pt_not (pt_val (pe_call GR hr5 (by rfl) gR kR bR .nil passL (pa_cons (pe_call GP hr6 (by rfl) gP kP bP .nil passL (pa_cons (pv 6) (pa_cons (pv 9) pa_nil))) (pa_cons (pe_callB call_len_seq (by rfl) mle PySem.boot_len (pa_cons (pv 9) pa_nil)) (pa_cons (pe_call GL hr2 (by rfl) gL kL bL .nil pass0 (pa_cons (pe_ix ix_tup (pv 3) pe_int (fun _ _ => rfl)) (pa_cons (pv 9) pa_nil))) pa_nil)))))) (pss_one (ps_ret pe_bl)) pss_nil)
      (C8.pss_cut (ps_if (pt_not (pt_val (pe_call GR hr5 (by rfl) gR kR bR .nil passL (pa_cons (pe_call GE hr7 (by rfl) gE kE bE .nil passL (pa_cons (pv 6) (pa_cons (pv 8) pa_nil))) (pa_cons (pe_ix ix_tup (pv 3) pe_int (fun _ _ => rfl)) (pa_cons (pe_call GL hr2 (by rfl) gL kL bL .nil pass0 (pa_cons (pe_ix ix_tup (pv 3) pe_int (fun _ _ => rfl)) (pa_cons (pv 8) pa_nil))) pa_nil)))))) (pss_one (ps_ret pe_bl)) pss_nil)
      (C8.pss_cut (ps_if (pt_cmpR op_gt (pe_callB call_len_seq (by rfl) mle PySem.boot_len (pa_cons (pe_ix ix_tup (pv 3) pe_int (fun _ _ => rfl)) pa_nil)) pe_int (nomark _)) (pss_cons (ps_set (i := 10) scLaw.nd rfl (.inr rfl) (pe_ix ix_list (pe_ix ix_tup (pv 3) pe_int (fun _ _ => rfl)) (pe_op op_mod (pe_call GT hr1 (by rfl) gT kT bT .nil pass0 (pa_cons (pv 1) (pa_cons (pv 2) pa_nil))) (pe_callB call_len_seq (by rfl) mle PySem.boot_len (pa_cons (pe_ix ix_tup (pv 3) pe_int (fun _ _ => rfl)) pa_nil))) (fun _ _ => rfl))) (pss_one (ps_if (pt_not (pt_val (pe_call GR hr5 (by rfl) gR kR bR .nil passL (pa_cons (pe_call GW hr6 (by rfl) gW kW bW .nil passL (pa_cons (pv 6) (pa_cons (pv 10) pa_nil))) (pa_cons (pe_ix ix_tup (pv 3) pe_int (fun _ _ => rfl)) (pa_cons (pe_lc  (own := [("one", 14)]) (g := gName 14)  (by rfl) scLaw.nd (pi_list (pe_ix ix_tup (pv 3) pe_int (fun _ _ => rfl))) (blkOk_by (own := [("one", 14)]) (N := lawN) (sc := defScope sLaw) (by decide +kernel)) (fun _ _ _ _ _ => pg_name (i := 14) scLaw.nd rfl (Or.inl rfl)) (fun _ _ _ _ _ => pts_one (pt_cmpR (neD_at rfl rfl hu) (pv 14) (pv 10) (nomark _))) (fun _ _ _ _ _ => (pv 14))) pa_nil)))))) (pss_one (ps_ret pe_bl)) pss_nil))) pss_nil)
      (C8.pss_cut (ps_setLc (i := 11) (own := [("edge", 10)]) (g := gName 10) (tt := tYes) (by rfl) scLaw.nd rfl rfl (sw_true rfl rfl rfl (by decide +kernel)) (pi_list (pe_ix ix_tup (pv 4) pe_int (fun _ _ => rfl))) (blkOk_by (own := [("edge", 10)]) (N := lawN) (sc := defScope sLaw) (by decide +kernel)) (fun _ _ _ _ _ => pg_name (i := 10) scLaw.nd rfl (Or.inl rfl)) (fun _ _ _ _ _ => pts_nil) (fun _ _ _ _ _ => (pe_tup (pa_cons (pe_op op_add (pe_ix (ixT_at rfl) (pv 10) pe_int (fun _ _ => rfl)) (pe_ix (ixT_at rfl) (pv 3) pe_int (fun _ _ => rfl))) (pa_cons (pe_op op_add (pe_ix (ixT_at rfl) (pv 10) pe_int (fun _ _ => rfl)) (pe_ix (ixT_at rfl) (pv 3) pe_int (fun _ _ => rfl))) pa_nil)))))
      (C8.pss_cut (ps_if (pt_not (pt_val (pe_call GR hr5 (by rfl) gR kR bR .nil passL (pa_cons (pe_call GH hr6 (by rfl) gH kH bH .nil passL (pa_cons (pv 6) (pa_cons (pv 7) pa_nil))) (pa_cons (pe_op op_add (pe_ix ix_tup (pv 3) pe_int (fun _ _ => rfl)) (pe_ix ix_tup (pv 4) pe_int (fun _ _ => rfl))) (pa_cons (pe_op op_cat (pe_ix ix_tup (pv 3) pe_int (fun _ _ => rfl)) (pv 11)) pa_nil)))))) (pss_one (ps_ret pe_bl)) pss_nil)
      (C8.pss_cut (ps_set (i := 12) scLaw.nd rfl (.inl rfl) (pe_call GZ hr2 (by rfl) gZ kZ bZ .nil pass0 (pa_cons (pe_ix ix_tup (pv 3) pe_int (fun _ _ => rfl)) (pa_cons (pe_ix ix_tup (pv 3) pe_int (fun _ _ => rfl)) pa_nil))))
      (pss_one (ps_ret (pe_and (pe_cmpR (op_eqD hu) (pe_call GC hr7 (by rfl) gC kC bC .nil passL (pa_cons (pv 6) pa_nil)) (pv 12) (nomark _)) (pe_one (pe_cmpR op_eq (pe_call GD hr8 (by rfl) gD kD bD .nil passL (pa_cons (pv 6) pa_nil)) (pe_cmpR op_lt (pe_callB call_len_seq (by rfl) mle PySem.boot_len (pa_cons (pv 12) pa_nil)) pe_int (nomark _)) (nomark _))))))))))))))))))))))))), ?_⟩
    refine ⟨.ref a, rfl, a, ns, 120, rfl, hS, hlen, fun H1 p out s1 np ep hd _ => ?_⟩
    refine ⟨(by show 1 ≤ sizeLine; decide), fun pl npl => ?_⟩
    have s2 : Same H1 (upd H1 pl (.lst [.int 0])) := same_upd npl
    have ppl : p ≠ pl := fun z => by rw [z, npl] at ep; cases ep
    refine ⟨_, rfl, _, rfl, p, pl, out, 0, 9, rfl, ppl, SqL.of (s2 _ _ ep), hd, upd_same, by decide, fun H3 t1 e1 as1 n i3 es1 hn b3 ib3 nt1 ne1 ht1 he1 pa1 sub1 => ?_⟩
    have ep3 := b3 _ _ (s2 _ _ ep) ppl
    have t1pl : t1 ≠ pl := fun z => by rw [z, upd_same] at nt1; cases nt1
    have e1pl : e1 ≠ pl := fun z => by rw [z, upd_same] at ne1; cases ne1
    refine ⟨_, rfl, _, rfl, p, pl, out, i3, 9, rfl, ppl, SqL.of ep3, hd, ib3, by decide, fun H4 t2 e2 as2 m i4 es2 hm b4 ib4 nt2 ne2 ht2 he2 pa2 sub2 => ?_⟩
    have ep4 := b4 _ _ ep3 ppl
    have t2pl : t2 ≠ pl := fun z => by rw [z, ib3] at nt2; cases nt2
    have e2pl : e2 ≠ pl := fun z => by rw [z, ib3] at ne2; cases ne2
    have ht1' := b4 _ _ ht1 t1pl
    have he1' := b4 _ _ he1 e1pl
    have pa1' := b4.pairs ib3 pa1
    have lt1 := List.Pairwise.sublist sub1 (pairsL_lt n)
    have lt2 := List.Pairwise.sublist sub2 (pairsL_lt m)
    have ok1 : ∀ q ∈ es1, Okp n q := fun q hq => mem_pairs (sub1.subset hq)
    have ok2 : ∀ q ∈ es2, Okp m q := fun q hq => mem_pairs (sub2.subset hq)
    have nd1 := lex_nd lt1
    have nd2 := lex_nd lt2
    have few1 : es1.length ≤ 36 := Nat.le_trans sub1.length_le (pairs_few hn)
    have few2 : es2.length ≤ 36 := Nat.le_trans sub2.length_le (pairs_few hm)
    have len1 : as1.length = es1.length := pa1.length
    have len2 : as2.length = es2.length := pa2.length
    -- given
    refine ⟨_, rfl, _, rfl, _, rfl, t1, _, 1, .ref e1, rfl, rfl, SqT.of ht1', atI_nat (j := 1) rfl, e1, _, rfl, .inl (SqL.of he1'), p, pl, out, i4, (as1.map V.ref).length, rfl, ppl, SqL.of ep4, hd, ib4, by rw [List.length_map]; omega, fun H5 l os i5 b5 ib5 nl hl pm5 => ⟨l, rfl, ⟨_, SqL.of hl⟩, fun d nd => ?_⟩⟩
    rw [List.length_map] at pm5
    have ht1 := b5 _ _ ht1' t1pl
    have he1 := b5 _ _ he1' e1pl
    have pa1 := b5.pairs ib4 pa1'
    have ht2 := b5 _ _ ht2 t2pl
    have he2 := b5 _ _ he2 e2pl
    have pa2 := b5.pairs ib4 pa2
    have ep5 := b5 _ _ ep4 ppl
    have ⟨vxo, _, leno⟩ := vx_perm pm5
    refine lc_list (K := K) (a := l) (xs := os.map V.int) (fun t H' => Same H5 H' ∧ H' d = some (.lst (((os.take t).map fun k => as1.getD k.toNat 0).map V.ref))) ⟨same_upd nd, upd_same⟩ (fun t H' _ h => SqL.of (h.1 _ _ hl)) ?_ ?_
    · rintro t x H' hx ⟨sm, hD⟩
      rw [List.getElem?_map] at hx
      cases ek : os[t]? with
      | none => rw [ek] at hx; cases hx
      | some k =>
        rw [ek] at hx
        cases hx
        have vk := vxo k (List.mem_of_getElem? ek)
        unfold Vx at vk
        obtain ⟨k', rfl⟩ : ∃ k' : Nat, k = k' := ⟨k.toNat, by omega⟩
        have kl : k' < as1.length := by omega
        have gk : (as1.map V.ref)[k']? = some (.ref as1[k']) := by rw [List.getElem?_map, List.getElem?_eq_getElem kl]; rfl
        have tl : t < os.length := (List.getElem?_eq_some_iff.mp ek).1
        refine ⟨rfl, _, rfl, t1, _, 1, .ref e1, rfl, rfl, SqT.of (sm _ _ ht1), atI_nat (j := 1) rfl, _, rfl, e1, _, _, .ref as1[k'], rfl, rfl, SqL.of (sm _ _ he1), atI_nat gk, _, hD, ?_, same_put sm nd, ?_⟩
        · rw [List.length_map, List.length_map, List.length_take]
          exact small1000 (by omega)
        · rw [upd_same, take_next' ek, List.map_append, List.map_append]
          have e : as1.getD (k' : Int).toNat 0 = as1[k'] := by rw [List.getD_eq_getElem?_getD, show ((k' : Nat) : Int).toNat = k' by omega, List.getElem?_eq_getElem kl]; rfl
          show some (HO.lst (_ ++ [V.ref as1[k']])) = some (HO.lst (_ ++ [V.ref (as1.getD (k' : Int).toNat 0)]))
          rw [e]
    rintro H6 ⟨s56, hd6⟩
    rw [List.length_map, List.take_length] at hd6
    have pag := pick_pairs (pa1.same s56) vxo
    have pmg := pick_perm (es := es1) (os := os) (by rw [← len1]; exact pm5)
    generalize hgs : (os.map fun k => as1.getD k.toNat 0) = gs at hd6 pag
    generalize hqs : (os.map fun k => es1.getD k.toNat (0, 0)) = fs at pag pmg
    have okf : ∀ q ∈ fs, Okp n q := fun q hq => ok1 q (pmg.mem_iff.mp hq)
    have ndf : fs.Nodup := pmg.symm.nodup nd1
    have fewf : fs.length ≤ 36 := by rw [pmg.length_eq]; exact few1
    have leng : gs.length = fs.length := pag.length
    -- graph
    refine ⟨_, rfl, t1, _, 0, .int n, rfl, rfl, SqT.of (s56 _ _ ht1), atI_nat (j := 0) rfl, _, rfl, fun g dg ng ndg nedg => ?_⟩
    have sg : Same H6 (upd (upd H6 dg (.own g)) g (.ins C dg [])) := same_put (same_upd ndg) ng
    refine ⟨g, dg, (n : Int), d, _, evs fs, rfl, upd_same, SqL.of (sg _ _ hd6), ev_pairs (pag.same sg), by rw [evs, List.length_map]; omega, fun hbad => ?_, fun ps hps H7 qs bt pm ga fr => ⟨rfl, ?_⟩⟩
    · rw [mk_evs (by omega) okf ndf] at hbad
      cases hbad
    rw [mk_evs (by omega) okf ndf] at hps
    cases hps
    have qe : qs = es1 := lex_eq ga.srt lt1 (pm.trans pmg)
    subst qe
    have s67 : Same H6 H7 := fun b o h => bt b o (sg b o h) (ne_of_none h ng)
    have hd7 := s67 _ _ hd6
    refine ⟨_, rfl, .inl ⟨rfl, _, SqL.of hd7⟩, (by show 2 ≤ sizeLine; decide), fun t nt => ⟨d, _, _, rfl, rfl, same_upd nt _ _ hd7, by rw [List.length_map]; exact small1000 (by omega), ?_⟩⟩
    have s57 := s56.trans s67
    have s58 : Same H5 (upd (upd H7 t (.tup [.int 0, .int 0])) d (.lst (gs.map V.ref ++ [.ref t]))) := same_put (s57.trans (same_upd nt)) nd
    have frg : FrG K C pl (upd (upd H7 t (.tup [.int 0, .int 0])) d (.lst (gs.map V.ref ++ [.ref t]))) g n qs := fun H'' b => fr (fun D => D = pl ∨ D = d) H'' (fun D hD => by
      rcases hD with rfl | rfl
      · exact ⟨_, sg _ _ (s56 _ _ ib5)⟩
      · exact ⟨_, sg _ _ hd6⟩) (fun b' o e no => b b' o (by rw [upd_ne (fun z => no (.inr z))]; exact same_upd nt _ _ e) (fun z => no (.inl z)))
    generalize (upd (upd H7 t (.tup [.int 0, .int 0])) d (.lst (gs.map V.ref ++ [.ref t]))) = H8 at s58 frg ⊢
    have ht1 := s58 _ _ ht1
    have he1 := s58 _ _ he1
    have pa1 := pa1.same s58
    have ht2 := s58 _ _ ht2
    have he2 := s58 _ _ he2
    have pa2 := pa2.same s58
    have ep8 := s58 _ _ ep5
    have ib8 := s58 _ _ ib5
    -- other
    refine ⟨fun σ H' => ∃ h, σ = slots a p pl t1 t2 d g h none none none none none ∧ LS K C p pl t1 t2 e1 e2 g h n m out as1 as2 qs es2 H' i5, ?_, ?_⟩
    · refine ⟨_, rfl, t2, _, 0, .int m, rfl, rfl, SqT.of ht2, atI_nat (j := 0) rfl, _, rfl, t2, _, 1, .ref e2, rfl, rfl, SqT.of ht2, atI_nat (j := 1) rfl, e2, _, rfl, .inl (SqL.of he2), fun l2 nl2 => fun h dh nh ndh nedh => ?_⟩
      have sl := same_upd (o := .lst (as2.map V.ref)) nl2
      have sh : Same (upd H8 l2 (.lst (as2.map V.ref))) (upd (upd (upd H8 l2 (.lst (as2.map V.ref))) dh (.own h)) h (.ins C dh [])) := same_put (same_upd ndh) nh
      refine ⟨h, dh, (m : Int), l2, _, evs es2, rfl, upd_same, SqL.of (sh _ _ upd_same), ev_pairs ((pa2.same sl).same sh), by rw [evs, List.length_map]; omega, fun hbad => ?_, fun ps hps H9 rs bt pm ga fr => ⟨rfl, ?_⟩⟩
      · rw [mk_evs (by omega) ok2 nd2] at hbad
        cases hbad
      rw [mk_evs (by omega) ok2 nd2] at hps
      cases hps
      have qe : rs = es2 := lex_eq ga.srt lt2 pm
      subst qe
      have s9 : Same H8 H9 := fun b o h' => bt b o (sh b o (sl b o h')) (ne_of_none (sl b o h') nh)
      refine ⟨h, rfl, ppl, SqL.of (s9 _ _ ep8), hd, s9 _ _ ib8, s9 _ _ ht1, s9 _ _ ht2, s9 _ _ he1, s9 _ _ he2, e1pl, e2pl, pa1.same s9, pa2.same s9, frg.but (Same.but s9), fun H'' b => fr (fun D => D = pl) H'' (fun D hD => by subst hD; exact ⟨_, sh _ _ (sl _ _ ib8)⟩) fun b' o e no => b b' o e no⟩
    rintro σ H9 ⟨h, rfl, L⟩
    -- both right
    refine ⟨fun σ H' => σ = slots a p pl t1 t2 d g h none none none none none ∧ LS K C p pl t1 t2 e1 e2 g h n m out as1 as2 qs es2 H' i5, ?_, ?_⟩
    · refine ⟨_, rfl, _, rfl, t1, _, 0, .int n, rfl, rfl, SqT.of L.ht1, atI_nat (j := 0) rfl, _, rfl, t1, _, 1, .ref e1, rfl, rfl, SqT.of L.ht1, atI_nat (j := 1) rfl, g, e1, n, qs, qs, as1, rfl, L.fg.at, SqL.of L.he1, L.pa1, List.Perm.refl _, fun Ha sa => ⟨true, rfl, iteF ?_⟩⟩
      have L := L.same sa
      exact ⟨_, rfl, _, rfl, t2, _, 0, .int m, rfl, rfl, SqT.of L.ht2, atI_nat (j := 0) rfl, _, rfl, t2, _, 1, .ref e2, rfl, rfl, SqT.of L.ht2, atI_nat (j := 1) rfl, h, e2, m, es2, es2, as2, rfl, L.fh.at, SqL.of L.he2, L.pa2, List.Perm.refl _, fun Hb sb => ⟨true, rfl, iteF ⟨rfl, L.same sb⟩⟩⟩
    rintro σ H10 ⟨rfl, L⟩
    -- same
    refine ⟨fun σ H' => σ = slots a p pl t1 t2 d g h none none none none none ∧ LS K C p pl t1 t2 e1 e2 g h n m out as1 as2 qs es2 H' i5, ?_, ?_⟩
    · refine ⟨_, rfl, _, rfl, g, h, n, m, qs, es2, rfl, L.fg.at, L.fh.at, _, rfl, _, rfl, Sm.gD n qs, Sm.gD m es2, gD_at L.ht1 L.he1 L.pa1, gD_at L.ht2 L.he2 L.pa2, gD_shaped _ _, gD_shaped _ _, rfl, _, rfl, ?_⟩
      refine iteNS (by rw [gD_eqv]) ?_
      refine ⟨_, rfl, _, rfl, t1, _, 0, .int n, rfl, rfl, SqT.of L.ht1, atI_nat (j := 0) rfl, _, rfl, t1, _, 1, .ref e1, rfl, rfl, SqT.of L.ht1, atI_nat (j := 1) rfl, fun r dr nr ndr nedr => ?_⟩
      have sr : Same H10 (upd (upd H10 dr (.own r)) r (.ins C dr [])) := same_put (same_upd ndr) nr
      refine ⟨r, dr, (n : Int), e1, _, evs qs, rfl, upd_same, SqL.of (sr _ _ L.he1), ev_pairs (L.pa1.same sr), by rw [evs, List.length_map]; omega, fun hbad => ?_, fun ps hps Hb rs bt pm ga _ => ⟨rfl, ?_⟩⟩
      · rw [mk_evs (by omega) ok1 nd1] at hbad
        cases hbad
      rw [mk_evs (by omega) ok1 nd1] at hps
      cases hps
      have qe : rs = qs := lex_eq ga.srt lt1 pm
      have sb : Same H10 Hb := fun b o h' => bt b o (sr b o h') (ne_of_none h' nr)
      have L := L.same sb
      exact ⟨g, r, n, n, qs, rs, rfl, L.fg.at, ga, _, true, rfl, rfl, _, rfl, iteNS (decide_eq_true ⟨rfl, qe.symm⟩) ⟨rfl, L⟩⟩
    rintro σ H11 ⟨rfl, L⟩
    refine ⟨fun σ H' => σ = slots a p pl t1 t2 d g h none none none none none ∧ LS K C p pl t1 t2 e1 e2 g h n m out as1 as2 qs es2 H' i5, ?_, ?_⟩
    · refine ⟨_, rfl, _, rfl, t1, _, 0, .int n, rfl, rfl, SqT.of L.ht1, atI_nat (j := 0) rfl, _, _, rfl, rfl, _, rfl, t1, _, 1, .ref e1, rfl, rfl, SqT.of L.ht1, atI_nat (j := 1) rfl, fun r dr nr ndr nedr => ?_⟩
      have sr : Same H11 (upd (upd H11 dr (.own r)) r (.ins C dr [])) := same_put (same_upd ndr) nr
      have ok1' : ∀ q ∈ qs, Okp ((n + 1 : Nat) : Int) q := fun q hq => by
        obtain ⟨x1, x2, x3⟩ := ok1 q hq
        exact ⟨x1, x2, by omega⟩
      refine ⟨r, dr, ((n + 1 : Nat) : Int), e1, _, evs qs, rfl, upd_same, SqL.of (sr _ _ L.he1), ev_pairs (L.pa1.same sr), by rw [evs, List.length_map]; omega, fun hbad => ?_, fun ps hps Hb rs bt pm ga _ => ⟨rfl, ?_⟩⟩
      · rw [mk_evs (by omega) ok1' nd1] at hbad
        cases hbad
      have sb : Same H11 Hb := fun b o h' => bt b o (sr b o h') (ne_of_none h' nr)
      have L := L.same sb
      exact ⟨g, r, n, n + 1, qs, rs, rfl, L.fg.at, ga, _, false, rfl, rfl, _, rfl, iteNS (decide_eq_false fun z => by have := z.1; omega) ⟨rfl, L⟩⟩
    rintro σ H11b ⟨rfl, L⟩
    -- order, some
    refine ⟨_, rfl, _, rfl, _, rfl, t1, _, 0, .int n, rfl, rfl, SqT.of L.ht1, atI_nat (j := 0) rfl, p, pl, out, i5, n, rfl, L.ppl, L.sp, L.dg, L.hpl, by omega, fun H12 o od i6 b12 ib12 no ho pmo => ?_⟩
    have opl : o ≠ pl := fun z => by rw [z, L.hpl] at no; cases no
    have L := L.but b12 ib12
    refine ⟨fun σ H' => ∃ (sl : Addr) (k i : Nat), σ = slots a p pl t1 t2 d g h (some (.ref o)) (some (.ref sl)) none none none ∧ LS K C p pl t1 t2 e1 e2 g h n m out as1 as2 qs es2 H' i ∧ H' o = some (.lst (od.map V.int)) ∧ H' sl = some (.lst ((od.take k).map V.int)), ?_, ?_⟩
    · refine ⟨_, rfl, _, rfl, _, rfl, p, pl, out, i6, rfl, L.ppl, L.sp, L.dg, L.hpl, fun x i7 H13 dx b13 _ ib13 => ?_⟩
      have L := L.but b13 ib13
      have ho13 := b13 _ _ ho opl
      obtain ⟨k, hk, _⟩ := dx.nat n
      refine ⟨_, rfl, t1, _, 0, .int n, rfl, rfl, SqT.of L.ht1, atI_nat (j := 0) rfl, _, _, rfl, rfl, _, _, rfl, rfl, (by show (0 : Int) < (n : Int) + 1; omega), _, rfl, o, _, rfl, SqL.of ho13, fun sl nsl => ?_⟩
      exact ⟨sl, k, i7, rfl, L.same (same_upd nsl), same_upd nsl _ _ ho13, by rw [upd_same, hk, cut_take]⟩
    rintro σ H13 ⟨sl, k, i7, rfl, L, ho, hsl⟩
    have ⟨vxo, ndo, leno⟩ := vx_perm pmo
    have vxk : ∀ x ∈ od.take k, Vx n x := fun x hx => vxo x (List.mem_of_mem_take hx)
    have ndk : (od.take k).Nodup := List.Pairwise.sublist (List.take_sublist k od) ndo
    have lenk : (od.take k).length ≤ n := by rw [List.length_take]; omega
    -- part
    refine ⟨fun σ H' => σ = slots a p pl t1 t2 d g h (some (.ref o)) (some (.ref sl)) none none none ∧ LS K C p pl t1 t2 e1 e2 g h n m out as1 as2 qs es2 H' i7 ∧ H' o = some (.lst (od.map V.int)), ?_, ?_⟩
    · have z := vscan_ok (n := n) (seen := []) vxk ndk
      refine ⟨_, rfl, _, rfl, g, sl, n, qs, _, (od.take k).map some, rfl, L.fg.at, SqL.of hsl, ib_ints _, by rw [List.length_map]; omega, fun bad => ?_, fun s hs Ha r rs sa nr ga pm => ?_⟩
      · rw [z] at bad
        cases bad
      rw [z, List.nil_append] at hs
      cases hs
      have La := L.same sa
      refine ⟨_, rfl, sl, _, rfl, .inl (SqL.of (sa _ _ hsl)), _, rfl, t1, _, 1, .ref e1, rfl, rfl, SqT.of La.ht1, atI_nat (j := 1) rfl, _, rfl, e1, sl, as1, qs, od.take k, rfl, SqL.of La.he1, La.pa1, SqL.of (sa _ _ hsl), by omega, fun Hb f fs sb nf hf pf => ?_⟩
      exact ⟨r, f, (od.take k).length, rs, lpart qs (od.take k), fs, by rw [List.length_map]; rfl, ga.same sb, SqL.of hf, pf, pm.trans (lpart_perm ok1 nd1 ndk), fun Hc sc => ⟨true, rfl, iteF ⟨rfl, (La.same sb).same sc, sc _ _ (sb _ _ (sa _ _ ho))⟩⟩⟩
    rintro σ H14 ⟨rfl, L, ho⟩
    -- renumbered
    refine ⟨fun σ H' => σ = slots a p pl t1 t2 d g h (some (.ref o)) (some (.ref sl)) none none none ∧ LS K C p pl t1 t2 e1 e2 g h n m out as1 as2 qs es2 H' i7, ?_, ?_⟩
    · have z := vscan_ok (n := n) (seen := []) vxo ndo
      refine ⟨_, rfl, _, rfl, g, o, n, qs, _, od.map some, rfl, L.fg.at, SqL.of ho, ib_ints _, by rw [List.length_map]; omega, fun bad => ?_, fun s hs hl Ha r rs sa nr ga pm => ?_⟩
      · rw [z, List.length_map] at bad
        rcases bad with bad | bad
        · exact absurd leno bad
        · cases bad
      rw [z, List.nil_append] at hs
      cases hs
      have La := L.same sa
      have ga' : GraphAt K C Ha r n rs := by
        rw [← leno]
        exact ga
      refine ⟨_, rfl, t1, _, 0, .int n, rfl, rfl, SqT.of La.ht1, atI_nat (j := 0) rfl, _, rfl, t1, _, 1, .ref e1, rfl, rfl, SqT.of La.ht1, atI_nat (j := 1) rfl, _, rfl, e1, o, as1, qs, od, rfl, SqL.of La.he1, La.pa1, SqL.of (sa _ _ ho), by omega, fun Hb f fs sb nf hf pf => ?_⟩
      exact ⟨r, f, n, rs, lpart qs od, fs, rfl, ga'.same sb, SqL.of hf, pf, pm.trans (lpart_perm ok1 nd1 ndo), fun Hc sc => ⟨true, rfl, iteF ⟨rfl, (La.same sb).same sc⟩⟩⟩
    rintro σ H15 ⟨rfl, L⟩
    -- without
    refine ⟨fun σ H' => ∃ (i8 : Nat) (y10 : Option V), σ = slots a p pl t1 t2 d g h (some (.ref o)) (some (.ref sl)) y10 none none ∧ LS K C p pl t1 t2 e1 e2 g h n m out as1 as2 qs es2 H' i8, ?_, ?_⟩
    · refine ⟨_, rfl, t1, _, 1, .ref e1, rfl, rfl, SqT.of L.ht1, atI_nat (j := 1) rfl, e1, _, rfl, .inl (SqL.of L.he1), _, _, rfl, rfl, _, rfl, ite2 (fun c => ?_) (fun _ => ⟨i7, none, rfl, L⟩)⟩
      have c' : 0 < as1.length := by
        have := of_decide_eq_true c
        rw [List.length_map] at this
        omega
      refine ⟨_, rfl, t1, _, 1, .ref e1, rfl, rfl, SqT.of L.ht1, atI_nat (j := 1) rfl, _, rfl, _, rfl, p, pl, out, i7, rfl, L.ppl, L.sp, L.dg, L.hpl, fun x i8 Ha dx ba _ iba => ?_⟩
      have La := L.but ba iba
      have m1 : 0 ≤ x % (as1.length : Int) := Int.emod_nonneg _ (by omega)
      have m2 : x % (as1.length : Int) < as1.length := Int.emod_lt_of_pos _ (by omega)
      obtain ⟨k2, hk2⟩ : ∃ k2 : Nat, x % (as1.length : Int) = k2 := ⟨(x % (as1.length : Int)).toNat, by omega⟩
      rw [hk2] at m2
      have kl : k2 < as1.length := by omega
      have gk : as1[k2]? = some as1[k2] := List.getElem?_eq_getElem kl
      obtain ⟨⟨qi, qj⟩, hq, hsq⟩ := La.pa1.get gk
      have qm : (qi, qj) ∈ qs := List.mem_of_getElem? hq
      generalize as1[k2] = aq at gk hsq
      refine ⟨_, rfl, t1, _, 1, .ref e1, rfl, rfl, SqT.of La.ht1, atI_nat (j := 1) rfl, e1, _, rfl, .inl (SqL.of La.he1), _, _, rfl, rfl, (by show (0 : Int) < ((as1.map V.ref).length : Int); rw [List.length_map]; omega), e1, _, _, .ref aq, rfl, rfl, SqL.of La.he1, (by rw [List.length_map, hk2]; exact atI_nat (by rw [List.getElem?_map, gk]; rfl)), ?_⟩
      refine ⟨_, rfl, _, rfl, g, aq, n, qs, qi, qj, rfl, La.fg.at, hsq, fun no => absurd qm no, fun _ Hb r rs sb nr ga pm => ?_⟩
      have Lb := La.same sb
      have hsb := same_sqT sb hsq
      refine ⟨_, rfl, t1, _, 0, .int n, rfl, rfl, SqT.of Lb.ht1, atI_nat (j := 0) rfl, _, rfl, t1, _, 1, .ref e1, rfl, rfl, SqT.of Lb.ht1, atI_nat (j := 1) rfl, e1, rfl, ⟨_, SqL.of Lb.he1⟩, fun D nD => ?_⟩
      refine lc_list (K := K) (a := e1) (xs := as1.map V.ref) (fun t H' => Same Hb H' ∧ ∃ ks : List Addr, H' D = some (.lst (ks.map V.ref)) ∧ PairsAt K H' ks ((qs.take t).filter fun q => decide (q ≠ (qi, qj)))) ⟨same_upd nD, [], upd_same, by rw [List.take_zero]; exact .nil⟩ (fun t H' _ h => SqL.of (h.1 _ _ Lb.he1)) ?_ ?_
      · rintro t x H' hx ⟨sm, ks, eD, pk⟩
        rw [List.getElem?_map] at hx
        cases ea : as1[t]? with
        | none => rw [ea] at hx; cases hx
        | some ax =>
          rw [ea] at hx
          cases hx
          obtain ⟨⟨zi, zj⟩, hz, hsz⟩ := (Lb.pa1.same sm).get ea
          have pkl : ks.length ≤ 36 := by
            rw [pk.length]
            exact Nat.le_trans (List.length_filter_le _ _) (by rw [List.length_take]; omega)
          refine ⟨rfl, _, rfl, _, rfl, pD (zi, zj), pD (qi, qj), dp_pair hsz, dp_pair (same_sqT sm hsb), pD_shaped _, pD_shaped _, _, rfl, ?_⟩
          rw [pD_eqv]
          by_cases c : (zi, zj) = (qi, qj)
          · refine iteNS c ⟨sm, ks, eD, ?_⟩
            rw [take_next' hz, List.filter_append, fltP0 (decide_eq_false fun z => z c), List.append_nil]
            exact pk
          · refine iteN c ⟨_, rfl, _, eD, by rw [List.length_map]; exact small1000 (by omega), same_put sm nD, ks ++ [ax], by rw [upd_same, List.map_append]; rfl, ?_⟩
            rw [take_next' hz, List.filter_append, fltP1 (decide_eq_true c)]
            have bt : But D H' (upd H' D (.lst (ks.map V.ref ++ [.ref ax]))) := (Same.but (Same.refl _)).put
            exact PairsAt.snoc (bt.sqTl eD hsz) (bt.pairs eD pk)
      · rintro H' ⟨sm, ks, eD, pk⟩
        rw [List.length_map, len1, List.take_length] at pk
        exact ⟨r, D, n, rs, _, ks, rfl, ga.same sm, SqL.of eD, pk, pm, fun Hd sd => ⟨true, rfl, iteF ⟨i8, _, rfl, (Lb.same sm).same sd⟩⟩⟩
    rintro σ H16 ⟨i8, y10, rfl, L⟩
    -- raised
    refine ⟨fun σ H' => ∃ (D : Addr) (ks : List Addr), σ = slots a p pl t1 t2 d g h (some (.ref o)) (some (.ref sl)) y10 (some (.ref D)) none ∧ LS K C p pl t1 t2 e1 e2 g h n m out as1 as2 qs es2 H' i8 ∧ H' D = some (.lst (ks.map V.ref)) ∧ PairsAt K H' ks (es2.map (rise n)), ?_, ?_⟩
    · refine ⟨_, rfl, t2, _, 1, .ref e2, rfl, rfl, SqT.of L.ht2, atI_nat (j := 1) rfl, e2, rfl, ⟨_, SqL.of L.he2⟩, fun D nD => ?_⟩
      refine lc_list (K := K) (a := e2) (xs := as2.map V.ref) (fun t H' => Same H16 H' ∧ ∃ ks : List Addr, H' D = some (.lst (ks.map V.ref)) ∧ PairsAt K H' ks ((es2.take t).map (rise n))) ⟨same_upd nD, [], upd_same, by rw [List.take_zero]; exact .nil⟩ (fun t H' _ h => SqL.of (h.1 _ _ L.he2)) ?_ ?_
      · rintro t x H' hx ⟨sm, ks, eD, pk⟩
        rw [List.getElem?_map] at hx
        cases ea : as2[t]? with
        | none => rw [ea] at hx; cases hx
        | some ax =>
          rw [ea] at hx
          cases hx
          obtain ⟨⟨zi, zj⟩, hz, hsz⟩ := (L.pa2.same sm).get ea
          have pkl : ks.length ≤ 36 := by
            rw [pk.length, List.length_map, List.length_take]
            omega
          refine ⟨rfl, _, rfl, ax, _, 0, .int zi, rfl, rfl, hsz, atI_nat (j := 0) rfl, _, rfl, t1, _, 0, .int n, rfl, rfl, SqT.of (sm _ _ L.ht1), atI_nat (j := 0) rfl, _, _, rfl, rfl, _, rfl, ax, _, 1, .int zj, rfl, rfl, hsz, atI_nat (j := 1) rfl, _, rfl, t1, _, 0, .int n, rfl, rfl, SqT.of (sm _ _ L.ht1), atI_nat (j := 0) rfl, _, _, rfl, rfl, (by show 2 ≤ sizeLine; decide), fun T1 nT => ?_⟩
          have st := same_upd (o := .tup [V.int (zi + n), V.int (zj + n)]) nT
          have DT : D ≠ T1 := fun z => by rw [← z, eD] at nT; cases nT
          have bt : But D H' (upd (upd H' T1 (.tup [V.int (zi + n), V.int (zj + n)])) D (.lst (ks.map V.ref ++ [.ref T1]))) := (Same.but st).put
          refine ⟨_, st _ _ eD, by rw [List.length_map]; exact small1000 (by omega), same_put (sm.trans st) nD, ks ++ [T1], by rw [upd_same, List.map_append]; rfl, ?_⟩
          rw [take_next' hz, List.map_append]
          refine PairsAt.snoc (SqT.of ?_) (bt.pairs eD pk)
          rw [upd_ne DT.symm, upd_same]
          rfl
      · rintro H' ⟨sm, ks, eD, pk⟩
        rw [List.length_map, len2, List.take_length] at pk
        exact ⟨D, ks, rfl, L.same sm, eD, pk⟩
    rintro σ H17 ⟨D, ks, rfl, L, eD, pk⟩
    -- together
    refine ⟨fun σ H' => σ = slots a p pl t1 t2 d g h (some (.ref o)) (some (.ref sl)) y10 (some (.ref D)) none ∧ LS K C p pl t1 t2 e1 e2 g h n m out as1 as2 qs es2 H' i8, ?_, ?_⟩
    · refine ⟨_, rfl, _, rfl, g, h, n, m, qs, es2, rfl, L.fg.at, L.fh.at, by omega, by omega, fun Ha r rs sa nr ga pm => ?_⟩
      have La := L.same sa
      have lk := pk.length
      rw [List.length_map] at lk
      refine ⟨_, rfl, t1, _, 0, .int n, rfl, rfl, SqT.of La.ht1, atI_nat (j := 0) rfl, _, rfl, t2, _, 0, .int m, rfl, rfl, SqT.of La.ht2, atI_nat (j := 0) rfl, _, _, rfl, rfl, ?_⟩
      refine ⟨_, rfl, t1, _, 1, .ref e1, rfl, rfl, SqT.of La.ht1, atI_nat (j := 1) rfl, _, rfl, e1, D, _, _, rfl, rfl, La.he1, sa _ _ eD, by rw [List.length_map, List.length_map, sizeLine_eq]; omega, fun c nc => ?_⟩
      have sc := same_upd (o := .lst (as1.map V.ref ++ ks.map V.ref)) nc
      exact ⟨r, c, n + m, rs, qs ++ es2.map (rise n), as1 ++ ks, rfl, ga.same sc, SqL.of (by rw [upd_same, List.map_append]), PairsAt.app (La.pa1.same sc) ((pk.same sa).same sc), pm, fun Hb sb => ⟨true, rfl, iteF ⟨rfl, (La.same sc).same sb⟩⟩⟩
    rintro σ H18 ⟨rfl, L⟩
    -- expected
    refine ⟨fun σ H' => ∃ (f : Addr) (ps : List Addr), σ = slots a p pl t1 t2 d g h (some (.ref o)) (some (.ref sl)) y10 (some (.ref D)) (some (.ref f)) ∧ LS K C p pl t1 t2 e1 e2 g h n m out as1 as2 qs es2 H' i8 ∧ H' f = some (.lst (ps.map V.ref)) ∧ ListsAt H' ps (comps n qs n), ?_, ?_⟩
    · exact ⟨_, rfl, t1, _, 0, .int n, rfl, rfl, SqT.of L.ht1, atI_nat (j := 0) rfl, _, rfl, t1, _, 1, .ref e1, rfl, rfl, SqT.of L.ht1, atI_nat (j := 1) rfl, n, e1, as1, qs, rfl, by omega, SqL.of L.he1, L.pa1, ok1, fun Ha f ps sa nf hf pl' => ⟨f, ps, rfl, L.same sa, hf, pl'⟩⟩
    rintro σ H19 ⟨f, ps, rfl, L, hf, pl'⟩
    refine ⟨_, rfl, g, n, qs, rfl, L.fg.at, fun Ha f2 ps2 sa nf2 hf2 pl2 => ?_⟩
    refine ⟨_, rfl, .list (csD (comps n qs n)), .list (csD (comps n qs n)), .lst (SqL.of hf2) (csD_at pl2), .lst (SqL.of (sa _ _ hf)) (csD_at (ListsAt.keep (fun x c e => sa _ _ e) pl')), csD_shaped _, csD_shaped _, _, rfl, ?_⟩
    have eq : PyData.eqv (.list (csD (comps n qs n))) (.list (csD (comps n qs n))) = true := by
      simp only [PyData.eqv]
      exact csD_eqv _
    rw [eq]
    refine iteT ?_
    refine ⟨_, rfl, g, n, qs, rfl, (L.same sa).fg.at, fun Hb sb => ?_⟩
    refine ⟨_, rfl, f, _, rfl, .inl (SqL.of (sb _ _ (sa _ _ hf))), _, _, rfl, rfl, rfl, ?_⟩
    have z : ∀ b : Bool, b = true → Q (.bl b) Hb := fun b hb => by
      rw [hb]
      exact q Hb
    refine z _ (decide_eq_true ?_)
    have lp := pl'.length
    have e : decide ((comps n qs n).length ≤ 1) = decide (((ps.map V.ref).length : Int) < 2) := by
      rw [List.length_map, lp]
      refine decide_eq_decide.mpr ?_
      omega
    rw [e]

end
end Sm

set_option Elab.async false
set_option linter.all false
set_option maxRecDepth 100000
set_option maxHeartbeats 8000000
namespace Sm
open PySem PySem.Spec PyProof.Rows L2
theorem all_mk {l : PySem.W.OpenLaw} {w : World} {K : PySem.W.Frag} {h : Heap} {mg : Str → Option Value} {fa C CB : Addr} {tm : Tok} (X : K.In h) (G : h.Ns mainGlobals mg) (hfa : mg "law" = some (.ref fa))
    {fNum : Addr} {odNum anNum : Option Addr} {slNum : Array (Option Value)} {ocNum kVNum dcNum pmNum cdNum ctNum : Value}
    {fVtx : Addr} {odVtx anVtx : Option Addr} {slVtx : Array (Option Value)} {ocVtx kVVtx dcVtx pmVtx cdVtx ctVtx : Value}
    {fEdg : Addr} {odEdg anEdg : Option Addr} {slEdg : Array (Option Value)} {ocEdg kVEdg dcEdg pmEdg cdEdg ctEdg : Value}
    {fNls : Addr} {odNls anNls : Option Addr} {slNls : Array (Option Value)} {ocNls kVNls dcNls pmNls cdNls ctNls : Value}
    {fPart : Addr} {odPart anPart : Option Addr} {slPart : Array (Option Value)} {ocPart kVPart dcPart pmPart cdPart ctPart : Value}
    {fBtw : Addr} {odBtw anBtw : Option Addr} {slBtw : Array (Option Value)} {ocBtw kVBtw dcBtw pmBtw cdBtw ctBtw : Value}
    {fRen : Addr} {odRen anRen : Option Addr} {slRen : Array (Option Value)} {ocRen kVRen dcRen pmRen cdRen ctRen : Value}
    {fWo : Addr} {odWo anWo : Option Addr} {slWo : Array (Option Value)} {ocWo kVWo dcWo pmWo cdWo ctWo : Value}
    {fSame : Addr} {odSame anSame : Option Addr} {slSame : Array (Option Value)} {ocSame kVSame dcSame pmSame cdSame ctSame : Value}
    {fTog : Addr} {odTog anTog : Option Addr} {slTog : Array (Option Value)} {ocTog kVTog dcTog pmTog cdTog ctTog : Value}
    {fRch : Addr} {odRch anRch : Option Addr} {slRch : Array (Option Value)} {ocRch kVRch dcRch pmRch cdRch ctRch : Value}
    {fPcw : Addr} {odPcw anPcw : Option Addr} {slPcw : Array (Option Value)} {ocPcw kVPcw dcPcw pmPcw cdPcw ctPcw : Value}
    {fPcs : Addr} {odPcs anPcs : Option Addr} {slPcs : Array (Option Value)} {ocPcs kVPcs dcPcs pmPcs cdPcs ctPcs : Value}
    {fCon : Addr} {odCon anCon : Option Addr} {slCon : Array (Option Value)} {ocCon kVCon dcCon pmCon cdCon ctCon : Value}
    {fNums : Addr} {odNums anNums : Option Addr} {slNums : Array (Option Value)} {ocNums kVNums dcNums pmNums cdNums ctNums : Value}
    {fTake : Addr} {odTake anTake : Option Addr} {slTake : Array (Option Value)} {ocTake kVTake dcTake pmTake cdTake ctTake : Value}
    {fPrs : Addr} {odPrs anPrs : Option Addr} {slPrs : Array (Option Value)} {ocPrs kVPrs dcPrs pmPrs cdPrs ctPrs : Value}
    {fGr : Addr} {odGr anGr : Option Addr} {slGr : Array (Option Value)} {ocGr kVGr dcGr pmGr cdGr ctGr : Value}
    {fOrd : Addr} {odOrd anOrd : Option Addr} {slOrd : Array (Option Value)} {ocOrd kVOrd dcOrd pmOrd cdOrd ctOrd : Value}
    {fLpt : Addr} {odLpt anLpt : Option Addr} {slLpt : Array (Option Value)} {ocLpt kVLpt dcLpt pmLpt cdLpt ctLpt : Value}
    {fLsm : Addr} {odLsm anLsm : Option Addr} {slLsm : Array (Option Value)} {ocLsm kVLsm dcLsm pmLsm cdLsm ctLsm : Value}
    {fLps : Addr} {odLps anLps : Option Addr} {slLps : Array (Option Value)} {ocLps kVLps dcLps pmLps cdLps ctLps : Value}
    {fLrt : Addr} {odLrt anLrt : Option Addr} {slLrt : Array (Option Value)} {ocLrt kVLrt dcLrt pmLrt cdLrt ctLrt : Value}
    {fLaw : Addr} {odLaw anLaw : Option Addr} {slLaw : Array (Option Value)} {ocLaw kVLaw dcLaw pmLaw cdLaw ctLaw : Value}
    {fInit : Addr} {odInit anInit : Option Addr} {slInit : Array (Option Value)} {ocInit kVInit dcInit pmInit cdInit ctInit : Value}
    {fHas : Addr} {odHas anHas : Option Addr} {slHas : Array (Option Value)} {ocHas kVHas dcHas pmHas cdHas ctHas : Value}
    {fNear : Addr} {odNear anNear : Option Addr} {slNear : Array (Option Value)} {ocNear kVNear dcNear pmNear cdNear ctNear : Value}
    {fChk : Addr} {odChk anChk : Option Addr} {slChk : Array (Option Value)} {ocChk kVChk dcChk pmChk cdChk ctChk : Value}
    (aC : PySem.W.nsIn K mainGlobals "Graph" = some (some (.ref C)))
    (aB : PySem.W.nsIn K mainGlobals "BadGraph" = some (some (.ref CB)))
    (aNum : PySem.W.nsIn K mainGlobals "is_number" = some (some (.ref fNum)))
    (aVtx : PySem.W.nsIn K mainGlobals "is_vertex" = some (some (.ref fVtx)))
    (aEdg : PySem.W.nsIn K mainGlobals "is_edge" = some (some (.ref fEdg)))
    (aNls : PySem.W.nsIn K mainGlobals "near_lists" = some (some (.ref fNls)))
    (aPart : PySem.W.nsIn K mainGlobals "part" = some (some (.ref fPart)))
    (aBtw : PySem.W.nsIn K mainGlobals "edge_between" = some (some (.ref fBtw)))
    (aRen : PySem.W.nsIn K mainGlobals "renumbered" = some (some (.ref fRen)))
    (aWo : PySem.W.nsIn K mainGlobals "without" = some (some (.ref fWo)))
    (aSame : PySem.W.nsIn K mainGlobals "same" = some (some (.ref fSame)))
    (aTog : PySem.W.nsIn K mainGlobals "together" = some (some (.ref fTog)))
    (aRch : PySem.W.nsIn K mainGlobals "reached" = some (some (.ref fRch)))
    (aPcw : PySem.W.nsIn K mainGlobals "pieces_without" = some (some (.ref fPcw)))
    (aPcs : PySem.W.nsIn K mainGlobals "pieces" = some (some (.ref fPcs)))
    (aCon : PySem.W.nsIn K mainGlobals "is_connected" = some (some (.ref fCon)))
    (aNums : PySem.W.nsIn K mainGlobals "_law_numbers" = some (some (.ref fNums)))
    (aTake : PySem.W.nsIn K mainGlobals "_law_take" = some (some (.ref fTake)))
    (aPrs : PySem.W.nsIn K mainGlobals "_law_pairs" = some (some (.ref fPrs)))
    (aGr : PySem.W.nsIn K mainGlobals "_law_graph" = some (some (.ref fGr)))
    (aOrd : PySem.W.nsIn K mainGlobals "_law_order" = some (some (.ref fOrd)))
    (aLpt : PySem.W.nsIn K mainGlobals "_law_part" = some (some (.ref fLpt)))
    (aLsm : PySem.W.nsIn K mainGlobals "_law_same" = some (some (.ref fLsm)))
    (aLps : PySem.W.nsIn K mainGlobals "_law_pieces" = some (some (.ref fLps)))
    (aLrt : PySem.W.nsIn K mainGlobals "_law_right" = some (some (.ref fLrt)))
    (aLaw : PySem.W.nsIn K mainGlobals "law" = some (some (.ref fLaw)))
    (aInit : PySem.W.findIn K (.ref C) "__init__" = some (some (.ref fInit)))
    (iInit : PySem.W.isFn K (.ref fInit) = true)
    (aHas : PySem.W.findIn K (.ref C) "has" = some (some (.ref fHas)))
    (iHas : PySem.W.isFn K (.ref fHas) = true)
    (aNear : PySem.W.findIn K (.ref C) "near" = some (some (.ref fNear)))
    (iNear : PySem.W.isFn K (.ref fNear) = true)
    (aChk : PySem.W.findIn K (.ref C) "_check_vertex" = some (some (.ref fChk)))
    (iChk : PySem.W.isFn K (.ref fChk) = true)
    (lNum : K.lookup fNum = some ⟨ocNum, odNum, .func (PySem.W.fnOf "is_number" "is_number" (defArgs sNum) (defBody sNum) (defScope sNum) .none kVNum dcNum pmNum anNum cdNum ctNum), slNum⟩)
    (cNum : PySem.W.codeIn K cdNum "is_number" = true)
    (kNum : PySem.W.keepIn K (.ref fNum) = true)
    (lVtx : K.lookup fVtx = some ⟨ocVtx, odVtx, .func (PySem.W.fnOf "is_vertex" "is_vertex" (defArgs sVtx) (defBody sVtx) (defScope sVtx) .none kVVtx dcVtx pmVtx anVtx cdVtx ctVtx), slVtx⟩)
    (cVtx : PySem.W.codeIn K cdVtx "is_vertex" = true)
    (kVtx : PySem.W.keepIn K (.ref fVtx) = true)
    (lEdg : K.lookup fEdg = some ⟨ocEdg, odEdg, .func (PySem.W.fnOf "is_edge" "is_edge" (defArgs sEdg) (defBody sEdg) (defScope sEdg) .none kVEdg dcEdg pmEdg anEdg cdEdg ctEdg), slEdg⟩)
    (cEdg : PySem.W.codeIn K cdEdg "is_edge" = true)
    (kEdg : PySem.W.keepIn K (.ref fEdg) = true)
    (lNls : K.lookup fNls = some ⟨ocNls, odNls, .func (PySem.W.fnOf "near_lists" "near_lists" (defArgs sNls) (defBody sNls) (defScope sNls) .none kVNls dcNls pmNls anNls cdNls ctNls), slNls⟩)
    (cNls : PySem.W.codeIn K cdNls "near_lists" = true)
    (kNls : PySem.W.keepIn K (.ref fNls) = true)
    (lPart : K.lookup fPart = some ⟨ocPart, odPart, .func (PySem.W.fnOf "part" "part" (defArgs sPart) (defBody sPart) (defScope sPart) .none kVPart dcPart pmPart anPart cdPart ctPart), slPart⟩)
    (cPart : PySem.W.codeIn K cdPart "part" = true)
    (kPart : PySem.W.keepIn K (.ref fPart) = true)
    (lBtw : K.lookup fBtw = some ⟨ocBtw, odBtw, .func (PySem.W.fnOf "edge_between" "edge_between" (defArgs sBtw) (defBody sBtw) (defScope sBtw) .none kVBtw dcBtw pmBtw anBtw cdBtw ctBtw), slBtw⟩)
    (cBtw : PySem.W.codeIn K cdBtw "edge_between" = true)
    (kBtw : PySem.W.keepIn K (.ref fBtw) = true)
    (lRen : K.lookup fRen = some ⟨ocRen, odRen, .func (PySem.W.fnOf "renumbered" "renumbered" (defArgs sRen) (defBody sRen) (defScope sRen) .none kVRen dcRen pmRen anRen cdRen ctRen), slRen⟩)
    (cRen : PySem.W.codeIn K cdRen "renumbered" = true)
    (kRen : PySem.W.keepIn K (.ref fRen) = true)
    (lWo : K.lookup fWo = some ⟨ocWo, odWo, .func (PySem.W.fnOf "without" "without" (defArgs sWo) (defBody sWo) (defScope sWo) .none kVWo dcWo pmWo anWo cdWo ctWo), slWo⟩)
    (cWo : PySem.W.codeIn K cdWo "without" = true)
    (kWo : PySem.W.keepIn K (.ref fWo) = true)
    (lSame : K.lookup fSame = some ⟨ocSame, odSame, .func (PySem.W.fnOf "same" "same" (defArgs sSame) (defBody sSame) (defScope sSame) .none kVSame dcSame pmSame anSame cdSame ctSame), slSame⟩)
    (cSame : PySem.W.codeIn K cdSame "same" = true)
    (kSame : PySem.W.keepIn K (.ref fSame) = true)
    (lTog : K.lookup fTog = some ⟨ocTog, odTog, .func (PySem.W.fnOf "together" "together" (defArgs sTog) (defBody sTog) (defScope sTog) .none kVTog dcTog pmTog anTog cdTog ctTog), slTog⟩)
    (cTog : PySem.W.codeIn K cdTog "together" = true)
    (kTog : PySem.W.keepIn K (.ref fTog) = true)
    (lRch : K.lookup fRch = some ⟨ocRch, odRch, .func (PySem.W.fnOf "reached" "reached" (defArgs sRch) (defBody sRch) (defScope sRch) .none kVRch dcRch pmRch anRch cdRch ctRch), slRch⟩)
    (cRch : PySem.W.codeIn K cdRch "reached" = true)
    (kRch : PySem.W.keepIn K (.ref fRch) = true)
    (lPcw : K.lookup fPcw = some ⟨ocPcw, odPcw, .func (PySem.W.fnOf "pieces_without" "pieces_without" (defArgs sPcw) (defBody sPcw) (defScope sPcw) .none kVPcw dcPcw pmPcw anPcw cdPcw ctPcw), slPcw⟩)
    (cPcw : PySem.W.codeIn K cdPcw "pieces_without" = true)
    (kPcw : PySem.W.keepIn K (.ref fPcw) = true)
    (lPcs : K.lookup fPcs = some ⟨ocPcs, odPcs, .func (PySem.W.fnOf "pieces" "pieces" (defArgs sPcs) (defBody sPcs) (defScope sPcs) .none kVPcs dcPcs pmPcs anPcs cdPcs ctPcs), slPcs⟩)
    (cPcs : PySem.W.codeIn K cdPcs "pieces" = true)
    (kPcs : PySem.W.keepIn K (.ref fPcs) = true)
    (lCon : K.lookup fCon = some ⟨ocCon, odCon, .func (PySem.W.fnOf "is_connected" "is_connected" (defArgs sCon) (defBody sCon) (defScope sCon) .none kVCon dcCon pmCon anCon cdCon ctCon), slCon⟩)
    (cCon : PySem.W.codeIn K cdCon "is_connected" = true)
    (kCon : PySem.W.keepIn K (.ref fCon) = true)
    (lNums : K.lookup fNums = some ⟨ocNums, odNums, .func (PySem.W.fnOf "_law_numbers" "_law_numbers" (defArgs sNums) (defBody sNums) (defScope sNums) .none kVNums dcNums pmNums anNums cdNums ctNums), slNums⟩)
    (cNums : PySem.W.codeIn K cdNums "_law_numbers" = true)
    (kNums : PySem.W.keepIn K (.ref fNums) = true)
    (lTake : K.lookup fTake = some ⟨ocTake, odTake, .func (PySem.W.fnOf "_law_take" "_law_take" (defArgs sTake) (defBody sTake) (defScope sTake) .none kVTake dcTake pmTake anTake cdTake ctTake), slTake⟩)
    (cTake : PySem.W.codeIn K cdTake "_law_take" = true)
    (kTake : PySem.W.keepIn K (.ref fTake) = true)
    (lPrs : K.lookup fPrs = some ⟨ocPrs, odPrs, .func (PySem.W.fnOf "_law_pairs" "_law_pairs" (defArgs sPrs) (defBody sPrs) (defScope sPrs) .none kVPrs dcPrs pmPrs anPrs cdPrs ctPrs), slPrs⟩)
    (cPrs : PySem.W.codeIn K cdPrs "_law_pairs" = true)
    (kPrs : PySem.W.keepIn K (.ref fPrs) = true)
    (lGr : K.lookup fGr = some ⟨ocGr, odGr, .func (PySem.W.fnOf "_law_graph" "_law_graph" (defArgs sGr) (defBody sGr) (defScope sGr) .none kVGr dcGr pmGr anGr cdGr ctGr), slGr⟩)
    (cGr : PySem.W.codeIn K cdGr "_law_graph" = true)
    (kGr : PySem.W.keepIn K (.ref fGr) = true)
    (lOrd : K.lookup fOrd = some ⟨ocOrd, odOrd, .func (PySem.W.fnOf "_law_order" "_law_order" (defArgs sOrd) (defBody sOrd) (defScope sOrd) .none kVOrd dcOrd pmOrd anOrd cdOrd ctOrd), slOrd⟩)
    (cOrd : PySem.W.codeIn K cdOrd "_law_order" = true)
    (kOrd : PySem.W.keepIn K (.ref fOrd) = true)
    (lLpt : K.lookup fLpt = some ⟨ocLpt, odLpt, .func (PySem.W.fnOf "_law_part" "_law_part" (defArgs sLpt) (defBody sLpt) (defScope sLpt) .none kVLpt dcLpt pmLpt anLpt cdLpt ctLpt), slLpt⟩)
    (cLpt : PySem.W.codeIn K cdLpt "_law_part" = true)
    (kLpt : PySem.W.keepIn K (.ref fLpt) = true)
    (lLsm : K.lookup fLsm = some ⟨ocLsm, odLsm, .func (PySem.W.fnOf "_law_same" "_law_same" (defArgs sLsm) (defBody sLsm) (defScope sLsm) .none kVLsm dcLsm pmLsm anLsm cdLsm ctLsm), slLsm⟩)
    (cLsm : PySem.W.codeIn K cdLsm "_law_same" = true)
    (kLsm : PySem.W.keepIn K (.ref fLsm) = true)
    (lLps : K.lookup fLps = some ⟨ocLps, odLps, .func (PySem.W.fnOf "_law_pieces" "_law_pieces" (defArgs sLps) (defBody sLps) (defScope sLps) .none kVLps dcLps pmLps anLps cdLps ctLps), slLps⟩)
    (cLps : PySem.W.codeIn K cdLps "_law_pieces" = true)
    (kLps : PySem.W.keepIn K (.ref fLps) = true)
    (lLrt : K.lookup fLrt = some ⟨ocLrt, odLrt, .func (PySem.W.fnOf "_law_right" "_law_right" (defArgs sLrt) (defBody sLrt) (defScope sLrt) .none kVLrt dcLrt pmLrt anLrt cdLrt ctLrt), slLrt⟩)
    (cLrt : PySem.W.codeIn K cdLrt "_law_right" = true)
    (kLrt : PySem.W.keepIn K (.ref fLrt) = true)
    (lLaw : K.lookup fLaw = some ⟨ocLaw, odLaw, .func (PySem.W.fnOf "law" "law" (defArgs sLaw) (defBody sLaw) (defScope sLaw) .none kVLaw dcLaw pmLaw anLaw cdLaw ctLaw), slLaw⟩)
    (cLaw : PySem.W.codeIn K cdLaw "law" = true)
    (kLaw : PySem.W.keepIn K (.ref fLaw) = true)
    (lInit : K.lookup fInit = some ⟨ocInit, odInit, .func (PySem.W.fnOf "__init__" "Graph.__init__" (defArgs sInit) (defBody sInit) (defScope sInit) .none kVInit dcInit pmInit anInit cdInit ctInit), slInit⟩)
    (cInit : PySem.W.codeIn K cdInit "Graph.__init__" = true)
    (kInit : PySem.W.keepIn K (.ref fInit) = true)
    (lHas : K.lookup fHas = some ⟨ocHas, odHas, .func (PySem.W.fnOf "has" "Graph.has" (defArgs sHas) (defBody sHas) (defScope sHas) .none kVHas dcHas pmHas anHas cdHas ctHas), slHas⟩)
    (cHas : PySem.W.codeIn K cdHas "Graph.has" = true)
    (kHas : PySem.W.keepIn K (.ref fHas) = true)
    (lNear : K.lookup fNear = some ⟨ocNear, odNear, .func (PySem.W.fnOf "near" "Graph.near" (defArgs sNear) (defBody sNear) (defScope sNear) .none kVNear dcNear pmNear anNear cdNear ctNear), slNear⟩)
    (cNear : PySem.W.codeIn K cdNear "Graph.near" = true)
    (kNear : PySem.W.keepIn K (.ref fNear) = true)
    (lChk : K.lookup fChk = some ⟨ocChk, odChk, .func (PySem.W.fnOf "_check_vertex" "Graph._check_vertex" (defArgs sChk) (defBody sChk) (defScope sChk) .none kVChk dcChk pmChk anChk cdChk ctChk), slChk⟩)
    (cChk : PySem.W.codeIn K cdChk "Graph._check_vertex" = true)
    (kChk : PySem.W.keepIn K (.ref fChk) = true)
    (pg : PySem.W.plainGet K C Str.empty = true)
    (hd : PySem.W.hasDictIn K C = true)
    (po : PySem.W.plainOver K C = true)
    (sa : PySem.W.findIn K (.ref C) "__setattr__" = some (some (.builtin "object.__setattr__")))
    (mk : PySem.W.makesIn K C = true)
    (kc : PySem.W.keepIn K (.ref C) = true)
    (nS : PySem.W.findIn K (.ref C) "size" = some none)
    (nE : PySem.W.findIn K (.ref C) "edges" = some none)
    (nN : PySem.W.findIn K (.ref C) "_near" = some none)
    (xB : PySem.W.excIn K CB [.type "ValueError", .type "Exception", .type "BaseException", .type "object"] "ValueError.__new__" = true)
    (kB : PySem.W.keepIn K (.ref CB) = true)
    (bB : PySem.W.subIn K (.ref CB) (.type "BaseException") = some true)
    (tB : PySem.W.typeIn K (.ref CB) = some (.type "type"))
    (aM : PySem.W.nsIn K mainGlobals "MOST_VERTICES" = some (some (.int 60 tm)))
    (z_isinstance : PySem.W.nsIn K mainGlobals "isinstance" = some none)
    (z_int : PySem.W.nsIn K mainGlobals "int" = some none)
    (z_bool : PySem.W.nsIn K mainGlobals "bool" = some none)
    (z_tuple : PySem.W.nsIn K mainGlobals "tuple" = some none)
    (z_len : PySem.W.nsIn K mainGlobals "len" = some none)
    (z_set : PySem.W.nsIn K mainGlobals "set" = some none)
    (z_sorted : PySem.W.nsIn K mainGlobals "sorted" = some none)
    (z_range : PySem.W.nsIn K mainGlobals "range" = some none)
    (z_list : PySem.W.nsIn K mainGlobals "list" = some none)
    (z_enumerate : PySem.W.nsIn K mainGlobals "enumerate" = some none)
    (z_min : PySem.W.nsIn K mainGlobals "min" = some none)
    (z_max : PySem.W.nsIn K mainGlobals "max" = some none)
    (z_abs : PySem.W.nsIn K mainGlobals "abs" = some none)
    (z_str : PySem.W.nsIn K mainGlobals "str" = some none)
    : ∃ fd : FuncData, (∀ (s : Shared) (v : Value), BindsTo s fd ⟨[v], []⟩ [("script", v)]) ∧ ∀ base : Heap, K.In base → base.Ns mainGlobals mg → FnOk l.prog w K mg base CX0 9 fa fd ["script"] (spLaw K) := by
  have e := hfa.symm.trans (PySem.W.mg_of X G aLaw)
  cases e
  have m_isinstance := PySem.W.mg_none_of X G z_isinstance
  have m_int := PySem.W.mg_none_of X G z_int
  have m_bool := PySem.W.mg_none_of X G z_bool
  have m_tuple := PySem.W.mg_none_of X G z_tuple
  have m_len := PySem.W.mg_none_of X G z_len
  have m_set := PySem.W.mg_none_of X G z_set
  have m_sorted := PySem.W.mg_none_of X G z_sorted
  have m_range := PySem.W.mg_none_of X G z_range
  have m_list := PySem.W.mg_none_of X G z_list
  have m_enumerate := PySem.W.mg_none_of X G z_enumerate
  have m_min := PySem.W.mg_none_of X G z_min
  have m_max := PySem.W.mg_none_of X G z_max
  have m_abs := PySem.W.mg_none_of X G z_abs
  have m_str := PySem.W.mg_none_of X G z_str
  have FNum := fun_mk (st := sNum) lNum cNum kNum
  have bNum := FNum.binds (ps := ["value"]) fun _ _ _ _ _ _ us hl => match us, hl with | [_], _ => rfl
  have FVtx := fun_mk (st := sVtx) lVtx cVtx kVtx
  have bVtx := FVtx.binds (ps := ["value", "size"]) fun _ _ _ _ _ _ us hl => match us, hl with | [_, _], _ => rfl
  have FEdg := fun_mk (st := sEdg) lEdg cEdg kEdg
  have bEdg := FEdg.binds (ps := ["value", "size"]) fun _ _ _ _ _ _ us hl => match us, hl with | [_, _], _ => rfl
  have FNls := fun_mk (st := sNls) lNls cNls kNls
  have bNls := FNls.binds (ps := ["size", "edges"]) fun _ _ _ _ _ _ us hl => match us, hl with | [_, _], _ => rfl
  have FPart := fun_mk (st := sPart) lPart cPart kPart
  have bPart := FPart.binds (ps := ["graph", "vertices"]) fun _ _ _ _ _ _ us hl => match us, hl with | [_, _], _ => rfl
  have FBtw := fun_mk (st := sBtw) lBtw cBtw kBtw
  have bBtw := FBtw.binds (ps := ["u", "v"]) fun _ _ _ _ _ _ us hl => match us, hl with | [_, _], _ => rfl
  have FRen := fun_mk (st := sRen) lRen cRen kRen
  have bRen := FRen.binds (ps := ["graph", "order"]) fun _ _ _ _ _ _ us hl => match us, hl with | [_, _], _ => rfl
  have FWo := fun_mk (st := sWo) lWo cWo kWo
  have bWo := FWo.binds (ps := ["graph", "edge"]) fun _ _ _ _ _ _ us hl => match us, hl with | [_, _], _ => rfl
  have FSame := fun_mk (st := sSame) lSame cSame kSame
  have bSame := FSame.binds (ps := ["first", "second"]) fun _ _ _ _ _ _ us hl => match us, hl with | [_, _], _ => rfl
  have FTog := fun_mk (st := sTog) lTog cTog kTog
  have bTog := FTog.binds (ps := ["first", "second"]) fun _ _ _ _ _ _ us hl => match us, hl with | [_, _], _ => rfl
  have FRch := fun_mk (st := sRch) lRch cRch kRch
  have bRch := FRch.binds (ps := ["graph", "start", "seen"]) fun _ _ _ _ _ _ us hl => match us, hl with | [_, _, _], _ => rfl
  have FPcw := fun_mk (st := sPcw) lPcw cPcw kPcw
  have bPcw := FPcw.binds (ps := ["graph", "gone"]) fun _ _ _ _ _ _ us hl => match us, hl with | [_, _], _ => rfl
  have FPcs := fun_mk (st := sPcs) lPcs cPcs kPcs
  have bPcs := FPcs.binds (ps := ["graph"]) fun _ _ _ _ _ _ us hl => match us, hl with | [_], _ => rfl
  have FCon := fun_mk (st := sCon) lCon cCon kCon
  have bCon := FCon.binds (ps := ["graph"]) fun _ _ _ _ _ _ us hl => match us, hl with | [_], _ => rfl
  have FNums := fun_mk (st := sNums) lNums cNums kNums
  have bNums := FNums.binds (ps := ["script", "many"]) fun _ _ _ _ _ _ us hl => match us, hl with | [_, _], _ => rfl
  have FTake := fun_mk (st := sTake) lTake cTake kTake
  have bTake := FTake.binds (ps := ["numbers", "place"]) fun _ _ _ _ _ _ us hl => match us, hl with | [_, _], _ => rfl
  have FPrs := fun_mk (st := sPrs) lPrs cPrs kPrs
  have bPrs := FPrs.binds (ps := ["size"]) fun _ _ _ _ _ _ us hl => match us, hl with | [_], _ => rfl
  have FGr := fun_mk (st := sGr) lGr cGr kGr
  have bGr := FGr.binds (ps := ["numbers", "place", "most"]) fun _ _ _ _ _ _ us hl => match us, hl with | [_, _, _], _ => rfl
  have FOrd := fun_mk (st := sOrd) lOrd cOrd kOrd
  have bOrd := FOrd.binds (ps := ["numbers", "place", "size"]) fun _ _ _ _ _ _ us hl => match us, hl with | [_, _, _], _ => rfl
  have FLpt := fun_mk (st := sLpt) lLpt cLpt kLpt
  have bLpt := FLpt.binds (ps := ["edges", "vertices"]) fun _ _ _ _ _ _ us hl => match us, hl with | [_, _], _ => rfl
  have FLsm := fun_mk (st := sLsm) lLsm cLsm kLsm
  have bLsm := FLsm.binds (ps := ["actual", "expected"]) fun _ _ _ _ _ _ us hl => match us, hl with | [_, _], _ => rfl
  have FLps := fun_mk (st := sLps) lLps cLps kLps
  have bLps := FLps.binds (ps := ["size", "edges"]) fun _ _ _ _ _ _ us hl => match us, hl with | [_, _], _ => rfl
  have FLrt := fun_mk (st := sLrt) lLrt cLrt kLrt
  have bLrt := FLrt.binds (ps := ["graph", "size", "edges"]) fun _ _ _ _ _ _ us hl => match us, hl with | [_, _, _], _ => rfl
  have FLaw := fun_mk (st := sLaw) lLaw cLaw kLaw
  have bLaw := FLaw.binds (ps := ["script"]) fun _ _ _ _ _ _ us hl => match us, hl with | [_], _ => rfl
  have FInit := fun_mk (st := sInit) lInit cInit kInit
  have bInit := FInit.binds (ps := ["self", "size", "edges"]) fun _ _ _ _ _ _ us hl => match us, hl with | [_, _, _], _ => rfl
  have FHas := fun_mk (st := sHas) lHas cHas kHas
  have bHas := FHas.binds (ps := ["self", "u", "v"]) fun _ _ _ _ _ _ us hl => match us, hl with | [_, _, _], _ => rfl
  have FNear := fun_mk (st := sNear) lNear cNear kNear
  have bNear := FNear.binds (ps := ["self", "u"]) fun _ _ _ _ _ _ us hl => match us, hl with | [_, _], _ => rfl
  have FChk := fun_mk (st := sChk) lChk cChk kChk
  have bChk := FChk.binds (ps := ["self", "value"]) fun _ _ _ _ _ _ us hl => match us, hl with | [_, _], _ => rfl
  have gNum := PySem.W.mg_of X G aNum
  have gVtx := PySem.W.mg_of X G aVtx
  have gEdg := PySem.W.mg_of X G aEdg
  have gNls := PySem.W.mg_of X G aNls
  have gPart := PySem.W.mg_of X G aPart
  have gBtw := PySem.W.mg_of X G aBtw
  have gRen := PySem.W.mg_of X G aRen
  have gWo := PySem.W.mg_of X G aWo
  have gSame := PySem.W.mg_of X G aSame
  have gTog := PySem.W.mg_of X G aTog
  have gRch := PySem.W.mg_of X G aRch
  have gPcw := PySem.W.mg_of X G aPcw
  have gPcs := PySem.W.mg_of X G aPcs
  have gCon := PySem.W.mg_of X G aCon
  have gNums := PySem.W.mg_of X G aNums
  have gTake := PySem.W.mg_of X G aTake
  have gPrs := PySem.W.mg_of X G aPrs
  have gGr := PySem.W.mg_of X G aGr
  have gOrd := PySem.W.mg_of X G aOrd
  have gLpt := PySem.W.mg_of X G aLpt
  have gLsm := PySem.W.mg_of X G aLsm
  have gLps := PySem.W.mg_of X G aLps
  have gLrt := PySem.W.mg_of X G aLrt
  have gLaw := PySem.W.mg_of X G aLaw
  have TA : TxA mg := ⟨m_isinstance, m_int, m_bool, m_tuple, m_len⟩
  have T : TxG K mg C := ⟨⟨pg, hd, po, sa⟩, nS, nE, nN, PySem.W.mg_of X G aC⟩
  have B : TxE K mg "BadGraph" CB := ⟨PySem.W.mg_of X G aB, xB, kB, bB, tB⟩
  have TS : TxS mg := ⟨m_isinstance, m_tuple, m_len, m_range, m_str, m_int, m_bool⟩
  have M : Mk K C fInit := ⟨mk, aInit, iInit, kc⟩
  refine ⟨PySem.W.fnOf "law" "law" (defArgs sLaw) (defBody sLaw) (defScope sLaw) .none kVLaw dcLaw pmLaw anLaw cdLaw ctLaw, fun s v => .of_eq rfl, fun base _ _ => ?_⟩
  have GN : FnOk l.prog w K mg base CX0 1 fNum _ ["value"] spNum := ok_num FNum TA
  have GV : FnOk l.prog w K mg base CX0 2 fVtx _ ["value", "size"] spVtx := ok_vtx FVtx FNum bNum gNum TA
  have GE : FnOk l.prog w K mg base CX0 3 fEdg _ ["value", "size"] (spEdg K) := ok_edg FEdg GV kVtx bVtx gVtx TA
  have GL : FnOk l.prog w K mg base CX0 1 fNls _ ["size", "edges"] (spNls K) := ok_nls FNls m_range
  have GI : FnOk l.prog w K mg base (L2.CX l.prog w) 4 fInit _ ["self", "size", "edges"] (spInit K C CB) := ok_init FInit T B GN gNum kNum bNum GE gEdg kEdg bEdg GL gNls kNls bNls (PySem.W.mg_of X G aM) m_set m_tuple m_sorted
  have GK : FnOk l.prog w K mg base (L2.CX l.prog w) 3 fChk _ ["self", "value"] (spChk K C CB) := ok_chk FChk T B GV kVtx bVtx gVtx
  have mChk : Meth K C "_check_vertex" fChk := ⟨aChk, iChk, kChk⟩
  have GNe : FnOk l.prog w K mg base (L2.CX l.prog w) 4 fNear _ ["self", "u"] (spNear K C CB) := ok_near FNear T GK mChk bChk m_list
  have GH : FnOk l.prog w K mg base (L2.CX l.prog w) 4 fHas _ ["self", "u", "v"] (spHas K C CB) := ok_has FHas T GK mChk bChk
  have GB : FnOk l.prog w K mg base CX0 1 fBtw _ ["u", "v"] spBtw := ok_btw FBtw m_min m_max
  have GP : FnOk l.prog w K mg base (L2.CX l.prog w) 6 fPart _ ["graph", "vertices"] (spPartG K C CB) := ok_partG FPart T B GV kVtx bVtx gVtx GI M bInit GB kBtw bBtw gBtw m_enumerate m_len
  have GR : FnOk l.prog w K mg base (L2.CX l.prog w) 7 fRen _ ["graph", "order"] (spRenG K C CB) := ok_renG FRen T B GP kPart bPart gPart m_len
  have GW : FnOk l.prog w K mg base (L2.CX l.prog w) 6 fWo _ ["graph", "edge"] (spWoG K C CB) := ok_woG FWo T B GE kEdg bEdg gEdg GI M bInit
  have GSm : FnOk l.prog w K mg base CX0 1 fSame _ ["first", "second"] (spSame K C) := ok_same FSame T
  have GTg : FnOk l.prog w K mg base (L2.CX l.prog w) 6 fTog _ ["first", "second"] (spTog K C CB) := ok_tog FTog T GI M bInit
  have mNear : Meth K C "near" fNear := ⟨aNear, iNear, kNear⟩
  have GRc : FnOk l.prog w K mg base (L2.CX l.prog w) 5 fRch _ ["graph", "start", "seen"] (spRch K C) := ok_rch FRch T GNe mNear bNear m_sorted
  have GPw : FnOk l.prog w K mg base (L2.CX l.prog w) 6 fPcw _ ["graph", "gone"] (spPcw K C) := ok_pcw FPcw T GRc kRch bRch gRch m_range
  have GPc : FnOk l.prog w K mg base (L2.CX l.prog w) 7 fPcs _ ["graph"] (spPcs K C) := ok_pcs FPcs GPw kPcw bPcw gPcw
  have GCn : FnOk l.prog w K mg base (L2.CX l.prog w) 8 fCon _ ["graph"] (spCon K C) := ok_con FCon GPc kPcs bPcs gPcs m_len
  have GNs : FnOk l.prog w K mg base CX0 1 fNums _ ["script", "many"] (spNums K) := ok_nums FNums m_range m_len m_abs m_int
  have GT : FnOk l.prog w K mg base CX0 1 fTake _ ["numbers", "place"] (spTake K) := ok_take FTake m_len
  have GPr : FnOk l.prog w K mg base CX0 1 fPrs _ ["size"] (spPrs K) := ok_prs FPrs m_range
  have GG : FnOk l.prog w K mg base CX0 2 fGr _ ["numbers", "place", "most"] (spGr K) := ok_gr FGr GT kTake bTake gTake GPr kPrs bPrs gPrs
  have GO : FnOk l.prog w K mg base CX0 2 fOrd _ ["numbers", "place", "size"] (spOrd K) := ok_ord FOrd GT kTake bTake gTake m_list m_range m_len
  have GLp : FnOk l.prog w K mg base CX0 2 fLpt _ ["edges", "vertices"] (spLpt K) := ok_lpt FLpt m_range m_len m_min m_max
  have S0 : FnOk l.prog w K mg base CX0 1 fLsm _ ["actual", "expected"] (spLsm K 0) := ok_lsm0 FLsm TS
  have S1 : FnOk l.prog w K mg base CX0 2 fLsm _ ["actual", "expected"] (spLsm K 1) := ok_lsmS FLsm TS S0 bLsm gLsm
  have S2 : FnOk l.prog w K mg base CX0 3 fLsm _ ["actual", "expected"] (spLsm K 2) := ok_lsmS FLsm TS S1 bLsm gLsm
  have S3 : FnOk l.prog w K mg base CX0 4 fLsm _ ["actual", "expected"] (spLsm K 3) := ok_lsmS FLsm TS S2 bLsm gLsm
  have GLs : FnOk l.prog w K mg base CX0 2 fLps _ ["size", "edges"] (spLps K) := ok_lps FLps m_list m_range m_sorted
  have GLr : FnOk l.prog w K mg base (L2.CX l.prog w) 5 fLrt _ ["graph", "size", "edges"] (spLrt K C) := ok_lrt FLrt T TS S3 kLsm bLsm gLsm GNe mNear bNear GH ⟨aHas, iHas, kHas⟩ bHas m_sorted m_min m_max
  exact ok_law FLaw T GI M bInit GNs kNums bNums gNums GG kGr bGr gGr GO kOrd bOrd gOrd GT kTake bTake gTake GSm kSame bSame gSame GLr kLrt bLrt gLrt GP kPart bPart gPart GLp kLpt bLpt gLpt GR kRen bRen gRen GW kWo bWo gWo GTg kTog bTog gTog GLs kLps bLps gLps GPc kPcs bPcs gPcs GCn kCon bCon gCon m_list m_len
end Sm

open PySem PySem.W PyProof.Rows
set_option Elab.async false
set_option maxRecDepth 100000 in
set_option maxHeartbeats 0 in
theorem PySem.Challenge.cw_smallwidth_k01_graphs_and_parts_holds : PySem.Challenge.rw_smallwidth_k01_graphs_and_parts.Holds := by
  w_on; o_law; k_head; (case hw => w_witness2)
  k_fill
  refine L2.walk_of (l := PySem.Challenge.rw_smallwidth_k01_graphs_and_parts) (n := 63) (k := 9) (x := "script") (CX := fun _ => L2.CX0) (sp := fun w => Sm.spLaw _) rfl (by decide) rfl ⟨rfl, by decide, by decide⟩ (fun w h Y => PySem.W.kIn_of Y) ?F (fun _ _ a ns hl _ hS => ⟨a, ns, rfl, hS, hl, fun _ => rfl⟩) (fun _ _ _ _ _ h => h)
  case F =>
    intro w mg fa h KX G hmg
    refine' Sm.all_mk KX G hmg ?aC ?aB ?aNum ?aVtx ?aEdg ?aNls ?aPart ?aBtw ?aRen ?aWo ?aSame ?aTog ?aRch ?aPcw ?aPcs ?aCon ?aNums ?aTake ?aPrs ?aGr ?aOrd ?aLpt ?aLsm ?aLps ?aLrt ?aLaw ?aInit ?iInit ?aHas ?iHas ?aNear ?iNear ?aChk ?iChk ?lNum ?cNum ?kNum ?lVtx ?cVtx ?kVtx ?lEdg ?cEdg ?kEdg ?lNls ?cNls ?kNls ?lPart ?cPart ?kPart ?lBtw ?cBtw ?kBtw ?lRen ?cRen ?kRen ?lWo ?cWo ?kWo ?lSame ?cSame ?kSame ?lTog ?cTog ?kTog ?lRch ?cRch ?kRch ?lPcw ?cPcw ?kPcw ?lPcs ?cPcs ?kPcs ?lCon ?cCon ?kCon ?lNums ?cNums ?kNums ?lTake ?cTake ?kTake ?lPrs ?cPrs ?kPrs ?lGr ?cGr ?kGr ?lOrd ?cOrd ?kOrd ?lLpt ?cLpt ?kLpt ?lLsm ?cLsm ?kLsm ?lLps ?cLps ?kLps ?lLrt ?cLrt ?kLrt ?lLaw ?cLaw ?kLaw ?lInit ?cInit ?kInit ?lHas ?cHas ?kHas ?lNear ?cNear ?kNear ?lChk ?cChk ?kChk ?pg ?hd ?po ?sa ?mk ?kc ?nS ?nE ?nN ?xB ?kB ?bB ?tB ?aM ?z_isinstance ?z_int ?z_bool ?z_tuple ?z_len ?z_set ?z_sorted ?z_range ?z_list ?z_enumerate ?z_min ?z_max ?z_abs ?z_str
    (case aC => first | k_is | rfl)
    (case aB => first | k_is | rfl)
    (case aNum => first | k_is | rfl)
    (case aVtx => first | k_is | rfl)
    (case aEdg => first | k_is | rfl)
    (case aNls => first | k_is | rfl)
    (case aPart => first | k_is | rfl)
    (case aBtw => first | k_is | rfl)
    (case aRen => first | k_is | rfl)
    (case aWo => first | k_is | rfl)
    (case aSame => first | k_is | rfl)
    (case aTog => first | k_is | rfl)
    (case aRch => first | k_is | rfl)
    (case aPcw => first | k_is | rfl)
    (case aPcs => first | k_is | rfl)
    (case aCon => first | k_is | rfl)
    (case aNums => first | k_is | rfl)
    (case aTake => first | k_is | rfl)
    (case aPrs => first | k_is | rfl)
    (case aGr => first | k_is | rfl)
    (case aOrd => first | k_is | rfl)
    (case aLpt => first | k_is | rfl)
    (case aLsm => first | k_is | rfl)
    (case aLps => first | k_is | rfl)
    (case aLrt => first | k_is | rfl)
    (case aLaw => first | k_is | rfl)
    (case aInit => first | k_is | rfl)
    (case iInit => first | k_is | rfl)
    (case aHas => first | k_is | rfl)
    (case iHas => first | k_is | rfl)
    (case aNear => first | k_is | rfl)
    (case iNear => first | k_is | rfl)
    (case aChk => first | k_is | rfl)
    (case iChk => first | k_is | rfl)
    (case lNum => first | k_is | rfl)
    (case cNum => first | k_is | rfl)
    (case kNum => first | k_is | rfl)
    (case lVtx => first | k_is | rfl)
    (case cVtx => first | k_is | rfl)
    (case kVtx => first | k_is | rfl)
    (case lEdg => first | k_is | rfl)
    (case cEdg => first | k_is | rfl)
    (case kEdg => first | k_is | rfl)
    (case lNls => first | k_is | rfl)
    (case cNls => first | k_is | rfl)
    (case kNls => first | k_is | rfl)
    (case lPart => first | k_is | rfl)
    (case cPart => first | k_is | rfl)
    (case kPart => first | k_is | rfl)
    (case lBtw => first | k_is | rfl)
    (case cBtw => first | k_is | rfl)
    (case kBtw => first | k_is | rfl)
    (case lRen => first | k_is | rfl)
    (case cRen => first | k_is | rfl)
    (case kRen => first | k_is | rfl)
    (case lWo => first | k_is | rfl)
    (case cWo => first | k_is | rfl)
    (case kWo => first | k_is | rfl)
    (case lSame => first | k_is | rfl)
    (case cSame => first | k_is | rfl)
    (case kSame => first | k_is | rfl)
    (case lTog => first | k_is | rfl)
    (case cTog => first | k_is | rfl)
    (case kTog => first | k_is | rfl)
    (case lRch => first | k_is | rfl)
    (case cRch => first | k_is | rfl)
    (case kRch => first | k_is | rfl)
    (case lPcw => first | k_is | rfl)
    (case cPcw => first | k_is | rfl)
    (case kPcw => first | k_is | rfl)
    (case lPcs => first | k_is | rfl)
    (case cPcs => first | k_is | rfl)
    (case kPcs => first | k_is | rfl)
    (case lCon => first | k_is | rfl)
    (case cCon => first | k_is | rfl)
    (case kCon => first | k_is | rfl)
    (case lNums => first | k_is | rfl)
    (case cNums => first | k_is | rfl)
    (case kNums => first | k_is | rfl)
    (case lTake => first | k_is | rfl)
    (case cTake => first | k_is | rfl)
    (case kTake => first | k_is | rfl)
    (case lPrs => first | k_is | rfl)
    (case cPrs => first | k_is | rfl)
    (case kPrs => first | k_is | rfl)
    (case lGr => first | k_is | rfl)
    (case cGr => first | k_is | rfl)
    (case kGr => first | k_is | rfl)
    (case lOrd => first | k_is | rfl)
    (case cOrd => first | k_is | rfl)
    (case kOrd => first | k_is | rfl)
    (case lLpt => first | k_is | rfl)
    (case cLpt => first | k_is | rfl)
    (case kLpt => first | k_is | rfl)
    (case lLsm => first | k_is | rfl)
    (case cLsm => first | k_is | rfl)
    (case kLsm => first | k_is | rfl)
    (case lLps => first | k_is | rfl)
    (case cLps => first | k_is | rfl)
    (case kLps => first | k_is | rfl)
    (case lLrt => first | k_is | rfl)
    (case cLrt => first | k_is | rfl)
    (case kLrt => first | k_is | rfl)
    (case lLaw => first | k_is | rfl)
    (case cLaw => first | k_is | rfl)
    (case kLaw => first | k_is | rfl)
    (case lInit => first | k_is | rfl)
    (case cInit => first | k_is | rfl)
    (case kInit => first | k_is | rfl)
    (case lHas => first | k_is | rfl)
    (case cHas => first | k_is | rfl)
    (case kHas => first | k_is | rfl)
    (case lNear => first | k_is | rfl)
    (case cNear => first | k_is | rfl)
    (case kNear => first | k_is | rfl)
    (case lChk => first | k_is | rfl)
    (case cChk => first | k_is | rfl)
    (case kChk => first | k_is | rfl)
    (case pg => first | k_is | rfl)
    (case hd => first | k_is | rfl)
    (case po => first | k_is | rfl)
    (case sa => first | k_is | rfl)
    (case mk => first | k_is | rfl)
    (case kc => first | k_is | rfl)
    (case nS => first | k_is | rfl)
    (case nE => first | k_is | rfl)
    (case nN => first | k_is | rfl)
    (case xB => first | k_is | k_exc | decide +kernel)
    (case kB => first | k_is | rfl)
    (case bB => first | k_is | rfl)
    (case tB => first | k_is | rfl)
    (case aM => first | k_is | rfl)
    (case z_isinstance => first | k_is | rfl)
    (case z_int => first | k_is | rfl)
    (case z_bool => first | k_is | rfl)
    (case z_tuple => first | k_is | rfl)
    (case z_len => first | k_is | rfl)
    (case z_set => first | k_is | rfl)
    (case z_sorted => first | k_is | rfl)
    (case z_range => first | k_is | rfl)
    (case z_list => first | k_is | rfl)
    (case z_enumerate => first | k_is | rfl)
    (case z_min => first | k_is | rfl)
    (case z_max => first | k_is | rfl)
    (case z_abs => first | k_is | rfl)
    (case z_str => first | k_is | rfl)

