import PyProof.Rows.All
import Wide.All
import OpenK.AllK
import Wide.FinOn
import HandS.ForMost
import HandS.Set
import HandS.Strs
import HandS.TupSets
import HandS.SortRule
import HandS.SortInts
import HandS.ForExc
import HandS.IsInst
import HandS.Deep
import HandS.Flow
import HandS.ExcIs
import HandS.Walk
import HandS.Conv
import HandS.Codes
import PySem.Challenge.RW_smallwidth_k02_graphs_refused
set_option Elab.async false
set_option linter.all false
set_option maxRecDepth 100000
set_option maxHeartbeats 2000000
/-! Sets of tuples of ints that grow by add, asked by in, sorted; up to 75 members. -/
namespace Sm
open PySem PySem.Spec PyProof.Rows L2
section
variable {P : Program} {w : World} {A : Around} {E : Value → Shared → Prop} {s : Shared}
/-- where the search for a hash begins -/
abbrev walk0 (m : Nat) (h : Int) : SetTable.Probe := runAt m (SetTable.bits h % (m + 1)) (SetTable.bits h)
/-- at a stands a set whose members are the tuples of L (its address, its ints) -/
structure TW (P : Program) (w : World) (h : Heap) (a : Addr) (L : List (Addr × List Int)) (es : Array (Int × Value)) (ep : Nat) (t : SetTable) : Prop where
  obj : ∃ o, h.get? a = some o ∧ o.ExactSet ∧ o.data = .set es ep t
  rws : es.toList = rowsOf P w L
  tbl : TabOk t (L.map fun p => thash P w p.2)
  dif : (L.map (·.2)).Nodup
  mem : ∀ p ∈ L, IsT P w h p.2 p.1
  pln : t.plain = true
  ld : w.params.followText "set-order" = true ∨ t.led = true
  fit : L.length * 5 < t.mask * 3
variable {a : Addr} {L : List (Addr × List Int)} {es : Array (Int × Value)} {ep : Nat} {t : SetTable}
theorem TW.len (R : TW P w s.heap a L es ep t) : es.size = L.length := by
  have q : es.toList.length = (rowsOf P w L).length := by rw [R.rws]
  rw [Array.length_toList, rowsOf, List.length_map] at q
  exact q
theorem TW.few (R : TW P w s.heap a L es ep t) : L.length ≤ 76 := by
  have q := R.fit
  rcases R.tbl.mok with e | e | e <;> omega
theorem TW.holds (R : TW P w s.heap a L es ep t) : t.fits es.size = true := by
  have q1 := R.tbl.sz
  rw [List.length_map] at q1
  have q2 := R.len
  have q3 := R.fit
  simp only [SetTable.fits, SetTable.fill, R.tbl.dm, Bool.and_eq_true, beq_iff_eq, decide_eq_true_eq]
  refine ⟨by omega, ?_⟩
  show t.place.size + 0 ≤ t.mask
  omega
theorem TW.at (R : TW P w s.heap a L es ep t) {i : Nat} {p : Addr × List Int} (h : L[i]? = some p) : es[i]? = some (thash P w p.2, Value.ref p.1) := by
  have q : es.toList[i]? = (rowsOf P w L)[i]? := by rw [R.rws]
  rw [Array.getElem?_toList] at q
  rw [q, rowsOf, List.getElem?_map, h]
  rfl
theorem nth_clean (m : Nat) : ∀ (n : Nat) (p : SetTable.Probe), p.dummy = none → (nth m p n).dummy = none
  | 0, _, h => h
  | n + 1, p, h => nth_clean m n (adv m p) (by unfold adv; split <;> exact h)
/-- the search from the c-th place of its way on, whether one adds or asks -/
theorem tw_from (R : TW P w s.heap a L es ep t) {x : Addr} {k : List Int} (hx : IsT P w s.heap k x) (hu : A.units < cLine) (adding : Bool) {K : Nat} (hKf : K < 10 * SetTable.turns t.mask)
    (hK : way t.mask (thash P w k) K ∉ t.place.toList) (hKb : ∀ c, c < K → way t.mask (thash P w k) c ∈ t.place.toList) {Q : SetFound → Shared → Prop}
    (hin : k ∈ L.map (·.2) → ∀ r : Option Nat, (adding = false → r.isSome = true) → Q (.there r) s)
    (hout : k ∉ L.map (·.2) → Q (.free (way t.mask (thash P w k) K) false) s) (f : Nat) :
    ∀ (c : Nat) (stand : Option SetTable.Probe), stand.getD (t.probeStart (thash P w k)) = nth t.mask (walk0 t.mask (thash P w k)) c → c ≤ K → K < c + f →
      (∀ (i : Nat) p, L[i]? = some p → p.2 = k → ∃ c', c ≤ c' ∧ c' < K ∧ t.place.toList[i]? = some (way t.mask (thash P w k) c')) →
      wpAny (model P w) A (setSearchFrom a (.ref x) (thash P w k) adding f stand) Q E s := by
  induction f with
  | zero => intro c _ _ h1 h2 _; omega
  | succ f ih =>
    intro c stand hst hc hf hre
    have ⟨o, ho, hex, hd⟩ := R.obj
    have hashes : ∀ (i : Nat) p, L[i]? = some p → (es[i]?.map (·.1)).getD 0 = thash P w p.2 := fun i p hp => by rw [R.at hp]; rfl
    have later : ∀ q, nth t.mask (nth t.mask (walk0 t.mask (thash P w k)) c) q = nth t.mask (walk0 t.mask (thash P w k)) (c + q) := fun q => (nth_add t.mask c _ q).symm
    have lj : ∀ q, (nth t.mask (nth t.mask (walk0 t.mask (thash P w k)) c) q).j = way t.mask (thash P w k) (c + q) := fun q => congrArg SetTable.Probe.j (later q)
    have met := go_spec t R.tbl.ris R.tbl.dm (fun i => (es[i]?.map (·.1)).getD 0) (thash P w k) (10 * SetTable.turns t.mask) (K - c) (nth t.mask (walk0 t.mask (thash P w k)) c)
      (nth_clean _ _ _ rfl) (by omega) (fun q hq => by rw [lj]; exact hKb (c + q) (by omega)) (by rw [lj, show c + (K - c) = K from by omega]; exact hK)
    rw [setSearchFrom_succ]
    refine wpAny_bind (wpAny_setState_of ho hd R.holds ?_)
    dsimp only
    have ngw : ¬ t.gaveWay = true := by
      unfold SetTable.gaveWay
      rw [mask_odd R.tbl.mok]
      decide
    refine wp_if_neg ngw ?_
    try refine wpAny_bind (wpAny_pure ?_)
    rcases met with ⟨q, i, hq, hi, hh, hno, hpr⟩ | ⟨hno, hpr⟩
    · rw [lj] at hi
      have pr : t.probe (fun i => (es[i]?.map (·.1)).getD 0) (thash P w k) (stand.getD (t.probeStart (thash P w k))) =
          some (.candidate (way t.mask (thash P w k) (c + q)) i (nth t.mask (walk0 t.mask (thash P w k)) (c + (q + 1)))) := by
        rw [hst, ← lj, ← later]
        exact hpr
      rw [pr]
      dsimp only
      have il : i < L.length := by
        have z1 : i < t.place.toList.length := (List.getElem?_eq_some_iff.mp hi).1
        have z2 := R.tbl.sz
        rw [List.length_map] at z2
        rw [Array.length_toList] at z1
        omega
      obtain ⟨p, hp⟩ : ∃ p, L[i]? = some p := ⟨_, List.getElem?_eq_getElem il⟩
      have pm : p ∈ L := List.mem_of_getElem? hp
      have tail : wpAny (model P w) A (searchRest a (.ref x) (thash P w k) adding f es t (way t.mask (thash P w k) (c + q)) i (nth t.mask (walk0 t.mask (thash P w k)) (c + (q + 1)))) Q E s := by
        unfold searchRest
        rw [R.at hp]
        dsimp only
        refine wpAny_bind (wpAny_holding (wpAny_eqBool_tuple hu (R.mem p pm) hx ?_))
        refine wpAny_bind (wpAny_setState_of ho hd R.holds ?_)
        dsimp only
        have sl : t.slot (way t.mask (thash P w k) (c + q)) = .live i := slot_live R.tbl.ris hi
        by_cases same : p.2 = k
        · have there : k ∈ L.map (·.2) := List.mem_map.mpr ⟨p, pm, same⟩
          cases adding with
          | true =>
            refine wp_if_pos (by simp [same]) ?_
            exact wpAny_pure (hin there none (fun z => by cases z))
          | false =>
            refine wp_if_neg (by simp) ?_
            try refine wpAny_bind (wpAny_pure ?_)
            rw [sameMem]
            dsimp only
            simp only [if_true, sl, R.at hp]
            refine wpAny_bind (wpAny_isSame_ref_self (wpAny_bind (wpAny_pure ?_)))
            simp only [if_true]
            refine wp_if_pos (by simp [same]) ?_
            exact wpAny_pure (hin there (some i) (fun _ => rfl))
        · refine wp_if_neg (by simp [same]) ?_
          try refine wpAny_bind (wpAny_pure ?_)
          rw [sameMem]
          dsimp only
          simp only [if_true, sl, R.at hp]
          refine wpAny_bind (wpAny_isSame_ref_self (wpAny_bind (wpAny_pure ?_)))
          simp only [if_true]
          refine wp_if_neg (by simp [same]) ?_
          refine ih (c + (q + 1)) _ rfl (by omega) (by omega) fun i0 p0 h0 k0 => ?_
          obtain ⟨c', a1, a2, a3⟩ := hre i0 p0 h0 k0
          refine ⟨c', ?_, a2, a3⟩
          have ne1 : ¬ c' < c + q := fun z => by
            refine hno (c' - c) i0 (by omega) (by rw [lj, show c + (c' - c) = c' from by omega]; exact a3) ?_
            exact (hashes i0 p0 h0).trans (congrArg (thash P w) k0)
          have ne2 : c' ≠ c + q := fun z => by
            rw [z] at a3
            have s0 := slot_live R.tbl.ris a3
            rw [sl] at s0
            cases s0
            rw [hp] at h0
            exact same ((congrArg Prod.snd (Option.some.inj h0)).trans k0)
          omega
      by_cases hl : t.led = true
      · refine wp_if_neg (by simp [hl]) ?_
        try refine wpAny_bind (wpAny_pure ?_)
        exact tail
      · refine wp_if_pos (by simp [hl]) ?_
        refine wpAny_bind (seen_tup hx (fun y hy => ?_) ?_)
        · obtain ⟨e, he, ee⟩ := List.mem_map.mp hy
          have he1 : e ∈ es ∧ e.1 = thash P w k := by simpa using he
          have he2 : e ∈ es.toList := by simpa using he1.1
          rw [R.rws] at he2
          obtain ⟨p2, hp2, e2⟩ := List.mem_map.mp he2
          exact ⟨p2.2, p2.1, by rw [← ee, ← e2], R.mem p2 hp2⟩
        · refine wp_if_neg (by decide) ?_
          try refine wpAny_bind (wpAny_pure ?_)
          exact tail
    · have pr : t.probe (fun i => (es[i]?.map (·.1)).getD 0) (thash P w k) (stand.getD (t.probeStart (thash P w k))) = some (.empty (way t.mask (thash P w k) K) none) := by
        have z := hpr
        rw [lj, show c + (K - c) = K from by omega] at z
        rw [hst]
        exact z
      rw [pr]
      dsimp only
      refine wpAny_pure (hout fun hm => ?_)
      obtain ⟨p0, h0, k0⟩ := List.mem_map.mp hm
      obtain ⟨i0, hi0, e0⟩ := List.getElem_of_mem h0
      have h00 : L[i0]? = some p0 := by rw [List.getElem?_eq_getElem hi0, e0]
      obtain ⟨c', a1, a2, a3⟩ := hre i0 p0 h00 k0
      refine hno (c' - c) i0 (by omega) (by rw [lj, show c + (c' - c) = c' from by omega]; exact a3) ?_
      exact (hashes i0 p0 h00).trans (congrArg (thash P w) k0)
theorem tw_search (R : TW P w s.heap a L es ep t) {x : Addr} {k : List Int} (hx : IsT P w s.heap k x) (hu : A.units < cLine) (adding : Bool) {Q : SetFound → Shared → Prop}
    (hin : k ∈ L.map (·.2) → ∀ r : Option Nat, (adding = false → r.isSome = true) → Q (.there r) s)
    (hout : ∀ K, k ∉ L.map (·.2) → way t.mask (thash P w k) K ∉ t.place.toList → (∀ c, c < K → way t.mask (thash P w k) c ∈ t.place.toList) → Q (.free (way t.mask (thash P w k) K) false) s) :
    wpAny (model P w) A (setSearch a (.ref x) (thash P w k) adding) Q E s := by
  have fit := R.fit
  obtain ⟨K, h1, h2, h3⟩ := R.tbl.first (by rw [List.length_map]; omega) (thash P w k)
  have small : K < 100000 := by
    have z : 10 * SetTable.turns t.mask ≤ 1420 := by
      unfold SetTable.turns
      rcases R.tbl.mok with e | e | e <;> omega
    omega
  unfold setSearch
  refine tw_from R hx hu adding h1 h2 h3 hin (fun hn => hout K hn h2 h3) 100000 0 none rfl (Nat.zero_le _) (by omega) fun i p hp hk => ?_
  have hi : (L.map fun p => thash P w p.2)[i]? = some (thash P w k) := by rw [List.getElem?_map, hp, ← hk]; rfl
  have il : i < t.place.toList.length := by
    have z1 : i < L.length := (List.getElem?_eq_some_iff.mp hp).1
    have z2 := R.tbl.sz
    rw [List.length_map] at z2
    rw [Array.length_toList]
    omega
  obtain ⟨c, hc, e⟩ := R.tbl.before h2 hi (List.getElem?_eq_getElem il)
  exact ⟨c, Nat.zero_le _, hc, by rw [List.getElem?_eq_getElem il, e]⟩
end
end Sm

set_option Elab.async false
set_option linter.all false
set_option maxRecDepth 100000
set_option maxHeartbeats 2000000
namespace Sm
open PySem PySem.Spec PyProof.Rows L2
section
variable {P : Program} {w : World} {A : Around} {E : Value → Shared → Prop} {s : Shared} {a : Addr} {L : List (Addr × List Int)} {es : Array (Int × Value)} {ep : Nat} {t : SetTable}
theorem TW.of (R : SetTR P w s.heap a L es ep t) : TW P w s.heap a L es ep t := ⟨R.ob, R.rows, R.tab, R.nd, R.tup, R.plain, R.led, R.room⟩
/-- one more tuple put in -/
theorem tw_add (R : TW P w s.heap a L es ep t) {x : Addr} {k : List Int} (hx : IsT P w s.heap k x) (hu : A.units < cLine) (room : L.length < 75) (hno : k ∉ L.map (·.2)) {Q : Bool → Shared → Prop}
    (hQ : ∀ h' L' es' ep' t', Heap.SameBut a s.heap h' → TW P w h' a L' es' ep' t' → L'.Perm ((x, k) :: L) → Q true { s with heap := h' }) :
    wpAny (model P w) A (setAddHashed a (.ref x) (thash P w k)) Q E s := by
  have ⟨o, ho, hex, hd⟩ := R.obj
  have len := R.len
  have fit := R.fit
  unfold setAddHashed
  refine wpAny_holding ?_
  rw [show (100000 : Nat) = 99999 + 1 from rfl, setAddHashedIn_succ]
  refine wpAny_bind (wpAny_setState_of ho hd R.holds ?_)
  dsimp only
  refine wp_if_neg (by simp [byScan, Value.scannable]) ?_
  try refine wpAny_bind (wpAny_pure ?_)
  refine wpAny_bind (tw_search R hx hu true (fun hm => absurd hm hno) fun K _ hK hb => ?_)
  dsimp only
  refine wpAny_bind (wpAny_setState_of ho hd R.holds ?_)
  dsimp only
  obtain ⟨q1, q2, q3, q4, q5, q6, q7, q8, q9⟩ := R.tbl.put hK hb
  have pl1 : (t.put (way t.mask (thash P w k) K)).1.plain = true := by rw [q6]; exact R.pln
  generalize hpt : t.put (way t.mask (thash P w k) K) = pt at q1 q3 q4 q5 q6 q7 q8 q9 pl1 ⊢
  obtain ⟨t1, j⟩ := pt
  dsimp only at q1 q3 q4 q5 q6 q7 q8 q9 pl1 ⊢
  subst q1
  first
    | (refine wpAny_bind ?_; refine wp_if_pos pl1 ?_; refine hashBy_tup hx ?_)
    | refine wp_if_pos pl1 (wpAny_bind (hashBy_tup hx ?_))
  simp only [if_true]
  have rows1 : (SetTable.insertAt es (SetTable.below t.place (way t.mask (thash P w k) K)) (thash P w k, Value.ref x)).toList =
      rowsOf P w (L.take (SetTable.below t.place (way t.mask (thash P w k) K)) ++ (x, k) :: L.drop (SetTable.below t.place (way t.mask (thash P w k) K))) := by
    rw [SetTable.toList_insertAt, rows_put, R.rws]
  generalize hpp : SetTable.below t.place (way t.mask (thash P w k) K) = j at q2 q3 rows1 ⊢
  have pm := put_perm L j (x, k)
  have n1 : (L.take j ++ (x, k) :: L.drop j).length = L.length + 1 := pm.length_eq
  have hash1 : (L.take j ++ (x, k) :: L.drop j).map (fun p => thash P w p.2) = (L.map fun p => thash P w p.2).take j ++ thash P w k :: (L.map fun p => thash P w p.2).drop j := by
    rw [List.map_append, List.map_cons, List.map_take, List.map_drop]
  rw [← hash1] at q3
  have dif1 : ((L.take j ++ (x, k) :: L.drop j).map (·.2)).Nodup := by
    refine (pm.map (·.2)).nodup_iff.mpr ?_
    rw [List.map_cons]
    exact List.nodup_cons.mpr ⟨hno, R.dif⟩
  have z1 : (SetTable.insertAt es j (thash P w k, Value.ref x)).size = L.length + 1 := by
    have q := congrArg List.length rows1
    rw [rowsOf, Array.length_toList, List.length_map, n1] at q
    exact q
  generalize SetTable.insertAt es j (thash P w k, Value.ref x) = es1 at rows1 z1 ⊢
  generalize L.take j ++ (x, k) :: L.drop j = L1 at pm n1 q3 dif1 rows1
  refine wpAny_bind (wpAny_storeSet_of ho hd ?_ (by rw [z1, sizeLine_eq]; omega))
  have but : Heap.SameBut a s.heap (s.heap.update a (Obj.putSet es1 t1)) := Heap.SameBut.update ..
  have ho1 := store_at (es' := es1) (t' := t1) ho hd
  generalize s.heap.update a (Obj.putSet es1 t1) = h1 at but ho1 ⊢
  have mem1 : ∀ p ∈ L1, IsT P w h1 p.2 p.1 := fun p hp => by
    rcases List.mem_cons.mp (pm.mem_iff.mp hp) with e | hp
    · rw [e]; exact isT_same hx ho hd but
    · exact isT_same (R.mem p hp) ho hd but
  have ld1 : w.params.followText "set-order" = true ∨ t1.led = true := by rw [q5]; exact R.ld
  have fill1 : t1.fill = L.length + 1 := by rw [q9, List.length_map]
  by_cases full : t1.tooFull = true
  · first
      | (refine wpAny_bind ?_; refine wp_if_pos (by simp [full]) ?_)
      | (refine wp_if_pos (by simp [full]) ?_; refine wpAny_bind ?_)
    have over : (L.length + 1) * 5 ≥ t1.mask * 3 := by
      have q := full
      simp only [SetTable.tooFull, decide_eq_true_eq, fill1] at q
      exact q
    rw [len]
    have place1 : t1.place.size = es1.size := by rw [q3.sz, List.length_map, n1, z1]
    have which : (t.mask = 7 ∧ L.length = 4) ∨ (t.mask = 31 ∧ L.length = 18) := by
      rcases R.tbl.mok with e | e | e
      · rw [q4, e] at over; rw [e] at fit; exact .inl ⟨e, by omega⟩
      · rw [q4, e] at over; rw [e] at fit; exact .inr ⟨e, by omega⟩
      · exfalso; rw [q4, e] at over; omega
    have grow : ∀ M, SetTable.sizeAbove (SetTable.grown (L.length + 1)) - 1 = M → MaskOk M → SetTable.sizeAbove (SetTable.grown (L.length + 1)) ≤ 128 → (L.length + 1) * 5 < M * 3 →
        wpAny (model P w) A (setRelay a (SetTable.grown (L.length + 1))) (fun _ s' => wpAny (model P w) A (pure true) Q E s') E { s with heap := h1 } := fun M m1 m2 m3 m4 => by
      refine relay_at (s := { s with heap := h1 }) ho1 ⟨hex.1, hex.2.1, hex.2.2⟩ rfl rows1 place1 q3.dm (by rw [z1, q4]; rcases which with ⟨e, e2⟩ | ⟨e, e2⟩ <;> omega) dif1 mem1 pl1 ld1 (by omega) m1 m2 m3 (by rw [n1]; exact m4) ?_
      intro h2 L2 es2 ep2 t2 but2 R2 pm2
      exact wpAny_pure (hQ h2 L2 es2 ep2 t2 (but.trans but2) ⟨R2.ob, R2.rows, R2.tab, R2.nd, R2.tup, R2.plain, R2.led, R2.room⟩ (pm2.trans pm))
    rcases which with ⟨_, e2⟩ | ⟨_, e2⟩
    · exact grow 31 (by rw [e2, size_20]) (.inr (.inl rfl)) (by rw [e2, size_20]; decide) (by omega)
    · exact grow 127 (by rw [e2, size_76]) (.inr (.inr rfl)) (by rw [e2, size_76]; decide) (by omega)
  · first
      | refine wp_if_neg (by simp [full]) ?_
      | (refine wpAny_bind ?_; refine wp_if_neg (by simp [full]) ?_; refine wpAny_pure ?_)
    refine wpAny_pure (hQ h1 L1 es1 (ep + 1) t1 but ⟨⟨_, ho1, ⟨hex.1, hex.2.1, hex.2.2⟩, rfl⟩, rows1, q3, dif1, mem1, pl1, ld1, ?_⟩ pm)
    have q := full
    simp only [SetTable.tooFull, decide_eq_true_eq, fill1] at q
    rw [n1]
    omega
/-- set.add(t), t not yet in -/
theorem tw_call_add (R : TW P w s.heap a L es ep t) {x : Addr} {k : List Int} (hx : IsT P w s.heap k x) (hu : A.units + 8 < cLine) (room : L.length < 75) (hno : k ∉ L.map (·.2)) {Q : Value → Shared → Prop}
    (hQ : ∀ h' tk L' es' ep' t', Heap.SameBut a s.heap h' → TW P w h' a L' es' ep' t' → L'.Perm ((x, k) :: L) → Q .none { s with heap := h', toks := tk }) :
    wpAny (model P w) A (call (.builtin "set.add") [.ref a, .ref x]) Q E s := by
  have ⟨o, ho, hex, hd⟩ := R.obj
  have ty : s.TypeIs (.ref a) "set" := ⟨o, ho, hex.1⟩
  refine wpAny_call_entry F.slot_set_add ty F.entry_set_add ?_ (F.args_set_add_2 _ _)
  unfold Builtin.«set.add» Builtin.Frozenset.oneOther
  simp only [List.isEmpty_nil, bind_assoc]
  unfold Builtin.Frozenset.addrOf setAdd
  refine wpAny_bind (wpAny_pure ?_)
  try dsimp only
  refine wpAny_bind (wpAny_pure ?_)
  try dsimp only
  refine wpAny_bind ?_
  refine wpAny_holding ?_
  refine wpAny_bind (wpAny_pyHash_tuple (knd := intKind P w) (by show A.units + _ < cLine; omega) hx ?_)
  refine tw_add (s := { s with toks := s.toks + (k.length + 1) }) ⟨R.obj, R.rws, R.tbl, R.dif, R.mem, R.pln, R.ld, R.fit⟩ hx (by show A.units + _ < cLine; omega) room hno fun h' L' es' ep' t' b1 b2 b3 => ?_
  show wpAny _ _ (ret Value.none) _ _ _
  exact wpAny_pure ⟨_, rfl, hQ h' (s.toks + (k.length + 1)) L' es' ep' t' b1 b2 b3⟩
/-- t in set -/
theorem tw_in (R : TW P w s.heap a L es ep t) {x : Addr} {k : List Int} (hx : IsT P w s.heap k x) (hu : A.units + 8 < cLine) {Q : Value → Shared → Prop}
    (hQ : ∀ tk, Q (.bool (decide (k ∈ L.map (·.2)))) { s with toks := tk }) :
    wpAny (model P w) A (compareOp .In (.ref x) (.ref a)) Q E s := by
  have ⟨o, ho, hex, hd⟩ := R.obj
  have ty : s.TypeIs (.ref a) "set" := ⟨o, ho, hex.1⟩
  show wpAny _ _ (do return .bool (← contains (.ref a) (.ref x))) Q E s
  refine wpAny_bind ?_
  unfold contains
  try with_reducible refine wpAny_holding ?_
  refine wpAny_bind (wpAny_specialOf ty F.slot_set_contains.lookup ?_)
  show wpAny _ _ (if (some (Value.builtin "set.__contains__") == some Value.none) = true then _ else _) _ E s
  rw [if_neg (by rw [beq_builtin_none]; exact Bool.false_ne_true)]
  refine wpAny_bind (wpAny_callSpecialUnlessNone?_slot (name := Str.ofString "__contains__") ty F.slot_set_contains
    (wpAny_call_entry F.slot_set_contains ty entry_set_contains ?_ (F.args_set_contains_2 _ _)))
  unfold Builtin.«frozenset.__contains__» Builtin.Frozenset.oneOther
  simp only [List.isEmpty_nil, bind_assoc]
  unfold Builtin.Frozenset.addrOf Builtin.Frozenset.withSetAsKey setContains
  refine wpAny_bind (wpAny_pure ?_)
  try dsimp only
  refine wpAny_bind (wpAny_pure ?_)
  try dsimp only
  refine wpAny_bind (wpAny_tryCatch ?_)
  refine wpAny_holding ?_
  refine wpAny_bind (wpAny_pyHash_tuple (knd := intKind P w) (by show A.units + _ < cLine; omega) hx ?_)
  have R1 : TW P w ({ s with toks := s.toks + (k.length + 1) } : Shared).heap a L es ep t := ⟨R.obj, R.rws, R.tbl, R.dif, R.mem, R.pln, R.ld, R.fit⟩
  have fin : ∀ r : Option Nat, r.isSome = decide (k ∈ L.map (·.2)) → ∀ (E' : Value → Shared → Prop) (A' : Around) (Q' : Value → Shared → Prop), (∀ tk, Q' (.bool (decide (k ∈ L.map (·.2)))) { s with toks := tk }) → Q' (.bool r.isSome) { s with toks := s.toks + (k.length + 1) } := fun r e _ _ _ q => by
    rw [e]; exact q _
  unfold setFind
  rw [show (100000 : Nat) = 99999 + 1 from rfl]
  unfold setFindIn
  refine wpAny_bind (wpAny_bind (wpAny_setState_of ho hd R1.holds ?_))
  dsimp only
  refine wp_if_neg (by simp [byScan, Value.scannable]) ?_
  try refine wpAny_bind (wpAny_pure ?_)
  refine wpAny_bind (tw_search R1 hx (by show A.units + _ < cLine; omega) false (fun hm r hr => ?_) fun K hm _ _ => ?_)
  · dsimp only
    refine wpAny_pure (wpAny_pure ?_)
    show wpAny _ _ (ret (Value.bool r.isSome)) _ _ _
    rw [hr rfl, show true = decide (k ∈ L.map (·.2)) from (decide_eq_true hm).symm]
    exact wpAny_pure ⟨_, rfl, wpAny_truthy_bool (wpAny_pure (hQ _))⟩
  · dsimp only
    refine wpAny_pure (wpAny_pure ?_)
    show wpAny _ _ (ret (Value.bool false)) _ _ _
    rw [show false = decide (k ∈ L.map (·.2)) from (decide_eq_false hm).symm]
    exact wpAny_pure ⟨_, rfl, wpAny_truthy_bool (wpAny_pure (hQ _))⟩
end
end Sm

set_option Elab.async false
set_option linter.all false
set_option maxRecDepth 100000
set_option maxHeartbeats 2000000
namespace Sm
open PySem PySem.Spec PyProof.Rows L2
/-- the set without its members' own objects -/
structure TW0 (P : Program) (w : World) (h : Heap) (a : Addr) (L : List (Addr × List Int)) : Prop where
  ex : ∃ (es : Array (Int × Value)) (ep : Nat) (t : SetTable), (∃ o, h.get? a = some o ∧ o.ExactSet ∧ o.data = .set es ep t) ∧ es.toList = rowsOf P w L ∧ TabOk t (L.map fun p => thash P w p.2) ∧
    (L.map (·.2)).Nodup ∧ t.plain = true ∧ (w.params.followText "set-order" = true ∨ t.led = true) ∧ L.length * 5 < t.mask * 3
def TSet (P : Program) (w : World) (a : Addr) (L : List (Addr × List Int)) : HO := .ext fun h => TW0 P w h a L
theorem TW.bare {P : Program} {w : World} {h : Heap} {a : Addr} {L : List (Addr × List Int)} {es : Array (Int × Value)} {ep : Nat} {t : SetTable} (R : TW P w h a L es ep t) : TW0 P w h a L :=
  ⟨es, ep, t, R.obj, R.rws, R.tbl, R.dif, R.pln, R.ld, R.fit⟩
theorem TW0.with {P : Program} {w : World} {h : Heap} {a : Addr} {L : List (Addr × List Int)} (R : TW0 P w h a L) (hm : ∀ p ∈ L, IsT P w h p.2 p.1) : ∃ es ep t, TW P w h a L es ep t := by
  obtain ⟨es, ep, t, h1, h2, h3, h4, h5, h6, h7⟩ := R.ex
  exact ⟨es, ep, t, h1, h2, h3, h4, hm, h5, h6, h7⟩
theorem tset_ok {P : Program} {w : World} {H : Hp} {h : Heap} {a : Addr} {L : List (Addr × List Int)} (R : TW0 P w h a L) : ObjOk P w H h a (TSet P w a L) := by
  have ⟨es, ep, t, ⟨o, ho, r⟩, q⟩ := R.ex
  refine ⟨R, ⟨o, ho⟩, fun h1 h2 p k => ?_⟩
  have ⟨es', ep', t', ⟨o', ho', r'⟩, q'⟩ := TW0.ex p
  exact ⟨es', ep', t', ⟨o', k o' ho', r'⟩, q'⟩
section
variable {X : Cx} {pins : List (Addr × Obj)} {σ : L2.St} {H : Hp} {s : Shared}
theorem tset_get {a : Addr} {L : List (Addr × List Int)} (I : Inv X pins σ H s) (ha : H a = some (TSet X.prog X.w a L)) (hm : ∀ p ∈ L, SqT X.K H p.1 (p.2.map V.int)) : ∃ es ep t, TW X.prog X.w s.heap a L es ep t :=
  TW0.with (I.hok a _ ha).1 fun p hp => I.isT (hm p hp)
/-- set() -/
def rSet0T (P : Program) (w : World) : List V → Hp → VK → Prop := fun xs H Q => xs = [] ∧ ∀ p, H p = none → Q (.ref p) (upd H p (TSet P w p []))
theorem cr_set0T : CallR X (.type "set") (rSet0T X.prog X.w) := by
  intro pins s σ H xs us Q I r h
  obtain ⟨rfl, q⟩ := h
  cases r
  refine setR_new fun _ => ?_
  have R : TW X.prog X.w (s.heap.push { cls := .type "set", dict := none, data := .set #[] 0 (.fresh 0 0 (!X.w.params.followText "set-order")) }) s.heap.objs.size [] #[] 0 (.fresh 0 0 (!X.w.params.followText "set-order")) := by
    have S := setTR_fresh (P := X.prog) (w := X.w) (Heap.get?_push_size s.heap (o := { cls := .type "set", dict := none, data := .set #[] 0 (.fresh 0 0 (!X.w.params.followText "set-order")) }) rfl)
    exact ⟨S.ob, S.rows, S.tab, S.nd, S.tup, S.plain, S.led, S.room⟩
  exact ⟨.ref _, upd H s.heap.objs.size (TSet X.prog X.w s.heap.objs.size []), I.laid (t' := s.toks) (fun b u e => Heap.get?_push_of_some _ e) (Nat.le_refl _) (tset_ok R.bare), rfl, q _ (I.hok.fresh (Nat.le_refl _))⟩
/-- s.add(t), t not yet a member -/
def rAddT (K : PySem.W.Frag) (P : Program) (w : World) : V → List V → Hp → VK → Prop := fun x xs H Q => ∃ (a b : Addr) (k : List Int) (L : List (Addr × List Int)), x = V.ref a ∧ xs = [V.ref b] ∧ H a = some (TSet P w a L) ∧
  (∀ p ∈ L, SqT K H p.1 (p.2.map V.int)) ∧ SqT K H b (k.map V.int) ∧ L.length < 75 ∧ k ∉ L.map (·.2) ∧ ∀ L' : List (Addr × List Int), L'.Perm ((b, k) :: L) → Q .non (upd H a (TSet P w a L'))
theorem mt_addT (hu : X.A.units + 64 < cLine) : MtR X "set.add" (rAddT X.K X.prog X.w) := by
  intro pins s σ H x xs v us Q I rx rxs h
  obtain ⟨a, b, k, L, rfl, rfl, ha, hm, hb, room, hno, q⟩ := h
  cases rx
  cases rxs with
  | cons ry rt =>
    cases rt
    cases ry
    obtain ⟨es, ep, t, R⟩ := tset_get I ha hm
    refine tw_call_add R (I.isT hb) (by omega) room hno fun h' tk L' es' ep' t' sb R' pm => ?_
    have he : ∃ u, h'.get? a = some u := by
      obtain ⟨o, ho, _⟩ := R'.obj
      exact ⟨o, ho⟩
    exact ⟨.non, upd H a (TSet X.prog X.w a L'), I.write (e := a) (t' := tk) (by rw [ha]; trivial) (.inl rfl) (fun b u hb hu => (sb.2 b hb).trans hu) he (tset_ok R'.bare), rfl, q L' pm⟩
def tAddT (K : PySem.W.Frag) (P : Program) (w : World) (to : TE) (t : TA) : TE := fun σ H Q => to σ H fun x H1 => (∃ a L, x = V.ref a ∧ H1 a = some (TSet P w a L)) ∧ t σ H1 fun xs H2 => rAddT K P w x xs H2 Q
variable {o e : Expr} {es : List Expr} {to : TE} {t : TA} {apos cpos : Pos}
theorem pe_addT (hu : X.A.units + 64 < cLine) (ho : PE X o to) (ha : PA X (e :: es) t)
    (h1 : attributeBase o "add" X.env (eval o X.env) = eval o X.env := by rfl)
    (h2 : ((backTo cpos (starEach (e :: es) X.env)).all (fun x => !x.1) && (backToKw cpos (keywordEach [] X.env)).all (fun x => x.1.isSome)
      && decide ((e :: es).length + ([] : List Keyword).length + (if ([] : List Keyword).isEmpty then 0 else 1) < 30)) = true := by rfl)
    (h3 : (apos.endLine == cpos.line) = true := by rfl) (h4 : starEach (e :: es) X.env = (false, eval e X.env) :: starEach es X.env := by rfl) (h5 : (backTo cpos (starEach es X.env)).any (·.1) = false := by rfl) :
    PE X (.Call (.Attribute o "add" apos) (e :: es) [] cpos) (tAddT X.K X.prog X.w to t) := by
  refine ⟨fun pins s σ H Q I h => ?_⟩
  refine wpAny_Call_method_late h1 h2 h3 rfl (thn (ho.run pins s σ H _ I h) fun v s1 ⟨x, H1, I1, r1, ty, q1⟩ => ?_)
  obtain ⟨a, L, rfl, hka⟩ := ty
  obtain ⟨es0, ep0, t0, ⟨ob, hob, hex, hdt⟩, _⟩ := (show TW0 X.prog X.w s1.heap a L from (I1.hok a _ hka).1).ex
  cases r1
  refine ⟨"set", "set.add", F.plainAttrs_set, F.slot_set_add, F.type_set_add, ⟨ob, hob, hex.1⟩, fun b e => by cases e; exact ⟨ob, hob, hex.2.1⟩, ?_⟩
  have hA := ha.run cpos pins s1 σ H1 _ I1 q1
  rw [h4] at hA ⊢
  refine Calls.callWith_builtin (by show (false || (backTo cpos (starEach es X.env)).any (·.1)) = false; rw [h5] <;> rfl) (Calls.evalArgs_plain ?_)
  exact thn hA fun us s2 ⟨vs, H2, I2, r2, q2⟩ => mt_addT hu pins s2 σ H2 (.ref a) vs (.ref a) us Q I2 rfl r2 q2
/-- t in s -/
def rInT (K : PySem.W.Frag) (P : Program) (w : World) : V → V → Hp → VK → Prop := fun x y H Q => ∃ (b a : Addr) (k : List Int) (L : List (Addr × List Int)), x = V.ref b ∧ y = V.ref a ∧ H a = some (TSet P w a L) ∧
  (∀ p ∈ L, SqT K H p.1 (p.2.map V.int)) ∧ SqT K H b (k.map V.int) ∧ Q (.bl (decide (k ∈ L.map (·.2)))) H
theorem or_inT (hu : X.A.units + 64 < cLine) : OpR X (compareOp .In) (rInT X.K X.prog X.w) := by
  intro pins s σ H x y v u Q I rx ry h
  obtain ⟨b, a, k, L, rfl, rfl, ha, hm, hb, q⟩ := h
  cases rx
  cases ry
  obtain ⟨es, ep, t, R⟩ := tset_get I ha hm
  exact tw_in R (I.isT hb) (by omega) fun tk => ⟨.bl _, H, I.tok _, rfl, q⟩
/-- sorted(s), the members pairs of ints: the keys in ascending order -/
def pairOf (k : List Int) : Int × Int := (k.getD 0 0, k.getD 1 0)
def rSortT (K : PySem.W.Frag) (P : Program) (w : World) : List V → Hp → VK → Prop := fun vs H Q => ∃ (a : Addr) (L : List (Addr × List Int)), vs = [V.ref a] ∧ H a = some (TSet P w a L) ∧ (∀ p ∈ L, SqT K H p.1 (p.2.map V.int)) ∧ (∀ p ∈ L, p.2.length = 2) ∧
  ∀ (L' : List (Addr × List Int)) (p : Addr), L'.Perm L → L'.Pairwise (fun q r => SrtO.lexB (pairOf q.2) (pairOf r.2) = true) → H p = none → Q (.ref p) (upd H p (.lst (L'.map fun q => V.ref q.1)))
end
section
variable {P : Program} {w : World} {A : Around} {E : Value → Shared → Prop} {s : Shared}
theorem tw_sorted {a : Addr} {L : List (Addr × List Int)} {es : Array (Int × Value)} {ep : Nat} {t : SetTable} {Q : Value → Shared → Prop} (R : TW P w s.heap a L es ep t) (hh : A.handled = none) (two : ∀ p ∈ L, p.2.length = 2)
    (hQ : ∀ s' p (out : List Value) (c : Nat) (L' : List (Addr × List Int)), (∀ b o, s.heap.get? b = some o → s'.heap.get? b = some o) → s'.gens = s.gens → s'.os = s.os → s.heap.objs.size ≤ p →
      s'.heap.get? p = some (seqObj "list" out.toArray c) → out = L'.map (fun q => Value.ref q.1) → L'.Perm L → L'.Pairwise (fun q r => SrtO.lexB (pairOf q.2) (pairOf r.2) = true) → Q (.ref p) s') :
    wpAny (model P w) A (call (.builtin "sorted") [.ref a]) Q E s := by
  have ⟨o, ho, hex, hd⟩ := R.obj
  have len := R.len
  have few := R.few
  refine Calls.call_function_entry kind_sorted plain_sorted entry_sorted (args_sorted1 _) ?_
  unfold Builtin.«sorted»
  refine wpAny_bind (m := checkCount "sorted" 1 1 _) (wpAny_pure ?_)
  refine wpAny_bind (collect_set (A := A.in1) hh ⟨o, ho, hex.1, hd⟩ R.holds (by unfold scanBound; omega) R.tbl.ris R.ld fun s1 vs k1 hz g1 o1 pm => ?_)
  have vals : es.toList.map (·.2) = L.map fun q => Value.ref q.1 := by
    rw [R.rws, rowsOf, List.map_map]
    rfl
  rw [vals] at pm
  have pick : ∀ vs : List Value, (∀ v ∈ vs, ∃ q ∈ L, v = Value.ref q.1) → ∃ M : List (Addr × List Int), vs = M.map (fun q => Value.ref q.1) ∧ ∀ q ∈ M, q ∈ L := by
    intro vs
    induction vs with
    | nil => exact fun _ => ⟨[], rfl, fun q hq => nomatch hq⟩
    | cons v vs ih =>
      intro hv
      obtain ⟨q, hq, e⟩ := hv v List.mem_cons_self
      obtain ⟨M, e1, hs⟩ := ih fun u hu => hv u (List.mem_cons_of_mem _ hu)
      exact ⟨q :: M, by rw [List.map_cons, e, e1], fun r hr => (List.mem_cons.mp hr).elim (fun z => z ▸ hq) (hs r)⟩
  have inj : ∀ q ∈ L, ∀ r ∈ L, q.1 = r.1 → q = r := fun q hq r hr e => by
    have a1 := R.mem q hq
    rw [e] at a1
    exact Prod.ext e (a1.inj (R.mem r hr))
  have ndL : L.Nodup := nodup_of_map R.dif
  have back : ∀ M : List (Addr × List Int), (∀ q ∈ M, q ∈ L) → (M.map (fun q => Value.ref q.1)).Perm (L.map fun q => Value.ref q.1) → M.Perm L := by
    intro M hs pm1
    have nref : (L.map fun q => Value.ref q.1).Nodup := by
      refine List.pairwise_map.mpr (List.Pairwise.imp_of_mem (fun {q r} hq hr hne e => ?_) ndL)
      exact hne (inj q hq r hr (Value.ref.inj e))
    have nM : M.Nodup := nodup_of_map (pm1.nodup_iff.mpr nref)
    refine (List.perm_ext_iff_of_nodup nM ndL).mpr fun q => ⟨hs q, fun hq => ?_⟩
    obtain ⟨r, hr, e⟩ := List.mem_map.mp (pm1.mem_iff.mpr (List.mem_map.mpr ⟨q, hq, rfl⟩))
    rw [← inj r (hs r hr) q hq (Value.ref.inj e)]
    exact hr
  have vlen : vs.length = L.length := by rw [pm.length_eq, List.length_map]
  refine wpAny_bind (wpAny_newList ?_ (by rw [vlen, sizeLine_eq]; omega))
  have hoL : (s1.heap.push (seqObj "list" vs.toArray 0)).get? s1.heap.objs.size = some (seqObj "list" vs.toArray 0) := Heap.get?_push_size _ rfl
  -- which pair of ints a value is
  have keyed : ∃ k : Value → Int × Int, ∀ q ∈ L, k (.ref q.1) = pairOf q.2 := by
    refine ⟨fun v => match v with | .ref b => (match L.find? (fun q => q.1 == b) with | some q => pairOf q.2 | none => (0, 0)) | _ => (0, 0), fun q hq => ?_⟩
    dsimp only
    cases e : L.find? (fun r => r.1 == q.1) with
    | none =>
      exact absurd (beq_self_eq_true q.1) (by simpa using List.find?_eq_none.mp e q hq)
    | some r =>
      have e1 : r.1 = q.1 := by simpa using List.find?_some e
      have e2 : r ∈ L := List.mem_of_find?_eq_some e
      rw [inj r e2 q hq e1]
  obtain ⟨k, hk⟩ := keyed
  have isPair : ∀ v ∈ vs, Srt.IsPair (s1.heap.push (seqObj "list" vs.toArray 0)) v (k v).1 (k v).2 := fun v hv => by
    obtain ⟨q, hq, e⟩ := List.mem_map.mp (pm.mem_iff.mp hv)
    rw [← e, hk q hq]
    obtain ⟨o', items, n, h1, h2, h3, h4⟩ := R.mem q hq
    have l2 := two q hq
    match hq2 : q.2, l2 with
    | [x, y], _ =>
      rw [hq2] at h4
      generalize hit : items.toList = il at h4
      cases h4 with
      | @cons _ v1 _ r1 z1 z2 =>
        cases z2 with
        | @cons _ v2 _ r2 z3 z4 =>
          cases z4
          obtain ⟨t1, rfl⟩ := Value.isInt_shape z1
          obtain ⟨t2, rfl⟩ := Value.isInt_shape z3
          refine ⟨q.1, o', t1, t2, n, rfl, Heap.get?_push_of_some _ (k1 _ _ h1), h2, ?_⟩
          rw [h3]
          have : items = #[Value.int x t1, Value.int y t2] := by
            apply Array.ext'
            rw [hit]
          rw [this]
          rfl
  refine wpAny_bind (wpAny_holding (wpAny_call_entry slot_list_sort ⟨_, hoL, rfl⟩ entry_list_sort (SrtO.list_sort_ord (s := { s1 with heap := s1.heap.push (seqObj "list" vs.toArray 0) }) (SrtO.swo_lex k) hoL (by rw [vlen, sizeLine_eq]; omega)
    (fun h2 => SrtO.pairs_sortableO (by omega) isPair fun o e => ?_) fun out hs hb => ⟨_, rfl, ?_⟩) (args_list_sort _)))
  · have e' : some o = some (seqObj "list" vs.toArray 0) := e.symm.trans hoL
    cases e'
    intro c
    exact absurd (Value.type.inj c) (by decide)
  · obtain ⟨c, hc⟩ := sortedHeap_at (vs := vs) (out := out.toArray) hoL
    obtain ⟨M, e', hsub⟩ := pick out fun v hv => by
      obtain ⟨q, hq, e⟩ := List.mem_map.mp (pm.mem_iff.mp (hb.perm.mem_iff.mp hv))
      exact ⟨q, hq, e.symm⟩
    have pL : M.Perm L := back M hsub (by rw [← e']; exact hb.perm.trans pm)
    have pw : M.Pairwise (fun q r => SrtO.lexB (pairOf q.2) (pairOf r.2) = true) := by
      have z : (M.map (fun q => Value.ref q.1)).Pairwise (fun x y => SrtO.lexB (k y) (k x) = false) := by rw [← e']; exact hs
      have ndM : M.Nodup := pL.nodup_iff.mpr ndL
      have both := List.Pairwise.and (List.pairwise_map.mp z) ndM
      refine List.Pairwise.imp_of_mem (fun {q r} hq hr hle => ?_) both
      obtain ⟨h1, h2⟩ := hle
      have mq := hsub q hq
      have mr := hsub r hr
      rw [hk q mq, hk r mr] at h1
      have n1 := SrtO.lexB_no.mp h1
      refine SrtO.lexB_iff.mpr ?_
      by_cases c1 : (pairOf q.2).1 = (pairOf r.2).1
      · by_cases c2 : (pairOf q.2).2 = (pairOf r.2).2
        · exfalso
          have l1 := two q mq
          have l2 := two r mr
          have ek : q.2 = r.2 := by
            match e1 : q.2, e2 : r.2, l1, l2 with
            | [x, y], [x', y'], _, _ =>
              rw [e1, e2] at c1 c2
              have d1 : x = x' := c1
              have d2 : y = y' := c2
              rw [d1, d2]
          have nd2 : (L.map (·.2)).Nodup := R.dif
          have : q = r := by
            by_cases hqr : q = r
            · exact hqr
            · exact absurd ek (fun z => by
                have w1 := (List.pairwise_map.mp nd2)
                exact hqr (by
                  obtain ⟨i, hi, ei⟩ := List.getElem_of_mem mq
                  obtain ⟨j, hj, ej⟩ := List.getElem_of_mem mr
                  have g := List.pairwise_iff_getElem.mp w1
                  rcases Nat.lt_trichotomy i j with c | c | c
                  · exact absurd z (by have := g i j hi hj c; rw [ei, ej] at this; exact this)
                  · subst c; rw [← ei, ← ej]
                  · exact absurd z.symm (by have := g j i hj hi c; rw [ei, ej] at this; exact this)))
          exact h2 this
        · exact .inr ⟨c1, by omega⟩
      · exact .inl (by omega)
    refine wpAny_pure ⟨_, rfl, hQ _ s1.heap.objs.size out c M (fun b u e => ?_) g1 o1 hz hc e' pL pw⟩
    have q := k1 b u e
    have hlt := Heap.lt_size q
    show (sortedHeap (s1.heap.push (seqObj "list" vs.toArray 0)) s1.heap.objs.size vs out.toArray).get? b = some u
    rw [sortedHeap_old (Nat.ne_of_lt hlt) (by rw [size_push']; exact Nat.lt_succ_of_lt hlt)]
    exact Heap.get?_push_of_some _ q
end
section
variable {X : Cx}
theorem cr_sortT2 (hc : X.calm = true) : CallR X (.builtin "sorted") (rSortT X.K X.prog X.w) := by
  intro pins s σ H vs us Q I r h
  obtain ⟨a, L, rfl, ha, hm, two, q⟩ := h
  obtain ⟨es, ep, t, R⟩ := tset_get I ha hm
  rw [Vals.ref1 r]
  refine tw_sorted R (I.ok.hd hc) two fun s' p out c L' k g o hp hg hout pm pw => ?_
  have few : L'.length ≤ 76 := by rw [pm.length_eq]; exact R.few
  have hlen : (L'.map fun q => V.ref q.1).length ≤ sizeLine := by rw [List.length_map, sizeLine_eq]; omega
  have hn : H p = none := I.hok.fresh hp
  have hv : Vals (L'.map fun q => V.ref q.1) out := by rw [hout]; exact vals_of_refs L'
  have J : Inv X pins σ (upd H p (.lst (L'.map fun q => V.ref q.1))) { s with heap := s'.heap, gens := s'.gens, drawn := s'.drawn, toks := s'.toks } :=
    I.call (ch := []) (Un.laid k hp hn) (I.hok.laid k hp ⟨hlen, out, c, hv, hg⟩) (by rw [g]; exact I.bare) (fun _ z => nomatch z)
  have e : s' = { s with heap := s'.heap, gens := s'.gens, drawn := s'.drawn, toks := s'.toks } := by
    cases s'
    cases s
    cases o
    rfl
  rw [e]
  exact ⟨.ref p, _, J, rfl, q L' p pm pw hn⟩
end
end Sm

set_option Elab.async false
set_option linter.all false
set_option maxRecDepth 100000
set_option maxHeartbeats 2000000
/-! The numbers, vertices and edges of smallwidth.graph. -/
namespace Sm
open PySem PySem.Spec PyProof.Rows L2
def topS (i : Nat) : Stmt := PySem.Challenge.pw_smallwidth_k02_graphs_refused.main.body.getD i (.Pass ⟨0, 0, 0, 0⟩)
abbrev sNum : Stmt := topS 6
abbrev sVtx : Stmt := topS 7
abbrev sEdg : Stmt := topS 8
/-! ### what a value may be -/
inductive IB : V → Option Int → Prop where
  | int (i : Int) : IB (.int i) (some i)
  | bl (b : Bool) : IB (.bl b) none
inductive EdgeV (K : PySem.W.Frag) (H : Hp) : V → Option (Option Int × Option Int) → Prop where
  | pair {a : Addr} {x y : V} {i j : Option Int} : SqT K H a [x, y] → IB x i → IB y j → EdgeV K H (.ref a) (some (i, j))
  | tup {a : Addr} {xs : List V} : SqT K H a xs → xs.length ≠ 2 → EdgeV K H (.ref a) none
  | lst {a : Addr} {xs : List V} : H a = some (.lst xs) → EdgeV K H (.ref a) none
  | non : EdgeV K H .non none
def vtxB (n : Int) : Option Int → Bool
  | some i => decide (0 ≤ i) && decide (i < n)
  | none => false
def edgB (n : Int) : Option (Option Int × Option Int) → Bool
  | some (some i, some j) => vtxB n (some i) && (vtxB n (some j) && decide (i < j))
  | _ => false
theorem same_sqT {K : PySem.W.Frag} {H H' : Hp} {a : Addr} {xs : List V} (e : Same H H') (h : SqT K H a xs) : SqT K H' a xs := by
  rcases h with (h | ⟨o, h⟩) | h
  · exact .inl (.inl (e _ _ h))
  · exact .inl (.inr ⟨o, e _ _ h⟩)
  · exact .inr h
theorem EdgeV.same {K : PySem.W.Frag} {H H' : Hp} {v : V} {e : Option (Option Int × Option Int)} (s : Same H H') (h : EdgeV K H v e) : EdgeV K H' v e := by
  cases h with
  | pair h1 h2 h3 => exact .pair (same_sqT s h1) h2 h3
  | tup h1 h2 => exact .tup (same_sqT s h1) h2
  | lst h => exact .lst (s _ _ h)
  | non => exact .non
theorem iteN {c A B : Prop} [Decidable c] (hc : ¬ c) (h : A) : if (!decide c) = true then A else B := by
  rw [decide_eq_false hc]
  exact iteT h
theorem iteY {c A B : Prop} [Decidable c] (hc : c) (h : A) : if decide c = true then A else B := by
  rw [decide_eq_true hc]
  exact iteT h
theorem iteD {c A B : Prop} [Decidable c] (hc : ¬ c) (h : B) : if decide c = true then A else B := by
  rw [decide_eq_false hc]
  exact iteF h
theorem tyx_T {K : PySem.W.Frag} {H : Hp} {a : Addr} {xs : List V} (h : SqT K H a xs) : TyX K H (.ref a) (.type "tuple") := by
  rcases h with (h | ⟨o, h⟩) | ⟨o, its, n, h1, h2, _⟩
  · exact .base (.tup h)
  · exact .fTuple h
  · exact .kTuple h1 h2
/-! ### what the top has bound, as far as these defs ask -/
structure TxA (mg : Str → Option Value) : Prop where
  isi : mg "isinstance" = none
  int : mg "int" = none
  bool : mg "bool" = none
  tuple : mg "tuple" = none
  len : mg "len" = none
def spNum : Sp := fun vs H Q _ => ∃ v i, vs = [v] ∧ IB v i ∧ Q (.bl i.isSome) H
def spVtx : Sp := fun vs H Q _ => ∃ v i n, vs = [v, .int n] ∧ IB v i ∧ Q (.bl (vtxB n i)) H
def spEdg (K : PySem.W.Frag) : Sp := fun vs H Q _ => ∃ v e n, vs = [v, .int n] ∧ EdgeV K H v e ∧ Q (.bl (edgB n e)) H
section
variable {P : Program} {w : World} {K : PySem.W.Frag} {mg : Str → Option Value} {base : Heap}
theorem scNum : FnScope ["value"] ["value"] (defScope sNum) := ⟨rfl, rfl, rfl, by decide +kernel, rfl, by decide +kernel, by decide +kernel⟩
theorem ok_num {f : Addr} {fd : FuncData} (F : Fun K "is_number" "is_number" sNum f fd) (T : TxA mg) : FnOk P w K mg base CX0 1 f fd ["value"] spNum := by
  refine F.ok scNum (fun vs H Q E h => ?_) (fun cdv A outer s H vs Q E hr h => ?_)
  · obtain ⟨v, i, rfl, _⟩ := h
    rfl
  · obtain ⟨v, i, rfl, hv, q⟩ := h
    refine ⟨_, pss_one (ps_ret (pe_and (pe_callB call_isi (by rfl) T.isi (by decide +kernel) (pa_cons (pv 0) (pa_cons (pe_bltn (v := .ty "int") (by rfl) T.int (by decide +kernel) rfl) pa_nil)))
      (pe_one (pe_not (pe_callB call_isi (by rfl) T.isi (by decide +kernel) (pa_cons (pv 0) (pa_cons (pe_bltn (v := .ty "bool") (by rfl) T.bool (by decide +kernel) rfl) pa_nil))))))), ?_⟩
    cases hv with
    | int i =>
      refine ⟨_, rfl, .int i, .ty "int", .type "int", .type "int", true, rfl, .ty "int", .base (.int i), kit_ty (by decide +kernel), true, rfl, iteT ?_⟩
      exact ⟨_, rfl, .int i, .ty "bool", .type "int", .type "bool", false, rfl, .ty "bool", .base (.int i), kit_ty (by decide +kernel), false, rfl, q⟩
    | bl b =>
      refine ⟨_, rfl, .bl b, .ty "int", .type "bool", .type "int", true, rfl, .ty "int", .base (.bl b), kit_ty (by decide +kernel), true, rfl, iteT ?_⟩
      exact ⟨_, rfl, .bl b, .ty "bool", .type "bool", .type "bool", true, rfl, .ty "bool", .base (.bl b), kit_ty (by decide +kernel), true, rfl, q⟩
theorem scVtx : FnScope ["value", "size"] ["value", "size"] (defScope sVtx) := ⟨rfl, rfl, rfl, by decide +kernel, rfl, by decide +kernel, by decide +kernel⟩
theorem ok_vtx {f fN : Addr} {fd fdN : FuncData} (F : Fun K "is_vertex" "is_vertex" sVtx f fd) (FN : Fun K "is_number" "is_number" sNum fN fdN) (bN : Binds K fdN ["value"] []) (gN : mg "is_number" = some (.ref fN)) (T : TxA mg) :
    FnOk P w K mg base CX0 2 f fd ["value", "size"] spVtx := by
  have GN : FnOk P w K mg base CX0 1 fN fdN ["value"] spNum := ok_num FN T
  refine F.ok scVtx (fun vs H Q E h => ?_) (fun cdv A outer s H vs Q E hr h => ?_)
  · obtain ⟨v, i, n, rfl, _⟩ := h
    rfl
  · obtain ⟨v, i, n, rfl, hv, q⟩ := h
    refine ⟨_, pss_one (ps_ret (pe_and (pe_call GN hr (by rfl) gN FN.kp bN .nil pass0 (pa_cons (pv 0) pa_nil)) (pe_one (pe_chain op_le op_lt pe_int (pv 0) (pv 1))))), ?_⟩
    refine ⟨v, rfl, v, i, rfl, hv, i.isSome, rfl, ?_⟩
    cases hv with
    | int i =>
      refine iteT ⟨_, rfl, _, _, rfl, rfl, _, rfl, ?_⟩
      by_cases c : 0 ≤ i
      · rw [decide_eq_true c]
        refine iteT ⟨_, rfl, _, _, rfl, rfl, ?_⟩
        have e : vtxB n (some i) = decide (i < n) := by simp [vtxB, c]
        rw [e] at q
        exact q
      · rw [decide_eq_false c]
        refine iteF ?_
        have e : vtxB n (some i) = false := by simp only [vtxB, decide_eq_false c, Bool.false_and]
        rw [e] at q
        exact q
    | bl b => exact iteF q
theorem scEdg : FnScope ["value", "size", "u", "v"] ["value", "size"] (defScope sEdg) := ⟨rfl, rfl, rfl, by decide +kernel, rfl, by decide +kernel, by decide +kernel⟩
theorem ok_edg {f fV : Addr} {fd fdV : FuncData} (F : Fun K "is_edge" "is_edge" sEdg f fd) (GV : FnOk P w K mg base CX0 2 fV fdV ["value", "size"] spVtx) (kV : PySem.W.keepIn K (.ref fV) = true) (bV : Binds K fdV ["value", "size"] []) (gV : mg "is_vertex" = some (.ref fV)) (T : TxA mg) :
    FnOk P w K mg base CX0 3 f fd ["value", "size"] (spEdg K) := by
  refine F.ok scEdg (fun vs H Q E h => ?_) (fun cdv A outer s H vs Q E hr h => ?_)
  · obtain ⟨v, e, n, rfl, _⟩ := h
    rfl
  · obtain ⟨v, e, n, rfl, hv, q⟩ := h
    refine ⟨_, pss_cons (ps_if (PW.pt (pw_or (pt_not (pt_val (pe_callB call_isi (by rfl) T.isi (by decide +kernel) (pa_cons (pv 0) (pa_cons (pe_bltn (v := .ty "tuple") (by rfl) T.tuple (by decide +kernel) rfl) pa_nil)))))
        (pw_or1 (pt_cmpR op_ne (pe_callB call_len_seq (by rfl) T.len PySem.boot_len (pa_cons (pv 0) pa_nil)) pe_int (nomark _))))) (pss_one (ps_ret pe_bl)) pss_nil)
      (pss_cons (ps_asg (pv 0) (pg_tup (by rfl) (pgs_cons (pg_name (i := 2) scEdg.nd rfl (.inl rfl)) (pgs_cons (pg_name (i := 3) scEdg.nd rfl (.inl rfl)) pgs_nil))))
      (pss_one (ps_ret (pe_and (pe_call GV hr (by rfl) gV kV bV .nil pass0 (pa_cons (pv 2) (pa_cons (pv 1) pa_nil)))
        (pe_and (pe_call GV hr (by rfl) gV kV bV .nil pass0 (pa_cons (pv 3) (pa_cons (pv 1) pa_nil))) (pe_one (pe_cmpR op_lt (pv 2) (pv 3) (nomark _)))))))), ?_⟩
    cases hv with
    | non =>
      refine ⟨_, rfl, .non, .ty "tuple", .type "NoneType", .type "tuple", false, rfl, .ty "tuple", .base .non, kit_ty (by decide +kernel), false, rfl, iteT ?_⟩
      exact iteT q
    | lst h =>
      refine ⟨_, rfl, _, .ty "tuple", .type "list", .type "tuple", false, rfl, .ty "tuple", .base (.lst h), kit_ty (by decide +kernel), false, rfl, iteT ?_⟩
      exact iteT q
    | tup h ne =>
      refine ⟨_, rfl, _, .ty "tuple", .type "tuple", .type "tuple", true, rfl, .ty "tuple", tyx_T h, kit_ty (by decide +kernel), true, rfl, iteF ?_⟩
      refine ⟨_, rfl, _, _, rfl, .inr h, rfl, _, rfl, ?_⟩
      exact iteN (fun e => ne (Int.ofNat.inj (V.int.inj e))) q
    | @pair a x y i j h hx hy =>
      refine ⟨_, rfl, _, .ty "tuple", .type "tuple", .type "tuple", true, rfl, .ty "tuple", tyx_T h, kit_ty (by decide +kernel), true, rfl, iteF ?_⟩
      refine ⟨_, rfl, _, _, rfl, .inr h, rfl, _, rfl, ?_⟩
      refine iteNS rfl ?_
      refine ⟨_, rfl, a, [x, y], rfl, h, rfl, x, [y], rfl, y, [], rfl, rfl, ?_⟩
      refine ⟨x, rfl, .int n, rfl, x, i, n, rfl, hx, vtxB n i, rfl, ?_⟩
      cases ci : vtxB n i with
      | false =>
        refine iteF ?_
        have z : edgB n (some (i, j)) = false := by
          cases i with
          | none => rfl
          | some i => cases j with
            | none => rfl
            | some j => simp only [edgB, ci, Bool.false_and]
        rw [z] at q
        exact q
      | true =>
        refine iteT ⟨y, rfl, .int n, rfl, y, j, n, rfl, hy, vtxB n j, rfl, ?_⟩
        cases cj : vtxB n j with
        | false =>
          refine iteF ?_
          have z : edgB n (some (i, j)) = false := by
            cases i with
            | none => rfl
            | some i => cases j with
              | none => rfl
              | some j => simp only [edgB, cj, Bool.false_and, Bool.and_false]
          rw [z] at q
          exact q
        | true =>
          refine iteT ?_
          cases hx with
          | bl b => cases ci
          | int i =>
            cases hy with
            | bl b => cases cj
            | int j =>
              refine ⟨_, rfl, _, rfl, i, j, rfl, rfl, ?_⟩
              have z : edgB n (some (some i, some j)) = decide (i < j) := by simp only [edgB, ci, cj, Bool.true_and]
              rw [z] at q
              exact q
end
end Sm

set_option Elab.async false
set_option linter.all false
set_option maxRecDepth 100000
set_option maxHeartbeats 2000000
namespace Sm
open PySem PySem.Spec PyProof.Rows L2
abbrev Pr := Int × Int
/-! ### lists of pairs, lists of neighbours -/
abbrev PairsAt (K : PySem.W.Frag) (H : Hp) : List Addr → List Pr → Prop := Paired fun a q => SqT K H a [.int q.1, .int q.2]
theorem PairsAt.same {K : PySem.W.Frag} {H H' : Hp} (s : Same H H') : ∀ {as : List Addr} {qs : List Pr}, PairsAt K H as qs → PairsAt K H' as qs
  | _, _, .nil => .nil
  | _, _, .cons h t => .cons (same_sqT s h) (PairsAt.same s t)
theorem PairsAt.get {K : PySem.W.Frag} {H : Hp} : ∀ {as : List Addr} {qs : List Pr} {i : Nat} {a : Addr}, PairsAt K H as qs → as[i]? = some a → ∃ q, qs[i]? = some q ∧ SqT K H a [.int q.1, .int q.2]
  | _, _, _, _, .nil, e => by simp at e
  | _, _, 0, _, .cons h _, e => by simp at e; subst e; exact ⟨_, rfl, h⟩
  | _, _, i + 1, a, .cons _ t, e => by
    obtain ⟨q, h1, h2⟩ := PairsAt.get (i := i) (a := a) t (by simpa using e)
    exact ⟨q, by simpa using h1, h2⟩
def nearOf (qs : List Pr) (i : Int) : List Int := qs.flatMap fun q => (if q.1 = i then [q.2] else []) ++ (if q.2 = i then [q.1] else [])
theorem nearOf_len (qs : List Pr) (i : Int) : (nearOf qs i).length ≤ 2 * qs.length := by
  unfold nearOf
  induction qs with
  | nil => simp
  | cons q r ih =>
    rw [List.flatMap_cons, List.length_append, List.length_cons, List.length_append]
    have h1 : (if q.1 = i then [q.2] else ([] : List Int)).length ≤ 1 := by split <;> simp
    have h2 : (if q.2 = i then [q.1] else ([] : List Int)).length ≤ 1 := by split <;> simp
    omega
theorem nearOf_more {qs : List Pr} {t : Nat} {q : Pr} (h : qs[t]? = some q) (i : Int) : nearOf (qs.take (t + 1)) i = nearOf (qs.take t) i ++ ((if q.1 = i then [q.2] else []) ++ (if q.2 = i then [q.1] else [])) := by
  unfold nearOf
  rw [L2.take_next h, List.flatMap_append, List.flatMap_singleton]
def NLists (H : Hp) (nts : List Addr) (f : Nat → List Int) : Prop := ∀ i a, nts[i]? = some a → H a = some (.lst ((f i).map V.int))
theorem NLists.put {H : Hp} {nts : List Addr} {f : Nat → List Int} {u : Nat} {a : Addr} (h : NLists H nts f) (nd : nts.Nodup) (hu : nts[u]? = some a) (v : Int) :
    NLists (upd H a (.lst ((f u).map V.int ++ [.int v]))) nts (fun i => if i = u then f u ++ [v] else f i) := by
  intro i b hb
  by_cases e : i = u
  · subst e
    rw [hu] at hb
    cases hb
    have e2 : (fun i' => if i' = i then f i ++ [v] else f i') i = f i ++ [v] := if_pos rfl
    rw [upd_same, e2, List.map_append]
    rfl
  · have ne : b ≠ a := fun z => by
      subst z
      have h1 := (List.getElem?_eq_some_iff.mp hb)
      have h2 := (List.getElem?_eq_some_iff.mp hu)
      obtain ⟨l1, e1⟩ := h1
      obtain ⟨l2, e2⟩ := h2
      exact e ((List.getElem_inj nd).mp (e1.trans e2.symm))
    have e2 : (fun i' => if i' = u then f u ++ [v] else f i') i = f i := if_neg e
    rw [upd_ne ne, e2]
    exact h i b hb
theorem same_upd {H : Hp} {p : Addr} {o : HO} (h : H p = none) : Same H (upd H p o) := fun b x e => by
  rw [upd_ne (ne_of_none e h)]
  exact e
theorem same_put {H H' : Hp} {p : Addr} {o : HO} (s : Same H H') (h : H p = none) : Same H (upd H' p o) := fun b x e => by
  rw [upd_ne (ne_of_none e h)]
  exact s _ _ e
theorem NLists.same {H H' : Hp} {nts : List Addr} {f : Nat → List Int} (s : Same H H') (h : NLists H nts f) : NLists H' nts f := fun i a e => s _ _ (h i a e)
abbrev sNls : Stmt := topS 10
def spNls (K : PySem.W.Frag) : Sp := fun vs H Q _ => ∃ (n : Nat) (et : Addr) (ets : List Addr) (qs : List Pr), vs = [.int n, .ref et] ∧ n ≤ 60 ∧ SqT K H et (ets.map V.ref) ∧ PairsAt K H ets qs ∧ qs.length ≤ 100 ∧
  (∀ q ∈ qs, 0 ≤ q.1 ∧ q.1 < n ∧ 0 ≤ q.2 ∧ q.2 < n ∧ q.1 ≠ q.2) ∧
  ∀ (H' : Hp) (nt : Addr) (nts : List Addr), Same H H' → H nt = none → H' nt = some (.lst (nts.map V.ref)) → nts.length = n → nts.Nodup → NLists H' nts (fun i => nearOf qs i) → Q (.ref nt) H'
section
variable {P : Program} {w : World} {K : PySem.W.Frag} {mg : Str → Option Value} {base : Heap}
theorem scNls : FnScope ["size", "edges", "near", "u", "v", "_"] ["size", "edges"] (defScope sNls) := ⟨rfl, rfl, rfl, by decide +kernel, rfl, by decide +kernel, by decide +kernel⟩
theorem ok_nls {f : Addr} {fd : FuncData} (F : Fun K "near_lists" "near_lists" sNls f fd) (mr : mg "range" = none) : FnOk P w K mg base CX0 1 f fd ["size", "edges"] (spNls K) := by
  refine F.ok scNls (fun vs H Q E h => ?_) (fun cdv A outer s H vs Q E hr h => ?_)
  · obtain ⟨n, et, ets, qs, rfl, _⟩ := h
    rfl
  · obtain ⟨n, et, ets, qs, rfl, hn, hT, hP, hl, hb, q⟩ := h
    refine ⟨_, pss_cons (ps_setLc (i := 2) (own := [("_", 5)]) (g := gName 5) (tt := tYes) (by rfl) scNls.nd rfl rfl (sw_true rfl rfl rfl (by decide +kernel)) (pi_range1 rfl mr (pa_cons (pv 0) pa_nil))
        (blkOk_by (own := [("_", 5)]) (N := ["size", "edges", "near", "u", "v", "_"]) (sc := defScope sNls) (by decide +kernel)) (fun _ _ _ _ _ => pg_name (i := 5) scNls.nd rfl (Or.inl rfl)) (fun _ _ _ _ _ => pts_nil) (fun _ _ _ _ _ => pe_lst pa_nil))
      (pss_cons (ps_for PassesOwn.never rfl (pi_tup (pv 1)) (pg_tup rfl (pgs_cons (pg_name (i := 3) scNls.nd rfl (.inl rfl)) (pgs_cons (pg_name (i := 4) scNls.nd rfl (.inl rfl)) pgs_nil)))
        (pss_cons (ps_expr (pe_bm PySem.F.plainAttrs_list PySem.F.slot_list_append PySem.F.type_list_append mt_append (pe_ix ix_list (pv 2) (pv 3) (fun _ _ => rfl)) (pa_cons (pv 4) pa_nil)))
        (pss_one (ps_expr (pe_bm PySem.F.plainAttrs_list PySem.F.slot_list_append PySem.F.type_list_append mt_append (pe_ix ix_list (pv 2) (pv 4) (fun _ _ => rfl)) (pa_cons (pv 3) pa_nil))))))
      (pss_one (ps_ret (pv 2)))), ?_⟩
    refine ⟨_, rfl, n, rfl, by omega, by omega, fun D hD => ?_⟩
    have toNat : ((n : Int)).toNat = n := by omega
    refine lc_range (lo := 0) (n := ((n : Int)).toNat) (fun i H' => Same H H' ∧ ∃ nts : List Addr, nts.length = i ∧ H' D = some (.lst (nts.map V.ref)) ∧ nts.Nodup ∧ ∀ a ∈ nts, H' a = some (.lst []) ∧ a ≠ D ∧ H a = none) ?_ ?_ ?_
    · exact ⟨same_upd hD, [], rfl, upd_same, List.nodup_nil, fun a ha => nomatch ha⟩
    · rintro i H' hi ⟨sm, nts, hlen, eD, nd, hall⟩
      refine ⟨rfl, ⟨Nat.zero_le _, fun p np => ?_⟩⟩
      have npD : p ≠ D := fun z => by rw [z, eD] at np; cases np
      have npH : H p = none := sm.free np
      refine ⟨_, by rw [upd_ne npD.symm]; exact eD, by rw [List.length_map]; exact small1000 (by omega), ?_⟩
      refine ⟨same_put (same_put sm npH) hD, nts ++ [p], by rw [List.length_append, hlen]; rfl, by rw [upd_same, List.map_append]; rfl, ?_, fun a ha => ?_⟩
      · refine List.nodup_append.mpr ⟨nd, List.nodup_cons.mpr ⟨(by simp), List.nodup_nil⟩, fun a ha b hb e => ?_⟩
        rw [List.mem_singleton.mp hb] at e
        subst e
        rw [(hall _ ha).1] at np
        cases np
      · rcases List.mem_append.mp ha with z | z
        · obtain ⟨h1, h2, h3⟩ := hall a z
          refine ⟨?_, h2, h3⟩
          rw [upd_ne h2, upd_ne (ne_of_none h1 np)]
          exact h1
        · rw [List.mem_singleton.mp z]
          refine ⟨?_, npD, npH⟩
          rw [upd_ne npD, upd_same]
    · rintro H1 ⟨sm, nts, hlen, eD, nd, hall⟩
      rw [toNat] at hlen
      refine ⟨.ref et, rfl, et, rfl, ⟨_, same_sqT sm hT⟩, for_tup (K := K) (a := et) (xs := ets.map V.ref) (fun t σ H' => ∃ y3 y4, σ = [some (.int n), some (.ref et), some (.ref D), y3, y4, none] ∧ Same H H' ∧ H' D = some (.lst (nts.map V.ref)) ∧
        NLists H' nts (fun i => nearOf (qs.take t) i)) ⟨none, none, rfl, sm, eD, fun i a e => (hall a (List.mem_of_getElem? e)).1⟩ (fun t σ H' _ ⟨_, _, _, s', _⟩ => same_sqT s' hT) ?_ ?_⟩
      · rintro t x σ H' hx ⟨y3, y4, rfl, sm', eD', nl⟩
        rw [List.getElem?_map] at hx
        cases ea : ets[t]? with
        | none => rw [ea] at hx; cases hx
        | some a =>
          rw [ea] at hx
          cases hx
          obtain ⟨⟨u, v⟩, hq, hs⟩ := (hP.same sm').get ea
          have hm : (u, v) ∈ qs := List.mem_of_getElem? hq
          obtain ⟨u0, un, v0, vn, uv⟩ := hb _ hm
          have tq : t < qs.length := (List.getElem?_eq_some_iff.mp hq).1
          dsimp only at u0 un v0 vn uv hs
          obtain ⟨u', rfl⟩ : ∃ k : Nat, u = k := ⟨u.toNat, by omega⟩
          obtain ⟨v', rfl⟩ : ∃ k : Nat, v = k := ⟨v.toNat, by omega⟩
          have uv' : u' ≠ v' := fun z => uv (by rw [z])
          obtain ⟨au, hau⟩ : ∃ a, nts[u']? = some a := ⟨_, List.getElem?_eq_getElem (by omega)⟩
          obtain ⟨av, hav⟩ : ∃ a, nts[v']? = some a := ⟨_, List.getElem?_eq_getElem (by omega)⟩
          have mu := hall au (List.mem_of_getElem? hau)
          have mv := hall av (List.mem_of_getElem? hav)
          have ixu : (nts.map V.ref)[u']? = some (.ref au) := by rw [List.getElem?_map, hau]; rfl
          have ixv : (nts.map V.ref)[v']? = some (.ref av) := by rw [List.getElem?_map, hav]; rfl
          have lu := nearOf_len (qs.take t) u'
          have lv := nearOf_len (qs.take t) v'
          rw [List.length_take] at lu lv
          have hu0 := nl u' au hau
          have nl1 := nl.put nd hau v'
          have hv1 := nl1 v' av hav
          dsimp only at hv1
          rw [if_neg (fun z => uv' z.symm)] at hv1
          have nl2 := nl1.put nd hav u'
          refine ⟨a, _, rfl, hs, rfl, _, _, rfl, _, _, rfl, rfl, ?_⟩
          refine ⟨_, rfl, _, rfl, D, _, _, .ref au, rfl, rfl, SqL.of eD', atI_nat ixu, .inl ⟨rfl, _, SqL.of hu0⟩, _, rfl, au, _, _, rfl, rfl, hu0, by rw [List.length_map]; exact small1000 (show (nearOf (List.take t qs) u').length ≤ 1000 by omega), ?_⟩
          refine ⟨_, rfl, _, rfl, D, _, _, .ref av, rfl, rfl, SqL.of (by rw [upd_ne (fun z => mu.2.1 z.symm)]; exact eD'), atI_nat ixv, .inl ⟨rfl, _, SqL.of hv1⟩, _, rfl, av, _, _, rfl, rfl, hv1, by rw [List.length_map]; exact small1000 (show (nearOf (List.take t qs) v').length ≤ 1000 by omega), ?_⟩
          refine ⟨some (.int u'), some (.int v'), rfl, same_put (same_put sm' mu.2.2) mv.2.2, ?_, fun i b hb' => ?_⟩
          · rw [upd_ne (fun z => mv.2.1 z.symm), upd_ne (fun z => mu.2.1 z.symm)]
            exact eD'
          · have z := nl2 i b hb'
            dsimp only at z ⊢
            rw [if_neg (fun z => uv' z.symm)] at z
            rw [z, nearOf_more hq]
            dsimp only
            congr 3
            by_cases c1 : i = u'
            · subst c1
              rw [if_neg uv', if_pos rfl, if_pos rfl, if_neg (by omega), List.append_nil]
            · rw [if_neg c1]
              by_cases c2 : i = v'
              · subst c2
                rw [if_pos rfl, if_neg (by omega), if_pos rfl, List.nil_append]
              · rw [if_neg c2, if_neg (by omega), if_neg (by omega), List.append_nil, List.append_nil]
      · rintro σ H' ⟨y3, y4, rfl, sm', eD', nl⟩
        have lenq : qs.length = ets.length := hP.length.symm
        rw [List.length_map, ← lenq, List.take_length] at nl
        exact ⟨_, rfl, q H' D nts sm' hD eD' hlen nd nl⟩
end
end Sm

set_option Elab.async false
set_option linter.all false
set_option maxRecDepth 100000
set_option maxHeartbeats 4000000
namespace Sm
open PySem PySem.Spec PyProof.Rows L2
abbrev EV := Option (Option Int × Option Int)
def prOf : EV → Pr
  | some (some i, some j) => (i, j)
  | _ => (0, 0)
def toL (q : Pr) : List Int := [q.1, q.2]
theorem toL_inj {p q : Pr} (h : toL p = toL q) : p = q := by
  obtain ⟨a, b⟩ := p
  obtain ⟨c, d⟩ := q
  simp only [toL, List.cons.injEq, and_true] at h
  rw [h.1, h.2]
/-- the edges that are taken, in the order of the list; none if one is refused -/
def scan (n : Int) : List Pr → List EV → Option (List Pr)
  | seen, [] => some seen
  | seen, e :: r => if edgB n e = true ∧ prOf e ∉ seen then scan n (seen ++ [prOf e]) r else none
def mkE (n : Int) (es : List EV) : Option (List Pr) := if 0 ≤ n ∧ n ≤ 60 then scan n [] es else none
theorem scan_app (n : Int) : ∀ (l r : List EV) (seen : List Pr), scan n seen (l ++ r) = (scan n seen l).bind fun s => scan n s r
  | [], r, seen => rfl
  | e :: l, r, seen => by
    show (if edgB n e = true ∧ prOf e ∉ seen then scan n (seen ++ [prOf e]) (l ++ r) else none) = (if edgB n e = true ∧ prOf e ∉ seen then scan n (seen ++ [prOf e]) l else none).bind _
    by_cases c : edgB n e = true ∧ prOf e ∉ seen
    · rw [if_pos c, if_pos c]
      exact scan_app n l r _
    · rw [if_neg c, if_neg c]
      rfl
def Okp (n : Int) (q : Pr) : Prop := 0 ≤ q.1 ∧ q.1 < q.2 ∧ q.2 < n
theorem edgB_ok {n : Int} {e : EV} (h : edgB n e = true) : ∃ i j, e = some (some i, some j) ∧ Okp n (i, j) := by
  match e, h with
  | some (some i, some j), h =>
    simp only [edgB, vtxB, Bool.and_eq_true, decide_eq_true_eq] at h
    exact ⟨i, j, rfl, h.1.1, h.2.2, h.2.1.2⟩
theorem split_at {α : Type} {l : List α} {t : Nat} {e : α} (h : l[t]? = some e) : l = l.take t ++ e :: l.drop (t + 1) := by
  obtain ⟨hl, rfl⟩ := List.getElem?_eq_some_iff.mp h
  conv => lhs; rw [← List.take_append_drop t l, List.drop_eq_getElem_cons hl]
theorem scan_ok (n : Int) : ∀ (es : List EV) (seen ps : List Pr), scan n seen es = some ps → (∀ q ∈ seen, Okp n q) → seen.Nodup → (∀ q ∈ ps, Okp n q) ∧ ps.Nodup ∧ ps.length = seen.length + es.length
  | [], seen, ps, h, a, b => by
    cases h
    exact ⟨a, b, rfl⟩
  | e :: r, seen, ps, h, a, b => by
    have h' : (if edgB n e = true ∧ prOf e ∉ seen then scan n (seen ++ [prOf e]) r else none) = some ps := h
    by_cases c : edgB n e = true ∧ prOf e ∉ seen
    · rw [if_pos c] at h'
      obtain ⟨i, j, rfl, ok⟩ := edgB_ok c.1
      obtain ⟨h1, h2, h3⟩ := scan_ok n r _ ps h' (fun q hq => by
        rcases List.mem_append.mp hq with z | z
        · exact a q z
        · rw [List.mem_singleton.mp z]; exact ok) (List.nodup_append.mpr ⟨b, by simp, fun x hx y hy e => by
          rw [List.mem_singleton.mp hy] at e
          exact c.2 (e ▸ hx)⟩)
      refine ⟨h1, h2, ?_⟩
      rw [h3, List.length_append, List.length_cons, List.length_cons, List.length_nil]
      omega
    · rw [if_neg c] at h'
      cases h'
abbrev lexlt (p q : Pr) : Prop := SrtO.lexB p q = true
def gflds (n : Int) (et nt : Addr) : List (Str × V) := putF "_near" (.ref nt) (putF "edges" (.ref et) (putF "size" (.int n) []))
theorem gf_size (n : Int) (et nt : Addr) : (gflds n et nt).lookup ("size" : Str) = some (.int n) := by
  unfold gflds
  rw [lookup_putF, if_neg (by decide +kernel), lookup_putF, if_neg (by decide +kernel), lookup_putF, if_pos rfl]
theorem gf_edges (n : Int) (et nt : Addr) : (gflds n et nt).lookup ("edges" : Str) = some (.ref et) := by
  unfold gflds
  rw [lookup_putF, if_neg (by decide +kernel), lookup_putF, if_pos rfl]
theorem gf_near (n : Int) (et nt : Addr) : (gflds n et nt).lookup ("_near" : Str) = some (.ref nt) := by
  unfold gflds
  rw [lookup_putF, if_pos rfl]
theorem gf_no (n : Int) (et nt : Addr) {m : Str} (h1 : ¬ m = "_near") (h2 : ¬ m = "edges") (h3 : ¬ m = "size") : (gflds n et nt).lookup m = none := by
  unfold gflds
  rw [lookup_putF, if_neg h1, lookup_putF, if_neg h2, lookup_putF, if_neg h3]
  rfl
/-- a graph stands at p -/
structure GraphAt (K : PySem.W.Frag) (C : Addr) (H : Hp) (p : Addr) (n : Nat) (qs : List Pr) : Prop where
  ob : ∃ dx et nt, H p = some (.ins C dx (gflds n et nt)) ∧ (∃ ets : List Addr, SqT K H et (ets.map V.ref) ∧ PairsAt K H ets qs) ∧ ∃ nts : List Addr, H nt = some (.lst (nts.map V.ref)) ∧ nts.length = n ∧ NLists H nts (fun i => nearOf qs i)
  lim : n ≤ 60
  few : qs.length ≤ 75
  ok : ∀ q ∈ qs, Okp n q
  srt : qs.Pairwise lexlt
theorem GraphAt.same {K : PySem.W.Frag} {C : Addr} {H H' : Hp} {p : Addr} {n : Nat} {qs : List Pr} (s : Same H H') (g : GraphAt K C H p n qs) : GraphAt K C H' p n qs := by
  obtain ⟨dx, et, nt, h1, ⟨ets, h2, h3⟩, nts, h4, h5, h6⟩ := g.ob
  exact ⟨⟨dx, et, nt, s _ _ h1, ⟨ets, same_sqT s h2, h3.same s⟩, nts, s _ _ h4, h5, h6.same s⟩, g.lim, g.few, g.ok, g.srt⟩
/-- all as it was but at p -/
def But (p : Addr) (H H' : Hp) : Prop := ∀ b o, H b = some o → b ≠ p → H' b = some o
theorem But.sqT {K : PySem.W.Frag} {p C dx a : Addr} {fs : List (Str × V)} {H H' : Hp} {xs : List V} (s : But p H H') (hp : H p = some (.ins C dx fs)) (h : SqT K H a xs) : SqT K H' a xs := by
  rcases h with (h | ⟨o, h⟩) | h
  · exact .inl (.inl (s _ _ h (fun z => by rw [z, hp] at h; cases h)))
  · exact .inl (.inr ⟨o, s _ _ h (fun z => by rw [z, hp] at h; cases h)⟩)
  · exact .inr h
theorem Same.but {p : Addr} {H H' : Hp} (s : Same H H') : But p H H' := fun b o e _ => s b o e
theorem But.put {p : Addr} {H H' : Hp} {o : HO} (s : But p H H') : But p H (upd H' p o) := fun b x e n => by
  rw [upd_ne n]
  exact s b x e n
theorem But.new {p q : Addr} {H H' : Hp} {o : HO} (s : But p H H') (h : H q = none) : But p H (upd H' q o) := fun b x e n => by
  rw [upd_ne (ne_of_none e h)]
  exact s b x e n
theorem But.same {p : Addr} {H H1 H2 : Hp} (s : But p H H1) (t : Same H1 H2) : But p H H2 := fun b x e n => t _ _ (s b x e n)
/-- an exception's class, as the top has made it -/
structure TxE (K : PySem.W.Frag) (mg : Str → Option Value) (x : Str) (C : Addr) : Prop where
  g : mg x = some (.ref C)
  x : PySem.W.excIn K C [.type "ValueError", .type "Exception", .type "BaseException", .type "object"] "ValueError.__new__" = true
  k : PySem.W.keepIn K (.ref C) = true
  b : PySem.W.subIn K (.ref C) (.type "BaseException") = some true
  t : PySem.W.typeIn K (.ref C) = some (.type "type")
/-- what the class Graph says -/
structure TxG (K : PySem.W.Frag) (mg : Str → Option Value) (C : Addr) : Prop where
  cl : Cls K C
  nS : NoAttr K C "size"
  nE : NoAttr K C "edges"
  nN : NoAttr K C "_near"
  g : mg "Graph" = some (.ref C)
abbrev sInit : Stmt := inClass (topS 9) 0
abbrev sHas : Stmt := inClass (topS 9) 1
abbrev sNear : Stmt := inClass (topS 9) 2
abbrev sChk : Stmt := inClass (topS 9) 3
def spInit (K : PySem.W.Frag) (C CB : Addr) : Sp := fun vs H Q E => ∃ (p dx : Addr) (n : Int) (a : Addr) (xs : List V) (es : List EV), vs = [.ref p, .int n, .ref a] ∧ H p = some (.ins C dx []) ∧ SqL K H a xs ∧ Paired (EdgeV K H) xs es ∧ es.length ≤ 75 ∧
  (mkE n es = none → ∀ H', Same H H' → E (.ref CB) none H') ∧
  (∀ ps, mkE n es = some ps → ∀ (H' : Hp) (qs : List Pr), (∀ b o, H b = some o → b ≠ p → H' b = some o) → qs.Perm ps → GraphAt K C H' p n.toNat qs → Q .non H')
theorem ev_get {K : PySem.W.Frag} {H : Hp} : ∀ {xs : List V} {es : List EV} {i : Nat} {x : V}, Paired (EdgeV K H) xs es → xs[i]? = some x → ∃ e, es[i]? = some e ∧ EdgeV K H x e
  | _, _, _, _, .nil, e => by simp at e
  | _, _, 0, _, .cons h _, e => by simp at e; subst e; exact ⟨_, rfl, h⟩
  | _, _, i + 1, x, .cons _ t, e => by
    obtain ⟨q, h1, h2⟩ := ev_get (i := i) (x := x) t (by simpa using e)
    exact ⟨q, by simpa using h1, h2⟩
theorem edgeV_pair {K : PySem.W.Frag} {H : Hp} {v : V} {i j : Int} (h : EdgeV K H v (some (some i, some j))) : ∃ a, v = .ref a ∧ SqT K H a [.int i, .int j] := by
  cases h with
  | pair h hx hy =>
    cases hx
    cases hy
    exact ⟨_, rfl, h⟩
theorem pairs_of {K : PySem.W.Frag} {H : Hp} : ∀ {L : List (Addr × List Int)} {qs : List Pr}, L.map (·.2) = qs.map toL → (∀ p ∈ L, SqT K H p.1 (p.2.map V.int)) → PairsAt K H (L.map (·.1)) qs
  | [], [], _, _ => .nil
  | [], _ :: _, e, _ => by cases e
  | _ :: _, [], e, _ => by cases e
  | p :: L, q :: qs, e, h => by
    have e1 : p.2 = toL q := (List.cons.inj e).1
    have h1 := h p List.mem_cons_self
    rw [e1] at h1
    exact .cons h1 (pairs_of (List.cons.inj e).2 fun r hr => h r (List.mem_cons_of_mem _ hr))
section
variable {P : Program} {w : World} {K : PySem.W.Frag} {mg : Str → Option Value} {base : Heap}
theorem scInit : FnScope ["self", "size", "edges", "seen", "edge"] ["self", "size", "edges"] (defScope sInit) := ⟨rfl, rfl, rfl, by decide +kernel, rfl, by decide +kernel, by decide +kernel⟩
theorem ok_init {f C CB fN fE fL : Addr} {fd fdN fdE fdL : FuncData} (F : Fun K "__init__" "Graph.__init__" sInit f fd) (T : TxG K mg C) (B : TxE K mg "BadGraph" CB)
    (GN : FnOk P w K mg base CX0 1 fN fdN ["value"] spNum) (gN : mg "is_number" = some (.ref fN)) (kN : PySem.W.keepIn K (.ref fN) = true) (bN : Binds K fdN ["value"] [])
    (GE : FnOk P w K mg base CX0 3 fE fdE ["value", "size"] (spEdg K)) (gE : mg "is_edge" = some (.ref fE)) (kE : PySem.W.keepIn K (.ref fE) = true) (bE : Binds K fdE ["value", "size"] [])
    (GL : FnOk P w K mg base CX0 1 fL fdL ["size", "edges"] (spNls K)) (gL : mg "near_lists" = some (.ref fL)) (kL : PySem.W.keepIn K (.ref fL) = true) (bL : Binds K fdL ["size", "edges"] [])
    {tm : Tok} (gM : mg "MOST_VERTICES" = some (.int 60 tm)) (mset : mg "set" = none) (mtup : mg "tuple" = none) (msort : mg "sorted" = none) :
    FnOk P w K mg base (L2.CX P w) 4 f fd ["self", "size", "edges"] (spInit K C CB) := by
  refine F.okX scInit (fun vs H Q E h => ?_) (fun cdv A outer s H vs Q E hr h => ?_)
  · obtain ⟨p, dx, n, a, xs, es, rfl, _⟩ := h
    rfl
  · obtain ⟨p, dx, n, a, xs, es, rfl, hp, hS, hE, hlen, kE0, kQ⟩ := h
    have hr1 : Room 1 _ := hr.mono (by decide)
    have hu : _ + 64 < cLine := hr.units
    refine ⟨_, pss_cons (ps_if (PW.pt (pw_or (pt_not (pt_val (pe_call GN hr1 (by rfl) gN kN bN .nil pass0 (pa_cons (pv 1) pa_nil)))) (pw_or1 (pt_not (pt_chain op_le op_le pe_int (pv 1) (pe_glob (v := .int 60) rfl gM ⟨_, rfl⟩))))))
        (pss_one (ps_raise rfl (takes_of rfl rfl rfl rfl) (pmk_own PySem.F.excBase_ValueError B.x B.g B.k (raises_own B.b B.t) (by exact rfl)))) pss_nil)
      (pss_cons (ps_set (i := 3) scInit.nd rfl (.inl rfl) (pe_callTy0 cr_set0T (by rfl) mset (by decide +kernel)))
      (pss_cons (ps_for (passes_of rfl) rfl (pi_list (pv 2)) (pg_name (i := 4) scInit.nd rfl (.inl rfl))
        (pss_cons (ps_if (pt_not (pt_val (pe_call GE hr (by rfl) gE kE bE .nil pass0 (pa_cons (pv 4) (pa_cons (pv 1) pa_nil)))))
          (pss_one (ps_raise rfl (takes_of rfl rfl rfl rfl) (pmk_own PySem.F.excBase_ValueError B.x B.g B.k (raises_own B.b B.t) (by exact rfl)))) pss_nil)
        (pss_cons (ps_if (pt_cmpR (or_inT hu) (pv 4) (pv 3) (by rfl))
          (pss_one (ps_raise rfl (takes_of rfl rfl rfl rfl) (pmk_own PySem.F.excBase_ValueError B.x B.g B.k (raises_own B.b B.t) (by exact rfl)))) pss_nil)
        (pss_one (ps_expr (pe_addT hu (pv 3) (pa_cons (pv 4) pa_nil)))))))
      (pss_cons (ps_fld (pv 0) (pv 1) rfl)
      (pss_cons (ps_fld (pv 0) (pe_callTy call_tuple_of (by rfl) mtup (by decide +kernel) (pa_cons (pe_callB (cr_sortT2 rfl) (by rfl) msort (by decide +kernel) (pa_cons (pv 3) pa_nil)) pa_nil)) rfl)
      (pss_one (ps_fld (pv 0) (pe_call GL hr1 (by rfl) gL kL bL .nil pass0 (pa_cons (pv 1) (pa_cons (pe_fld (pv 0) rfl) pa_nil))) rfl)))))), ?_⟩
    refine ⟨_, rfl, _, some n, rfl, .int n, true, rfl, iteF ?_⟩
    refine ⟨_, rfl, _, _, rfl, rfl, _, rfl, ?_⟩
    have bad : ¬ (0 ≤ n ∧ n ≤ 60) → E (.ref CB) none H := fun c => kE0 (by unfold mkE; rw [if_neg c]) H (Same.refl H)
    refine ite2 (fun c0 => ?_) (fun c0 => ?_)
    rotate_left
    · refine ⟨_, rfl, ?_⟩
      exact iteT (bad fun z => c0 (decide_eq_true z.1))
    refine ⟨_, _, rfl, rfl, _, rfl, ?_⟩
    have n0 : 0 ≤ n := of_decide_eq_true c0
    by_cases c1 : n ≤ 60
    rotate_left
    · exact iteN c1 (bad fun z => c1 z.2)
    refine iteNS c1 ?_
    -- seen = set()
    refine ⟨rfl, fun S nS => ?_⟩
    have s1 : Same H (upd H S (TSet P w S [])) := same_upd nS
    have noS : ∀ {b : Addr} {o : HO}, H b = some o → b ≠ S := fun e => ne_of_none e nS
    have hxl : xs.length = es.length := hE.length
    refine ⟨_, rfl, a, rfl, ⟨_, s1.seq hS⟩, for_list (K := K) (a := a) (xs := xs) (fun t σ H' => ∃ (y4 : Option V) (seen : List Pr) (L : List (Addr × List Int)), σ = [some (.ref p), some (.int n), some (.ref a), some (.ref S), y4] ∧ Same H H' ∧
      H' S = some (TSet P w S L) ∧ scan n [] (es.take t) = some seen ∧ (L.map (·.2)).Perm (seen.map toL) ∧ (∀ r ∈ L, SqT K H r.1 (r.2.map V.int)) ∧ L.length ≤ t)
      ⟨none, [], [], rfl, s1, upd_same, by rw [List.take_zero]; rfl, List.Perm.refl _, (fun r hr => by cases hr), Nat.le_refl _⟩ (fun t σ H' _ ⟨_, _, _, _, s', _⟩ => s'.seq hS) ?_ ?_⟩
    · rintro t x σ H' hx ⟨y4, seen, L, rfl, sm, eS, hsc, pm, hm, hl⟩
      obtain ⟨e, he, hv⟩ := ev_get hE hx
      have tl : t < es.length := (List.getElem?_eq_some_iff.mp he).1
      have stop : ¬ (edgB n e = true ∧ prOf e ∉ seen) → ∀ H2, Same H H2 → E (.ref CB) none H2 := fun c => by
        refine kE0 ?_
        unfold mkE
        rw [if_pos ⟨n0, c1⟩]
        rw [split_at he, scan_app, hsc]
        show (if edgB n e = true ∧ prOf e ∉ seen then _ else none) = none
        rw [if_neg c]
      refine ⟨_, rfl, _, rfl, _, e, n, rfl, hv.same sm, edgB n e, rfl, ?_⟩
      cases ce : edgB n e with
      | false => exact iteT (stop (by rw [ce]; simp) H' sm)
      | true =>
        refine iteF ?_
        obtain ⟨i, j, rfl, ok⟩ := edgB_ok ce
        obtain ⟨b, rfl, hb⟩ := edgeV_pair hv
        have hm' : ∀ r ∈ L, SqT K H' r.1 (r.2.map V.int) := fun r hr => same_sqT sm (hm r hr)
        have hmem : toL (i, j) ∈ L.map (·.2) ↔ (i, j) ∈ seen := by
          rw [pm.mem_iff]
          constructor
          · intro z
            obtain ⟨q, hq, e⟩ := List.mem_map.mp z
            rw [← toL_inj e]
            exact hq
          · intro z
            exact List.mem_map.mpr ⟨_, z, rfl⟩
        refine ⟨_, rfl, _, rfl, b, S, toL (i, j), L, rfl, rfl, eS, hm', same_sqT sm hb, _, rfl, ?_⟩
        refine ite2 (fun c => ?_) (fun c => ?_)
        · have c' : (i, j) ∈ seen := hmem.mp (of_decide_eq_true c)
          exact stop (fun z => z.2 c') H' sm
        · have c' : (i, j) ∉ seen := fun z => c (decide_eq_true (hmem.mpr z))
          refine ⟨_, rfl, ⟨S, L, rfl, eS⟩, _, rfl, S, b, toL (i, j), L, rfl, rfl, eS, hm', same_sqT sm hb, by omega, fun z => c' (hmem.mp z), fun L' pm' => ?_⟩
          refine ⟨_, seen ++ [(i, j)], L', rfl, same_put sm nS, upd_same, ?_, ?_, fun r hr => ?_, ?_⟩
          · rw [L2.take_next he, scan_app, hsc]
            show (if edgB n (some (some i, some j)) = true ∧ prOf (some (some i, some j)) ∉ seen then scan n (seen ++ [prOf (some (some i, some j))]) [] else none) = _
            rw [if_pos ⟨ce, c'⟩]
            rfl
          · refine (pm'.map (·.2)).trans ?_
            rw [List.map_cons, List.map_append]
            exact (List.Perm.cons _ pm).trans (List.perm_append_singleton _ _).symm
          · rcases List.mem_cons.mp (pm'.mem_iff.mp hr) with z | z
            · rw [z]; exact hb
            · exact hm r z
          · rw [pm'.length_eq, List.length_cons]; omega
    · rintro σ H' ⟨y4, seen, L, rfl, sm, eS, hsc, pm, hm, hl⟩
      rw [hxl, List.take_length] at hsc
      have hmk : mkE n es = some seen := by unfold mkE; rw [if_pos ⟨n0, c1⟩]; exact hsc
      obtain ⟨ok, nd, sl⟩ := scan_ok n es [] seen hsc (fun q hq => by cases hq) List.nodup_nil
      have hp1 := sm _ _ hp
      have pS : p ≠ S := noS hp
      -- self.size = size
      refine ⟨_, rfl, _, rfl, p, C, dx, [], rfl, hp1, T.cl, T.nS, (by show 0 < 1000; decide), ?_⟩
      -- self.edges = tuple(sorted(seen))
      refine ⟨_, rfl, S, L, rfl, by rw [upd_ne pS.symm]; exact eS, fun r hr => ?_, fun r hr => ?_, fun L2' l2 pm2 srt2 nl2 => ?_⟩
      · exact (But.put (Same.but sm)).sqT hp (hm r hr)
      · have := (pm.mem_iff.mp (List.mem_map.mpr ⟨r, hr, rfl⟩))
        obtain ⟨q, _, e⟩ := List.mem_map.mp this
        rw [← e]
        rfl
      · obtain ⟨k, rfl⟩ : ∃ k : Nat, n = (k : Int) := ⟨n.toNat, by omega⟩
        -- the pairs in their order
        have two : ∀ r ∈ L, ∃ q, q ∈ seen ∧ r.2 = toL q := fun r hr => by
          obtain ⟨q, hq, e⟩ := List.mem_map.mp (pm.mem_iff.mp (List.mem_map.mpr ⟨r, hr, rfl⟩))
          exact ⟨q, hq, e.symm⟩
        have keyP : ∀ r ∈ L, r.2 = toL (pairOf r.2) := fun r hr => by
          obtain ⟨q, _, e⟩ := two r hr
          rw [e]
          rfl
        have eqs : L2'.map (·.2) = (L2'.map fun r => pairOf r.2).map toL := by
          rw [List.map_map]
          exact List.map_congr_left fun r hr => keyP r (pm2.mem_iff.mp hr)
        have pq : (L2'.map fun r => pairOf r.2).Perm seen := by
          have z : ((L.map (·.2)).map pairOf).Perm ((seen.map toL).map pairOf) := pm.map pairOf
          rw [List.map_map, List.map_map] at z
          have e1 : seen.map (pairOf ∘ toL) = seen := by
            rw [show (pairOf ∘ toL) = id from funext fun q => rfl]
            exact List.map_id _
          rw [e1] at z
          exact (pm2.map _).trans z
        have srtq : (L2'.map fun r => pairOf r.2).Pairwise lexlt := List.pairwise_map.mpr srt2
        have okq : ∀ q ∈ L2'.map fun r => pairOf r.2, Okp k q := fun q hq => ok q (pq.mem_iff.mp hq)
        have fewq : (L2'.map fun r => pairOf r.2).length ≤ 75 := by rw [pq.length_eq, sl, List.length_nil]; omega
        generalize hqs : (L2'.map fun r => pairOf r.2) = qs at eqs pq srtq okq fewq
        have bt0 : But p H (upd H' p (.ins C dx (putF "size" (.int k) []))) := But.put (Same.but sm)
        have nl2H : H l2 = none := by
          cases e : H l2 with
          | none => rfl
          | some o =>
            have z := bt0 l2 o e (fun y => by rw [y] at nl2; rw [upd_same] at nl2; cases nl2)
            rw [z] at nl2
            cases nl2
        have pl2 : p ≠ l2 := fun z => by rw [← z, upd_same] at nl2; cases nl2
        refine ⟨l2, _, rfl, .inl ⟨SqL.of upd_same, fun et net => ?_⟩⟩
        have bt1 : But p H (upd (upd H' p (.ins C dx (putF "size" (.int k) []))) l2 (.lst (L2'.map fun q => V.ref q.1))) := bt0.new nl2H
        have at1 : (upd (upd H' p (.ins C dx (putF "size" (.int k) []))) l2 (.lst (L2'.map fun q => V.ref q.1))) p = some (.ins C dx (putF "size" (.int k) [])) := by rw [upd_ne pl2, upd_same]
        generalize (upd (upd H' p (.ins C dx (putF "size" (.int k) []))) l2 (.lst (L2'.map fun q => V.ref q.1))) = H2 at net bt1 at1 ⊢
        have netH : H et = none := by
          cases e : H et with
          | none => rfl
          | some o =>
            have z := bt1 et o e (fun y => by rw [y, at1] at net; cases net)
            rw [z] at net
            cases net
        have pet : p ≠ et := fun z => by rw [← z, at1] at net; cases net
        refine ⟨_, rfl, p, C, dx, _, rfl, by rw [upd_ne pet]; exact at1, T.cl, T.nE, (by show 1 < 1000; decide), ?_⟩
        -- self._near = near_lists(size, self.edges)
        have bt2 : But p H (upd (upd H2 et (.tup (L2'.map fun q => V.ref q.1))) p (.ins C dx (putF "edges" (.ref et) (putF "size" (.int k) [])))) := (bt1.new netH).put
        have et2 : (upd (upd H2 et (.tup (L2'.map fun q => V.ref q.1))) p (.ins C dx (putF "edges" (.ref et) (putF "size" (.int k) [])))) et = some (.tup (L2'.map fun q => V.ref q.1)) := by rw [upd_ne pet.symm, upd_same]
        have at2 : (upd (upd H2 et (.tup (L2'.map fun q => V.ref q.1))) p (.ins C dx (putF "edges" (.ref et) (putF "size" (.int k) [])))) p = some (.ins C dx (putF "edges" (.ref et) (putF "size" (.int k) []))) := upd_same
        generalize (upd (upd H2 et (.tup (L2'.map fun q => V.ref q.1))) p (.ins C dx (putF "edges" (.ref et) (putF "size" (.int k) [])))) = H3 at bt2 et2 at2 ⊢
        have mapref : (L2'.map fun q => V.ref q.1) = (L2'.map (·.1)).map V.ref := by rw [List.map_map]; rfl
        have hm3 : ∀ r ∈ L2', SqT K H r.1 (r.2.map V.int) := fun r hr => hm r (pm2.mem_iff.mp hr)
        have pa0 : PairsAt K H (L2'.map (·.1)) qs := pairs_of eqs hm3
        have pa3 : PairsAt K H3 (L2'.map (·.1)) qs := pairs_of eqs fun r hr => bt2.sqT hp (hm3 r hr)
        rw [mapref] at et2
        refine ⟨_, rfl, _, rfl, p, C, dx, _, .ref et, rfl, at2, T.cl, T.nE, by rw [lookup_putF, if_pos rfl], ?_⟩
        refine ⟨k, et, L2'.map (·.1), qs, rfl, by omega, SqT.of et2, pa3, by omega, fun q hq => ?_, fun H4 nt nts sm4 nnt ent lnt ndn nl => ?_⟩
        · obtain ⟨z1, z2, z3⟩ := okq q hq
          exact ⟨z1, by omega, by omega, z3, by omega⟩
        · have at4 := sm4 _ _ at2
          refine ⟨_, rfl, p, C, dx, _, rfl, at4, T.cl, T.nN, (by show 2 < 1000; decide), ?_⟩
          have pnt : p ≠ nt := fun z => by rw [z] at at2; rw [at2] at nnt; cases nnt
          have sb : But p H4 (upd H4 p (.ins C dx (gflds k et nt))) := But.put (Same.but (Same.refl _))
          have g1 : SqT K (upd H4 p (.ins C dx (gflds k et nt))) et ((L2'.map (·.1)).map V.ref) := sb.sqT at4 (SqT.of (sm4 _ _ et2))
          have g2 : PairsAt K (upd H4 p (.ins C dx (gflds k et nt))) (L2'.map (·.1)) qs := pairs_of eqs fun r hr => sb.sqT at4 (same_sqT sm4 (bt2.sqT hp (hm3 r hr)))
          refine kQ seen hmk (upd H4 p (.ins C dx (gflds k et nt))) qs ((bt2.same sm4).put) pq ⟨⟨dx, et, nt, upd_same, ⟨_, g1, g2⟩, nts, ?_, lnt, fun i a e => ?_⟩, by omega, fewq, okq, srtq⟩
          · rw [upd_ne pnt.symm]; exact ent
          · have z := nl i a e
            rw [upd_ne (fun y => by rw [y, at4] at z; cases z)]
            exact z
end
end Sm

set_option Elab.async false
set_option linter.all false
set_option maxRecDepth 100000
set_option maxHeartbeats 4000000
namespace Sm
open PySem PySem.Spec PyProof.Rows L2
def spChk (K : PySem.W.Frag) (C CB : Addr) : Sp := fun vs H Q E => ∃ (p : Addr) (n : Nat) (qs : List Pr) (v : V) (i : Option Int), vs = [.ref p, v] ∧ GraphAt K C H p n qs ∧ IB v i ∧ (vtxB n i = false → E (.ref CB) none H) ∧ (vtxB n i = true → Q .non H)
def spNear (K : PySem.W.Frag) (C CB : Addr) : Sp := fun vs H Q E => ∃ (p : Addr) (n : Nat) (qs : List Pr) (v : V) (i : Option Int), vs = [.ref p, v] ∧ GraphAt K C H p n qs ∧ IB v i ∧ (vtxB n i = false → E (.ref CB) none H) ∧
  (∀ u : Nat, i = some (u : Int) → u < n → ∀ (l : Addr), H l = none → Q (.ref l) (upd H l (.lst ((nearOf qs u).map V.int))))
def spHas (K : PySem.W.Frag) (C CB : Addr) : Sp := fun vs H Q E => ∃ (p : Addr) (n : Nat) (qs : List Pr) (v v' : V) (i j : Option Int), vs = [.ref p, v, v'] ∧ GraphAt K C H p n qs ∧ IB v i ∧ IB v' j ∧ ((vtxB n i && vtxB n j) = false → E (.ref CB) none H) ∧
  (∀ u w : Nat, i = some (u : Int) → j = some (w : Int) → u < n → w < n → Q (.bl (decide ((w : Int) ∈ nearOf qs u))) H)
theorem vtxB_nat {n : Nat} {i : Option Int} (h : vtxB n i = true) : ∃ u : Nat, i = some (u : Int) ∧ u < n := by
  match i, h with
  | some i, h =>
    simp only [vtxB, Bool.and_eq_true, decide_eq_true_eq] at h
    exact ⟨i.toNat, by rw [show ((i.toNat : Nat) : Int) = i by omega], by omega⟩
theorem vtxB_of {n u : Nat} (h : u < n) : vtxB n (some (u : Int)) = true := by
  simp only [vtxB, Bool.and_eq_true, decide_eq_true_eq]
  omega
theorem inV_int (x : Int) : ∀ l : List Int, inV (.int x) (l.map V.int) = decide (x ∈ l)
  | [] => by simp [inV]
  | y :: l => by
    have ih := inV_int x l
    unfold inV at ih ⊢
    rw [List.map_cons, List.any_cons, ih]
    by_cases c : y = x
    · simp [eqV, c]
    · have c' : ¬ x = y := fun z => c z.symm
      simp [eqV, c, c']
theorem flat_ints : ∀ l : List Int, (l.map V.int).all flatV = true
  | [] => rfl
  | _ :: l => by rw [List.map_cons, List.all_cons, flat_ints l]; rfl
section
variable {P : Program} {w : World} {K : PySem.W.Frag} {mg : Str → Option Value} {base : Heap}
theorem scChk : FnScope ["self", "value"] ["self", "value"] (defScope sChk) := ⟨rfl, rfl, rfl, by decide +kernel, rfl, by decide +kernel, by decide +kernel⟩
theorem ok_chk {f C CB fV : Addr} {fd fdV : FuncData} (F : Fun K "_check_vertex" "Graph._check_vertex" sChk f fd) (T : TxG K mg C) (B : TxE K mg "BadGraph" CB)
    (GV : FnOk P w K mg base CX0 2 fV fdV ["value", "size"] spVtx) (kV : PySem.W.keepIn K (.ref fV) = true) (bV : Binds K fdV ["value", "size"] []) (gV : mg "is_vertex" = some (.ref fV)) :
    FnOk P w K mg base (L2.CX P w) 3 f fd ["self", "value"] (spChk K C CB) := by
  refine F.okX scChk (fun vs H Q E h => ?_) (fun cdv A outer s H vs Q E hr h => ?_)
  · obtain ⟨p, n, qs, v, i, rfl, _⟩ := h
    rfl
  · obtain ⟨p, n, qs, v, i, rfl, g, hv, kE, kQ⟩ := h
    obtain ⟨dx, et, nt, hp, _⟩ := g.ob
    refine ⟨_, pss_one (ps_if (pt_not (pt_val (pe_call GV hr (by rfl) gV kV bV .nil pass0 (pa_cons (pv 1) (pa_cons (pe_fld (pv 0) rfl) pa_nil)))))
        (pss_one (ps_raise rfl (takes_of rfl rfl rfl rfl) (pmk_own PySem.F.excBase_ValueError B.x B.g B.k (raises_own B.b B.t) (by exact rfl)))) pss_nil), ?_⟩
    refine ⟨_, rfl, _, rfl, p, C, dx, _, .int n, rfl, hp, T.cl, T.nS, gf_size _ _ _, v, i, n, rfl, hv, vtxB n i, rfl, ?_⟩
    cases c : vtxB n i with
    | false => exact iteT (kE c)
    | true => exact iteF (kQ c)
theorem scNear : FnScope ["self", "u"] ["self", "u"] (defScope sNear) := ⟨rfl, rfl, rfl, by decide +kernel, rfl, by decide +kernel, by decide +kernel⟩
theorem ok_near {f C CB fK : Addr} {fd fdK : FuncData} (F : Fun K "near" "Graph.near" sNear f fd) (T : TxG K mg C)
    (GK : FnOk P w K mg base (L2.CX P w) 3 fK fdK ["self", "value"] (spChk K C CB)) (mK : Meth K C "_check_vertex" fK) (bK : Binds K fdK ["self", "value"] []) (ml : mg "list" = none) :
    FnOk P w K mg base (L2.CX P w) 4 f fd ["self", "u"] (spNear K C CB) := by
  refine F.okX scNear (fun vs H Q E h => ?_) (fun cdv A outer s H vs Q E hr h => ?_)
  · obtain ⟨p, n, qs, v, i, rfl, _⟩ := h
    rfl
  · obtain ⟨p, n, qs, v, i, rfl, g, hv, kE, kQ⟩ := h
    have ⟨dx, et, nt, hp, _, nts, hnt, lnt, nl⟩ := g.ob
    refine ⟨_, pss_cons (ps_expr (pe_meth (pv 0) T.cl mK GK hr bK .nil (passes_call (takes_of rfl rfl rfl rfl) fun _ _ _ _ h => h) (pa_cons (pv 1) pa_nil)))
      (pss_one (ps_ret (pe_callTy call_list_of (by rfl) ml (by decide +kernel) (pa_cons (pe_ix ix_list (pe_fld (pv 0) rfl) (pv 1) (fun _ _ => rfl)) pa_nil)))), ?_⟩
    refine ⟨_, rfl, p, dx, _, rfl, hp, gf_no _ _ _ (by decide +kernel) (by decide +kernel) (by decide +kernel), _, rfl, p, n, qs, v, i, rfl, g, hv, kE, fun c => ?_⟩
    obtain ⟨u, rfl, hu⟩ := vtxB_nat c
    cases hv with
    | int =>
      obtain ⟨au, hau⟩ : ∃ a, nts[u]? = some a := ⟨_, List.getElem?_eq_getElem (by omega)⟩
      have ixu : (nts.map V.ref)[u]? = some (.ref au) := by rw [List.getElem?_map, hau]; rfl
      exact ⟨_, rfl, p, C, dx, _, .ref nt, rfl, hp, T.cl, T.nN, gf_near _ _ _, _, rfl, nt, _, _, .ref au, rfl, rfl, SqL.of hnt, atI_nat ixu, au, _, rfl, .inl (SqL.of (nl u au hau)), fun l hl => kQ u rfl hu l hl⟩
theorem scHas : FnScope ["self", "u", "v"] ["self", "u", "v"] (defScope sHas) := ⟨rfl, rfl, rfl, by decide +kernel, rfl, by decide +kernel, by decide +kernel⟩
theorem ok_has {f C CB fK : Addr} {fd fdK : FuncData} (F : Fun K "has" "Graph.has" sHas f fd) (T : TxG K mg C)
    (GK : FnOk P w K mg base (L2.CX P w) 3 fK fdK ["self", "value"] (spChk K C CB)) (mK : Meth K C "_check_vertex" fK) (bK : Binds K fdK ["self", "value"] []) :
    FnOk P w K mg base (L2.CX P w) 4 f fd ["self", "u", "v"] (spHas K C CB) := by
  refine F.okX scHas (fun vs H Q E h => ?_) (fun cdv A outer s H vs Q E hr h => ?_)
  · obtain ⟨p, n, qs, v, v', i, j, rfl, _⟩ := h
    rfl
  · obtain ⟨p, n, qs, v, v', i, j, rfl, g, hv, hv', kE, kQ⟩ := h
    have ⟨dx, et, nt, hp, _, nts, hnt, lnt, nl⟩ := g.ob
    refine ⟨_, pss_cons (ps_expr (pe_meth (pv 0) T.cl mK GK hr bK .nil (passes_call (takes_of rfl rfl rfl rfl) fun _ _ _ _ h => h) (pa_cons (pv 1) pa_nil)))
      (pss_cons (ps_expr (pe_meth (pv 0) T.cl mK GK hr bK .nil (passes_call (takes_of rfl rfl rfl rfl) fun _ _ _ _ h => h) (pa_cons (pv 2) pa_nil)))
      (pss_one (ps_ret (pe_cmpR op_in_seq (pv 2) (pe_ix ix_list (pe_fld (pv 0) rfl) (pv 1) (fun _ _ => rfl)) (by rfl))))), ?_⟩
    refine ⟨_, rfl, p, dx, _, rfl, hp, gf_no _ _ _ (by decide +kernel) (by decide +kernel) (by decide +kernel), _, rfl, p, n, qs, v, i, rfl, g, hv, fun c => kE (by rw [c]; rfl), fun c => ?_⟩
    refine ⟨_, rfl, p, dx, _, rfl, hp, gf_no _ _ _ (by decide +kernel) (by decide +kernel) (by decide +kernel), _, rfl, p, n, qs, v', j, rfl, g, hv', fun c' => kE (by rw [c']; simp), fun c' => ?_⟩
    obtain ⟨u, rfl, hu⟩ := vtxB_nat c
    obtain ⟨x, rfl, hx⟩ := vtxB_nat c'
    cases hv with
    | int =>
      cases hv' with
      | int =>
        obtain ⟨au, hau⟩ : ∃ a, nts[u]? = some a := ⟨_, List.getElem?_eq_getElem (by omega)⟩
        have ixu : (nts.map V.ref)[u]? = some (.ref au) := by rw [List.getElem?_map, hau]; rfl
        refine ⟨_, rfl, _, rfl, p, C, dx, _, .ref nt, rfl, hp, T.cl, T.nN, gf_near _ _ _, _, rfl, nt, _, _, .ref au, rfl, rfl, SqL.of hnt, atI_nat ixu, au, _, rfl, .inl (SqL.of (nl u au hau)), rfl, flat_ints _, ?_⟩
        have z := kQ u x rfl rfl hu hx
        rw [← inV_int] at z
        exact z
end
end Sm

set_option Elab.async false
set_option linter.all false
set_option maxRecDepth 100000
set_option maxHeartbeats 4000000
namespace Sm
open PySem PySem.Spec PyProof.Rows L2
abbrev sPart : Stmt := topS 11
abbrev sBtw : Stmt := topS 12
abbrev sRen : Stmt := topS 13
abbrev sWo : Stmt := topS 14
/-- the vertices of a list that are taken; none if one is refused -/
def vscan (n : Int) : List Int → List (Option Int) → Option (List Int)
  | seen, [] => some seen
  | seen, e :: r => if vtxB n e = true ∧ e.getD 0 ∉ seen then vscan n (seen ++ [e.getD 0]) r else none
theorem vscan_app (n : Int) : ∀ (l r : List (Option Int)) (seen : List Int), vscan n seen (l ++ r) = (vscan n seen l).bind fun s => vscan n s r
  | [], r, seen => rfl
  | e :: l, r, seen => by
    show (if vtxB n e = true ∧ e.getD 0 ∉ seen then vscan n (seen ++ [e.getD 0]) (l ++ r) else none) = (if vtxB n e = true ∧ e.getD 0 ∉ seen then vscan n (seen ++ [e.getD 0]) l else none).bind _
    by_cases c : vtxB n e = true ∧ e.getD 0 ∉ seen
    · rw [if_pos c, if_pos c]
      exact vscan_app n l r _
    · rw [if_neg c, if_neg c]
      rfl
theorem valV_ne {kvs : List (Key × V)} {k : Key} (h : k ∈ kvs.map (·.1)) : valV kvs k ≠ none := fun z => by
  obtain ⟨p, hp, e⟩ := List.mem_map.mp h
  have q := valV_any k kvs
  rw [z] at q
  have r : (kvs.any fun kv => decide (kv.1 = k)) = true := List.any_eq_true.mpr ⟨p, hp, decide_eq_true e⟩
  rw [r] at q
  cases q
def spBtw : Sp := fun vs H Q _ => ∃ i j : Int, vs = [.int i, .int j] ∧ ∀ p, H p = none → Q (.ref p) (upd H p (.tup [.int (if j < i then j else i), .int (if j > i then j else i)]))
/-- what part refuses -/
def spPart (K : PySem.W.Frag) (C CB : Addr) : Sp := fun vs H Q E => ∃ (g a : Addr) (n : Nat) (qs : List Pr) (xs : List V) (is : List (Option Int)), vs = [.ref g, .ref a] ∧ GraphAt K C H g n qs ∧ SqL K H a xs ∧ Paired IB xs is ∧ is.length ≤ 100 ∧
  vscan n [] is = none ∧ ∀ H', Same H H' → E (.ref CB) none H'
def spRen (K : PySem.W.Frag) (C CB : Addr) : Sp := fun vs H Q E => ∃ (g a : Addr) (n : Nat) (qs : List Pr) (xs : List V) (is : List (Option Int)), vs = [.ref g, .ref a] ∧ GraphAt K C H g n qs ∧ SqL K H a xs ∧ Paired IB xs is ∧ is.length ≤ 100 ∧
  (is.length ≠ n ∨ vscan n [] is = none) ∧ ∀ H', Same H H' → E (.ref CB) none H'
def spWo (K : PySem.W.Frag) (C CB : Addr) : Sp := fun vs H Q E => ∃ (g e : Addr) (n : Nat) (qs : List Pr) (i j : Int), vs = [.ref g, .ref e] ∧ GraphAt K C H g n qs ∧ SqT K H e [.int i, .int j] ∧ (i, j) ∉ qs ∧ ∀ H', Same H H' → E (.ref CB) none H'
theorem ib_get {xs : List V} {is : List (Option Int)} {i : Nat} {x : V} (h : Paired IB xs is) (e : xs[i]? = some x) : ∃ o, is[i]? = some o ∧ IB x o := by
  induction h generalizing i with
  | nil => simp at e
  | cons h t ih =>
    cases i with
    | zero => simp at e; subst e; exact ⟨_, rfl, h⟩
    | succ i =>
      obtain ⟨o, h1, h2⟩ := ih (i := i) (by simpa using e)
      exact ⟨o, by simpa using h1, h2⟩
section
variable {X : Cx}
def rInDT (K : PySem.W.Frag) (neg : Bool) : R2 := fun x y H Q => ∃ d ds, Dp K H x d ∧ Dp K H y (.tuple ds) ∧ SeqAt.shaped d = true ∧ SeqAt.shaped (.tuple ds) = true ∧ Q (.bl (if neg then !(ds.any fun z => PyData.eqv z d) else ds.any fun z => PyData.eqv z d)) H
theorem op_inDT (hu : X.A.units + 65 < cLine) : OpR X (compareOp .In) (rInDT X.K false) := by
  intro pins s σ H x y v u Q I rx ry ⟨d, ds, hd, he, sd, se, q⟩
  obtain ⟨as, r1⟩ := Dp.reads I d x v hd rx
  obtain ⟨bs, r2⟩ := Dp.reads I (.tuple ds) y u he ry
  exact SeqAt.in_tuple_reads r2 r1 (SeqAt.canLay_of_shaped se) (SeqAt.canLay_of_shaped sd) (room_in_shaped sd hu) ⟨.bl _, H, I, rfl, q⟩
theorem op_notInDT (hu : X.A.units + 65 < cLine) : OpR X (compareOp .NotIn) (rInDT X.K true) := by
  intro pins s σ H x y v u Q I rx ry ⟨d, ds, hd, he, sd, se, q⟩
  obtain ⟨as, r1⟩ := Dp.reads I d x v hd rx
  obtain ⟨bs, r2⟩ := Dp.reads I (.tuple ds) y u he ry
  exact SeqAt.notIn_tuple_reads r2 r1 (SeqAt.canLay_of_shaped se) (SeqAt.canLay_of_shaped sd) (room_in_shaped sd hu) ⟨.bl _, H, I, rfl, q⟩
end
theorem u65 {k : Nat} {A : Around} (r : Room k A) : A.units + 65 < cLine := by have := r.un; omega
theorem neD_at {X : Cx} {A : Around} {K : PySem.W.Frag} (hA : X.A = A) (hK : X.K = K) (hu : A.units + 64 < cLine) : OpR X (compareOp .NotEq) (rNeD K) := by
  subst hA
  subst hK
  exact op_neD hu
/-! ### pairs as data -/
def pD (q : Pr) : PyData := .tuple [.int q.1, .int q.2]
theorem pD_lay (q : Pr) : (pD q).canLay0 = true := by simp [pD, PyData.canLay0, PyData.canLayAll0]
theorem pD_depth (q : Pr) : (pD q).depth = 1 := by simp [pD, PyData.depth, PyData.depthAll]
theorem pDs_lay : ∀ qs : List Pr, PyData.canLayAll0 (qs.map pD) = true
  | [] => by simp [PyData.canLayAll0]
  | q :: qs => by simp [PyData.canLayAll0, pD_lay q, pDs_lay qs]
theorem pDs_depth : ∀ qs : List Pr, PyData.depthAll (qs.map pD) ≤ 1
  | [] => by simp [PyData.depthAll]
  | q :: qs => by
    have h1 := pDs_depth qs
    have h2 := pD_depth q
    simp only [List.map_cons, PyData.depthAll]
    omega
theorem pD_shaped (q : Pr) : SeqAt.shaped (pD q) = true := by
  have h := pD_depth q
  unfold SeqAt.shaped
  rw [Bool.and_eq_true]
  exact ⟨pD_lay q, decide_eq_true (by omega)⟩
theorem pDs_shapedT (qs : List Pr) : SeqAt.shaped (.tuple (qs.map pD)) = true := by
  have h1 := pDs_depth qs
  unfold SeqAt.shaped
  rw [Bool.and_eq_true]
  refine ⟨by simp only [PyData.canLay0]; exact pDs_lay qs, decide_eq_true ?_⟩
  simp only [PyData.depth]
  omega
theorem pDs_shapedL (qs : List Pr) : SeqAt.shaped (.list (qs.map pD)) = true := by
  have h1 := pDs_depth qs
  unfold SeqAt.shaped
  rw [Bool.and_eq_true]
  refine ⟨by simp only [PyData.canLay0]; exact pDs_lay qs, decide_eq_true ?_⟩
  simp only [PyData.depth]
  omega
theorem pD_eqv (p q : Pr) : PyData.eqv (pD p) (pD q) = decide (p = q) := by
  obtain ⟨a, b⟩ := p
  obtain ⟨c, d⟩ := q
  have e : PyData.eqv (pD (a, b)) (pD (c, d)) = ((a == c) && ((b == d) && true)) := by simp only [pD, PyData.eqv, PyData.eqvAll]
  rw [e]
  by_cases h1 : a = c
  · by_cases h2 : b = d
    · simp [h1, h2]
    · simp [h1, h2]
  · simp [h1]
theorem pDs_any (q : Pr) : ∀ qs : List Pr, ((qs.map pD).any fun z => PyData.eqv z (pD q)) = decide (q ∈ qs)
  | [] => by simp
  | p :: qs => by
    rw [List.map_cons, List.any_cons, pDs_any q qs, pD_eqv]
    by_cases c : p = q
    · simp [c]
    · have c' : ¬ q = p := fun z => c z.symm
      simp [c, c']
theorem dp_pair {K : PySem.W.Frag} {H : Hp} {a : Addr} {i j : Int} (h : SqT K H a [.int i, .int j]) : Dp K H (.ref a) (pD (i, j)) := .tup h (.cons (.int i) (.cons (.int j) .nil))
theorem dp_pairs {K : PySem.W.Frag} {H : Hp} : ∀ {as : List Addr} {qs : List Pr}, PairsAt K H as qs → DpAll K H (as.map V.ref) (qs.map pD)
  | _, _, .nil => .nil
  | _, _, .cons h t => .cons (dp_pair h) (dp_pairs t)
section
variable {P : Program} {w : World} {K : PySem.W.Frag} {mg : Str → Option Value} {base : Heap}
theorem scBtw : FnScope ["u", "v"] ["u", "v"] (defScope sBtw) := ⟨rfl, rfl, rfl, by decide +kernel, rfl, by decide +kernel, by decide +kernel⟩
theorem ok_btw {f : Addr} {fd : FuncData} (F : Fun K "edge_between" "edge_between" sBtw f fd) (m1 : mg "min" = none) (m2 : mg "max" = none) : FnOk P w K mg base CX0 1 f fd ["u", "v"] spBtw := by
  refine F.ok scBtw (fun vs H Q E h => ?_) (fun cdv A outer s H vs Q E hr h => ?_)
  · obtain ⟨i, j, rfl, _⟩ := h
    rfl
  · obtain ⟨i, j, rfl, q⟩ := h
    refine ⟨_, pss_one (ps_ret (pe_tup (pa_cons (pe_callB (call_min2 rfl) (by rfl) m1 (by decide +kernel) (pa_cons (pv 0) (pa_cons (pv 1) pa_nil)))
      (pa_cons (pe_callB (call_max2 rfl) (by rfl) m2 (by decide +kernel) (pa_cons (pv 0) (pa_cons (pv 1) pa_nil))) pa_nil)))), ?_⟩
    exact ⟨_, rfl, _, rfl, _, _, rfl, _, rfl, _, rfl, _, _, rfl, (by show 2 ≤ sizeLine; decide), q⟩
theorem scPart : FnScope ["graph", "vertices", "places", "place", "vertex", "kept", "u", "v"] ["graph", "vertices"] (defScope sPart) := ⟨rfl, rfl, rfl, by decide +kernel, rfl, by decide +kernel, by decide +kernel⟩
theorem ok_part {f C CB fV fI fB : Addr} {fd fdV fdI fdB : FuncData} (F : Fun K "part" "part" sPart f fd) (T : TxG K mg C) (B : TxE K mg "BadGraph" CB)
    (GV : FnOk P w K mg base CX0 2 fV fdV ["value", "size"] spVtx) (kV : PySem.W.keepIn K (.ref fV) = true) (bV : Binds K fdV ["value", "size"] []) (gV : mg "is_vertex" = some (.ref fV))
    (GI : FnOk P w K mg base (L2.CX P w) 4 fI fdI ["self", "size", "edges"] (spInit K C CB)) (M : Mk K C fI) (bI : Binds K fdI ["self", "size", "edges"] [])
    (GB : FnOk P w K mg base CX0 1 fB fdB ["u", "v"] spBtw) (kB : PySem.W.keepIn K (.ref fB) = true) (bB : Binds K fdB ["u", "v"] []) (gB : mg "edge_between" = some (.ref fB))
    (me : mg "enumerate" = none) (ml : mg "len" = none) :
    FnOk P w K mg base (L2.CX P w) 6 f fd ["graph", "vertices"] (spPart K C CB) := by
  refine F.okX scPart (fun vs H Q E h => ?_) (fun cdv A outer s H vs Q E hr h => ?_)
  · obtain ⟨g, a, n, qs, xs, is, rfl, _⟩ := h
    rfl
  · obtain ⟨g, a, n, qs, xs, is, rfl, G, hS, hI, hlen, hbad, kE⟩ := h
    have hu := hu_of hr
    have hr1 : Room 1 _ := hr.mono (by decide)
    have hr2 : Room 2 _ := hr.mono (by decide)
    have ⟨dx, et, nt, hg, _⟩ := G.ob
    refine ⟨_, pss_cons (ps_set (i := 2) scPart.nd rfl (.inl rfl) pe_dnewK)
      (pss_cons (ps_for (passes_of rfl) rfl (pi_enum (by rfl) me (pa_cons (pv 1) pa_nil)) (pg_tup rfl (pgs_cons (pg_name (i := 3) scPart.nd rfl (.inl rfl)) (pgs_cons (pg_name (i := 4) scPart.nd rfl (.inl rfl)) pgs_nil)))
        (pss_cons (ps_if (pt_not (pt_val (pe_call GV hr2 (by rfl) gV kV bV .nil pass0 (pa_cons (pv 4) (pa_cons (pe_fld (pv 0) rfl) pa_nil)))))
          (pss_one (ps_raise rfl (takes_of rfl rfl rfl rfl) (pmk_own PySem.F.excBase_ValueError B.x B.g B.k (raises_own B.b B.t) (by exact rfl)))) pss_nil)
        (pss_cons (ps_if (pt_cmp (pc_din hu (pv 4) (pv 2)))
          (pss_one (ps_raise rfl (takes_of rfl rfl rfl rfl) (pmk_own PySem.F.excBase_ValueError B.x B.g B.k (raises_own B.b B.t) (by exact rfl)))) pss_nil)
        (pss_one (ps_dput hu (pv 2) (pv 4) (pv 3) rfl)))))
      (pss_cons (ps_set (i := 5) scPart.nd rfl (.inl rfl) (pe_lst pa_nil))
      (pss_cons (ps_for (passes_of rfl) rfl (pi_tup (pe_fld (pv 0) rfl)) (pg_tup rfl (pgs_cons (pg_name (i := 6) scPart.nd rfl (.inl rfl)) (pgs_cons (pg_name (i := 7) scPart.nd rfl (.inl rfl)) pgs_nil)))
        (pss_one (ps_if (PW.pt (pw_and (pt_cmp (pc_din hu (pv 6) (pv 2))) (pw_and1 (pt_cmp (pc_din hu (pv 7) (pv 2))))))
          (pss_one (ps_expr (pe_bm PySem.F.plainAttrs_list PySem.F.slot_list_append PySem.F.type_list_append mt_append (pv 5)
            (pa_cons (pe_call GB hr1 (by rfl) gB kB bB .nil pass0 (pa_cons (pe_dget hu (pv 2) (pv 6) (fun _ _ => rfl)) (pa_cons (pe_dget hu (pv 2) (pv 7) (fun _ _ => rfl)) pa_nil))) pa_nil)))) pss_nil)))
      (pss_one (ps_ret (pe_make M GI hr (by rfl) T.g bI .nil (passes_call (takes_of rfl rfl rfl rfl) fun _ _ _ _ h => h) (pa_cons (pe_callB call_lenD (by rfl) ml PySem.boot_len (pa_cons (pv 2) pa_nil)) (pa_cons (pv 5) pa_nil)))))))), ?_⟩
    intro d hd
    have s1 : Same H (upd H d (.dK [])) := same_upd hd
    refine ⟨_, rfl, a, xs, rfl, s1.seq hS, for_it (walk_enum (K := K) (a := a) (xs := xs)) (fun t σ H' => ∃ (y3 y4 : Option V) (seen : List Int) (kvs : List (Key × V)), σ = [some (.ref g), some (.ref a), some (.ref d), y3, y4, none, none, none] ∧ Same H H' ∧
      H' d = some (.dK kvs) ∧ vscan n [] (is.take t) = some seen ∧ kvs.map (·.1) = seen.map Sum.inl ∧ kvs.length = t)
      ⟨none, none, [], [], rfl, s1, upd_same, by rw [List.take_zero]; rfl, rfl, rfl⟩ (fun t σ H' _ ⟨_, _, _, _, _, s', _⟩ => s'.seq hS) ?_ ?_⟩
    · rintro t x σ H1 H' ht ⟨y3, y4, seen, kvs, rfl, sm, ed, hsc, hk, hl⟩ ⟨T1, v1, v2, rfl, nT, rfl, e1, e2⟩
      cases e1
      obtain ⟨o, he, hv⟩ := ib_get hI e2
      have sm' : Same H (upd H1 T1 (.tup [.int (t : Nat), v2])) := same_put sm (sm.free nT)
      have dT : d ≠ T1 := fun z => by rw [← z, ed] at nT; cases nT
      have stop : ¬ (vtxB n o = true ∧ o.getD 0 ∉ seen) → ∀ H2, Same H H2 → E (.ref CB) none H2 := fun _ => kE
      refine ⟨T1, _, rfl, SqT.of upd_same, rfl, _, _, rfl, _, _, rfl, rfl, ?_⟩
      refine ⟨_, rfl, _, rfl, g, C, dx, _, .int n, rfl, sm' _ _ hg, T.cl, T.nS, gf_size _ _ _, v2, o, n, rfl, hv, vtxB n o, rfl, ?_⟩
      cases c : vtxB n o with
      | false => exact iteT (kE _ sm')
      | true =>
        refine iteF ?_
        obtain ⟨u, rfl, hu'⟩ := vtxB_nat c
        cases hv with
        | int =>
          refine ⟨_, rfl, _, rfl, d, _, rfl, DGet.k (k := Sum.inl (u : Int)) (by rw [upd_ne dT]; exact ed), _, rfl, ?_⟩
          cases ev : valV kvs (Sum.inl (u : Int) : Key) with
          | some v => exact iteT (kE _ sm')
          | none =>
            refine iteF ?_
            have isl : t < is.length := (List.getElem?_eq_some_iff.mp he).1
            refine ⟨_, rfl, _, rfl, _, rfl, d, _, rfl, DPut.k (k := Sum.inl (u : Int)) (by rw [upd_ne dT]; exact ed) (small1000 (by omega)), ?_⟩
            have nin : (u : Int) ∉ seen := fun z => by
              have z2 : (Sum.inl (u : Int) : Key) ∈ kvs.map (·.1) := by rw [hk]; exact List.mem_map.mpr ⟨_, z, rfl⟩
              exact valV_ne z2 ev
            refine ⟨_, _, seen ++ [(u : Int)], putK kvs (Sum.inl (u : Int)) (.int (t : Nat)), rfl, same_put sm' hd, upd_same, ?_, ?_, ?_⟩
            · rw [L2.take_next he, vscan_app, hsc]
              show (if vtxB n (some (u : Int)) = true ∧ (some (u : Int)).getD 0 ∉ seen then _ else none) = _
              rw [if_pos ⟨c, nin⟩]
              rfl
            · rw [putK_new _ ev, List.map_append, hk, List.map_append]
              rfl
            · rw [putK_new _ ev, List.length_append, hl]
              rfl
    · rintro σ H' ⟨y3, y4, seen, kvs, rfl, sm, ed, hsc, hk, hl⟩
      rw [hI.length, List.take_length, hbad] at hsc
      cases hsc
theorem scRen : FnScope ["graph", "order"] ["graph", "order"] (defScope sRen) := ⟨rfl, rfl, rfl, by decide +kernel, rfl, by decide +kernel, by decide +kernel⟩
theorem ok_ren {f C CB fP : Addr} {fd fdP : FuncData} (F : Fun K "renumbered" "renumbered" sRen f fd) (T : TxG K mg C) (B : TxE K mg "BadGraph" CB)
    (GP : FnOk P w K mg base (L2.CX P w) 6 fP fdP ["graph", "vertices"] (spPart K C CB)) (kP : PySem.W.keepIn K (.ref fP) = true) (bP : Binds K fdP ["graph", "vertices"] []) (gP : mg "part" = some (.ref fP)) (ml : mg "len" = none) :
    FnOk P w K mg base (L2.CX P w) 7 f fd ["graph", "order"] (spRen K C CB) := by
  refine F.okX scRen (fun vs H Q E h => ?_) (fun cdv A outer s H vs Q E hr h => ?_)
  · obtain ⟨g, a, n, qs, xs, is, rfl, _⟩ := h
    rfl
  · obtain ⟨g, a, n, qs, xs, is, rfl, G, hS, hI, hlen, hbad, kE⟩ := h
    have ⟨dx, et, nt, hg, _⟩ := G.ob
    refine ⟨_, pss_cons (ps_if (pt_cmpR op_ne (pe_callB call_len_seq (by rfl) ml PySem.boot_len (pa_cons (pv 1) pa_nil)) (pe_fld (pv 0) rfl) (nomark _))
        (pss_one (ps_raise rfl (takes_of rfl rfl rfl rfl) (pmk_own PySem.F.excBase_ValueError B.x B.g B.k (raises_own B.b B.t) (by exact rfl)))) pss_nil)
      (pss_one (ps_ret (pe_call GP hr (by rfl) gP kP bP .nil (passes_call (takes_of rfl rfl rfl rfl) fun _ _ _ _ h => h) (pa_cons (pv 0) (pa_cons (pv 1) pa_nil))))), ?_⟩
    refine ⟨_, rfl, a, xs, rfl, .inl hS, _, rfl, g, C, dx, _, .int n, rfl, hg, T.cl, T.nS, gf_size _ _ _, rfl, _, rfl, ?_⟩
    by_cases c : is.length = n
    · refine iteNS (by rw [hI.length, c]) ?_
      exact ⟨_, rfl, _, rfl, g, a, n, qs, xs, is, rfl, G, hS, hI, hlen, hbad.resolve_left (fun z => z c), kE⟩
    · refine iteN (fun z => c ?_) (kE H (Same.refl H))
      have z' := Int.ofNat.inj (V.int.inj z)
      rw [← hI.length]
      exact z'
theorem scWo : FnScope ["graph", "edge", "other"] ["graph", "edge"] (defScope sWo) := ⟨rfl, rfl, rfl, by decide +kernel, rfl, by decide +kernel, by decide +kernel⟩
theorem ok_wo {f C CB fE fI : Addr} {fd fdE fdI : FuncData} (F : Fun K "without" "without" sWo f fd) (T : TxG K mg C) (B : TxE K mg "BadGraph" CB)
    (GE : FnOk P w K mg base CX0 3 fE fdE ["value", "size"] (spEdg K)) (kE' : PySem.W.keepIn K (.ref fE) = true) (bE : Binds K fdE ["value", "size"] []) (gE : mg "is_edge" = some (.ref fE))
    (GI : FnOk P w K mg base (L2.CX P w) 4 fI fdI ["self", "size", "edges"] (spInit K C CB)) (M : Mk K C fI) (bI : Binds K fdI ["self", "size", "edges"] []) :
    FnOk P w K mg base (L2.CX P w) 6 f fd ["graph", "edge"] (spWo K C CB) := by
  refine F.okX scWo (fun vs H Q E h => ?_) (fun cdv A outer s H vs Q E hr h => ?_)
  · obtain ⟨g, e, n, qs, i, j, rfl, _⟩ := h
    rfl
  · obtain ⟨g, e, n, qs, i, j, rfl, G, hS, hni, kE⟩ := h
    have ⟨dx, et, nt, hg, ⟨ets, hT, hP⟩, _⟩ := G.ob
    have hu : _ + 64 < cLine := hr.units
    have hr3 : Room 3 _ := hr.mono (by decide)
    refine ⟨_, pss_cons (ps_if (PW.pt (pw_or (pt_not (pt_val (pe_call GE hr3 (by rfl) gE kE' bE .nil pass0 (pa_cons (pv 1) (pa_cons (pe_fld (pv 0) rfl) pa_nil))))) (pw_or1 (pt_cmpR (op_notInDT (u65 hr)) (pv 1) (pe_fld (pv 0) rfl) (by rfl)))))
        (pss_one (ps_raise rfl (takes_of rfl rfl rfl rfl) (pmk_own PySem.F.excBase_ValueError B.x B.g B.k (raises_own B.b B.t) (by exact rfl)))) pss_nil)
      (pss_one (ps_ret (pe_make M GI hr (by rfl) T.g bI .nil (passes_call (takes_of rfl rfl rfl rfl) fun _ _ _ _ h => h) (pa_cons (pe_fld (pv 0) rfl)
        (pa_cons (pe_lc (own := [("other", 2)]) (g := gName 2) (by rfl) scWo.nd (pi_tup (pe_fld (pv 0) rfl)) (blkOk_by (own := [("other", 2)]) (N := ["graph", "edge", "other"]) (sc := defScope sWo) (by decide +kernel))
          (fun _ _ _ _ _ => pg_name (i := 2) scWo.nd rfl (Or.inl rfl)) (fun _ _ _ _ _ => pts_one (pt_cmpR (neD_at rfl rfl hu) (pv 2) (pv 1) (nomark _))) (fun _ _ _ _ _ => pv 2)) pa_nil))))), ?_⟩
    refine ⟨_, rfl, _, rfl, g, C, dx, _, .int n, rfl, hg, T.cl, T.nS, gf_size _ _ _, .ref e, _, n, rfl, .pair hS (.int i) (.int j), _, rfl, ?_⟩
    have fin : (!decide ((i, j) ∈ qs)) = true := by rw [decide_eq_false hni]; rfl
    refine ite2 (fun _ => ?_) (fun _ => ?_)
    · exact kE H (Same.refl H)
    · refine ⟨_, rfl, _, rfl, g, C, dx, _, .ref et, rfl, hg, T.cl, T.nE, gf_edges _ _ _, pD (i, j), qs.map pD, dp_pair hS, .tup hT (dp_pairs hP), pD_shaped _, pDs_shapedT _, _, rfl, ?_⟩
      rw [if_pos rfl, pDs_any, fin]
      exact iteT (kE H (Same.refl H))
end
end Sm

set_option Elab.async false
set_option linter.all false
set_option maxRecDepth 100000
set_option maxHeartbeats 4000000
namespace Sm
open PySem PySem.Spec PyProof.Rows L2
abbrev sNums : Stmt := topS 16
abbrev sTake : Stmt := topS 17
abbrev sPrs : Stmt := topS 18
abbrev sGr : Stmt := topS 19
/-- a number as the law draws it -/
def Dig (x : Int) : Prop := 0 ≤ x ∧ x < 1000
theorem cut_take (ns : List Int) (m : Nat) : cutV (ns.map V.int) none (some (m : Int)) = (ns.take m).map V.int := by
  unfold cutV
  rw [HT.sIx_none, HT.sIx_nat, List.drop_zero, Nat.sub_zero, List.length_map, ← List.map_take]
  congr 1
  by_cases h : m ≤ ns.length
  · rw [Nat.min_eq_left h]
  · rw [Nat.min_eq_right (by omega), List.take_length, List.take_of_length_le (by omega)]
def spNums (K : PySem.W.Frag) : Sp := fun vs H Q _ => ∃ (a : Addr) (ns : List Int) (m : Nat), vs = [.ref a, .int m] ∧ SqL K H a (ns.map V.int) ∧ ns.length ≤ 63 ∧
  ∀ (H' : Hp) (p : Addr) (out : List Int), Same H H' → H p = none → H' p = some (.lst (out.map V.int)) → (∀ x ∈ out, Dig x) → out.length ≤ m → Q (.ref p) H'
section
variable {P : Program} {w : World} {K : PySem.W.Frag} {mg : Str → Option Value} {base : Heap}
theorem scNums : FnScope ["script", "many", "numbers", "k", "cell", "j", "mixed"] ["script", "many"] (defScope sNums) := ⟨rfl, rfl, rfl, by decide +kernel, rfl, by decide +kernel, by decide +kernel⟩
theorem dig_mod (x : Int) : Dig (x % 1000) := ⟨by omega, by omega⟩
theorem dig_more {out : List Int} {x : Int} (h : ∀ x ∈ out, Dig x) (hx : Dig x) : ∀ y ∈ out ++ [x], Dig y := fun y hy => by
  rcases List.mem_append.mp hy with z | z
  · exact h y z
  · rw [List.mem_singleton.mp z]; exact hx
theorem ok_nums {f : Addr} {fd : FuncData} (F : Fun K "_law_numbers" "_law_numbers" sNums f fd) (mr : mg "range" = none) (ml : mg "len" = none) (ma : mg "abs" = none) (mi : mg "int" = none) : FnOk P w K mg base CX0 1 f fd ["script", "many"] (spNums K) := by
  refine F.ok scNums (fun vs H Q E h => ?_) (fun cdv A outer s H vs Q E hr h => ?_)
  · obtain ⟨a, ns, m, rfl, _⟩ := h
    rfl
  · obtain ⟨a, ns, m, rfl, hS, hlen, q⟩ := h
    refine ⟨_, pss_cons (ps_set (i := 2) scNums.nd rfl (.inl rfl) (pe_lst pa_nil))
      (pss_cons (ps_for PassesOwn.never rfl (pi_range1 rfl mr (pa_cons (pe_callB call_len_seq (by rfl) ml PySem.boot_len (pa_cons (pv 0) pa_nil)) pa_nil)) (pg_name (i := 3) scNums.nd rfl (.inl rfl))
        (pss_cons (ps_set (i := 4) scNums.nd rfl (.inl rfl) (pe_callB call_abs (by rfl) ma (by decide +kernel) (pa_cons (pe_ix ix_list (pv 0) (pv 3) (fun _ _ => rfl)) pa_nil)))
        (pss_one (ps_if (pt_cmpR op_ge (pv 4) (pe_op op_pow pe_int pe_int) (nomark _))
          (pss_one (ps_for PassesOwn.never rfl (pi_range1 rfl mr (pa_cons pe_int pa_nil)) (pg_name (i := 5) scNums.nd rfl (.inl rfl))
            (pss_one (ps_if (PW.pt (pw_and (pt_cmpR op_gt (pv 4) pe_int (nomark _)) (pw_and1 (pt_cmpR op_lt (pe_callB call_len_seq (by rfl) ml PySem.boot_len (pa_cons (pv 2) pa_nil)) (pv 1) (nomark _)))))
              (pss_cons (ps_expr (pe_bm PySem.F.plainAttrs_list PySem.F.slot_list_append PySem.F.type_list_append mt_append (pv 2) (pa_cons (pe_op op_mod (pv 4) pe_int) pa_nil)))
              (pss_one (ps_set (i := 4) scNums.nd rfl (.inl rfl) (pe_op op_fdiv (pv 4) pe_int)))) pss_nil))))
          (pss_one (ps_for PassesOwn.never rfl (pi_range1 rfl mr (pa_cons pe_int pa_nil)) (pg_name (i := 5) scNums.nd rfl (.inl rfl))
            (pss_cons (ps_set (i := 6) scNums.nd rfl (.inl rfl) (pe_op op_mod (pe_callTy call_int1 (by rfl) mi (by decide +kernel) (pa_cons (pe_op op_add (pe_op op_add (pe_op op_add (pe_op op_mul (pv 4) pe_int) (pe_op op_mul (pv 3) pe_int)) (pe_op op_mul (pv 5) pe_int)) pe_int) pa_nil)) pe_int))
            (pss_cons (ps_set (i := 6) scNums.nd rfl (.inl rfl) (pe_op op_mod (pe_callTy call_int1 (by rfl) mi (by decide +kernel) (pa_cons (pe_op op_add (pe_op op_mul (pv 6) (pv 6)) (pv 5)) pa_nil)) pe_int))
            (pss_one (ps_expr (pe_bm PySem.F.plainAttrs_list PySem.F.slot_list_append PySem.F.type_list_append mt_append (pv 2) (pa_cons (pe_op op_mod (pe_op op_fdiv (pv 6) pe_int) pe_int) pa_nil))))))))))))
      (pss_one (ps_ret (pe_slice sl_list (pv 2) po_none (po_some (pv 1)))))), ?_⟩
    refine ⟨Nat.zero_le _, fun p np => ?_⟩
    have s1 : Same H (upd H p (.lst [])) := same_upd np
    refine ⟨_, rfl, a, _, rfl, .inl (s1.seq hS), _, rfl, by rw [List.length_map]; omega, by rw [List.length_map]; omega, ?_⟩
    have toNat : ((((ns.map V.int).length : Nat) : Int)).toNat = ns.length := by rw [List.length_map]; omega
    rw [toNat]
    refine for_range (lo := 0) (n := ns.length) (fun i σ H' => ∃ (y3 y4 y5 y6 : Option V) (out : List Int), σ = [some (.ref a), some (.int m), some (.ref p), y3, y4, y5, y6] ∧ Same H H' ∧ H' p = some (.lst (out.map V.int)) ∧ (∀ x ∈ out, Dig x) ∧ out.length ≤ 60 * i)
      ⟨none, none, none, none, [], rfl, s1, upd_same, (fun x hx => by cases hx), by simp⟩ ?_ ?_
    · rintro i σ H' hi ⟨y3, y4, y5, y6, out, rfl, sm, ep, hd, hl⟩
      have hA := sm.seq hS
      have gi : (ns.map V.int)[i]? = some (.int ns[i]) := by rw [List.getElem?_map, List.getElem?_eq_getElem hi]; rfl
      generalize ns[i] = z at gi
      refine ⟨_, rfl, _, rfl, a, _, _, _, rfl, rfl, hA, (by rw [show (0 : Int) + i = (i : Int) by omega]; exact atI_nat gi), _, rfl, ?_⟩
      have cell0 : 0 ≤ (if z < 0 then -z else z) := by split <;> omega
      generalize (if z < 0 then -z else z) = cell at cell0
      refine ⟨_, rfl, _, _, rfl, rfl, ⟨by decide, by decide, by decide⟩, _, _, rfl, rfl, _, rfl, ?_⟩
      refine ite2 (fun _ => ?_) (fun c => ?_)
      · refine ⟨60, rfl, by decide, by decide, ?_⟩
        refine for_range (lo := 0) (n := 60) (fun j σ H2 => ∃ (y5 y6 : Option V) (cell : Int) (out : List Int), σ = [some (.ref a), some (.int m), some (.ref p), some (.int (0 + (i : Int))), some (.int cell), y5, y6] ∧ Same H H2 ∧ H2 p = some (.lst (out.map V.int)) ∧ (∀ x ∈ out, Dig x) ∧ out.length ≤ 60 * i + j ∧ 0 ≤ cell)
          ⟨_, _, cell, out, rfl, sm, ep, hd, by omega, cell0⟩ ?_ ?_
        · rintro j σ H2 hj ⟨y5, y6, cell, out, rfl, sm, ep, hd, hl, cell0⟩
          refine ⟨_, rfl, _, _, rfl, rfl, _, rfl, ?_⟩
          refine ite2 (fun _ => ?_) (fun _ => ?_)
          · refine ⟨_, rfl, p, _, rfl, .inl (SqL.of ep), _, rfl, _, _, rfl, rfl, _, rfl, ?_⟩
            refine ite2 (fun _ => ?_) (fun _ => ?_)
            · refine ⟨_, rfl, .inl ⟨rfl, _, SqL.of ep⟩, _, rfl, _, _, rfl, rfl, (by show (0 : Int) < 1000; decide), p, _, _, rfl, rfl, ep, by rw [List.length_map, sizeLine_eq]; omega, ?_⟩
              refine ⟨_, rfl, _, _, rfl, rfl, ⟨by decide, by decide⟩, ?_⟩
              exact ⟨_, _, cell / 1000, out ++ [cell % 1000], rfl, same_put sm np, by rw [upd_same, List.map_append]; rfl, dig_more hd (dig_mod _), by rw [List.length_append]; simp only [List.length_cons, List.length_nil]; omega, by omega⟩
            · exact ⟨_, _, cell, out, rfl, sm, ep, hd, by omega, cell0⟩
          · exact ⟨_, _, cell, out, rfl, sm, ep, hd, by omega, cell0⟩
        · rintro σ H2 ⟨y5, y6, cell, out, rfl, sm, ep, hd, hl, cell0⟩
          exact ⟨_, _, _, _, out, rfl, sm, ep, hd, by omega⟩
      · have cl : cell < 10 ^ 18 := Int.not_le.mp fun z => c (decide_eq_true z)
        refine ⟨5, rfl, by decide, by decide, ?_⟩
        refine for_range (lo := 0) (n := 5) (fun j σ H2 => ∃ (y5 y6 : Option V) (out : List Int), σ = [some (.ref a), some (.int m), some (.ref p), some (.int (0 + (i : Int))), some (.int cell), y5, y6] ∧ Same H H2 ∧ H2 p = some (.lst (out.map V.int)) ∧ (∀ x ∈ out, Dig x) ∧ out.length ≤ 60 * i + j)
          ⟨_, _, out, rfl, sm, ep, hd, by omega⟩ ?_ ?_
        · rintro j σ H2 hj ⟨y5, y6, out, rfl, sm, ep, hd, hl⟩
          refine ⟨_, rfl, _, _, rfl, rfl, .inl ⟨by omega, by omega⟩, ?_⟩
          refine ⟨_, rfl, _, _, rfl, rfl, .inl ⟨by omega, by omega⟩, _, _, rfl, rfl, ?_⟩
          refine ⟨_, rfl, _, _, rfl, rfl, .inl ⟨by omega, by omega⟩, _, _, rfl, rfl, _, _, rfl, rfl, .inl ⟨_, rfl, _, _, rfl, rfl, (by show (0 : Int) < 2147483647; decide), ?_⟩⟩
          have m0 : ∀ x : Int, 0 ≤ x % 2147483647 ∧ x % 2147483647 < 2147483647 := fun x => by omega
          generalize hm : (cell * 48271 + (0 + (i : Int)) * 69621 + (0 + (j : Int)) * 16807 + 11) % 2147483647 = mixed
          obtain ⟨mx0, mx1⟩ : 0 ≤ mixed ∧ mixed < 2147483647 := by rw [← hm]; exact m0 _
          refine ⟨_, rfl, _, rfl, _, _, rfl, rfl, .inl ⟨by omega, by omega⟩, _, rfl, _, _, rfl, rfl, .inl ⟨_, rfl, _, _, rfl, rfl, (by show (0 : Int) < 2147483629; decide), ?_⟩⟩
          refine ⟨_, rfl, .inl ⟨rfl, _, SqL.of ep⟩, _, rfl, _, _, rfl, rfl, ⟨by decide, by decide⟩, _, _, rfl, rfl, (by show (0 : Int) < 1000; decide), p, _, _, rfl, rfl, ep, by rw [List.length_map, sizeLine_eq]; omega, ?_⟩
          exact ⟨_, _, out ++ [_], rfl, same_put sm np, by rw [upd_same, List.map_append]; rfl, dig_more hd (dig_mod _), by rw [List.length_append]; simp only [List.length_cons, List.length_nil]; omega⟩
        · rintro σ H2 ⟨y5, y6, out, rfl, sm, ep, hd, hl⟩
          exact ⟨_, _, _, _, out, rfl, sm, ep, hd, by omega⟩
    · rintro σ H' ⟨y3, y4, y5, y6, out, rfl, sm, ep, hd, hl⟩
      refine ⟨_, rfl, _, rfl, _, rfl, p, _, rfl, SqL.of ep, fun l nl => ?_⟩
      rw [cut_take]
      exact q _ l (out.take m) (same_put sm (sm.free nl)) (sm.free nl) upd_same (fun x hx => hd x (List.mem_of_mem_take hx)) (by rw [List.length_take]; omega)
end
end Sm

set_option Elab.async false
set_option linter.all false
set_option maxRecDepth 100000
set_option maxHeartbeats 4000000
namespace Sm
open PySem PySem.Spec PyProof.Rows L2
/-- all as it was but at b, which is a list of one number that counts -/
def spTake (K : PySem.W.Frag) : Sp := fun vs H Q _ => ∃ (a b : Addr) (ns : List Int) (i : Nat), vs = [.ref a, .ref b] ∧ a ≠ b ∧ SqL K H a (ns.map V.int) ∧ (∀ x ∈ ns, Dig x) ∧ H b = some (.lst [.int i]) ∧
  ∀ (x : Int) (i' : Nat) (H' : Hp), Dig x → But b H H' → (∀ c, H c = none → H' c = none) → H' b = some (.lst [.int i']) → Q (.int x) H'
def rowP (n u : Nat) : List Pr := (List.range (n - (u + 1))).map fun i => ((u : Int), ((u + 1 + i : Nat) : Int))
def pairsL (n : Nat) : List Pr := (List.range n).flatMap fun u => rowP n u
theorem rowP_len (n u : Nat) : (rowP n u).length = n - (u + 1) := by unfold rowP; rw [List.length_map, List.length_range]
theorem flat_len (n : Nat) : ∀ k, k ≤ n → ((List.range k).flatMap fun u => rowP n u).length ≤ k * n
  | 0, _ => by simp
  | k + 1, h => by
    rw [List.range_succ, List.flatMap_append, List.length_append, List.flatMap_singleton, rowP_len]
    have := flat_len n k (by omega)
    rw [Nat.succ_mul]
    omega
theorem mem_rowP {n u : Nat} {q : Pr} (h : q ∈ rowP n u) (hu : u < n) : Okp n q := by
  obtain ⟨i, hi, rfl⟩ := List.mem_map.mp h
  have := List.mem_range.mp hi
  refine ⟨?_, ?_, ?_⟩ <;> dsimp only <;> omega
theorem mem_pairs {n : Nat} {q : Pr} (h : q ∈ pairsL n) : Okp n q := by
  obtain ⟨u, hu, h2⟩ := List.mem_flatMap.mp h
  exact mem_rowP h2 (List.mem_range.mp hu)
def spPrs (K : PySem.W.Frag) : Sp := fun vs H Q _ => ∃ n : Nat, vs = [.int n] ∧ n ≤ 60 ∧ ∀ (H' : Hp) (p : Addr) (as : List Addr), Same H H' → H p = none → H' p = some (.lst (as.map V.ref)) → PairsAt K H' as (pairsL n) → (∀ a ∈ as, a ≠ p) → Q (.ref p) H'
def spGr (K : PySem.W.Frag) : Sp := fun vs H Q _ => ∃ (a b : Addr) (ns : List Int) (i m : Nat), vs = [.ref a, .ref b, .int m] ∧ a ≠ b ∧ SqL K H a (ns.map V.int) ∧ (∀ x ∈ ns, Dig x) ∧ H b = some (.lst [.int i]) ∧ m ≤ 20 ∧
  ∀ (H' : Hp) (t e : Addr) (as : List Addr) (n i' : Nat) (es : List Pr), n ≤ m → But b H H' → H' b = some (.lst [.int i']) → H t = none → H e = none → H' t = some (.tup [.int n, .ref e]) → H' e = some (.lst (as.map V.ref)) → PairsAt K H' as es → es.Sublist (pairsL n) → Q (.ref t) H'
theorem Dig.nat {x : Int} (h : Dig x) (m : Nat) : ∃ k : Nat, x % ((m : Int) + 1) = k ∧ k ≤ m := by
  refine ⟨(x % ((m : Int) + 1)).toNat, ?_, ?_⟩
  · have := Int.emod_nonneg x (b := (m : Int) + 1) (by omega)
    omega
  · have := Int.emod_lt_of_pos x (b := (m : Int) + 1) (by omega)
    omega
theorem But.sqL {K : PySem.W.Frag} {p a : Addr} {H H' : Hp} {xs ys : List V} (s : But p H H') (hp : H p = some (.lst ys)) (h : SqL K H a xs) (ne : a ≠ p) : SqL K H' a xs := by
  rcases h with (h | ⟨o, h⟩) | h
  · exact .inl (.inl (s _ _ h ne))
  · exact .inl (.inr ⟨o, s _ _ h ne⟩)
  · exact .inr h
theorem But.trans {p : Addr} {H H1 H2 : Hp} (s : But p H H1) (t : But p H1 H2) : But p H H2 := fun b o e n => t b o (s b o e n) n
theorem But.sqTl {K : PySem.W.Frag} {p a : Addr} {H H' : Hp} {xs ys : List V} (s : But p H H') (hp : H p = some (.lst ys)) (h : SqT K H a xs) : SqT K H' a xs := by
  rcases h with (h | ⟨o, h⟩) | h
  · exact .inl (.inl (s _ _ h (fun z => by rw [z, hp] at h; cases h)))
  · exact .inl (.inr ⟨o, s _ _ h (fun z => by rw [z, hp] at h; cases h)⟩)
  · exact .inr h
theorem But.pairs {K : PySem.W.Frag} {p : Addr} {H H' : Hp} {ys : List V} (s : But p H H') (hp : H p = some (.lst ys)) : ∀ {as : List Addr} {qs : List Pr}, PairsAt K H as qs → PairsAt K H' as qs
  | _, _, .nil => .nil
  | _, _, .cons h t => .cons (s.sqTl hp h) (But.pairs s hp t)
theorem PairsAt.snoc {K : PySem.W.Frag} {H : Hp} {a : Addr} {q : Pr} (h : SqT K H a [.int q.1, .int q.2]) : ∀ {as : List Addr} {qs : List Pr}, PairsAt K H as qs → PairsAt K H (as ++ [a]) (qs ++ [q])
  | _, _, .nil => .cons h .nil
  | _, _, .cons h' t => .cons h' (PairsAt.snoc h t)
section
variable {P : Program} {w : World} {K : PySem.W.Frag} {mg : Str → Option Value} {base : Heap}
theorem scTake : FnScope ["numbers", "place"] ["numbers", "place"] (defScope sTake) := ⟨rfl, rfl, rfl, by decide +kernel, rfl, by decide +kernel, by decide +kernel⟩
theorem ok_take {f : Addr} {fd : FuncData} (F : Fun K "_law_take" "_law_take" sTake f fd) (ml : mg "len" = none) : FnOk P w K mg base CX0 1 f fd ["numbers", "place"] (spTake K) := by
  refine F.ok scTake (fun vs H Q E h => ?_) (fun cdv A outer s H vs Q E hr h => ?_)
  · obtain ⟨a, b, ns, i, rfl, _⟩ := h
    rfl
  · obtain ⟨a, b, ns, i, rfl, ne, hS, hd, hb, q⟩ := h
    refine ⟨_, pss_cons (ps_if (pt_cmpR op_lt (pe_ix ix_list (pv 1) pe_int (fun _ _ => rfl)) (pe_callB call_len_seq (by rfl) ml PySem.boot_len (pa_cons (pv 0) pa_nil)) (nomark _))
        (pss_cons (ps_asg (pe_op op_add (pe_ix ix_list (pv 1) pe_int (fun _ _ => rfl)) pe_int) (pg_sub (pv 1) pe_int set_list))
        (pss_one (ps_ret (pe_ix ix_list (pv 0) (pe_op op_sub (pe_ix ix_list (pv 1) pe_int (fun _ _ => rfl)) pe_int) (fun _ _ => rfl))))) pss_nil)
      (pss_one (ps_ret pe_int)), ?_⟩
    refine ⟨_, rfl, b, _, 0, .int i, rfl, rfl, SqL.of hb, atI_nat (j := 0) rfl, _, rfl, a, _, rfl, .inl hS, _, _, rfl, rfl, _, rfl, ?_⟩
    refine ite2 (fun c => ?_) (fun c => ?_)
    · have il : i < ns.length := by
        have z := of_decide_eq_true c
        rw [List.length_map] at z
        omega
      refine ⟨_, rfl, b, _, 0, .int i, rfl, rfl, SqL.of hb, atI_nat (j := 0) rfl, _, _, rfl, rfl, ?_⟩
      refine ⟨_, rfl, b, [.int i], 0, 0, rfl, rfl, hb, rfl, ?_⟩
      refine ⟨_, rfl, _, rfl, b, [.int (i + 1)], 0, .int (i + 1), rfl, rfl, SqL.of upd_same, atI_nat (j := 0) rfl, _, _, rfl, rfl, ?_⟩
      have e1 : (i : Int) + 1 - 1 = (i : Int) := by omega
      have sb : But b H (upd H b (.lst [.int (i + 1 : Nat)])) := fun c o e n => by rw [upd_ne n]; exact e
      have fr : ∀ c, H c = none → (upd H b (.lst [.int (i + 1 : Nat)])) c = none := fun c e => by rw [upd_ne (fun z => by rw [z, hb] at e; cases e)]; exact e
      have gi : (ns.map V.int)[i]? = some (.int ns[i]) := by rw [List.getElem?_map, List.getElem?_eq_getElem il]; rfl
      have gj : atI (ns.map V.int) ((i : Int) + 1 - 1) = some (.int ns[i]) := by rw [e1]; exact atI_nat gi
      exact ⟨a, _, _, .int ns[i], rfl, rfl, sb.sqL hb hS ne, gj, q _ (i + 1) _ (hd _ (List.getElem_mem il)) sb fr upd_same⟩
    · exact q 0 i H ⟨by decide, by decide⟩ (fun c o e _ => e) (fun c e => e) hb
theorem scPrs : FnScope ["size", "pairs", "u", "v"] ["size"] (defScope sPrs) := ⟨rfl, rfl, rfl, by decide +kernel, rfl, by decide +kernel, by decide +kernel⟩
theorem ok_prs {f : Addr} {fd : FuncData} (F : Fun K "_law_pairs" "_law_pairs" sPrs f fd) (mr : mg "range" = none) : FnOk P w K mg base CX0 1 f fd ["size"] (spPrs K) := by
  refine F.ok scPrs (fun vs H Q E h => ?_) (fun cdv A outer s H vs Q E hr h => ?_)
  · obtain ⟨n, rfl, _⟩ := h
    rfl
  · obtain ⟨n, rfl, hn, q⟩ := h
    refine ⟨_, pss_cons (ps_set (i := 1) scPrs.nd rfl (.inl rfl) (pe_lst pa_nil))
      (pss_cons (ps_for PassesOwn.never rfl (pi_range1 rfl mr (pa_cons (pv 0) pa_nil)) (pg_name (i := 2) scPrs.nd rfl (.inl rfl))
        (pss_one (ps_for PassesOwn.never rfl (pi_range2 (by rfl) mr (pa_cons (pe_op op_add (pv 2) pe_int) (pa_cons (pv 0) pa_nil))) (pg_name (i := 3) scPrs.nd rfl (.inl rfl))
          (pss_one (ps_expr (pe_bm PySem.F.plainAttrs_list PySem.F.slot_list_append PySem.F.type_list_append mt_append (pv 1) (pa_cons (pe_tup (pa_cons (pv 2) (pa_cons (pv 3) pa_nil))) pa_nil)))))))
      (pss_one (ps_ret (pv 1)))), ?_⟩
    refine ⟨Nat.zero_le _, fun p np => ?_⟩
    have s1 : Same H (upd H p (.lst [])) := same_upd np
    refine ⟨_, rfl, n, rfl, by omega, by omega, ?_⟩
    have toNat : ((n : Nat) : Int).toNat = n := by omega
    rw [toNat]
    refine for_range (lo := 0) (n := n) (fun u σ H' => ∃ (y2 y3 : Option V) (as : List Addr), σ = [some (.int n), some (.ref p), y2, y3] ∧ Same H H' ∧ H' p = some (.lst (as.map V.ref)) ∧ PairsAt K H' as ((List.range u).flatMap fun u => rowP n u) ∧ ∀ a ∈ as, a ≠ p)
      ⟨none, none, [], rfl, s1, upd_same, .nil, fun a ha => by cases ha⟩ ?_ ?_
    · rintro u σ H' hu ⟨y2, y3, as, rfl, sm, ep, pa, na⟩
      refine ⟨_, rfl, _, _, rfl, rfl, _, rfl, (0 + (u : Int) + 1), n, rfl, ⟨by omega, by omega, by omega, by omega⟩, ?_⟩
      have toN : ((n : Int) - (0 + (u : Int) + 1)).toNat = n - (u + 1) := by omega
      rw [toN]
      refine for_range (lo := (0 + (u : Int) + 1)) (n := n - (u + 1)) (fun i σ H' => ∃ (y3 : Option V) (as : List Addr), σ = [some (.int n), some (.ref p), some (.int (0 + (u : Int))), y3] ∧ Same H H' ∧ H' p = some (.lst (as.map V.ref)) ∧
        PairsAt K H' as (((List.range u).flatMap fun u => rowP n u) ++ (rowP n u).take i) ∧ ∀ a ∈ as, a ≠ p)
        ⟨_, as, rfl, sm, ep, by rw [List.take_zero, List.append_nil]; exact pa, na⟩ ?_ ?_
      · rintro i σ H' hi ⟨y3, as, rfl, sm, ep, pa, na⟩
        refine ⟨_, rfl, .inl ⟨rfl, _, SqL.of ep⟩, _, rfl, _, rfl, (by show 2 ≤ sizeLine; decide), fun t nt => ?_⟩
        have pt : p ≠ t := fun z => by rw [← z, ep] at nt; cases nt
        have st : Same H' (upd H' t (.tup [.int (0 + (u : Int)), .int (0 + (u : Int) + 1 + (i : Int))])) := same_upd nt
        have len : as.length ≤ n * n + n := by
          have z := pa.length
          rw [z, List.length_append, List.length_take, rowP_len]
          have f1 := flat_len n u (by omega)
          have f2 : u * n ≤ n * n := Nat.mul_le_mul_right n (by omega)
          omega
        have len2 : n * n ≤ 60 * 60 := Nat.mul_le_mul hn hn
        refine ⟨p, _, _, rfl, rfl, st _ _ ep, by rw [List.length_map, sizeLine_eq]; omega, ?_⟩
        have e1 : (rowP n u)[i]? = some ((u : Int), ((u + 1 + i : Nat) : Int)) := by
          unfold rowP
          rw [List.getElem?_map, List.getElem?_range hi]
          rfl
        have bt : But p H' (upd (upd H' t (.tup [.int (0 + (u : Int)), .int (0 + (u : Int) + 1 + (i : Int))])) p (.lst (as.map V.ref ++ [.ref t]))) := (Same.but st).put
        refine ⟨_, as ++ [t], rfl, same_put (same_put sm (sm.free nt)) np, by rw [upd_same, List.map_append]; rfl, ?_, fun a ha => ?_⟩
        · rw [L2.take_next e1, ← List.append_assoc]
          refine PairsAt.snoc ?_ (bt.pairs ep pa)
          refine SqT.of ?_
          rw [upd_ne pt.symm, upd_same]
          have a1 : (0 : Int) + (u : Int) = (u : Int) := by omega
          have a2 : (u : Int) + 1 + (i : Int) = ((u + 1 + i : Nat) : Int) := by omega
          rw [a1, a2]
        · rcases List.mem_append.mp ha with z | z
          · exact na a z
          · rw [List.mem_singleton.mp z]; exact pt.symm
      · rintro σ H' ⟨y3, as, rfl, sm, ep, pa, na⟩
        refine ⟨_, _, as, rfl, sm, ep, ?_, na⟩
        rw [List.range_succ, List.flatMap_append, List.flatMap_singleton]
        rw [List.take_of_length_le (by rw [rowP_len]; omega)] at pa
        exact pa
    · rintro σ H' ⟨y2, y3, as, rfl, sm, ep, pa, na⟩
      exact ⟨_, rfl, q H' p as sm np ep pa na⟩
end
end Sm

set_option Elab.async false
set_option linter.all false
set_option maxRecDepth 100000
set_option maxHeartbeats 4000000
namespace Sm
open PySem PySem.Spec PyProof.Rows L2
theorem But.free {p q : Addr} {H H' : Hp} {o : HO} (s : But p H H') (hp : H' p = some o) (h : H' q = none) : H q = none := by
  cases e : H q with
  | none => rfl
  | some o' =>
    by_cases z : q = p
    · rw [z, hp] at h; cases h
    · rw [s _ _ e z] at h; cases h
section
variable {P : Program} {w : World} {K : PySem.W.Frag} {mg : Str → Option Value} {base : Heap}
theorem scGr : FnScope ["numbers", "place", "most", "size", "dense", "edges", "pair"] ["numbers", "place", "most"] (defScope sGr) := ⟨rfl, rfl, rfl, by decide +kernel, rfl, by decide +kernel, by decide +kernel⟩
theorem ok_gr {f fT fP : Addr} {fd fdT fdP : FuncData} (F : Fun K "_law_graph" "_law_graph" sGr f fd)
    (GT : FnOk P w K mg base CX0 1 fT fdT ["numbers", "place"] (spTake K)) (kT : PySem.W.keepIn K (.ref fT) = true) (bT : Binds K fdT ["numbers", "place"] []) (gT : mg "_law_take" = some (.ref fT))
    (GP : FnOk P w K mg base CX0 1 fP fdP ["size"] (spPrs K)) (kP : PySem.W.keepIn K (.ref fP) = true) (bP : Binds K fdP ["size"] []) (gP : mg "_law_pairs" = some (.ref fP)) :
    FnOk P w K mg base CX0 2 f fd ["numbers", "place", "most"] (spGr K) := by
  refine F.ok scGr (fun vs H Q E h => ?_) (fun cdv A outer s H vs Q E hr h => ?_)
  · obtain ⟨a, b, ns, i, m, rfl, _⟩ := h
    rfl
  · obtain ⟨a, b, ns, i, m, rfl, ne, hS, hd, hb, hm, q⟩ := h
    refine ⟨_, pss_cons (ps_set (i := 3) scGr.nd rfl (.inl rfl) (pe_op op_mod (pe_call GT hr (by rfl) gT kT bT .nil pass0 (pa_cons (pv 0) (pa_cons (pv 1) pa_nil))) (pe_op op_add (pv 2) pe_int)))
      (pss_cons (ps_set (i := 4) scGr.nd rfl (.inl rfl) (pe_op op_add pe_int (pe_op op_mod (pe_call GT hr (by rfl) gT kT bT .nil pass0 (pa_cons (pv 0) (pa_cons (pv 1) pa_nil))) pe_int)))
      (pss_cons (ps_set (i := 5) scGr.nd rfl (.inl rfl) (pe_lst pa_nil))
      (pss_cons (ps_for PassesOwn.never rfl (pi_list (pe_call GP hr (by rfl) gP kP bP .nil pass0 (pa_cons (pv 3) pa_nil))) (pg_name (i := 6) scGr.nd rfl (.inl rfl))
        (pss_one (ps_if (pt_cmpR op_lt (pe_op op_mod (pe_call GT hr (by rfl) gT kT bT .nil pass0 (pa_cons (pv 0) (pa_cons (pv 1) pa_nil))) pe_int) (pv 4) (nomark _))
          (pss_one (ps_expr (pe_bm PySem.F.plainAttrs_list PySem.F.slot_list_append PySem.F.type_list_append mt_append (pv 5) (pa_cons (pv 6) pa_nil)))) pss_nil)))
      (pss_one (ps_ret (pe_tup (pa_cons (pv 3) (pa_cons (pv 5) pa_nil)))))))), ?_⟩
    -- size
    refine ⟨_, rfl, _, rfl, a, b, ns, i, rfl, ne, hS, hd, hb, fun x1 i1 H1 d1 b1 _ e1 => ?_⟩
    obtain ⟨n, en, hn⟩ := d1.nat m
    refine ⟨_, rfl, _, _, rfl, rfl, _, _, rfl, rfl, (by show (0 : Int) < (m : Int) + 1; omega), ?_⟩
    dsimp only
    rw [en]
    -- dense
    refine ⟨_, rfl, _, rfl, a, b, ns, i1, rfl, ne, b1.sqL hb hS ne, hd, e1, fun x2 i2 H2 d2 b2 _ e2 => ?_⟩
    have B2 : But b H H2 := b1.trans b2
    refine ⟨_, _, rfl, rfl, (by show (0 : Int) < 5; decide), _, _, rfl, rfl, ?_⟩
    -- edges = []
    refine ⟨Nat.zero_le _, fun e ne2 => ?_⟩
    have eb : e ≠ b := fun z => by rw [z, e2] at ne2; cases ne2
    have neH : H e = none := B2.free e2 ne2
    have S3 : Same H2 (upd H2 e (.lst [])) := same_upd ne2
    -- for pair in _law_pairs(size)
    refine ⟨_, rfl, n, rfl, by omega, fun H4 p aps S4 np ep pa na => ?_⟩
    have np2 : H2 p = none := S3.free np
    have pe' : p ≠ e := fun z => by rw [z, upd_same] at np; cases np
    have pb : p ≠ b := fun z => by rw [z, S3 _ _ e2] at np; cases np
    have B4 : But b H H4 := (B2.same S3).same S4
    have e4 : H4 b = some (.lst [.int i2]) := S4 _ _ (S3 _ _ e2)
    have ee4 : H4 e = some (.lst []) := S4 _ _ upd_same
    refine ⟨p, rfl, ⟨_, SqL.of ep⟩, for_list (K := K) (a := p) (xs := aps.map V.ref) (fun t σ H' => ∃ (y6 : Option V) (i' : Nat) (as' : List Addr) (es' : List Pr), σ = [some (.ref a), some (.ref b), some (.int m), some (.int n), some (.int (1 + x2 % 5)), some (.ref e), y6] ∧
      But b H H' ∧ H' b = some (.lst [.int i']) ∧ H' p = some (.lst (aps.map V.ref)) ∧ PairsAt K H' aps (pairsL n) ∧ H' e = some (.lst (as'.map V.ref)) ∧ PairsAt K H' as' es' ∧ es'.Sublist ((pairsL n).take t))
      ⟨none, i2, [], [], rfl, B4, e4, ep, pa, ee4, .nil, List.nil_sublist _⟩ (fun t σ H' _ ⟨_, _, _, _, _, _, _, h, _⟩ => SqL.of h) ?_ ?_⟩
    · rintro t x σ H' hx ⟨y6, i', as', es', rfl, bh, ib, ep', pa', ee', pe2, sl⟩
      rw [List.getElem?_map] at hx
      cases ea : aps[t]? with
      | none => rw [ea] at hx; cases hx
      | some at_ =>
        rw [ea] at hx
        cases hx
        obtain ⟨pq, hq, _⟩ := pa'.get ea
        refine ⟨_, rfl, _, rfl, a, b, ns, i', rfl, ne, bh.sqL hb hS ne, hd, ib, fun x3 i3 H5 d3 b5 _ e5 => ?_⟩
        have ep5 := b5 _ _ ep' pb
        have ee5 := b5 _ _ ee' eb
        have pa5 := b5.pairs ib pa'
        have pe5 := b5.pairs ib pe2
        have tq : t < (pairsL n).length := (List.getElem?_eq_some_iff.mp hq).1
        refine ⟨_, _, rfl, rfl, (by show (0 : Int) < 6; decide), _, rfl, _, _, rfl, rfl, _, rfl, ?_⟩
        refine ite2 (fun _ => ?_) (fun _ => ?_)
        · have few : as'.length ≤ 400 := by
            have z1 := pe2.length
            have z2 := sl.length_le
            rw [List.length_take] at z2
            have z3 := flat_len n n (Nat.le_refl _)
            have z4 : n * n ≤ 20 * 20 := Nat.mul_le_mul (by omega) (by omega)
            unfold pairsL at z2
            omega
          refine ⟨_, rfl, .inl ⟨rfl, _, SqL.of ee5⟩, _, rfl, e, _, _, rfl, rfl, ee5, by rw [List.length_map]; exact small1000 (by omega), ?_⟩
          have be : But e H5 (upd H5 e (.lst (as'.map V.ref ++ [.ref at_]))) := fun c o h n => by rw [upd_ne n]; exact h
          have pa6 := be.pairs ee5 pa5
          obtain ⟨pq', hq', hs'⟩ := pa6.get ea
          rw [hq] at hq'
          cases hq'
          refine ⟨_, i3, as' ++ [at_], es' ++ [pq], rfl, ?_, by rw [upd_ne eb.symm]; exact e5, by rw [upd_ne pe']; exact ep5, pa6, by rw [upd_same, List.map_append]; rfl, PairsAt.snoc hs' (be.pairs ee5 pe5), ?_⟩
          · exact (bh.trans b5).new neH
          · rw [L2.take_next hq]
            exact sl.append (List.Sublist.refl _)
        · exact ⟨_, i3, as', es', rfl, bh.trans b5, e5, ep5, pa5, ee5, pe5, sl.trans (List.take_sublist_take_left (by omega))⟩
    · rintro σ H' ⟨y6, i', as', es', rfl, bh, ib, ep', pa', ee', pe2, sl⟩
      refine ⟨_, rfl, _, rfl, (by show 2 ≤ sizeLine; decide), fun t nt => ?_⟩
      have et : e ≠ t := fun z => by rw [← z, ee'] at nt; cases nt
      have bt : b ≠ t := fun z => by rw [← z, ib] at nt; cases nt
      have st : Same H' (upd H' t (.tup [.int n, .ref e])) := same_upd nt
      exact q _ t e as' n i' es' hn (bh.same st) (st _ _ ib) (bh.free ib nt) neH upd_same (st _ _ ee') (pe2.same st) (sl.trans (List.take_sublist _ _))
end
end Sm

set_option Elab.async false
set_option linter.all false
set_option maxRecDepth 100000
set_option maxHeartbeats 4000000
namespace Sm
open PySem PySem.Spec PyProof.Rows L2
abbrev sRef : Stmt := topS 22
theorem pass_any {X : Cx} {W : WX} (m : Nat) (hm : X.N.length = m) (tk : Takes X W) : Passes (L2.CX X.prog X.w) X (fun cls d H => ∀ σ : L2.St, σ.length = m → W cls d σ H) := fun _ σ _ _ e s' I c => tk e s' (XE.of_call I (fun cls d H' h => h σ (I.len.trans hm)) c)
theorem call_isE' {X : Cx} {K : PySem.W.Frag} {a D : Addr} {oe : Obj} {cls : Value} {d : Option Addr} {pn : List (Addr × Obj)} (hK : X.K = K) (C : ExcC K D) (hz : Zc cls d oe) (hf : ∃ vs, oe.data = .fields vs) :
    CallR (X.suite a ((a, oe) :: pn)) (.builtin "isinstance") (fun xs H Q => cls = .ref D ∧ d = none ∧ rIsE K D a xs H Q) := by
  subst hK
  intro pins s σ H xs us Q I r ⟨e1, e2, h⟩
  subst e1
  subst e2
  exact call_isE C hz hf pins s σ H xs us Q I r h
theorem ixT_at {X : Cx} {K : PySem.W.Frag} (hK : X.K = K) : IxR X (rIxT K) := by
  subst hK
  exact ix_tup
theorem len4 {σ : L2.St} (h : σ.length = 4) : ∃ a b c d, σ = [a, b, c, d] := by
  match σ, h with
  | [a, b, c, d], _ => exact ⟨a, b, c, d, rfl⟩
theorem slot3 {σ : L2.St} (h : σ.length = 4) {v : Option V} : (σ.set 3 v)[3]? = some v := by simp [List.getElem?_set, h]
theorem ev_same {K : PySem.W.Frag} {H H' : Hp} (s : Same H H') : ∀ {xs : List V} {es : List EV}, Paired (EdgeV K H) xs es → Paired (EdgeV K H') xs es
  | _, _, .nil => .nil
  | _, _, .cons h t => .cons (h.same s) (ev_same s t)
/-- what the law asks to be refused -/
inductive Refd (K : PySem.W.Frag) (C : Addr) (H : Hp) (g : Addr) (n : Nat) (qs : List Pr) : Int → V → Prop where
  | w0 {t e : Addr} {k : Int} {xs : List V} {es : List EV} : SqT K H t [.int k, .ref e] → SqL K H e xs → Paired (EdgeV K H) xs es → es.length ≤ 75 → mkE k es = none → Refd K C H g n qs 0 (.ref t)
  | w1 {i : Int} : vtxB n (some i) = false → Refd K C H g n qs 1 (.int i)
  | w2 {i : Int} : vtxB n (some i) = false → Refd K C H g n qs 2 (.int i)
  | w3 {i : Int} : vtxB n (some i) = false → Refd K C H g n qs 3 (.int i)
  | w4 {a : Addr} {xs : List V} {is : List (Option Int)} : SqL K H a xs → Paired IB xs is → is.length ≤ 100 → vscan n [] is = none → Refd K C H g n qs 4 (.ref a)
  | w5 {a : Addr} {xs : List V} {is : List (Option Int)} : SqL K H a xs → Paired IB xs is → is.length ≤ 100 → (is.length ≠ n ∨ vscan n [] is = none) → Refd K C H g n qs 5 (.ref a)
  | w6 {e : Addr} {i j : Int} : SqT K H e [.int i, .int j] → (i, j) ∉ qs → Refd K C H g n qs 6 (.ref e)
def spRefd (K : PySem.W.Frag) (C : Addr) : Sp := fun vs H Q _ => ∃ (way : Int) (g : Addr) (v : V) (n : Nat) (qs : List Pr), vs = [.int way, .ref g, v] ∧ GraphAt K C H g n qs ∧ Refd K C H g n qs way v ∧ ∀ H', Same H H' → Q (.bl true) H'
/-- the classes of the errors, as isinstance asks -/
structure TxI (K : PySem.W.Frag) (mg : Str → Option Value) (CB CW CT : Addr) : Prop where
  ex : ExcC K CB
  gW : mg "WidthError" = some (.ref CW)
  gT : mg "TooLarge" = some (.ref CT)
  kW : PySem.W.kitOne K (.ref CB) (.ref CW) = some true
  kV : PySem.W.kitOne K (.ref CB) (.type "ValueError") = some true
  kT : PySem.W.kitOne K (.ref CB) (.ref CT) = some false
  em : PySem.W.exmOne K (.ref CB) (.ref CB) = some true
  ve : mg "ValueError" = none
  isi : mg "isinstance" = none
section
variable {P : Program} {w : World} {K : PySem.W.Frag} {mg : Str → Option Value} {base : Heap}
theorem scRef : FnScope ["way", "graph", "value", "error"] ["way", "graph", "value"] (defScope sRef) := ⟨rfl, rfl, rfl, by decide +kernel, rfl, by decide +kernel, by decide +kernel⟩
theorem ok_ref {f C CB CW CT fI fNe fH fP fR fW : Addr} {fd fdI fdNe fdH fdP fdR fdW : FuncData} (F : Fun K "_law_refused" "_law_refused" sRef f fd) (T : TxG K mg C) (B : TxE K mg "BadGraph" CB) (TI : TxI K mg CB CW CT)
    (GI : FnOk P w K mg base (L2.CX P w) 4 fI fdI ["self", "size", "edges"] (spInit K C CB)) (M : Mk K C fI) (bI : Binds K fdI ["self", "size", "edges"] [])
    (GNe : FnOk P w K mg base (L2.CX P w) 4 fNe fdNe ["self", "u"] (spNear K C CB)) (mNe : Meth K C "near" fNe) (bNe : Binds K fdNe ["self", "u"] [])
    (GH : FnOk P w K mg base (L2.CX P w) 4 fH fdH ["self", "u", "v"] (spHas K C CB)) (mH : Meth K C "has" fH) (bH : Binds K fdH ["self", "u", "v"] [])
    (GP : FnOk P w K mg base (L2.CX P w) 6 fP fdP ["graph", "vertices"] (spPart K C CB)) (kP : PySem.W.keepIn K (.ref fP) = true) (bP : Binds K fdP ["graph", "vertices"] []) (gP : mg "part" = some (.ref fP))
    (GR : FnOk P w K mg base (L2.CX P w) 7 fR fdR ["graph", "order"] (spRen K C CB)) (kR : PySem.W.keepIn K (.ref fR) = true) (bR : Binds K fdR ["graph", "order"] []) (gR : mg "renumbered" = some (.ref fR))
    (GW : FnOk P w K mg base (L2.CX P w) 6 fW fdW ["graph", "edge"] (spWo K C CB)) (kW : PySem.W.keepIn K (.ref fW) = true) (bW : Binds K fdW ["graph", "edge"] []) (gW : mg "without" = some (.ref fW)) :
    FnOk P w K mg base CX0 8 f fd ["way", "graph", "value"] (spRefd K C) := by
  refine F.ok scRef (fun vs H Q E h => ?_) (fun cdv A outer s H vs Q E hr h => ?_)
  · obtain ⟨way, g, v, n, qs, rfl, _⟩ := h
    rfl
  · obtain ⟨way, g, v, n, qs, rfl, G, R, q⟩ := h
    have hr5 : Room 5 _ := hr.mono (by decide)
    have hr4 : Room 4 _ := hr.mono (by decide)
    have hr6 : Room 6 _ := hr.mono (by decide)
    refine ⟨_, pss_cons (ps_try_as (i := 3) (Wout := fun _ _ _ _ => False) rfl rfl scRef.nd rfl rfl ⟨rfl, by decide, .inl B.g⟩ takes0
        (fun W pn xe tk _ => by exact (pss_one (ps_if (pt_cmpR op_eq (pv 0) pe_int (nomark _)) (pss_one (ps_expr (pe_make M GI hr5 (by rfl) T.g bI .nil (pass_any 4 rfl tk) (pa_cons (pe_ix (ixT_at (K := K) rfl) (pv 2) pe_int (fun _ _ => rfl)) (pa_cons (pe_ix (ixT_at (K := K) rfl) (pv 2) pe_int (fun _ _ => rfl)) pa_nil)))))
            (pss_one (ps_if (pt_cmpR op_eq (pv 0) pe_int (nomark _)) (pss_one (ps_expr (pe_meth (pv 1) T.cl mNe GNe hr4 bNe .nil (pass_any 4 rfl tk) (pa_cons (pv 2) pa_nil))))
            (pss_one (ps_if (pt_cmpR op_eq (pv 0) pe_int (nomark _)) (pss_one (ps_expr (pe_meth (pv 1) T.cl mH GH hr4 bH .nil (pass_any 4 rfl tk) (pa_cons (pv 2) (pa_cons pe_int pa_nil)))))
            (pss_one (ps_if (pt_cmpR op_eq (pv 0) pe_int (nomark _)) (pss_one (ps_expr (pe_meth (pv 1) T.cl mH GH hr4 bH .nil (pass_any 4 rfl tk) (pa_cons pe_int (pa_cons (pv 2) pa_nil)))))
            (pss_one (ps_if (pt_cmpR op_eq (pv 0) pe_int (nomark _)) (pss_one (ps_expr (pe_call GP hr6 (by rfl) gP kP bP .nil (pass_any 4 rfl tk) (pa_cons (pv 1) (pa_cons (pv 2) pa_nil)))))
            (pss_one (ps_if (pt_cmpR op_eq (pv 0) pe_int (nomark _)) (pss_one (ps_expr (pe_call GR hr (by rfl) gR kR bR .nil (pass_any 4 rfl tk) (pa_cons (pv 1) (pa_cons (pv 2) pa_nil)))))
            (pss_one (ps_expr (pe_call GW hr6 (by rfl) gW kW bW .nil (pass_any 4 rfl tk) (pa_cons (pv 1) (pa_cons (pv 2) pa_nil))))))))))))))))))
        (fun a oe cls d pn hz hf => by exact (pss_one (ps_ret (pe_and (pe_callB (call_isE' (K := K) rfl TI.ex hz hf) (by rfl) TI.isi (by decide +kernel) (pa_cons (pv 3) (pa_cons (pe_glob (v := .ref CW) rfl TI.gW rfl) pa_nil))) (pe_and (pe_callB (call_isE' (K := K) rfl TI.ex hz hf) (by rfl) TI.isi (by decide +kernel) (pa_cons (pv 3) (pa_cons (pe_bltn (v := .ty "ValueError") (by rfl) TI.ve (by decide +kernel) rfl) pa_nil))) (pe_one (pe_not (pe_callB (call_isE' (K := K) rfl TI.ex hz hf) (by rfl) TI.isi (by decide +kernel) (pa_cons (pv 3) (pa_cons (pe_glob (v := .ref CT) rfl TI.gT rfl) pa_nil)))))))))))
      (pss_one (ps_ret pe_bl)), ?_⟩
    cases R with
    | @w0 t e k xs es hT hL hE hl hbad =>
      refine ⟨_, rfl, rfl, _, rfl, iteY (by decide) ?_⟩
      refine ⟨_, rfl, t, _, 0, .int k, rfl, rfl, hT, atI_nat (j := 0) rfl, _, rfl, t, _, 1, .ref e, rfl, rfl, hT, atI_nat (j := 1) rfl, fun x dx nx ndx nex => ?_⟩
      have s0 : Same H (upd (upd H dx (.own x)) x (.ins C dx [])) := same_put (same_upd ndx) nx
      refine ⟨x, dx, k, e, xs, es, rfl, upd_same, s0.seq hL, ?_, hl, fun _ H' sm => ?_, fun ps hps => by rw [hbad] at hps; cases hps⟩
      · exact ev_same s0 hE
      · intro σ' hσ
        refine ⟨true, TI.em, fun _ a ha => ?_, fun z => by cases z⟩
        refine ⟨.ref a, slot3 hσ, rfl, rfl, .ref CW, .ref CW, true, rfl, fun u r => r, TI.kW, true, rfl, iteT ?_⟩
        refine ⟨.ref a, slot3 hσ, rfl, rfl, .ty "ValueError", .type "ValueError", true, rfl, fun u r => r, TI.kV, true, rfl, iteT ?_⟩
        exact ⟨.ref a, slot3 hσ, rfl, rfl, .ref CT, .ref CT, false, rfl, fun u r => r, TI.kT, false, rfl, q _ (s0.trans sm)⟩
    | @w1 i hi =>
      refine ⟨_, rfl, rfl, _, rfl, iteD (by decide) ?_⟩
      refine ⟨_, rfl, rfl, _, rfl, iteY (by decide) ?_⟩
      obtain ⟨dxg, etg, ntg, hg, _⟩ := G.ob
      refine ⟨_, rfl, g, dxg, _, rfl, hg, gf_no _ _ _ (by decide +kernel) (by decide +kernel) (by decide +kernel), _, rfl, g, n, qs, .int i, some i, rfl, G, .int i, fun _ => ?_, fun u eu hu => ?_⟩
      · intro σ' hσ
        refine ⟨true, TI.em, fun _ a ha => ?_, fun z => by cases z⟩
        refine ⟨.ref a, slot3 hσ, rfl, rfl, .ref CW, .ref CW, true, rfl, fun u r => r, TI.kW, true, rfl, iteT ?_⟩
        refine ⟨.ref a, slot3 hσ, rfl, rfl, .ty "ValueError", .type "ValueError", true, rfl, fun u r => r, TI.kV, true, rfl, iteT ?_⟩
        exact ⟨.ref a, slot3 hσ, rfl, rfl, .ref CT, .ref CT, false, rfl, fun u r => r, TI.kT, false, rfl, q _ (Same.refl H)⟩
      · cases eu
        rw [vtxB_of hu] at hi
        cases hi
    | @w2 i hi =>
      refine ⟨_, rfl, rfl, _, rfl, iteD (by decide) ?_⟩
      refine ⟨_, rfl, rfl, _, rfl, iteD (by decide) ?_⟩
      refine ⟨_, rfl, rfl, _, rfl, iteY (by decide) ?_⟩
      obtain ⟨dxg, etg, ntg, hg, _⟩ := G.ob
      refine ⟨_, rfl, g, dxg, _, rfl, hg, gf_no _ _ _ (by decide +kernel) (by decide +kernel) (by decide +kernel), _, rfl, g, n, qs, .int i, .int 0, some i, some 0, rfl, G, .int i, .int 0, fun _ => ?_, fun u w eu ew hu hw => ?_⟩
      · intro σ' hσ
        refine ⟨true, TI.em, fun _ a ha => ?_, fun z => by cases z⟩
        refine ⟨.ref a, slot3 hσ, rfl, rfl, .ref CW, .ref CW, true, rfl, fun u r => r, TI.kW, true, rfl, iteT ?_⟩
        refine ⟨.ref a, slot3 hσ, rfl, rfl, .ty "ValueError", .type "ValueError", true, rfl, fun u r => r, TI.kV, true, rfl, iteT ?_⟩
        exact ⟨.ref a, slot3 hσ, rfl, rfl, .ref CT, .ref CT, false, rfl, fun u r => r, TI.kT, false, rfl, q _ (Same.refl H)⟩
      · cases eu
        rw [vtxB_of hu] at hi
        cases hi
    | @w3 i hi =>
      refine ⟨_, rfl, rfl, _, rfl, iteD (by decide) ?_⟩
      refine ⟨_, rfl, rfl, _, rfl, iteD (by decide) ?_⟩
      refine ⟨_, rfl, rfl, _, rfl, iteD (by decide) ?_⟩
      refine ⟨_, rfl, rfl, _, rfl, iteY (by decide) ?_⟩
      obtain ⟨dxg, etg, ntg, hg, _⟩ := G.ob
      refine ⟨_, rfl, g, dxg, _, rfl, hg, gf_no _ _ _ (by decide +kernel) (by decide +kernel) (by decide +kernel), _, rfl, g, n, qs, .int 0, .int i, some 0, some i, rfl, G, .int 0, .int i, fun _ => ?_, fun u w eu ew hu hw => ?_⟩
      · intro σ' hσ
        refine ⟨true, TI.em, fun _ a ha => ?_, fun z => by cases z⟩
        refine ⟨.ref a, slot3 hσ, rfl, rfl, .ref CW, .ref CW, true, rfl, fun u r => r, TI.kW, true, rfl, iteT ?_⟩
        refine ⟨.ref a, slot3 hσ, rfl, rfl, .ty "ValueError", .type "ValueError", true, rfl, fun u r => r, TI.kV, true, rfl, iteT ?_⟩
        exact ⟨.ref a, slot3 hσ, rfl, rfl, .ref CT, .ref CT, false, rfl, fun u r => r, TI.kT, false, rfl, q _ (Same.refl H)⟩
      · cases ew
        rw [vtxB_of hw] at hi
        cases hi
    | @w4 a xs is hL hI hl hbad =>
      refine ⟨_, rfl, rfl, _, rfl, iteD (by decide) ?_⟩
      refine ⟨_, rfl, rfl, _, rfl, iteD (by decide) ?_⟩
      refine ⟨_, rfl, rfl, _, rfl, iteD (by decide) ?_⟩
      refine ⟨_, rfl, rfl, _, rfl, iteD (by decide) ?_⟩
      refine ⟨_, rfl, rfl, _, rfl, iteY (by decide) ?_⟩
      refine ⟨_, rfl, _, rfl, g, a, n, qs, xs, is, rfl, G, hL, hI, hl, hbad, fun H' sm => ?_⟩
      intro σ' hσ
      refine ⟨true, TI.em, fun _ a ha => ?_, fun z => by cases z⟩
      refine ⟨.ref a, slot3 hσ, rfl, rfl, .ref CW, .ref CW, true, rfl, fun u r => r, TI.kW, true, rfl, iteT ?_⟩
      refine ⟨.ref a, slot3 hσ, rfl, rfl, .ty "ValueError", .type "ValueError", true, rfl, fun u r => r, TI.kV, true, rfl, iteT ?_⟩
      exact ⟨.ref a, slot3 hσ, rfl, rfl, .ref CT, .ref CT, false, rfl, fun u r => r, TI.kT, false, rfl, q _ sm⟩
    | @w5 a xs is hL hI hl hbad =>
      refine ⟨_, rfl, rfl, _, rfl, iteD (by decide) ?_⟩
      refine ⟨_, rfl, rfl, _, rfl, iteD (by decide) ?_⟩
      refine ⟨_, rfl, rfl, _, rfl, iteD (by decide) ?_⟩
      refine ⟨_, rfl, rfl, _, rfl, iteD (by decide) ?_⟩
      refine ⟨_, rfl, rfl, _, rfl, iteD (by decide) ?_⟩
      refine ⟨_, rfl, rfl, _, rfl, iteY (by decide) ?_⟩
      refine ⟨_, rfl, _, rfl, g, a, n, qs, xs, is, rfl, G, hL, hI, hl, hbad, fun H' sm => ?_⟩
      intro σ' hσ
      refine ⟨true, TI.em, fun _ a ha => ?_, fun z => by cases z⟩
      refine ⟨.ref a, slot3 hσ, rfl, rfl, .ref CW, .ref CW, true, rfl, fun u r => r, TI.kW, true, rfl, iteT ?_⟩
      refine ⟨.ref a, slot3 hσ, rfl, rfl, .ty "ValueError", .type "ValueError", true, rfl, fun u r => r, TI.kV, true, rfl, iteT ?_⟩
      exact ⟨.ref a, slot3 hσ, rfl, rfl, .ref CT, .ref CT, false, rfl, fun u r => r, TI.kT, false, rfl, q _ sm⟩
    | @w6 e i j hT hni =>
      refine ⟨_, rfl, rfl, _, rfl, iteD (by decide) ?_⟩
      refine ⟨_, rfl, rfl, _, rfl, iteD (by decide) ?_⟩
      refine ⟨_, rfl, rfl, _, rfl, iteD (by decide) ?_⟩
      refine ⟨_, rfl, rfl, _, rfl, iteD (by decide) ?_⟩
      refine ⟨_, rfl, rfl, _, rfl, iteD (by decide) ?_⟩
      refine ⟨_, rfl, rfl, _, rfl, iteD (by decide) ?_⟩
      refine ⟨_, rfl, _, rfl, g, e, n, qs, i, j, rfl, G, hT, hni, fun H' sm => ?_⟩
      intro σ' hσ
      refine ⟨true, TI.em, fun _ a ha => ?_, fun z => by cases z⟩
      refine ⟨.ref a, slot3 hσ, rfl, rfl, .ref CW, .ref CW, true, rfl, fun u r => r, TI.kW, true, rfl, iteT ?_⟩
      refine ⟨.ref a, slot3 hσ, rfl, rfl, .ty "ValueError", .type "ValueError", true, rfl, fun u r => r, TI.kV, true, rfl, iteT ?_⟩
      exact ⟨.ref a, slot3 hσ, rfl, rfl, .ref CT, .ref CT, false, rfl, fun u r => r, TI.kT, false, rfl, q _ sm⟩
end
end Sm

set_option Elab.async false
set_option linter.all false
set_option maxRecDepth 100000
set_option maxHeartbeats 4000000
namespace Sm
open PySem PySem.Spec PyProof.Rows L2
/-! ### what an expression gives, whatever follows -/
/-- from where Pre holds, te ends in a value of which G holds; what stood stands -/
def Giv (Pre : L2.St → Hp → Prop) (te : TE) (G : V → Hp → Prop) : Prop := ∀ σ H Q, Pre σ H → (∀ v H', Same H H' → G v H' → Q v H') → te σ H Q
/-- that a fact is kept -/
def Stay (G : Hp → Prop) : Prop := ∀ H H', Same H H' → G H → G H'
section
variable {Pre : L2.St → Hp → Prop} (hP : ∀ σ, Stay (Pre σ))
include hP
theorem giv_all {G : V → Hp → Prop} (hG : ∀ v, Stay (G v)) : ∀ {tes : List TE} {ta : TA}, (∀ te ∈ tes, Giv Pre te G) → ta = tes.foldr tCons tNil → ∀ σ H (Q : List V → Hp → Prop), Pre σ H →
    (∀ vs H', Same H H' → vs.length = tes.length → (∀ v ∈ vs, G v H') → Q vs H') → ta σ H Q
  | [], _, _, rfl, σ, H, Q, _, q => q [] H (Same.refl H) rfl fun v hv => by cases hv
  | te :: tes, _, h, rfl, σ, H, Q, p, q => by
    refine h te List.mem_cons_self σ H _ p fun v H1 s1 g1 => ?_
    refine giv_all hG (fun te' h' => h te' (List.mem_cons_of_mem _ h')) rfl σ H1 _ (hP σ _ _ s1 p) fun vs H2 s2 l2 g2 => ?_
    refine q (v :: vs) H2 (s1.trans s2) (by rw [List.length_cons, List.length_cons, l2]) fun u hu => ?_
    rcases List.mem_cons.mp hu with z | z
    · rw [z]; exact hG v _ _ s2 g1
    · exact g2 u z
/-- a list or a tuple displayed -/
theorem giv_lst {G : V → Hp → Prop} {tes : List TE} {ta : TA} (hG : ∀ v, Stay (G v)) (h : ∀ te ∈ tes, Giv Pre te G) (e : ta = tes.foldr tCons tNil) (few : tes.length ≤ 1000) :
    Giv Pre (tLst ta) fun v H => ∃ p vs, v = .ref p ∧ H p = some (.lst vs) ∧ vs.length = tes.length ∧ ∀ u ∈ vs, G u H := fun σ H Q p q => by
  refine giv_all hP hG h e σ H _ p fun vs H1 s1 l1 g1 => ⟨Nat.le_of_lt (small1000 (by omega)), fun r nr => ?_⟩
  have s2 : Same H1 (upd H1 r (.lst vs)) := same_upd nr
  exact q _ _ (s1.trans s2) ⟨r, vs, rfl, upd_same, l1, fun u hu => hG u _ _ s2 (g1 u hu)⟩
theorem lst_from {G : V → Hp → Prop} {tes : List TE} {ta : TA} (hG : ∀ v, Stay (G v)) (h : ∀ te ∈ tes, Giv Pre te G) (e : ta = tes.foldr tCons tNil) (few : tes.length ≤ 1000) (σ : L2.St) (H : Hp) (Q : VK) (p : Pre σ H)
    (q : ∀ r vs H1, Same H H1 → Pre σ H1 → H1 r = none → vs.length = tes.length → (∀ u ∈ vs, G u H1) → Q (.ref r) (upd H1 r (.lst vs))) : tLst ta σ H Q := by
  refine giv_all hP hG h e σ H _ p fun vs H1 s1 l1 g1 => ⟨Nat.le_of_lt (small1000 (by omega)), fun r nr => ?_⟩
  exact q r vs H1 s1 (hP σ _ _ s1 p) nr l1 g1
theorem tup_from {G : V → Hp → Prop} {tes : List TE} {ta : TA} (hG : ∀ v, Stay (G v)) (h : ∀ te ∈ tes, Giv Pre te G) (e : ta = tes.foldr tCons tNil) (few : tes.length ≤ 1000) (σ : L2.St) (H : Hp) (Q : VK) (p : Pre σ H)
    (q : ∀ v H1, Same H H1 → (∃ r vs, v = .ref r ∧ H1 r = some (.tup vs) ∧ vs.length = tes.length ∧ ∀ u ∈ vs, G u H1) → Q v H1) : tTup ta σ H Q := by
  refine giv_all hP hG h e σ H _ p fun vs H1 s1 l1 g1 => ⟨Nat.le_of_lt (small1000 (by omega)), fun r nr => ?_⟩
  have s2 : Same H1 (upd H1 r (.tup vs)) := same_upd nr
  exact q _ _ (s1.trans s2) ⟨r, vs, rfl, upd_same, l1, fun u hu => hG u _ _ s2 (g1 u hu)⟩
/-- a loop over a tuple displayed: what holds between its turns is said of the heap ahead of it -/
theorem for_disp {K : PySem.W.Frag} {G : V → Hp → Prop} {tes : List TE} {ta : TA} {g : TG} {tb : TS} {D : Ends} (hG : ∀ v, Stay (G v)) (h : ∀ te ∈ tes, Giv Pre te G) (e : ta = tes.foldr tCons tNil) (few : tes.length ≤ 1000) (σ : L2.St) (H : Hp) (p : Pre σ H)
    (Pv : Hp → L2.St → Hp → Prop) (h0 : ∀ H1, Same H H1 → Pv H1 σ H1) (hl : ∀ H1 σ2 H2, Pv H1 σ2 H2 → Same H1 H2)
    (hs : ∀ H1 x σ2 H2, Same H H1 → Pv H1 σ2 H2 → G x H2 → g x σ2 H2 fun σ3 H3 => tb { D with nx := Pv H1, ct := Pv H1, bk := D.nx } σ3 H3) (hd : ∀ H1 σ2 H2, Same H H1 → Pv H1 σ2 H2 → D.nx σ2 H2) : tFor (iTup K (tTup ta)) g tb D σ H := by
  unfold tFor iTup
  refine tup_from hP hG h e few σ H _ p fun v H1 s1 hv => ?_
  obtain ⟨r, vs, rfl, hr, _, hg⟩ := hv
  exact ⟨r, rfl, ⟨_, SqT.of hr⟩, for_tup (K := K) (a := r) (xs := vs) (fun _ => Pv H1) (h0 H1 s1) (fun _ σ2 H2 _ q => SqT.of (hl _ _ _ q _ _ hr)) (fun i x σ2 H2 hx q => hs H1 x σ2 H2 s1 q (hG x _ _ (hl _ _ _ q) (hg x (List.mem_of_getElem? hx)))) (fun σ2 H2 q => hd H1 σ2 H2 s1 q)⟩
theorem giv_tup {G : V → Hp → Prop} {tes : List TE} {ta : TA} (hG : ∀ v, Stay (G v)) (h : ∀ te ∈ tes, Giv Pre te G) (e : ta = tes.foldr tCons tNil) (few : tes.length ≤ 1000) :
    Giv Pre (tTup ta) fun v H => ∃ p vs, v = .ref p ∧ H p = some (.tup vs) ∧ vs.length = tes.length ∧ ∀ u ∈ vs, G u H := fun σ H Q p q => by
  refine giv_all hP hG h e σ H _ p fun vs H1 s1 l1 g1 => ⟨Nat.le_of_lt (small1000 (by omega)), fun r nr => ?_⟩
  have s2 : Same H1 (upd H1 r (.tup vs)) := same_upd nr
  exact q _ _ (s1.trans s2) ⟨r, vs, rfl, upd_same, l1, fun u hu => hG u _ _ s2 (g1 u hu)⟩
end
/-! ### edges that are refused at the end of a list -/
theorem scan_bad {n : Int} {e : EV} (h : edgB n e = false) : ∀ (l : List EV) (seen : List Pr), scan n seen (l ++ [e]) = none := fun l seen => by
  rw [scan_app]
  cases scan n seen l with
  | none => rfl
  | some s =>
    show (if edgB n e = true ∧ prOf e ∉ s then _ else none) = none
    rw [if_neg (by rw [h]; simp)]
theorem mk_bad {n : Int} {e : EV} (h : edgB n e = false) (l : List EV) : mkE n (l ++ [e]) = none := by
  unfold mkE
  split
  · exact scan_bad h l []
  · rfl
def evs (es : List Pr) : List EV := es.map fun q => some (some q.1, some q.2)
theorem ev_pairs {K : PySem.W.Frag} {H : Hp} : ∀ {as : List Addr} {es : List Pr}, PairsAt K H as es → Paired (EdgeV K H) (as.map V.ref) (evs es)
  | _, _, .nil => .nil
  | _, _, .cons h t => .cons (.pair h (.int _) (.int _)) (ev_pairs t)
theorem ev_app {K : PySem.W.Frag} {H : Hp} : ∀ {xs ys : List V} {es fs : List EV}, Paired (EdgeV K H) xs es → Paired (EdgeV K H) ys fs → Paired (EdgeV K H) (xs ++ ys) (es ++ fs)
  | _, _, _, _, .nil, h => h
  | _, _, _, _, .cons h t, h' => .cons h (ev_app t h')
theorem ev_take {K : PySem.W.Frag} {H : Hp} : ∀ {xs : List V} {es : List EV} (n : Nat), Paired (EdgeV K H) xs es → Paired (EdgeV K H) (xs.take n) (es.take n)
  | _, _, 0, _ => .nil
  | _, _, _ + 1, .nil => .nil
  | _, _, n + 1, .cons h t => .cons h (ev_take n t)
theorem scan_evs {n : Int} : ∀ (es seen : List Pr), (∀ q ∈ es, Okp n q) → (∀ q ∈ es, q ∉ seen) → es.Nodup → scan n seen (evs es) = some (seen ++ es)
  | [], seen, _, _, _ => by rw [List.append_nil]; rfl
  | q :: es, seen, h1, h2, h3 => by
    obtain ⟨a, b, c⟩ := h1 q List.mem_cons_self
    have e : edgB n (some (some q.1, some q.2)) = true := by
      simp only [edgB, vtxB, Bool.and_eq_true, decide_eq_true_eq]
      omega
    show (if edgB n (some (some q.1, some q.2)) = true ∧ prOf (some (some q.1, some q.2)) ∉ seen then scan n (seen ++ [prOf (some (some q.1, some q.2))]) (evs es) else none) = _
    rw [if_pos ⟨e, h2 q List.mem_cons_self⟩]
    obtain ⟨d1, d2⟩ := List.nodup_cons.mp h3
    rw [scan_evs es _ (fun r hr => h1 r (List.mem_cons_of_mem _ hr)) (fun r hr hm => ?_) d2]
    · show some (seen ++ [q] ++ es) = _
      rw [List.append_assoc]
      rfl
    · rcases List.mem_append.mp hm with z | z
      · exact h2 r (List.mem_cons_of_mem _ hr) z
      · rw [List.mem_singleton.mp z] at hr
        exact d1 hr
theorem mk_evs {n : Nat} {es : List Pr} (h : n ≤ 60) (h1 : ∀ q ∈ es, Okp n q) (h3 : es.Nodup) : mkE n (evs es) = some es := by
  unfold mkE
  rw [if_pos ⟨by omega, by omega⟩]
  exact scan_evs es [] h1 (fun q _ => by simp) h3
/-! ### vertices that are refused -/
theorem vscan_eq {n : Int} : ∀ (l : List (Option Int)) (seen s : List Int), vscan n seen l = some s → s = seen ++ l.map (·.getD 0)
  | [], seen, s, h => by
    cases h
    rw [List.map_nil, List.append_nil]
  | e :: l, seen, s, h => by
    have h' : (if vtxB n e = true ∧ e.getD 0 ∉ seen then vscan n (seen ++ [e.getD 0]) l else none) = some s := h
    by_cases c : vtxB n e = true ∧ e.getD 0 ∉ seen
    · rw [if_pos c] at h'
      rw [vscan_eq l _ s h', List.append_assoc]
      rfl
    · rw [if_neg c] at h'
      cases h'
theorem vscan_last {n : Int} {o : Option Int} (l : List (Option Int)) (h : vtxB n o = false ∨ o.getD 0 ∈ l.map (·.getD 0)) : vscan n [] (l ++ [o]) = none := by
  rw [vscan_app]
  cases e : vscan n [] l with
  | none => rfl
  | some s =>
    have z := vscan_eq l [] s e
    show (if vtxB n o = true ∧ o.getD 0 ∉ s then _ else none) = none
    refine if_neg fun c => ?_
    rcases h with h | h
    · rw [h] at c; cases c.1
    · exact c.2 (by rw [z, List.nil_append]; exact h)
theorem vscan_first {n : Int} {o : Option Int} (l : List (Option Int)) (h : vtxB n o = false) : vscan n [] (o :: l) = none := by
  show (if vtxB n o = true ∧ o.getD 0 ∉ [] then _ else none) = none
  rw [if_neg (by rw [h]; simp)]
end Sm

set_option Elab.async false
set_option linter.all false
set_option maxRecDepth 100000
set_option maxHeartbeats 4000000
namespace Sm
open PySem PySem.Spec PyProof.Rows L2
theorem Refd.same {K : PySem.W.Frag} {C : Addr} {H H' : Hp} {g : Addr} {n : Nat} {qs : List Pr} {w : Int} {v : V} (s : Same H H') (h : Refd K C H g n qs w v) : Refd K C H' g n qs w v := by
  cases h with
  | w0 h1 h2 h3 h4 h5 => exact .w0 (same_sqT s h1) (s.seq h2) (ev_same s h3) h4 h5
  | w1 h => exact .w1 h
  | w2 h => exact .w2 h
  | w3 h => exact .w3 h
  | w4 h1 h2 h3 h4 => exact .w4 (s.seq h1) h2 h3 h4
  | w5 h1 h2 h3 h4 => exact .w5 (s.seq h1) h2 h3 h4
  | w6 h1 h2 => exact .w6 (same_sqT s h1) h2
structure LawSt (K : PySem.W.Frag) (C : Addr) (H : Hp) (n : Nat) (e g : Addr) (as : List Addr) (es qs : List Pr) : Prop where
  he : H e = some (.lst (as.map V.ref))
  pa : PairsAt K H as es
  ga : GraphAt K C H g (n + 1) qs
theorem LawSt.same {K : PySem.W.Frag} {C : Addr} {H H' : Hp} {n : Nat} {e g : Addr} {as : List Addr} {es qs : List Pr} (s : Same H H') (h : LawSt K C H n e g as es qs) : LawSt K C H' n e g as es qs :=
  ⟨s _ _ h.he, h.pa.same s, h.ga.same s⟩
/-! ### the parts of the displays -/
section
variable {K : PySem.W.Frag} {C : Addr} {n : Nat} {e g : Addr} {as : List Addr} {es qs : List Pr}
abbrev Pre (K : PySem.W.Frag) (C : Addr) (n : Nat) (e g : Addr) (as : List Addr) (es qs : List Pr) (x : Int) : L2.St → Hp → Prop := fun σ H => σ[4]? = some (some (.int ((n + 1 : Nat) : Int))) ∧ σ[5]? = some (some (.ref e)) ∧ σ[6]? = some (some (.int x)) ∧ LawSt K C H n e g as es qs
theorem pre_stay {x : Int} (σ : L2.St) : Stay (Pre K C n e g as es qs x σ) := fun H H' s h => ⟨h.1, h.2.1, h.2.2.1, h.2.2.2.same s⟩
/-- v is what the law wants refused in the way w -/
abbrev Wv (K : PySem.W.Frag) (C : Addr) (n : Nat) (g : Addr) (qs : List Pr) (w : Int) : V → Hp → Prop := fun v H => Refd K C H g (n + 1) qs w v
theorem wv_stay {w : Int} (v : V) : Stay (Wv K C n g qs w v) := fun H H' s h => h.same s
variable {x : Int} (few : es.length ≤ 36)
include few
theorem giv_item {tx : TE} {ev : EV} (hx : Giv (Pre K C n e g as es qs x) tx fun v H => EdgeV K H v ev) (hb : edgB ((n + 1 : Nat) : Int) ev = false) :
    Giv (Pre K C n e g as es qs x) (tTup (tCons (tVar 4) (tCons (tOp rCat (tVar 5) (tLst (tCons tx tNil))) tNil))) (Wv K C n g qs 0) := by
  intro σ H Q p q
  refine ⟨_, p.1, _, p.2.1, hx σ H _ p fun v H1 s1 g1 => ⟨(by show 1 ≤ sizeLine; decide), fun l nl => ?_⟩⟩
  have L1 := p.2.2.2.same s1
  have s2 : Same H1 (upd H1 l (.lst [v])) := same_upd nl
  have L2' := L1.same s2
  have len := L1.pa.length
  refine ⟨e, l, _, _, rfl, rfl, L2'.he, upd_same, by rw [List.length_map, sizeLine_eq]; simp only [List.length_cons, List.length_nil]; omega, fun c nc => ?_⟩
  have s3 : Same (upd H1 l (.lst [v])) (upd (upd H1 l (.lst [v])) c (.lst (as.map V.ref ++ [v]))) := same_upd nc
  refine ⟨(by show 2 ≤ sizeLine; decide), fun t nt => ?_⟩
  have s4 := same_upd (o := .tup [V.int ((n + 1 : Nat) : Int), .ref c]) nt
  have s23 : Same H1 _ := (s2.trans s3).trans s4
  refine q _ _ (s1.trans s23) (.w0 (SqT.of upd_same) (SqL.of (s4 _ _ upd_same)) (ev_app (ev_pairs (L1.pa.same s23)) (.cons (g1.same s23) .nil)) ?_ (mk_bad hb _))
  rw [List.length_append, evs, List.length_map]
  simp only [List.length_cons, List.length_nil]
  omega
theorem giv_item2 {tx : TE} {ev : EV} (hx : Giv (Pre K C n e g as es qs x) tx fun v H => EdgeV K H v ev) (hb : edgB ((n + 1 : Nat) : Int) ev = false) :
    Giv (Pre K C n e g as es qs x) (tTup (tCons (tVar 4) (tCons (tOp rCat (tOp rCat (tVar 5) (tSl (rSlL K) (tVar 5) tNoPart (tPart (tC (.int 1))))) (tLst (tCons tx tNil))) tNil))) (Wv K C n g qs 0) := by
  intro σ H Q p q
  have len := p.2.2.2.pa.length
  refine ⟨_, p.1, _, p.2.1, _, p.2.1, 1, rfl, e, _, rfl, SqL.of p.2.2.2.he, fun l nl => ?_⟩
  have s1 : Same H (upd H l (.lst (cutV (as.map V.ref) none (some 1)))) := same_upd nl
  have cl : (cutV (as.map V.ref) none (some 1)).length ≤ as.length := by
    have z := cutV_length (as.map V.ref) none (some 1)
    rw [List.length_map] at z
    exact z
  have ce : cutV (as.map V.ref) none (some 1) = (as.map V.ref).take 1 := by
    unfold cutV
    rw [HT.sIx_none, show HT.sIx (as.map V.ref).length (as.map V.ref).length (some 1) = min 1 (as.map V.ref).length from HT.sIx_nat _ _ 1, List.drop_zero, Nat.sub_zero]
    by_cases h : 1 ≤ (as.map V.ref).length
    · rw [Nat.min_eq_left h]
    · rw [Nat.min_eq_right (by omega), List.take_of_length_le (by omega), List.take_of_length_le (by omega)]
  generalize cutV (as.map V.ref) none (some 1) = cz at s1 cl ce ⊢
  refine ⟨e, l, _, _, rfl, rfl, s1 _ _ p.2.2.2.he, upd_same, by rw [List.length_map, sizeLine_eq]; omega, fun c nc => ?_⟩
  have s2 := same_upd (o := .lst (as.map V.ref ++ cz)) nc
  have p2 := pre_stay (x := x) σ _ _ (s1.trans s2) p
  refine hx σ _ _ p2 fun v H3 s3 g3 => ⟨(by show 1 ≤ sizeLine; decide), fun l2 nl2 => ?_⟩
  have s4 := same_upd (o := .lst [v]) nl2
  refine ⟨c, l2, _, _, rfl, rfl, s4 _ _ (s3 _ _ upd_same), upd_same, by rw [List.length_append, List.length_map, sizeLine_eq]; simp only [List.length_cons, List.length_nil]; omega, fun d nd => ?_⟩
  have s5 := same_upd (o := .lst (as.map V.ref ++ cz ++ [v])) nd
  refine ⟨(by show 2 ≤ sizeLine; decide), fun t nt => ?_⟩
  have s6 := same_upd (o := .tup [V.int ((n + 1 : Nat) : Int), .ref d]) nt
  have s36 : Same H3 _ := (s4.trans s5).trans s6
  have sAll : Same H _ := ((s1.trans s2).trans s3).trans s36
  have PA := p.2.2.2.pa.same sAll
  have g1 := ev_take 1 (ev_pairs PA)
  rw [← ce] at g1
  refine q _ _ sAll (.w0 (SqT.of upd_same) (SqL.of (s6 _ _ upd_same)) (ev_app (ev_app (ev_pairs PA) g1) (.cons (g3.same s36) .nil)) ?_ (mk_bad hb _))
  rw [List.length_append, List.length_append, List.length_take, evs, List.length_map]
  simp only [List.length_cons, List.length_nil]
  omega
omit few
theorem giv_empty {k : Int} {tk : TE} (hk : ∀ σ H Q, Q (.int k) H → tk σ H Q) (hb : mkE k [] = none) : Giv (Pre K C n e g as es qs x) (tTup (tCons tk (tCons (tLst tNil) tNil))) (Wv K C n g qs 0) := by
  intro σ H Q p q
  refine hk σ H _ ⟨Nat.zero_le _, fun l nl => ⟨(by show 2 ≤ sizeLine; decide), fun t nt => ?_⟩⟩
  have s1 := same_upd (o := .lst []) nl
  have s2 := same_upd (o := .tup [V.int k, .ref l]) nt
  exact q _ _ (s1.trans s2) (.w0 (SqT.of upd_same) (SqL.of (s2 _ _ upd_same)) .nil (by simp) hb)
/-- a pair of numbers displayed -/
theorem giv_pair {i j : Int} {ti tj : TE} (hi : ∀ σ H Q, Pre K C n e g as es qs x σ H → Q (.int i) H → ti σ H Q) (hj : ∀ σ H Q, Pre K C n e g as es qs x σ H → Q (.int j) H → tj σ H Q) :
    Giv (Pre K C n e g as es qs x) (tTup (tCons ti (tCons tj tNil))) fun v H => EdgeV K H v (some (some i, some j)) := fun σ H Q p q =>
  hi σ H _ p (hj σ H _ p ⟨(by show 2 ≤ sizeLine; decide), fun t nt => q _ _ (same_upd nt) (.pair (SqT.of upd_same) (.int i) (.int j))⟩)
end
/-! ### lists of vertices -/
def isR (b : Int) : List (Option Int) := (List.range (b - 0).toNat).map fun (i : Nat) => some ((0 : Int) + (i : Int))
theorem ib_map (f : Nat → Int) : ∀ l : List Nat, Paired IB (l.map fun (i : Nat) => V.int (f i)) (l.map fun (i : Nat) => some (f i))
  | [] => .nil
  | _ :: l => .cons (.int _) (ib_map f l)
theorem ib_rg (b : Int) : Paired IB (rgV 0 b) (isR b) := ib_map (fun i => (0 : Int) + (i : Int)) _
theorem ib_app {xs ys : List V} {is js : List (Option Int)} (h : Paired IB xs is) (h' : Paired IB ys js) : Paired IB (xs ++ ys) (is ++ js) := by
  induction h with
  | nil => exact h'
  | cons a _ ih => exact .cons a ih
theorem ib_drop1 {xs : List V} {is : List (Option Int)} (h : Paired IB xs is) : Paired IB (xs.drop 1) (is.drop 1) := by
  cases h with
  | nil => exact .nil
  | cons _ t => exact t
theorem ib_rep (k : Nat) : Paired IB ((List.replicate k [V.int 0]).flatten) (List.replicate k (some 0)) := by
  induction k with
  | zero => exact .nil
  | succ k ih =>
    rw [List.replicate_succ, List.replicate_succ, List.flatten_cons]
    exact .cons (.int 0) ih
theorem rep_len (k : Nat) : ((List.replicate k [V.int 0]).flatten).length = k := by
  have z := (ib_rep k).length
  rw [List.length_replicate] at z
  exact z
theorem isR_len (n : Nat) : (isR ((n + 1 : Nat) : Int)).length = n + 1 := by
  unfold isR
  rw [List.length_map, List.length_range]
  omega
theorem isR_zero (n : Nat) : (0 : Int) ∈ (isR ((n + 1 : Nat) : Int)).map (·.getD 0) := by
  refine List.mem_map.mpr ⟨some (0 + ((0 : Nat) : Int)), List.mem_map.mpr ⟨0, List.mem_range.mpr (by omega), rfl⟩, rfl⟩
theorem cut_from1 (xs : List V) : cutV xs (some 1) none = xs.drop 1 := by
  have e : HT.sIx xs.length 0 (some 1) = min 1 xs.length := HT.sIx_nat _ _ 1
  unfold cutV
  rw [e, HT.sIx_none]
  match xs with
  | [] => rfl
  | x :: r =>
    have z : min 1 (x :: r).length = 1 := by rw [List.length_cons]; omega
    rw [z]
    refine List.take_of_length_le ?_
    rw [List.length_drop]
    exact Nat.le_refl _
end Sm

set_option Elab.async false
set_option linter.all false
set_option maxRecDepth 100000
set_option maxHeartbeats 8000000
namespace Sm
open PySem PySem.Spec PyProof.Rows L2
abbrev sLaw : Stmt := topS 23
abbrev lawN : List Str := ["script", "numbers", "place", "drawn", "size", "edges", "change", "graph", "wrong", "value", "way", "order", "absent", "pair"]
abbrev slots (a p pl t e g : Addr) (n : Nat) (x : Int) (y8 y9 y10 y11 y12 y13 : Option V) : L2.St := [some (.ref a), some (.ref p), some (.ref pl), some (.ref t), some (.int ((n + 1 : Nat) : Int)), some (.ref e), some (.int x), some (.ref g), y8, y9, y10, y11, y12, y13]
theorem notInD_at {X : Cx} {A : Around} {K : PySem.W.Frag} (hA : X.A = A) (hK : X.K = K) (hu : A.units + 65 < cLine) : OpR X (compareOp .NotIn) (rNotInD K) := by
  subst hA
  subst hK
  exact op_notInD hu
def spLaw (K : PySem.W.Frag) : Sp := fun vs H Q _ => ∃ (a : Addr) (ns : List Int), vs = [.ref a] ∧ SqL K H a (ns.map V.int) ∧ ns.length ≤ 63 ∧ ∀ H', Q (.bl true) H'
theorem pairs8 : ((List.range 9).all fun n => decide (pairsL n).Nodup) = true := by decide +kernel
theorem pairs_nd {n : Nat} (h : n ≤ 8) : (pairsL n).Nodup := of_decide_eq_true (List.all_eq_true.mp pairs8 n (List.mem_range.mpr (by omega)))
theorem pairs_few {n : Nat} (h : n ≤ 8) : (pairsL n).length ≤ 36 := by
  have z : ((List.range 9).all fun n => decide ((pairsL n).length ≤ 36)) = true := by decide +kernel
  exact of_decide_eq_true (List.all_eq_true.mp z n (List.mem_range.mpr (by omega)))
section
variable {P : Program} {w : World} {K : PySem.W.Frag} {mg : Str → Option Value} {base : Heap}
theorem scLaw : FnScope lawN ["script"] (defScope sLaw) := ⟨rfl, rfl, rfl, by decide +kernel, rfl, by decide +kernel, by decide +kernel⟩
set_option maxHeartbeats 0 in
theorem ok_law {f C CB fI fR fN fG fT fP : Addr} {fd fdI fdR fdN fdG fdT fdP : FuncData} (F : Fun K "law" "law" sLaw f fd) (T : TxG K mg C)
    (GI : FnOk P w K mg base (L2.CX P w) 4 fI fdI ["self", "size", "edges"] (spInit K C CB)) (M : Mk K C fI) (bI : Binds K fdI ["self", "size", "edges"] [])
    (GR : FnOk P w K mg base CX0 8 fR fdR ["way", "graph", "value"] (spRefd K C)) (kR : PySem.W.keepIn K (.ref fR) = true) (bR : Binds K fdR ["way", "graph", "value"] []) (gR : mg "_law_refused" = some (.ref fR))
    (GN : FnOk P w K mg base CX0 1 fN fdN ["script", "many"] (spNums K)) (kN : PySem.W.keepIn K (.ref fN) = true) (bN : Binds K fdN ["script", "many"] []) (gN : mg "_law_numbers" = some (.ref fN))
    (GG : FnOk P w K mg base CX0 2 fG fdG ["numbers", "place", "most"] (spGr K)) (kG : PySem.W.keepIn K (.ref fG) = true) (bG : Binds K fdG ["numbers", "place", "most"] []) (gG : mg "_law_graph" = some (.ref fG))
    (GT : FnOk P w K mg base CX0 1 fT fdT ["numbers", "place"] (spTake K)) (kT : PySem.W.keepIn K (.ref fT) = true) (bT : Binds K fdT ["numbers", "place"] []) (gT : mg "_law_take" = some (.ref fT))
    (GP : FnOk P w K mg base CX0 1 fP fdP ["size"] (spPrs K)) (kP : PySem.W.keepIn K (.ref fP) = true) (bP : Binds K fdP ["size"] []) (gP : mg "_law_pairs" = some (.ref fP))
    (mli : mg "list" = none) (mr : mg "range" = none) (mle : mg "len" = none) :
    FnOk P w K mg base CX0 9 f fd ["script"] (spLaw K) := by
  refine F.ok scLaw (fun vs H Q E h => ?_) (fun cdv A outer s H vs Q E hr h => ?_)
  · obtain ⟨a, ns, rfl, _⟩ := h
    rfl
  · obtain ⟨a, ns, rfl, hS, hlen, q⟩ := h
    have hr1 : Room 1 _ := hr.mono (by decide)
    have hr2 : Room 2 _ := hr.mono (by decide)
    have hr5 : Room 5 _ := hr.mono (by decide)
    have hu : _ + 64 < cLine := hr.units
    refine ⟨_, (pss_cons (ps_set (i := 1) scLaw.nd rfl (.inl rfl) (pe_call GN hr1 (by rfl) gN kN bN .nil pass0 (pa_cons (pv 0) (pa_cons pe_int pa_nil))))
      (pss_cons (ps_set (i := 2) scLaw.nd rfl (.inl rfl) (pe_lst (pa_cons pe_int pa_nil)))
      (pss_cons (ps_set (i := 3) scLaw.nd rfl (.inl rfl) (pe_call GG hr2 (by rfl) gG kG bG .nil pass0 (pa_cons (pv 1) (pa_cons (pv 2) (pa_cons pe_int pa_nil)))))
      (pss_cons (ps_set (i := 4) scLaw.nd rfl (.inl rfl) (pe_op op_add (pe_ix ix_tup (pv 3) pe_int (fun _ _ => rfl)) pe_int))
      (pss_cons (ps_set (i := 5) scLaw.nd rfl (.inr rfl) (pe_ix ix_tup (pv 3) pe_int (fun _ _ => rfl)))
      (pss_cons (ps_set (i := 6) scLaw.nd rfl (.inl rfl) (pe_call GT hr1 (by rfl) gT kT bT .nil pass0 (pa_cons (pv 1) (pa_cons (pv 2) pa_nil))))
      (C8.pss_cut (ps_set (i := 7) scLaw.nd rfl (.inl rfl) (pe_make M GI hr5 (by rfl) T.g bI .nil passL (pa_cons (pv 4) (pa_cons (pv 5) pa_nil))))
      (C8.pss_cut (ps_set (i := 8) scLaw.nd rfl (.inl rfl) (pe_lst (pa_cons (pe_tup (pa_cons (pe_un un_neg pe_int) (pa_cons (pe_lst pa_nil) pa_nil))) (pa_cons (pe_tup (pa_cons pe_int (pa_cons (pe_lst pa_nil) pa_nil))) (pa_cons (pe_tup (pa_cons (pv 4) (pa_cons (pe_op op_cat (pv 5) (pe_lst (pa_cons (pe_tup (pa_cons pe_int (pa_cons pe_int pa_nil))) pa_nil))) pa_nil))) (pa_cons (pe_tup (pa_cons (pv 4) (pa_cons (pe_op op_cat (pv 5) (pe_lst (pa_cons (pe_tup (pa_cons pe_int (pa_cons (pv 4) pa_nil))) pa_nil))) pa_nil))) (pa_cons (pe_tup (pa_cons (pv 4) (pa_cons (pe_op op_cat (pv 5) (pe_lst (pa_cons (pe_tup (pa_cons (pe_un un_neg pe_int) (pa_cons pe_int pa_nil))) pa_nil))) pa_nil))) (pa_cons (pe_tup (pa_cons (pv 4) (pa_cons (pe_op op_cat (pv 5) (pe_lst (pa_cons (pe_lst (pa_cons pe_int (pa_cons (pe_op op_sub (pv 4) pe_int) pa_nil))) pa_nil))) pa_nil))) (pa_cons (pe_tup (pa_cons (pv 4) (pa_cons (pe_op op_cat (pv 5) (pe_lst (pa_cons (pe_tup (pa_cons pe_int pa_nil)) pa_nil))) pa_nil))) (pa_cons (pe_tup (pa_cons (pv 4) (pa_cons (pe_op op_cat (pv 5) (pe_lst (pa_cons (pe_tup (pa_cons pe_int (pa_cons pe_bl pa_nil))) pa_nil))) pa_nil))) (pa_cons (pe_tup (pa_cons (pv 4) (pa_cons (pe_op op_cat (pv 5) (pe_lst (pa_cons (pe_tup (pa_cons (pe_op op_sub (pv 4) pe_int) (pa_cons pe_int (pa_cons pe_int pa_nil)))) pa_nil))) pa_nil))) (pa_cons (pe_tup (pa_cons (pv 4) (pa_cons (pe_op op_cat (pv 5) (pe_lst (pa_cons pe_non pa_nil))) pa_nil))) (pa_cons (pe_tup (pa_cons (pv 4) (pa_cons (pe_op op_cat (pe_op op_cat (pv 5) (pe_slice sl_list (pv 5) po_none (po_some pe_int))) (pe_lst (pa_cons (pe_tup (pa_cons pe_int (pa_cons pe_int pa_nil))) pa_nil))) pa_nil))) pa_nil)))))))))))))
      (C8.pss_cut (ps_if (pt_cmpR op_gt (pv 4) pe_int (nomark _)) (pss_one (ps_expr (pe_bm PySem.F.plainAttrs_list PySem.F.slot_list_append PySem.F.type_list_append mt_append (pv 8) (pa_cons (pe_tup (pa_cons (pv 4) (pa_cons (pe_op op_cat (pv 5) (pe_lst (pa_cons (pe_tup (pa_cons (pe_op op_sub (pv 4) pe_int) (pa_cons pe_int pa_nil))) pa_nil))) pa_nil))) pa_nil)))) pss_nil)
      (C8.pss_cut (ps_for PassesOwn.never rfl (pi_list (pv 8)) (pg_name (i := 9) scLaw.nd rfl (.inl rfl)) (pss_one (ps_if (pt_not (pt_val (pe_call GR hr (by rfl) gR kR bR .nil pass0 (pa_cons pe_int (pa_cons (pv 7) (pa_cons (pv 9) pa_nil)))))) (pss_one (ps_ret pe_bl)) pss_nil)))
      (C8.pss_cut (ps_for PassesOwn.never rfl (pi_tup (pe_tup (pa_cons (pe_un un_neg pe_int) (pa_cons (pv 4) (pa_cons (pe_op op_add (pv 4) (pv 6)) pa_nil))))) (pg_name (i := 9) scLaw.nd rfl (.inl rfl)) (pss_one (ps_for PassesOwn.never rfl (pi_tup (pe_tup (pa_cons pe_int (pa_cons pe_int (pa_cons pe_int pa_nil))))) (pg_name (i := 10) scLaw.nd rfl (.inl rfl)) (pss_one (ps_if (pt_not (pt_val (pe_call GR hr (by rfl) gR kR bR .nil pass0 (pa_cons (pv 10) (pa_cons (pv 7) (pa_cons (pv 9) pa_nil)))))) (pss_one (ps_ret pe_bl)) pss_nil)))))
      (C8.pss_cut (ps_set (i := 11) scLaw.nd rfl (.inl rfl) (pe_listRg rfl (by rfl) mli (prg_1 (by rfl) mr (pv 4))))
      (C8.pss_cut (ps_for PassesOwn.never rfl (pi_tup (pe_tup (pa_cons (pe_op op_cat (pv 11) (pe_lst (pa_cons pe_int pa_nil))) (pa_cons (pe_op op_cat (pv 11) (pe_lst (pa_cons (pv 4) pa_nil))) (pa_cons (pe_lst (pa_cons (pe_un un_neg pe_int) pa_nil)) (pa_cons (pe_lst (pa_cons pe_int (pa_cons pe_int pa_nil))) pa_nil)))))) (pg_name (i := 9) scLaw.nd rfl (.inl rfl)) (pss_one (ps_if (pt_not (pt_val (pe_call GR hr (by rfl) gR kR bR .nil pass0 (pa_cons pe_int (pa_cons (pv 7) (pa_cons (pv 9) pa_nil)))))) (pss_one (ps_ret pe_bl)) pss_nil)))
      (C8.pss_cut (ps_for PassesOwn.never rfl (pi_tup (pe_tup (pa_cons (pe_slice sl_list (pv 11) (po_some pe_int) po_none) (pa_cons (pe_op op_cat (pv 11) (pe_lst (pa_cons pe_int pa_nil))) (pa_cons (pe_op op_cat (pe_op op_rep (pe_lst (pa_cons pe_int pa_nil)) (pv 4)) (pe_lst (pa_cons pe_int pa_nil))) (pa_cons (pe_op op_cat (pe_lst (pa_cons (pv 4) pa_nil)) (pe_slice sl_list (pv 11) (po_some pe_int) po_none)) pa_nil)))))) (pg_name (i := 9) scLaw.nd rfl (.inl rfl)) (pss_one (ps_if (pt_not (pt_val (pe_call GR hr (by rfl) gR kR bR .nil pass0 (pa_cons pe_int (pa_cons (pv 7) (pa_cons (pv 9) pa_nil)))))) (pss_one (ps_ret pe_bl)) pss_nil)))
      (C8.pss_cut (ps_set (i := 12) scLaw.nd rfl (.inl rfl) (pe_op op_cat (pe_lc (own := [("pair", 13)]) (g := gName 13) (by rfl) scLaw.nd (pi_list (pe_call GP hr1 (by rfl) gP kP bP .nil pass0 (pa_cons (pv 4) pa_nil))) (blkOk_by (own := [("pair", 13)]) (N := lawN) (sc := defScope sLaw) (by decide +kernel))
      (fun _ _ _ _ _ => pg_name (i := 13) scLaw.nd rfl (Or.inl rfl)) (fun _ _ _ _ _ => pts_one (pt_cmpR (notInD_at rfl rfl (u65 hr)) (pv 13) (pv 5) (by rfl))) (fun _ _ _ _ _ => pv 13)) (pe_lst (pa_cons (pe_tup (pa_cons pe_int (pa_cons pe_int pa_nil))) (pa_cons (pe_tup (pa_cons (pv 4) (pa_cons (pe_op op_add (pv 4) pe_int) pa_nil))) (pa_cons (pe_tup (pa_cons pe_int (pa_cons pe_int pa_nil))) pa_nil))))))
      (C8.pss_cut (ps_for PassesOwn.never rfl (pi_list (pv 12)) (pg_name (i := 9) scLaw.nd rfl (.inl rfl)) (pss_one (ps_if (pt_not (pt_val (pe_call GR hr (by rfl) gR kR bR .nil pass0 (pa_cons pe_int (pa_cons (pv 7) (pa_cons (pv 9) pa_nil)))))) (pss_one (ps_ret pe_bl)) pss_nil)))
      (pss_one (ps_ret (pe_and (pe_cmpR op_eq (pe_fld (pe_make M GI hr5 (by rfl) T.g bI .nil passL (pa_cons pe_int (pa_cons (pe_lst pa_nil) pa_nil))) rfl) pe_int (nomark _)) (pe_and (pe_cmpR (op_eqD hu) (pe_fld (pe_make M GI hr5 (by rfl) T.g bI .nil passL (pa_cons pe_int (pa_cons (pe_lst (pa_cons (pe_tup (pa_cons pe_int (pa_cons pe_int pa_nil))) pa_nil)) pa_nil))) rfl) (pe_tup (pa_cons (pe_tup (pa_cons pe_int (pa_cons pe_int pa_nil))) pa_nil)) (nomark _)) (pe_one (pe_cmpR op_eq (pe_callB call_len_seq (by rfl) mle PySem.boot_len (pa_cons (pe_fld (pe_make M GI hr5 (by rfl) T.g bI .nil passL (pa_cons pe_int (pa_cons (pe_call GP hr1 (by rfl) gP kP bP .nil pass0 (pa_cons pe_int pa_nil)) pa_nil))) rfl) pa_nil)) pe_int (nomark _))))))))))))))))))))))), ?_⟩
    -- numbers, place, drawn, size, edges, change
    refine ⟨.ref a, rfl, a, ns, 60, rfl, hS, hlen, fun H1 p out s1 np ep hd _ => ?_⟩
    refine ⟨(by show 1 ≤ sizeLine; decide), fun pl npl => ?_⟩
    have s2 : Same H1 (upd H1 pl (.lst [.int 0])) := same_upd npl
    have ppl : p ≠ pl := fun z => by rw [z, npl] at ep; cases ep
    refine ⟨_, rfl, _, rfl, p, pl, out, 0, 8, rfl, ppl, SqL.of (s2 _ _ ep), hd, upd_same, by decide, fun H3 t e as n i' es hn b3 ib nt ne ht he pa sub => ?_⟩
    have ep3 := b3 _ _ (s2 _ _ ep) ppl
    refine ⟨_, rfl, t, _, 0, .int n, rfl, rfl, SqT.of ht, atI_nat (j := 0) rfl, _, _, rfl, rfl, ?_⟩
    refine ⟨_, rfl, t, _, 1, .ref e, rfl, rfl, SqT.of ht, atI_nat (j := 1) rfl, ?_⟩
    refine ⟨_, rfl, _, rfl, p, pl, out, i', rfl, ppl, SqL.of ep3, hd, ib, fun x i2 H4 dx b4 _ e4 => ?_⟩
    have epl : e ≠ pl := fun z => by rw [z, upd_same] at ne; cases ne
    have he4 := b4 _ _ he epl
    have pa4 := b4.pairs ib pa
    have okE : ∀ q ∈ es, Okp ((n + 1 : Nat) : Int) q := fun q hq => by
      obtain ⟨z1, z2, z3⟩ := mem_pairs (sub.subset hq)
      exact ⟨z1, z2, by omega⟩
    have ndE : es.Nodup := sub.nodup (pairs_nd hn)
    have few : es.length ≤ 36 := Nat.le_trans sub.length_le (pairs_few hn)
    -- graph = Graph(size, edges)
    refine ⟨fun σ H' => ∃ (g : Addr) (qs : List Pr) (y8 y9 y10 y11 y12 y13 : Option V), σ = slots a p pl t e g n x y8 y9 y10 y11 y12 y13 ∧ qs.Perm es ∧ LawSt K C H' n e g as es qs, ?_, ?_⟩
    · refine ⟨_, rfl, _, rfl, fun g dg ng ndg nedg => ?_⟩
      have sg : Same H4 (upd (upd H4 dg (.own g)) g (.ins C dg [])) := same_put (same_upd ndg) ng
      refine ⟨g, dg, ((n + 1 : Nat) : Int), e, _, evs es, rfl, upd_same, SqL.of (sg _ _ he4), ev_pairs (pa4.same sg), by rw [evs, List.length_map]; omega, fun hbad => ?_, fun ps hps H5 qs bt pm ga => ⟨rfl, ?_⟩⟩
      · rw [mk_evs (by omega) okE ndE] at hbad
        cases hbad
      · rw [mk_evs (by omega) okE ndE] at hps
        cases hps
        have s5 : Same H4 H5 := fun b o h => bt b o (sg b o h) (ne_of_none h ng)
        exact ⟨g, qs, none, none, none, none, none, none, rfl, pm, s5 _ _ he4, pa4.same s5, ga⟩
    rintro σ H5 ⟨g, qs, y8, y9, y10, y11, y12, y13, rfl, pm, L5⟩
    -- wrong = [..]
    refine ⟨fun σ H' => ∃ (W : Addr) (vs : List V) (H0 : Hp) (y9 y10 y11 y12 y13 : Option V), σ = slots a p pl t e g n x (some (.ref W)) y9 y10 y11 y12 y13 ∧ Same H0 H' ∧ H0 W = none ∧ LawSt K C H0 n e g as es qs ∧ H' W = some (.lst vs) ∧ vs.length ≤ 20 ∧ ∀ v ∈ vs, Wv K C n g qs 0 v H0, ?_, ?_⟩
    · refine lst_from (Pre := Pre K C n e g as es qs x) pre_stay (G := Wv K C n g qs 0) (tes := [_, _, _, _, _, _, _, _, _, _, _]) wv_stay ?_ rfl (show 11 ≤ 1000 by decide) _ _ _ ⟨rfl, rfl, rfl, L5⟩ (fun W vs H1' sm pr nW hl hv => ?_)
      · intro te hte
        simp only [List.mem_cons, List.not_mem_nil, or_false] at hte
        rcases hte with rfl | rfl | rfl | rfl | rfl | rfl | rfl | rfl | rfl | rfl | rfl
        · exact giv_empty (k := -1) (fun σ H Q q => ⟨1, rfl, q⟩) rfl
        · exact giv_empty (k := 61) (fun σ H Q q => q) rfl
        · exact giv_item few (giv_pair (i := 0) (j := 0) (fun _ _ _ _ q => q) fun _ _ _ _ q => q) (by simp [edgB])
        · exact giv_item few (giv_pair (i := 0) (j := ((n + 1 : Nat) : Int)) (fun _ _ _ _ q => q) fun _ _ _ p q => ⟨_, p.1, q⟩) (by simp [edgB, vtxB])
        · exact giv_item few (giv_pair (i := -1) (j := 0) (fun _ _ _ _ q => ⟨1, rfl, q⟩) fun _ _ _ _ q => q) (by simp [edgB, vtxB])
        · refine giv_item few (ev := none) (fun σ H Q p q => ?_) rfl
          exact ⟨_, p.1, _, _, rfl, rfl, (by show 2 ≤ sizeLine; decide), fun l nl => q _ _ (same_upd nl) (.lst upd_same)⟩
        · refine giv_item few (ev := none) (fun σ H Q p q => ?_) rfl
          exact ⟨(by show 1 ≤ sizeLine; decide), fun l nl => q _ _ (same_upd nl) (.tup (SqT.of upd_same) (show (1 : Nat) ≠ 2 by decide))⟩
        · refine giv_item few (ev := some (some 0, none)) (fun σ H Q p q => ?_) rfl
          exact ⟨(by show 2 ≤ sizeLine; decide), fun l nl => q _ _ (same_upd nl) (.pair (SqT.of upd_same) (.int 0) (.bl true))⟩
        · refine giv_item few (ev := none) (fun σ H Q p q => ?_) rfl
          exact ⟨_, p.1, _, _, rfl, rfl, (by show 3 ≤ sizeLine; decide), fun l nl => q _ _ (same_upd nl) (.tup (SqT.of upd_same) (show (3 : Nat) ≠ 2 by decide))⟩
        · exact giv_item few (ev := none) (fun σ H Q p q => q _ _ (Same.refl H) .non) rfl
        · exact giv_item2 few (giv_pair (i := 1) (j := 1) (fun _ _ _ _ q => q) fun _ _ _ _ q => q) (by simp [edgB])
      · exact ⟨W, vs, H1', _, _, _, _, _, rfl, same_upd nW, nW, L5.same sm, upd_same, by rw [hl]; show 11 ≤ 20; decide, hv⟩
    rintro σ H6 ⟨W, vs, H0, y9, y10, y11, y12, y13, rfl, s06, nW, L0, hW, hvl, hv⟩
    -- if size > 1
    refine ⟨fun σ H' => ∃ (vs : List V) (y9 y10 y11 y12 y13 : Option V), σ = slots a p pl t e g n x (some (.ref W)) y9 y10 y11 y12 y13 ∧ LawSt K C H' n e g as es qs ∧ H' W = some (.lst vs) ∧ ∀ v ∈ vs, Wv K C n g qs 0 v H', ?_, ?_⟩
    · refine ⟨_, rfl, _, _, rfl, rfl, _, rfl, ?_⟩
      refine ite2 (fun _ => ?_) (fun _ => ⟨vs, _, _, _, _, _, rfl, L0.same s06, hW, fun v h => (hv v h).same s06⟩)
      have L6 := L0.same s06
      have len := L6.pa.length
      refine ⟨_, rfl, .inl ⟨rfl, _, SqL.of hW⟩, _, rfl, _, rfl, _, rfl, _, _, rfl, rfl, (by show 2 ≤ sizeLine; decide), fun a1 na1 => ⟨(by show 1 ≤ sizeLine; decide), fun l nl => ?_⟩⟩
      have t1 : Same H6 (upd H6 a1 (.tup [.int ((n : Int) + 1 - 1), .int 0])) := same_upd na1
      have t2 := same_upd (o := .lst [V.ref a1]) nl
      refine ⟨e, l, _, _, rfl, rfl, t2 _ _ (t1 _ _ L6.he), upd_same, by rw [List.length_map, sizeLine_eq]; simp only [List.length_cons, List.length_nil]; omega, fun c nc => ⟨(by show 2 ≤ sizeLine; decide), fun t' nt' => ?_⟩⟩
      have t3 := same_upd (o := .lst (as.map V.ref ++ [V.ref a1])) nc
      have t4 := same_upd (o := .tup [V.int ((n + 1 : Nat) : Int), .ref c]) nt'
      have t14 := ((t1.trans t2).trans t3).trans t4
      refine ⟨W, vs, .ref t', rfl, rfl, t14 _ _ hW, small1000 (by omega), ?_⟩
      have w1 : ∀ {b : Addr} {o : HO} {G : Hp}, Same H6 G → G b = none → b ≠ W := fun sg hb z => by rw [z, sg _ _ hW] at hb; cases hb
      have bt : ∀ {o : HO}, But W (upd (upd (upd (upd H6 a1 (.tup [.int ((n : Int) + 1 - 1), .int 0])) l (.lst [V.ref a1])) c (.lst (as.map V.ref ++ [V.ref a1]))) t' (.tup [V.int ((n + 1 : Nat) : Int), .ref c])) (upd (upd (upd (upd (upd H6 a1 (.tup [.int ((n : Int) + 1 - 1), .int 0])) l (.lst [V.ref a1])) c (.lst (as.map V.ref ++ [V.ref a1]))) t' (.tup [V.int ((n + 1 : Nat) : Int), .ref c])) W o) := fun {o} b u h nb => by rw [upd_ne nb]; exact h
      have s0 : Same H0 (upd (upd (upd (upd (upd H6 a1 (.tup [.int ((n : Int) + 1 - 1), .int 0])) l (.lst [V.ref a1])) c (.lst (as.map V.ref ++ [V.ref a1]))) t' (.tup [V.int ((n + 1 : Nat) : Int), .ref c])) W (.lst (vs ++ [.ref t']))) := same_put (s06.trans t14) nW
      refine ⟨vs ++ [.ref t'], _, _, _, _, _, rfl, L0.same s0, upd_same, fun v hv' => ?_⟩
      rcases List.mem_append.mp hv' with z | z
      · exact (hv v z).same s0
      · rw [List.mem_singleton.mp z]
        refine .w0 (SqT.of (bt _ _ upd_same (w1 (o := .lst []) ((t1.trans t2).trans t3) nt'))) (SqL.of (bt _ _ (t4 _ _ upd_same) (w1 (o := .lst []) (t1.trans t2) nc))) (ev_app (ev_pairs (L0.pa.same s0)) (.cons (.pair (SqT.of (bt _ _ (t4 _ _ (t3 _ _ (t2 _ _ upd_same))) (w1 (o := .lst []) (Same.refl _) na1))) (.int _) (.int _)) .nil)) ?_ (mk_bad ?_ _)
        · rw [List.length_append, evs, List.length_map]
          simp only [List.length_cons, List.length_nil]
          omega
        · simp [edgB, vtxB]
    rintro σ H7 ⟨vs, y9, y10, y11, y12, y13, rfl, L7, hW, hv⟩
    -- for value in wrong
    refine ⟨fun σ H' => ∃ (y8 y9 y10 y11 y12 y13 : Option V), σ = slots a p pl t e g n x y8 y9 y10 y11 y12 y13 ∧ LawSt K C H' n e g as es qs, ?_, ?_⟩
    · refine ⟨_, rfl, W, rfl, ⟨_, SqL.of hW⟩, for_list (K := K) (a := W) (xs := vs) (fun _ σ H' => ∃ (y9 : Option V), σ = slots a p pl t e g n x (some (.ref W)) y9 y10 y11 y12 y13 ∧ Same H7 H')
        ⟨_, rfl, Same.refl H7⟩ (fun _ σ H' _ ⟨_, _, s'⟩ => SqL.of (s' _ _ hW)) ?_ ?_⟩
      · rintro i v σ H' hx ⟨y9, rfl, s'⟩
        refine ⟨_, rfl, _, rfl, 0, g, v, n + 1, qs, rfl, L7.ga.same s', (hv v (List.mem_of_getElem? hx)).same s', fun H2 sm => ?_⟩
        exact ⟨true, rfl, iteF ⟨_, rfl, s'.trans sm⟩⟩
      · rintro σ H' ⟨y9, rfl, s'⟩
        exact ⟨_, _, _, _, _, _, rfl, L7.same s'⟩
    rintro σ H8 ⟨y8, y9, y10, y11, y12, y13, rfl, L8⟩
    -- for value in (-1, size, size + change): for way in (1, 2, 3)
    refine ⟨fun σ H' => ∃ (y8 y9 y10 y11 y12 y13 : Option V), σ = slots a p pl t e g n x y8 y9 y10 y11 y12 y13 ∧ LawSt K C H' n e g as es qs, ?_, ?_⟩
    · refine for_disp (Pre := Pre K C n e g as es qs x) pre_stay (G := fun v _ => ∃ i : Int, v = .int i ∧ vtxB ((n + 1 : Nat) : Int) (some i) = false) (tes := [_, _, _]) (fun v H H' _ h => h) ?_ rfl (show 3 ≤ 1000 by decide) (slots a p pl t e g n x y8 y9 y10 y11 y12 y13) H8 ⟨rfl, rfl, rfl, L8⟩
        (fun H1 σ H2 => ∃ (y9 y10 : Option V), σ = slots a p pl t e g n x y8 y9 y10 y11 y12 y13 ∧ Same H1 H2) (fun H1 _ => ⟨_, _, rfl, Same.refl H1⟩) (fun H1 σ2 H2 h => by obtain ⟨_, _, _, s'⟩ := h; exact s') ?_ ?_
      · intro te hte
        simp only [List.mem_cons, List.not_mem_nil, or_false] at hte
        rcases hte with rfl | rfl | rfl
        · exact fun σ H Q p q => ⟨1, rfl, q _ _ (Same.refl H) ⟨-1, rfl, by simp [vtxB]⟩⟩
        · exact fun σ H Q p q => ⟨_, p.1, q _ _ (Same.refl H) ⟨_, rfl, by simp [vtxB]⟩⟩
        · exact fun σ H Q p q => ⟨_, p.1, _, p.2.2.1, _, _, rfl, rfl, q _ _ (Same.refl H) ⟨_, rfl, by
            have := dx.1
            simp only [vtxB, Bool.and_eq_false_iff, decide_eq_false_iff_not]
            omega⟩⟩
      · rintro H1 v σ H2 sm ⟨y9, y10, rfl, s'⟩ ⟨i, rfl, hi⟩
        have L9 := (L8.same sm).same s'
        refine for_disp (Pre := Pre K C n e g as es qs x) pre_stay (G := fun v _ => v = .int 1 ∨ v = .int 2 ∨ v = .int 3) (tes := [_, _, _]) (fun v H H' _ h => h) ?_ rfl (show 3 ≤ 1000 by decide) (slots a p pl t e g n x y8 (some (.int i)) y10 y11 y12 y13) H2 ⟨rfl, rfl, rfl, L9⟩
          (fun H3 σ H4 => ∃ (y10 : Option V), σ = slots a p pl t e g n x y8 (some (.int i)) y10 y11 y12 y13 ∧ Same H3 H4) (fun H1 _ => ⟨_, rfl, Same.refl H1⟩) (fun H1 σ2 H2 h => by obtain ⟨_, _, s'⟩ := h; exact s') ?_ ?_
        · intro te hte
          simp only [List.mem_cons, List.not_mem_nil, or_false] at hte
          rcases hte with rfl | rfl | rfl
          · exact fun σ H Q p q => q _ _ (Same.refl H) (.inl rfl)
          · exact fun σ H Q p q => q _ _ (Same.refl H) (.inr (.inl rfl))
          · exact fun σ H Q p q => q _ _ (Same.refl H) (.inr (.inr rfl))
        · rintro H3 v σ H4 sm3 ⟨y10, rfl, s4⟩ hw
          have G4 := (L9.ga.same sm3).same s4
          rcases hw with rfl | rfl | rfl
          · refine ⟨_, rfl, _, rfl, _, rfl, 1, g, .int i, n + 1, qs, rfl, G4, .w1 hi, fun H5 sm5 => ?_⟩
            exact ⟨true, rfl, iteF ⟨_, rfl, s4.trans sm5⟩⟩
          · refine ⟨_, rfl, _, rfl, _, rfl, 2, g, .int i, n + 1, qs, rfl, G4, .w2 hi, fun H5 sm5 => ?_⟩
            exact ⟨true, rfl, iteF ⟨_, rfl, s4.trans sm5⟩⟩
          · refine ⟨_, rfl, _, rfl, _, rfl, 3, g, .int i, n + 1, qs, rfl, G4, .w3 hi, fun H5 sm5 => ?_⟩
            exact ⟨true, rfl, iteF ⟨_, rfl, s4.trans sm5⟩⟩
        · rintro H3 σ H4 sm3 ⟨y10, rfl, s4⟩
          exact ⟨_, _, rfl, (s'.trans sm3).trans s4⟩
      · rintro H1 σ H2 sm ⟨y9, y10, rfl, s'⟩
        exact ⟨_, _, _, _, _, _, rfl, (L8.same sm).same s'⟩
    rintro σ H9 ⟨y8, y9, y10, y11, y12, y13, rfl, L9⟩
    -- order = list(range(size))
    refine ⟨fun σ H' => ∃ (o : Addr) (y8 y9 y10 y12 y13 : Option V), σ = slots a p pl t e g n x y8 y9 y10 (some (.ref o)) y12 y13 ∧ LawSt K C H' n e g as es qs ∧ H' o = some (.lst (rgV 0 ((n + 1 : Nat) : Int))), ?_, ?_⟩
    · refine ⟨_, rfl, ((n + 1 : Nat) : Int), rfl, RgOk.of_le (by omega) (by omega) (by omega) (by omega), fun o no => ?_⟩
      exact ⟨o, _, _, _, _, _, rfl, L9.same (same_upd no), upd_same⟩
    rintro σ H10 ⟨o, y8, y9, y10, y12, y13, rfl, L10, ho⟩
    have ordlen : (rgV 0 ((n + 1 : Nat) : Int)).length = n + 1 := by rw [rgV_length]; omega
    have noV : vtxB ((n + 1 : Nat) : Int) (some ((n + 1 : Nat) : Int)) = false := by simp [vtxB]
    have P2 : ∀ σ, Stay ((fun (σ : L2.St) (H : Hp) => σ[4]? = some (some (.int ((n + 1 : Nat) : Int))) ∧ σ[11]? = some (some (.ref o)) ∧ LawSt K C H n e g as es qs ∧ H o = some (.lst (rgV 0 ((n + 1 : Nat) : Int)))) σ) := fun σ H H' s h => ⟨h.1, h.2.1, h.2.2.1.same s, s _ _ h.2.2.2⟩
    -- for value in (order + [0], order + [size], [-1], [0, 0])
    refine ⟨fun σ H' => ∃ (y8 y9 y10 y12 y13 : Option V), σ = slots a p pl t e g n x y8 y9 y10 (some (.ref o)) y12 y13 ∧ LawSt K C H' n e g as es qs ∧ H' o = some (.lst (rgV 0 ((n + 1 : Nat) : Int))), ?_, ?_⟩
    · refine for_disp P2 (G := Wv K C n g qs 4) (tes := [_, _, _, _]) wv_stay ?_ rfl (show 4 ≤ 1000 by decide) (slots a p pl t e g n x y8 y9 y10 (some (.ref o)) y12 y13) H10 ⟨rfl, rfl, L10, ho⟩
        (fun H1 σ H2 => ∃ (y9 : Option V), σ = slots a p pl t e g n x y8 y9 y10 (some (.ref o)) y12 y13 ∧ Same H1 H2) (fun H1 _ => ⟨_, rfl, Same.refl H1⟩) (fun H1 σ2 H2 h => by obtain ⟨_, _, s'⟩ := h; exact s') ?_ ?_
      · intro te hte
        simp only [List.mem_cons, List.not_mem_nil, or_false] at hte
        rcases hte with rfl | rfl | rfl | rfl
        · exact fun σ H Q p q => ⟨_, p.2.1, (by show 1 ≤ sizeLine; decide), fun l nl => ⟨o, l, _, _, rfl, rfl, (same_upd nl) _ _ p.2.2.2, upd_same, (by rw [ordlen, sizeLine_eq]; simp only [List.length_cons, List.length_nil]; omega),
            fun c nc => q _ _ ((same_upd nl).trans (same_upd nc)) (.w4 (SqL.of upd_same) (ib_app (ib_rg _) (.cons (.int 0) .nil)) (by rw [List.length_append, isR_len]; simp only [List.length_cons, List.length_nil]; omega) (vscan_last _ (.inr (isR_zero n))))⟩⟩
        · exact fun σ H Q p q => ⟨_, p.2.1, _, p.1, (by show 1 ≤ sizeLine; decide), fun l nl => ⟨o, l, _, _, rfl, rfl, (same_upd nl) _ _ p.2.2.2, upd_same, (by rw [ordlen, sizeLine_eq]; simp only [List.length_cons, List.length_nil]; omega),
            fun c nc => q _ _ ((same_upd nl).trans (same_upd nc)) (.w4 (SqL.of upd_same) (ib_app (ib_rg _) (.cons (.int _) .nil)) (by rw [List.length_append, isR_len]; simp only [List.length_cons, List.length_nil]; omega) (vscan_last _ (.inl noV)))⟩⟩
        · exact fun σ H Q p q => ⟨1, rfl, (by show 1 ≤ sizeLine; decide), fun l nl => q _ _ (same_upd nl) (.w4 (SqL.of upd_same) (.cons (.int (-1)) .nil) (by decide) (vscan_last [] (.inl (by simp [vtxB]))))⟩
        · exact fun σ H Q p q => ⟨(by show 2 ≤ sizeLine; decide), fun l nl => q _ _ (same_upd nl) (.w4 (SqL.of upd_same) (.cons (.int 0) (.cons (.int 0) .nil)) (by decide) (vscan_last [some 0] (.inr (by simp))))⟩
      · rintro H1 v σ H2 sm ⟨y9, rfl, s'⟩ hv
        refine ⟨_, rfl, _, rfl, 4, g, v, n + 1, qs, rfl, (L10.ga.same sm).same s', hv, fun H3 sm3 => ?_⟩
        exact ⟨true, rfl, iteF ⟨_, rfl, s'.trans sm3⟩⟩
      · rintro H1 σ H2 sm ⟨y9, rfl, s'⟩
        exact ⟨_, _, _, _, _, rfl, (L10.same sm).same s', s' _ _ (sm _ _ ho)⟩
    rintro σ H11 ⟨y8, y9, y10, y12, y13, rfl, L11, ho⟩
    -- for value in (order[1:], order + [0], [0] * size + [0], [size] + order[1:])
    refine ⟨fun σ H' => ∃ (y8 y9 y10 y11 y12 y13 : Option V), σ = slots a p pl t e g n x y8 y9 y10 y11 y12 y13 ∧ LawSt K C H' n e g as es qs, ?_, ?_⟩
    · refine for_disp P2 (G := Wv K C n g qs 5) (tes := [_, _, _, _]) wv_stay ?_ rfl (show 4 ≤ 1000 by decide) (slots a p pl t e g n x y8 y9 y10 (some (.ref o)) y12 y13) H11 ⟨rfl, rfl, L11, ho⟩
        (fun H1 σ H2 => ∃ (y9 : Option V), σ = slots a p pl t e g n x y8 y9 y10 (some (.ref o)) y12 y13 ∧ Same H1 H2) (fun H1 _ => ⟨_, rfl, Same.refl H1⟩) (fun H1 σ2 H2 h => by obtain ⟨_, _, s'⟩ := h; exact s') ?_ ?_
      · intro te hte
        simp only [List.mem_cons, List.not_mem_nil, or_false] at hte
        rcases hte with rfl | rfl | rfl | rfl
        · refine fun σ H Q p q => ⟨_, p.2.1, 1, rfl, o, _, rfl, SqL.of p.2.2.2, fun l nl => ?_⟩
          rw [cut_from1]
          exact q _ _ (same_upd nl) (.w5 (SqL.of upd_same) (ib_drop1 (ib_rg _)) (by rw [List.length_drop, isR_len]; omega) (.inl (by rw [List.length_drop, isR_len]; omega)))
        · exact fun σ H Q p q => ⟨_, p.2.1, (by show 1 ≤ sizeLine; decide), fun l nl => ⟨o, l, _, _, rfl, rfl, (same_upd nl) _ _ p.2.2.2, upd_same, (by rw [ordlen, sizeLine_eq]; simp only [List.length_cons, List.length_nil]; omega),
            fun c nc => q _ _ ((same_upd nl).trans (same_upd nc)) (.w5 (SqL.of upd_same) (ib_app (ib_rg _) (.cons (.int 0) .nil)) (by rw [List.length_append, isR_len]; simp only [List.length_cons, List.length_nil]; omega) (.inl (by rw [List.length_append, isR_len]; simp only [List.length_cons, List.length_nil]; omega)))⟩⟩
        · refine fun σ H Q p q => ⟨(by show 1 ≤ sizeLine; decide), fun l nl => ⟨_, p.1, l, _, _, rfl, rfl, upd_same, by omega, by omega, (by simp only [List.length_cons, List.length_nil, sizeLine_eq]; omega), fun m nm => ?_⟩⟩
          have tn : ((n + 1 : Nat) : Int).toNat = n + 1 := by omega
          rw [tn]
          refine ⟨(by show 1 ≤ sizeLine; decide), fun l2 nl2 => ⟨m, l2, _, _, rfl, rfl, (same_upd nl2) _ _ upd_same, upd_same, (by rw [rep_len, sizeLine_eq]; simp only [List.length_cons, List.length_nil]; omega), fun c nc => ?_⟩⟩
          exact q _ _ (((same_upd nl).trans (same_upd nm)).trans ((same_upd nl2).trans (same_upd nc))) (.w5 (SqL.of upd_same) (ib_app (ib_rep (n + 1)) (.cons (.int 0) .nil)) (by rw [List.length_append, List.length_replicate]; simp only [List.length_cons, List.length_nil]; omega)
            (.inl (by rw [List.length_append, List.length_replicate]; simp only [List.length_cons, List.length_nil]; omega)))
        · refine fun σ H Q p q => ⟨_, p.1, (by show 1 ≤ sizeLine; decide), fun l nl => ⟨_, p.2.1, 1, rfl, o, _, rfl, SqL.of ((same_upd nl) _ _ p.2.2.2), fun m nm => ?_⟩⟩
          rw [cut_from1]
          refine ⟨l, m, _, _, rfl, rfl, (same_upd nm) _ _ upd_same, upd_same, (by rw [List.length_drop, ordlen, sizeLine_eq]; simp only [List.length_cons, List.length_nil]; omega), fun c nc => ?_⟩
          exact q _ _ (((same_upd nl).trans (same_upd nm)).trans (same_upd nc)) (.w5 (SqL.of upd_same) (.cons (.int _) (ib_drop1 (ib_rg _))) (by rw [List.length_cons, List.length_drop, isR_len]; omega) (.inr (vscan_first _ noV)))
      · rintro H1 v σ H2 sm ⟨y9, rfl, s'⟩ hv
        refine ⟨_, rfl, _, rfl, 5, g, v, n + 1, qs, rfl, (L11.ga.same sm).same s', hv, fun H3 sm3 => ?_⟩
        exact ⟨true, rfl, iteF ⟨_, rfl, s'.trans sm3⟩⟩
      · rintro H1 σ H2 sm ⟨y9, rfl, s'⟩
        exact ⟨_, _, _, _, _, _, rfl, (L11.same sm).same s'⟩
    rintro σ H12 ⟨y8, y9, y10, y11, y12, y13, rfl, L12⟩
    -- absent = [..] + [..]
    refine ⟨fun σ H' => ∃ (W : Addr) (vs : List V) (y8 y9 y10 y11 y13 : Option V), σ = slots a p pl t e g n x y8 y9 y10 y11 (some (.ref W)) y13 ∧ LawSt K C H' n e g as es qs ∧ H' W = some (.lst vs) ∧ ∀ v ∈ vs, Wv K C n g qs 6 v H', ?_, ?_⟩
    · refine ⟨_, rfl, n + 1, rfl, by omega, fun H13 p2 as2 s13 np2 ep2 pa2 na2 => ⟨p2, rfl, ⟨_, SqL.of ep2⟩, fun D hD => ?_⟩⟩
      have L13 := L12.same s13
      refine lc_list (K := K) (a := p2) (xs := as2.map V.ref) (fun i Hx => Same H13 Hx ∧ ∃ acc : List V, Hx D = some (.lst acc) ∧ acc.length ≤ i ∧ ∀ v ∈ acc, Wv K C n g qs 6 v H13) ⟨same_upd hD, [], upd_same, Nat.le_refl _, fun v hv => by cases hv⟩ (fun i Hx _ h => SqL.of (h.1 _ _ ep2)) ?_ ?_
      · rintro i v Hx hx ⟨sx, acc, eD, hl, hacc⟩
        rw [List.getElem?_map] at hx
        cases ea : as2[i]? with
        | none => rw [ea] at hx; cases hx
        | some a2 =>
          rw [ea] at hx
          cases hx
          obtain ⟨q2, hq2, hs2⟩ := pa2.get ea
          have Lx := L13.same sx
          have il : i < (pairsL (n + 1)).length := (List.getElem?_eq_some_iff.mp hq2).1
          have fl := flat_len (n + 1) (n + 1) (Nat.le_refl _)
          have f2 : (n + 1) * (n + 1) ≤ 9 * 9 := Nat.mul_le_mul (by omega) (by omega)
          have il2 : i ≤ 81 := by unfold pairsL at il; omega
          refine ⟨rfl, _, rfl, _, rfl, pD q2, es.map pD, dp_pair (same_sqT sx hs2), .lst (SqL.of Lx.he) (dp_pairs Lx.pa), pD_shaped _, pDs_shapedL _, _, rfl, ?_⟩
          rw [pDs_any]
          by_cases c : q2 ∈ es
          · rw [decide_eq_true c]
            exact iteF ⟨sx, acc, eD, by omega, hacc⟩
          · rw [decide_eq_false c]
            refine iteT ⟨_, rfl, acc, eD, small1000 (by omega), same_put sx hD, acc ++ [.ref a2], upd_same, by rw [List.length_append]; simp only [List.length_cons, List.length_nil]; omega, fun v hv => ?_⟩
            rcases List.mem_append.mp hv with z | z
            · exact hacc v z
            · rw [List.mem_singleton.mp z]
              exact .w6 hs2 (fun z => c (pm.mem_iff.mp z))
      · rintro Hx ⟨sx, acc, eD, hl, hacc⟩
        have Lx := L13.same sx
        have noQ : ∀ {i j : Int}, ¬ Okp ((n + 1 : Nat) : Int) (i, j) → (i, j) ∉ qs := fun h z => h (Lx.ga.ok _ z)
        refine lst_from (Pre := Pre K C n e g as es qs x) pre_stay (G := Wv K C n g qs 6) (tes := [_, _, _]) wv_stay ?_ rfl (show 3 ≤ 1000 by decide) _ _ _ ⟨rfl, rfl, rfl, Lx⟩ (fun B vs H14 sm pr nB hl2 hv => ?_)
        · intro te hte
          simp only [List.mem_cons, List.not_mem_nil, or_false] at hte
          rcases hte with rfl | rfl | rfl
          · exact fun σ H Q p q => ⟨(by show 2 ≤ sizeLine; decide), fun l nl => q _ _ (same_upd nl) (.w6 (SqT.of upd_same) (noQ (by unfold Okp; omega)))⟩
          · exact fun σ H Q p q => ⟨_, p.1, _, p.1, _, _, rfl, rfl, (by show 2 ≤ sizeLine; decide), fun l nl => q _ _ (same_upd nl) (.w6 (SqT.of upd_same) (noQ (by unfold Okp; omega)))⟩
          · exact fun σ H Q p q => ⟨(by show 2 ≤ sizeLine; decide), fun l nl => q _ _ (same_upd nl) (.w6 (SqT.of upd_same) (noQ (by unfold Okp; omega)))⟩
        · have lenA : acc.length ≤ 81 := by
            have fl := flat_len (n + 1) (n + 1) (Nat.le_refl _)
            have f2 : (n + 1) * (n + 1) ≤ 9 * 9 := Nat.mul_le_mul (by omega) (by omega)
            rw [List.length_map, pa2.length] at hl
            unfold pairsL at hl
            omega
          have sB : Same H14 (upd H14 B (.lst vs)) := same_upd nB
          refine ⟨D, B, acc, vs, rfl, rfl, sB _ _ (sm _ _ eD), upd_same, by rw [hl2, sizeLine_eq]; simp only [List.length_cons, List.length_nil]; omega, fun c nc => ?_⟩
          have sc := same_upd (o := .lst (acc ++ vs)) nc
          have sAll := (sx.trans sm).trans (sB.trans sc)
          refine ⟨c, acc ++ vs, _, _, _, _, _, rfl, L13.same sAll, upd_same, fun v hv' => ?_⟩
          rcases List.mem_append.mp hv' with z | z
          · exact (hacc v z).same sAll
          · exact (hv v z).same (sB.trans sc)
    rintro σ H15 ⟨W2, ws, y8, y9, y10, y11, y13, rfl, L15, hW2, hv2⟩
    -- for value in absent
    refine ⟨fun σ H' => True, ?_, ?_⟩
    · refine ⟨_, rfl, W2, rfl, ⟨_, SqL.of hW2⟩, for_list (K := K) (a := W2) (xs := ws) (fun _ σ H' => ∃ (y9 : Option V), σ = slots a p pl t e g n x y8 y9 y10 y11 (some (.ref W2)) y13 ∧ Same H15 H')
        ⟨_, rfl, Same.refl H15⟩ (fun _ σ H' _ ⟨_, _, s'⟩ => SqL.of (s' _ _ hW2)) ?_ ?_⟩
      · rintro i v σ H' hx ⟨y9, rfl, s'⟩
        refine ⟨_, rfl, _, rfl, 6, g, v, n + 1, qs, rfl, L15.ga.same s', (hv2 v (List.mem_of_getElem? hx)).same s', fun H2 sm => ?_⟩
        exact ⟨true, rfl, iteF ⟨_, rfl, s'.trans sm⟩⟩
      · exact fun _ _ _ => trivial
    rintro σ H16 -
    -- Graph(0, []).size == 0
    refine ⟨Nat.zero_le _, fun l0 nl0 g0 dg0 ng0 ndg0 _ => ?_⟩
    have u1 : Same (upd H16 l0 (.lst [])) (upd (upd (upd H16 l0 (.lst [])) dg0 (.own g0)) g0 (.ins C dg0 [])) := same_put (same_upd ndg0) ng0
    refine ⟨g0, dg0, 0, l0, [], [], rfl, upd_same, SqL.of (u1 _ _ upd_same), .nil, by decide, (fun h => by cases h), fun ps hps H17 qs0 _ _ ga0 => ⟨rfl, ?_⟩⟩
    obtain ⟨dx0, et0, nt0, hg0, _⟩ := ga0.ob
    refine ⟨g0, C, dx0, _, _, rfl, hg0, T.cl, T.nS, gf_size _ _ _, rfl, _, rfl, iteY (by decide) ?_⟩
    -- Graph(60, [(58, 59)]).edges == ((58, 59),)
    refine ⟨(by show 2 ≤ sizeLine; decide), fun t1 nt1 => ⟨(by show 1 ≤ sizeLine; decide), fun l1 nl1 g1 dg1 ng1 ndg1 _ => ?_⟩⟩
    have v1 := same_upd (o := .lst [V.ref t1]) nl1
    have v2 : Same (upd (upd H17 t1 (.tup [.int 58, .int 59])) l1 (.lst [V.ref t1])) (upd (upd (upd (upd H17 t1 (.tup [.int 58, .int 59])) l1 (.lst [V.ref t1])) dg1 (.own g1)) g1 (.ins C dg1 [])) := same_put (same_upd ndg1) ng1
    refine ⟨g1, dg1, 60, l1, _, [some (some 58, some 59)], rfl, upd_same, SqL.of (v2 _ _ upd_same), .cons (.pair (SqT.of (v2 _ _ (v1 _ _ upd_same))) (.int 58) (.int 59)) .nil, (by decide : 1 ≤ 75), (fun h => by cases h), fun ps hps H18 qs1 _ pm1 ga1 => ⟨rfl, ?_⟩⟩
    have eps : ps = [(58, 59)] := (Option.some.inj hps).symm
    rw [eps] at pm1
    have eqs : qs1 = [(58, 59)] := List.perm_singleton.mp pm1
    subst eqs
    obtain ⟨dx1, et1, nt1', hg1, ⟨ets1, hT1, hP1⟩, _⟩ := ga1.ob
    refine ⟨g1, C, dx1, _, _, rfl, hg1, T.cl, T.nE, gf_edges _ _ _, (by show 2 ≤ sizeLine; decide), fun t2 nt2 => ⟨(by show 1 ≤ sizeLine; decide), fun t3 nt3 => ?_⟩⟩
    have x1 := same_upd (o := .tup [V.int 58, V.int 59]) nt2
    have x2 := same_upd (o := .tup [V.ref t2]) nt3
    have x12 := x1.trans x2
    refine ⟨.tuple ([(58, 59)].map pD), .tuple ([(58, 59)].map pD), .tup (same_sqT x12 hT1) (dp_pairs (hP1.same x12)), .tup (SqT.of upd_same) (.cons (dp_pair (SqT.of (x2 _ _ upd_same))) .nil), pDs_shapedT _, pDs_shapedT _, true, congrArg V.bl (by decide +kernel), iteT ?_⟩
    -- len(Graph(12, _law_pairs(12)).edges) == 66
    refine ⟨12, rfl, by decide, fun H19 p3 as3 _ _ ep3 pa3 _ g2 dg2 ng2 ndg2 _ => ?_⟩
    have y1 : Same H19 (upd (upd H19 dg2 (.own g2)) g2 (.ins C dg2 [])) := same_put (same_upd ndg2) ng2
    have nd12 : (pairsL 12).Nodup := by decide +kernel
    have len12 : (pairsL 12).length = 66 := by decide +kernel
    have mk12 := mk_evs (n := 12) (es := pairsL 12) (by decide) (fun q hq => mem_pairs hq) nd12
    refine ⟨g2, dg2, 12, p3, _, evs (pairsL 12), rfl, upd_same, SqL.of (y1 _ _ ep3), ev_pairs (pa3.same y1), by rw [evs, List.length_map, len12]; decide, fun h => ?_, fun ps hps H20 qs2 _ pm2 ga2 => ⟨rfl, ?_⟩⟩
    · have z := h.symm.trans mk12
      cases z
    · have z : ps = pairsL 12 := Option.some.inj (hps.symm.trans mk12)
      subst z
      obtain ⟨dx2, et2, nt2', hg2, ⟨ets2, hT2, hP2⟩, _⟩ := ga2.ob
      have len2 : ((ets2.map V.ref).length : Int) = 66 := by
        rw [List.length_map, hP2.length, pm2.length_eq, len12]
        rfl
      refine ⟨g2, C, dx2, _, _, rfl, hg2, T.cl, T.nE, gf_edges _ _ _, et2, _, rfl, .inr hT2, rfl, ?_⟩
      rw [len2, decide_eq_true rfl]
      exact q _
end
end Sm

set_option Elab.async false
set_option linter.all false
set_option maxRecDepth 100000
set_option maxHeartbeats 8000000
namespace Sm
open PySem PySem.Spec PyProof.Rows L2
theorem all_mk {l : PySem.W.OpenLaw} {w : World} {K : PySem.W.Frag} {h : Heap} {mg : Str → Option Value} {fa C CB CW CT : Addr} {tm : Tok} (X : K.In h) (G : h.Ns mainGlobals mg) (hfa : mg "law" = some (.ref fa))
    {fNum : Addr} {odNum anNum : Option Addr} {slNum : Array (Option Value)} {ocNum kVNum dcNum pmNum cdNum ctNum : Value}
    {fVtx : Addr} {odVtx anVtx : Option Addr} {slVtx : Array (Option Value)} {ocVtx kVVtx dcVtx pmVtx cdVtx ctVtx : Value}
    {fEdg : Addr} {odEdg anEdg : Option Addr} {slEdg : Array (Option Value)} {ocEdg kVEdg dcEdg pmEdg cdEdg ctEdg : Value}
    {fNls : Addr} {odNls anNls : Option Addr} {slNls : Array (Option Value)} {ocNls kVNls dcNls pmNls cdNls ctNls : Value}
    {fPart : Addr} {odPart anPart : Option Addr} {slPart : Array (Option Value)} {ocPart kVPart dcPart pmPart cdPart ctPart : Value}
    {fBtw : Addr} {odBtw anBtw : Option Addr} {slBtw : Array (Option Value)} {ocBtw kVBtw dcBtw pmBtw cdBtw ctBtw : Value}
    {fRen : Addr} {odRen anRen : Option Addr} {slRen : Array (Option Value)} {ocRen kVRen dcRen pmRen cdRen ctRen : Value}
    {fWo : Addr} {odWo anWo : Option Addr} {slWo : Array (Option Value)} {ocWo kVWo dcWo pmWo cdWo ctWo : Value}
    {fNums : Addr} {odNums anNums : Option Addr} {slNums : Array (Option Value)} {ocNums kVNums dcNums pmNums cdNums ctNums : Value}
    {fTake : Addr} {odTake anTake : Option Addr} {slTake : Array (Option Value)} {ocTake kVTake dcTake pmTake cdTake ctTake : Value}
    {fPrs : Addr} {odPrs anPrs : Option Addr} {slPrs : Array (Option Value)} {ocPrs kVPrs dcPrs pmPrs cdPrs ctPrs : Value}
    {fGr : Addr} {odGr anGr : Option Addr} {slGr : Array (Option Value)} {ocGr kVGr dcGr pmGr cdGr ctGr : Value}
    {fRef : Addr} {odRef anRef : Option Addr} {slRef : Array (Option Value)} {ocRef kVRef dcRef pmRef cdRef ctRef : Value}
    {fLaw : Addr} {odLaw anLaw : Option Addr} {slLaw : Array (Option Value)} {ocLaw kVLaw dcLaw pmLaw cdLaw ctLaw : Value}
    {fInit : Addr} {odInit anInit : Option Addr} {slInit : Array (Option Value)} {ocInit kVInit dcInit pmInit cdInit ctInit : Value}
    {fHas : Addr} {odHas anHas : Option Addr} {slHas : Array (Option Value)} {ocHas kVHas dcHas pmHas cdHas ctHas : Value}
    {fNear : Addr} {odNear anNear : Option Addr} {slNear : Array (Option Value)} {ocNear kVNear dcNear pmNear cdNear ctNear : Value}
    {fChk : Addr} {odChk anChk : Option Addr} {slChk : Array (Option Value)} {ocChk kVChk dcChk pmChk cdChk ctChk : Value}
    (aC : PySem.W.nsIn K mainGlobals "Graph" = some (some (.ref C)))
    (aB : PySem.W.nsIn K mainGlobals "BadGraph" = some (some (.ref CB)))
    (aW : PySem.W.nsIn K mainGlobals "WidthError" = some (some (.ref CW)))
    (aT : PySem.W.nsIn K mainGlobals "TooLarge" = some (some (.ref CT)))
    (aNum : PySem.W.nsIn K mainGlobals "is_number" = some (some (.ref fNum)))
    (aVtx : PySem.W.nsIn K mainGlobals "is_vertex" = some (some (.ref fVtx)))
    (aEdg : PySem.W.nsIn K mainGlobals "is_edge" = some (some (.ref fEdg)))
    (aNls : PySem.W.nsIn K mainGlobals "near_lists" = some (some (.ref fNls)))
    (aPart : PySem.W.nsIn K mainGlobals "part" = some (some (.ref fPart)))
    (aBtw : PySem.W.nsIn K mainGlobals "edge_between" = some (some (.ref fBtw)))
    (aRen : PySem.W.nsIn K mainGlobals "renumbered" = some (some (.ref fRen)))
    (aWo : PySem.W.nsIn K mainGlobals "without" = some (some (.ref fWo)))
    (aNums : PySem.W.nsIn K mainGlobals "_law_numbers" = some (some (.ref fNums)))
    (aTake : PySem.W.nsIn K mainGlobals "_law_take" = some (some (.ref fTake)))
    (aPrs : PySem.W.nsIn K mainGlobals "_law_pairs" = some (some (.ref fPrs)))
    (aGr : PySem.W.nsIn K mainGlobals "_law_graph" = some (some (.ref fGr)))
    (aRef : PySem.W.nsIn K mainGlobals "_law_refused" = some (some (.ref fRef)))
    (aLaw : PySem.W.nsIn K mainGlobals "law" = some (some (.ref fLaw)))
    (aInit : PySem.W.findIn K (.ref C) "__init__" = some (some (.ref fInit)))
    (iInit : PySem.W.isFn K (.ref fInit) = true)
    (aHas : PySem.W.findIn K (.ref C) "has" = some (some (.ref fHas)))
    (iHas : PySem.W.isFn K (.ref fHas) = true)
    (aNear : PySem.W.findIn K (.ref C) "near" = some (some (.ref fNear)))
    (iNear : PySem.W.isFn K (.ref fNear) = true)
    (aChk : PySem.W.findIn K (.ref C) "_check_vertex" = some (some (.ref fChk)))
    (iChk : PySem.W.isFn K (.ref fChk) = true)
    (lNum : K.lookup fNum = some ⟨ocNum, odNum, .func (PySem.W.fnOf "is_number" "is_number" (defArgs sNum) (defBody sNum) (defScope sNum) .none kVNum dcNum pmNum anNum cdNum ctNum), slNum⟩)
    (cNum : PySem.W.codeIn K cdNum "is_number" = true)
    (kNum : PySem.W.keepIn K (.ref fNum) = true)
    (lVtx : K.lookup fVtx = some ⟨ocVtx, odVtx, .func (PySem.W.fnOf "is_vertex" "is_vertex" (defArgs sVtx) (defBody sVtx) (defScope sVtx) .none kVVtx dcVtx pmVtx anVtx cdVtx ctVtx), slVtx⟩)
    (cVtx : PySem.W.codeIn K cdVtx "is_vertex" = true)
    (kVtx : PySem.W.keepIn K (.ref fVtx) = true)
    (lEdg : K.lookup fEdg = some ⟨ocEdg, odEdg, .func (PySem.W.fnOf "is_edge" "is_edge" (defArgs sEdg) (defBody sEdg) (defScope sEdg) .none kVEdg dcEdg pmEdg anEdg cdEdg ctEdg), slEdg⟩)
    (cEdg : PySem.W.codeIn K cdEdg "is_edge" = true)
    (kEdg : PySem.W.keepIn K (.ref fEdg) = true)
    (lNls : K.lookup fNls = some ⟨ocNls, odNls, .func (PySem.W.fnOf "near_lists" "near_lists" (defArgs sNls) (defBody sNls) (defScope sNls) .none kVNls dcNls pmNls anNls cdNls ctNls), slNls⟩)
    (cNls : PySem.W.codeIn K cdNls "near_lists" = true)
    (kNls : PySem.W.keepIn K (.ref fNls) = true)
    (lPart : K.lookup fPart = some ⟨ocPart, odPart, .func (PySem.W.fnOf "part" "part" (defArgs sPart) (defBody sPart) (defScope sPart) .none kVPart dcPart pmPart anPart cdPart ctPart), slPart⟩)
    (cPart : PySem.W.codeIn K cdPart "part" = true)
    (kPart : PySem.W.keepIn K (.ref fPart) = true)
    (lBtw : K.lookup fBtw = some ⟨ocBtw, odBtw, .func (PySem.W.fnOf "edge_between" "edge_between" (defArgs sBtw) (defBody sBtw) (defScope sBtw) .none kVBtw dcBtw pmBtw anBtw cdBtw ctBtw), slBtw⟩)
    (cBtw : PySem.W.codeIn K cdBtw "edge_between" = true)
    (kBtw : PySem.W.keepIn K (.ref fBtw) = true)
    (lRen : K.lookup fRen = some ⟨ocRen, odRen, .func (PySem.W.fnOf "renumbered" "renumbered" (defArgs sRen) (defBody sRen) (defScope sRen) .none kVRen dcRen pmRen anRen cdRen ctRen), slRen⟩)
    (cRen : PySem.W.codeIn K cdRen "renumbered" = true)
    (kRen : PySem.W.keepIn K (.ref fRen) = true)
    (lWo : K.lookup fWo = some ⟨ocWo, odWo, .func (PySem.W.fnOf "without" "without" (defArgs sWo) (defBody sWo) (defScope sWo) .none kVWo dcWo pmWo anWo cdWo ctWo), slWo⟩)
    (cWo : PySem.W.codeIn K cdWo "without" = true)
    (kWo : PySem.W.keepIn K (.ref fWo) = true)
    (lNums : K.lookup fNums = some ⟨ocNums, odNums, .func (PySem.W.fnOf "_law_numbers" "_law_numbers" (defArgs sNums) (defBody sNums) (defScope sNums) .none kVNums dcNums pmNums anNums cdNums ctNums), slNums⟩)
    (cNums : PySem.W.codeIn K cdNums "_law_numbers" = true)
    (kNums : PySem.W.keepIn K (.ref fNums) = true)
    (lTake : K.lookup fTake = some ⟨ocTake, odTake, .func (PySem.W.fnOf "_law_take" "_law_take" (defArgs sTake) (defBody sTake) (defScope sTake) .none kVTake dcTake pmTake anTake cdTake ctTake), slTake⟩)
    (cTake : PySem.W.codeIn K cdTake "_law_take" = true)
    (kTake : PySem.W.keepIn K (.ref fTake) = true)
    (lPrs : K.lookup fPrs = some ⟨ocPrs, odPrs, .func (PySem.W.fnOf "_law_pairs" "_law_pairs" (defArgs sPrs) (defBody sPrs) (defScope sPrs) .none kVPrs dcPrs pmPrs anPrs cdPrs ctPrs), slPrs⟩)
    (cPrs : PySem.W.codeIn K cdPrs "_law_pairs" = true)
    (kPrs : PySem.W.keepIn K (.ref fPrs) = true)
    (lGr : K.lookup fGr = some ⟨ocGr, odGr, .func (PySem.W.fnOf "_law_graph" "_law_graph" (defArgs sGr) (defBody sGr) (defScope sGr) .none kVGr dcGr pmGr anGr cdGr ctGr), slGr⟩)
    (cGr : PySem.W.codeIn K cdGr "_law_graph" = true)
    (kGr : PySem.W.keepIn K (.ref fGr) = true)
    (lRef : K.lookup fRef = some ⟨ocRef, odRef, .func (PySem.W.fnOf "_law_refused" "_law_refused" (defArgs sRef) (defBody sRef) (defScope sRef) .none kVRef dcRef pmRef anRef cdRef ctRef), slRef⟩)
    (cRef : PySem.W.codeIn K cdRef "_law_refused" = true)
    (kRef : PySem.W.keepIn K (.ref fRef) = true)
    (lLaw : K.lookup fLaw = some ⟨ocLaw, odLaw, .func (PySem.W.fnOf "law" "law" (defArgs sLaw) (defBody sLaw) (defScope sLaw) .none kVLaw dcLaw pmLaw anLaw cdLaw ctLaw), slLaw⟩)
    (cLaw : PySem.W.codeIn K cdLaw "law" = true)
    (kLaw : PySem.W.keepIn K (.ref fLaw) = true)
    (lInit : K.lookup fInit = some ⟨ocInit, odInit, .func (PySem.W.fnOf "__init__" "Graph.__init__" (defArgs sInit) (defBody sInit) (defScope sInit) .none kVInit dcInit pmInit anInit cdInit ctInit), slInit⟩)
    (cInit : PySem.W.codeIn K cdInit "Graph.__init__" = true)
    (kInit : PySem.W.keepIn K (.ref fInit) = true)
    (lHas : K.lookup fHas = some ⟨ocHas, odHas, .func (PySem.W.fnOf "has" "Graph.has" (defArgs sHas) (defBody sHas) (defScope sHas) .none kVHas dcHas pmHas anHas cdHas ctHas), slHas⟩)
    (cHas : PySem.W.codeIn K cdHas "Graph.has" = true)
    (kHas : PySem.W.keepIn K (.ref fHas) = true)
    (lNear : K.lookup fNear = some ⟨ocNear, odNear, .func (PySem.W.fnOf "near" "Graph.near" (defArgs sNear) (defBody sNear) (defScope sNear) .none kVNear dcNear pmNear anNear cdNear ctNear), slNear⟩)
    (cNear : PySem.W.codeIn K cdNear "Graph.near" = true)
    (kNear : PySem.W.keepIn K (.ref fNear) = true)
    (lChk : K.lookup fChk = some ⟨ocChk, odChk, .func (PySem.W.fnOf "_check_vertex" "Graph._check_vertex" (defArgs sChk) (defBody sChk) (defScope sChk) .none kVChk dcChk pmChk anChk cdChk ctChk), slChk⟩)
    (cChk : PySem.W.codeIn K cdChk "Graph._check_vertex" = true)
    (kChk : PySem.W.keepIn K (.ref fChk) = true)
    (pg : PySem.W.plainGet K C Str.empty = true)
    (hd : PySem.W.hasDictIn K C = true)
    (po : PySem.W.plainOver K C = true)
    (sa : PySem.W.findIn K (.ref C) "__setattr__" = some (some (.builtin "object.__setattr__")))
    (mk : PySem.W.makesIn K C = true)
    (kc : PySem.W.keepIn K (.ref C) = true)
    (nS : PySem.W.findIn K (.ref C) "size" = some none)
    (nE : PySem.W.findIn K (.ref C) "edges" = some none)
    (nN : PySem.W.findIn K (.ref C) "_near" = some none)
    (xB : PySem.W.excIn K CB [.type "ValueError", .type "Exception", .type "BaseException", .type "object"] "ValueError.__new__" = true)
    (kB : PySem.W.keepIn K (.ref CB) = true)
    (bB : PySem.W.subIn K (.ref CB) (.type "BaseException") = some true)
    (tB : PySem.W.typeIn K (.ref CB) = some (.type "type"))
    (e1 : PySem.W.findIn K (.ref CB) "__getattribute__" = some (some (.builtin "BaseException.__getattribute__")))
    (e2 : PySem.W.findIn K (.ref CB) "__getattr__" = some none)
    (e4 : PySem.W.hasDictIn K CB = true)
    (e5 : PySem.W.findIn K (.ref CB) "__class__" = some (some (.builtin "object.__class__")))
    (e6 : PySem.W.specialIn K (.builtin "object.__class__") "__get__" = some (some (.builtin "getset_descriptor.__get__")))
    (e7 : PySem.W.takesIn K (.builtin "object.__class__") = some true)
    (e8 : PySem.W.mroIn K CB (.type "object") = some true)
    (kW : PySem.W.kitOne K (.ref CB) (.ref CW) = some true)
    (kVE : PySem.W.kitOne K (.ref CB) (.type "ValueError") = some true)
    (kTL : PySem.W.kitOne K (.ref CB) (.ref CT) = some false)
    (em : PySem.W.exmOne K (.ref CB) (.ref CB) = some true)
    (aM : PySem.W.nsIn K mainGlobals "MOST_VERTICES" = some (some (.int 60 tm)))
    (z_isinstance : PySem.W.nsIn K mainGlobals "isinstance" = some none)
    (z_int : PySem.W.nsIn K mainGlobals "int" = some none)
    (z_bool : PySem.W.nsIn K mainGlobals "bool" = some none)
    (z_tuple : PySem.W.nsIn K mainGlobals "tuple" = some none)
    (z_len : PySem.W.nsIn K mainGlobals "len" = some none)
    (z_set : PySem.W.nsIn K mainGlobals "set" = some none)
    (z_sorted : PySem.W.nsIn K mainGlobals "sorted" = some none)
    (z_range : PySem.W.nsIn K mainGlobals "range" = some none)
    (z_list : PySem.W.nsIn K mainGlobals "list" = some none)
    (z_enumerate : PySem.W.nsIn K mainGlobals "enumerate" = some none)
    (z_min : PySem.W.nsIn K mainGlobals "min" = some none)
    (z_max : PySem.W.nsIn K mainGlobals "max" = some none)
    (z_abs : PySem.W.nsIn K mainGlobals "abs" = some none)
    (z_ValueError : PySem.W.nsIn K mainGlobals "ValueError" = some none)
    : ∃ fd : FuncData, (∀ (s : Shared) (v : Value), BindsTo s fd ⟨[v], []⟩ [("script", v)]) ∧ ∀ base : Heap, K.In base → base.Ns mainGlobals mg → FnOk l.prog w K mg base CX0 9 fa fd ["script"] (spLaw K) := by
  have e := hfa.symm.trans (PySem.W.mg_of X G aLaw)
  cases e
  have m_isinstance := PySem.W.mg_none_of X G z_isinstance
  have m_int := PySem.W.mg_none_of X G z_int
  have m_bool := PySem.W.mg_none_of X G z_bool
  have m_tuple := PySem.W.mg_none_of X G z_tuple
  have m_len := PySem.W.mg_none_of X G z_len
  have m_set := PySem.W.mg_none_of X G z_set
  have m_sorted := PySem.W.mg_none_of X G z_sorted
  have m_range := PySem.W.mg_none_of X G z_range
  have m_list := PySem.W.mg_none_of X G z_list
  have m_enumerate := PySem.W.mg_none_of X G z_enumerate
  have m_min := PySem.W.mg_none_of X G z_min
  have m_max := PySem.W.mg_none_of X G z_max
  have m_abs := PySem.W.mg_none_of X G z_abs
  have m_ValueError := PySem.W.mg_none_of X G z_ValueError
  have FNum := fun_mk (st := sNum) lNum cNum kNum
  have bNum := FNum.binds (ps := ["value"]) fun _ _ _ _ _ _ us hl => match us, hl with | [_], _ => rfl
  have FVtx := fun_mk (st := sVtx) lVtx cVtx kVtx
  have bVtx := FVtx.binds (ps := ["value", "size"]) fun _ _ _ _ _ _ us hl => match us, hl with | [_, _], _ => rfl
  have FEdg := fun_mk (st := sEdg) lEdg cEdg kEdg
  have bEdg := FEdg.binds (ps := ["value", "size"]) fun _ _ _ _ _ _ us hl => match us, hl with | [_, _], _ => rfl
  have FNls := fun_mk (st := sNls) lNls cNls kNls
  have bNls := FNls.binds (ps := ["size", "edges"]) fun _ _ _ _ _ _ us hl => match us, hl with | [_, _], _ => rfl
  have FPart := fun_mk (st := sPart) lPart cPart kPart
  have bPart := FPart.binds (ps := ["graph", "vertices"]) fun _ _ _ _ _ _ us hl => match us, hl with | [_, _], _ => rfl
  have FBtw := fun_mk (st := sBtw) lBtw cBtw kBtw
  have bBtw := FBtw.binds (ps := ["u", "v"]) fun _ _ _ _ _ _ us hl => match us, hl with | [_, _], _ => rfl
  have FRen := fun_mk (st := sRen) lRen cRen kRen
  have bRen := FRen.binds (ps := ["graph", "order"]) fun _ _ _ _ _ _ us hl => match us, hl with | [_, _], _ => rfl
  have FWo := fun_mk (st := sWo) lWo cWo kWo
  have bWo := FWo.binds (ps := ["graph", "edge"]) fun _ _ _ _ _ _ us hl => match us, hl with | [_, _], _ => rfl
  have FNums := fun_mk (st := sNums) lNums cNums kNums
  have bNums := FNums.binds (ps := ["script", "many"]) fun _ _ _ _ _ _ us hl => match us, hl with | [_, _], _ => rfl
  have FTake := fun_mk (st := sTake) lTake cTake kTake
  have bTake := FTake.binds (ps := ["numbers", "place"]) fun _ _ _ _ _ _ us hl => match us, hl with | [_, _], _ => rfl
  have FPrs := fun_mk (st := sPrs) lPrs cPrs kPrs
  have bPrs := FPrs.binds (ps := ["size"]) fun _ _ _ _ _ _ us hl => match us, hl with | [_], _ => rfl
  have FGr := fun_mk (st := sGr) lGr cGr kGr
  have bGr := FGr.binds (ps := ["numbers", "place", "most"]) fun _ _ _ _ _ _ us hl => match us, hl with | [_, _, _], _ => rfl
  have FRef := fun_mk (st := sRef) lRef cRef kRef
  have bRef := FRef.binds (ps := ["way", "graph", "value"]) fun _ _ _ _ _ _ us hl => match us, hl with | [_, _, _], _ => rfl
  have FLaw := fun_mk (st := sLaw) lLaw cLaw kLaw
  have bLaw := FLaw.binds (ps := ["script"]) fun _ _ _ _ _ _ us hl => match us, hl with | [_], _ => rfl
  have FInit := fun_mk (st := sInit) lInit cInit kInit
  have bInit := FInit.binds (ps := ["self", "size", "edges"]) fun _ _ _ _ _ _ us hl => match us, hl with | [_, _, _], _ => rfl
  have FHas := fun_mk (st := sHas) lHas cHas kHas
  have bHas := FHas.binds (ps := ["self", "u", "v"]) fun _ _ _ _ _ _ us hl => match us, hl with | [_, _, _], _ => rfl
  have FNear := fun_mk (st := sNear) lNear cNear kNear
  have bNear := FNear.binds (ps := ["self", "u"]) fun _ _ _ _ _ _ us hl => match us, hl with | [_, _], _ => rfl
  have FChk := fun_mk (st := sChk) lChk cChk kChk
  have bChk := FChk.binds (ps := ["self", "value"]) fun _ _ _ _ _ _ us hl => match us, hl with | [_, _], _ => rfl
  have gNum := PySem.W.mg_of X G aNum
  have gVtx := PySem.W.mg_of X G aVtx
  have gEdg := PySem.W.mg_of X G aEdg
  have gNls := PySem.W.mg_of X G aNls
  have gPart := PySem.W.mg_of X G aPart
  have gBtw := PySem.W.mg_of X G aBtw
  have gRen := PySem.W.mg_of X G aRen
  have gWo := PySem.W.mg_of X G aWo
  have gNums := PySem.W.mg_of X G aNums
  have gTake := PySem.W.mg_of X G aTake
  have gPrs := PySem.W.mg_of X G aPrs
  have gGr := PySem.W.mg_of X G aGr
  have gRef := PySem.W.mg_of X G aRef
  have gLaw := PySem.W.mg_of X G aLaw
  have TA : TxA mg := ⟨m_isinstance, m_int, m_bool, m_tuple, m_len⟩
  have T : TxG K mg C := ⟨⟨pg, hd, po, sa⟩, nS, nE, nN, PySem.W.mg_of X G aC⟩
  have B : TxE K mg "BadGraph" CB := ⟨PySem.W.mg_of X G aB, xB, kB, bB, tB⟩
  have TI : TxI K mg CB CW CT := ⟨⟨e1, e2, bB, e4, e5, e6, e7, e8⟩, PySem.W.mg_of X G aW, PySem.W.mg_of X G aT, kW, kVE, kTL, em, m_ValueError, m_isinstance⟩
  have M : Mk K C fInit := ⟨mk, aInit, iInit, kc⟩
  refine ⟨PySem.W.fnOf "law" "law" (defArgs sLaw) (defBody sLaw) (defScope sLaw) .none kVLaw dcLaw pmLaw anLaw cdLaw ctLaw, fun s v => .of_eq rfl, fun base _ _ => ?_⟩
  have GN : FnOk l.prog w K mg base CX0 1 fNum _ ["value"] spNum := ok_num FNum TA
  have GV : FnOk l.prog w K mg base CX0 2 fVtx _ ["value", "size"] spVtx := ok_vtx FVtx FNum bNum gNum TA
  have GE : FnOk l.prog w K mg base CX0 3 fEdg _ ["value", "size"] (spEdg K) := ok_edg FEdg GV kVtx bVtx gVtx TA
  have GL : FnOk l.prog w K mg base CX0 1 fNls _ ["size", "edges"] (spNls K) := ok_nls FNls m_range
  have GI : FnOk l.prog w K mg base (L2.CX l.prog w) 4 fInit _ ["self", "size", "edges"] (spInit K C CB) := ok_init FInit T B GN gNum kNum bNum GE gEdg kEdg bEdg GL gNls kNls bNls (PySem.W.mg_of X G aM) m_set m_tuple m_sorted
  have GK : FnOk l.prog w K mg base (L2.CX l.prog w) 3 fChk _ ["self", "value"] (spChk K C CB) := ok_chk FChk T B GV kVtx bVtx gVtx
  have mChk : Meth K C "_check_vertex" fChk := ⟨aChk, iChk, kChk⟩
  have GNe : FnOk l.prog w K mg base (L2.CX l.prog w) 4 fNear _ ["self", "u"] (spNear K C CB) := ok_near FNear T GK mChk bChk m_list
  have GH : FnOk l.prog w K mg base (L2.CX l.prog w) 4 fHas _ ["self", "u", "v"] (spHas K C CB) := ok_has FHas T GK mChk bChk
  have GB : FnOk l.prog w K mg base CX0 1 fBtw _ ["u", "v"] spBtw := ok_btw FBtw m_min m_max
  have GP : FnOk l.prog w K mg base (L2.CX l.prog w) 6 fPart _ ["graph", "vertices"] (spPart K C CB) := ok_part FPart T B GV kVtx bVtx gVtx GI M bInit GB kBtw bBtw gBtw m_enumerate m_len
  have GR : FnOk l.prog w K mg base (L2.CX l.prog w) 7 fRen _ ["graph", "order"] (spRen K C CB) := ok_ren FRen T B GP kPart bPart gPart m_len
  have GW : FnOk l.prog w K mg base (L2.CX l.prog w) 6 fWo _ ["graph", "edge"] (spWo K C CB) := ok_wo FWo T B GE kEdg bEdg gEdg GI M bInit
  have GNs : FnOk l.prog w K mg base CX0 1 fNums _ ["script", "many"] (spNums K) := ok_nums FNums m_range m_len m_abs m_int
  have GT : FnOk l.prog w K mg base CX0 1 fTake _ ["numbers", "place"] (spTake K) := ok_take FTake m_len
  have GPr : FnOk l.prog w K mg base CX0 1 fPrs _ ["size"] (spPrs K) := ok_prs FPrs m_range
  have GG : FnOk l.prog w K mg base CX0 2 fGr _ ["numbers", "place", "most"] (spGr K) := ok_gr FGr GT kTake bTake gTake GPr kPrs bPrs gPrs
  have GRf : FnOk l.prog w K mg base CX0 8 fRef _ ["way", "graph", "value"] (spRefd K C) := ok_ref FRef T B TI GI M bInit GNe ⟨aNear, iNear, kNear⟩ bNear GH ⟨aHas, iHas, kHas⟩ bHas GP kPart bPart gPart GR kRen bRen gRen GW kWo bWo gWo
  exact ok_law FLaw T GI M bInit GRf kRef bRef gRef GNs kNums bNums gNums GG kGr bGr gGr GT kTake bTake gTake GPr kPrs bPrs gPrs m_list m_range m_len
end Sm

open PySem PySem.W PyProof.Rows
set_option Elab.async false
set_option maxRecDepth 100000 in
set_option maxHeartbeats 0 in
theorem PySem.Challenge.cw_smallwidth_k02_graphs_refused_holds : PySem.Challenge.rw_smallwidth_k02_graphs_refused.Holds := by
  w_on; o_law; k_head; (case hw => w_witness2)
  k_fill
  refine L2.walk_of (l := PySem.Challenge.rw_smallwidth_k02_graphs_refused) (n := 63) (k := 9) (x := "script") (CX := fun _ => L2.CX0) (sp := fun w => Sm.spLaw _) rfl (by decide) rfl ⟨rfl, by decide, by decide⟩ (fun w h Y => PySem.W.kIn_of Y) ?F (fun _ _ a ns hl _ hS => ⟨a, ns, rfl, hS, hl, fun _ => rfl⟩) (fun _ _ _ _ _ h => h)
  case F =>
    intro w mg fa h KX G hmg
    refine' Sm.all_mk KX G hmg ?aC ?aB ?aW ?aT ?aNum ?aVtx ?aEdg ?aNls ?aPart ?aBtw ?aRen ?aWo ?aNums ?aTake ?aPrs ?aGr ?aRef ?aLaw ?aInit ?iInit ?aHas ?iHas ?aNear ?iNear ?aChk ?iChk ?lNum ?cNum ?kNum ?lVtx ?cVtx ?kVtx ?lEdg ?cEdg ?kEdg ?lNls ?cNls ?kNls ?lPart ?cPart ?kPart ?lBtw ?cBtw ?kBtw ?lRen ?cRen ?kRen ?lWo ?cWo ?kWo ?lNums ?cNums ?kNums ?lTake ?cTake ?kTake ?lPrs ?cPrs ?kPrs ?lGr ?cGr ?kGr ?lRef ?cRef ?kRef ?lLaw ?cLaw ?kLaw ?lInit ?cInit ?kInit ?lHas ?cHas ?kHas ?lNear ?cNear ?kNear ?lChk ?cChk ?kChk ?pg ?hd ?po ?sa ?mk ?kc ?nS ?nE ?nN ?xB ?kB ?bB ?tB ?e1 ?e2 ?e4 ?e5 ?e6 ?e7 ?e8 ?kW ?kVE ?kTL ?em ?aM ?z_isinstance ?z_int ?z_bool ?z_tuple ?z_len ?z_set ?z_sorted ?z_range ?z_list ?z_enumerate ?z_min ?z_max ?z_abs ?z_ValueError
    (case aC => first | k_is | rfl)
    (case aB => first | k_is | rfl)
    (case aW => first | k_is | rfl)
    (case aT => first | k_is | rfl)
    (case aNum => first | k_is | rfl)
    (case aVtx => first | k_is | rfl)
    (case aEdg => first | k_is | rfl)
    (case aNls => first | k_is | rfl)
    (case aPart => first | k_is | rfl)
    (case aBtw => first | k_is | rfl)
    (case aRen => first | k_is | rfl)
    (case aWo => first | k_is | rfl)
    (case aNums => first | k_is | rfl)
    (case aTake => first | k_is | rfl)
    (case aPrs => first | k_is | rfl)
    (case aGr => first | k_is | rfl)
    (case aRef => first | k_is | rfl)
    (case aLaw => first | k_is | rfl)
    (case aInit => first | k_is | rfl)
    (case iInit => first | k_is | rfl)
    (case aHas => first | k_is | rfl)
    (case iHas => first | k_is | rfl)
    (case aNear => first | k_is | rfl)
    (case iNear => first | k_is | rfl)
    (case aChk => first | k_is | rfl)
    (case iChk => first | k_is | rfl)
    (case lNum => first | k_is | rfl)
    (case cNum => first | k_is | rfl)
    (case kNum => first | k_is | rfl)
    (case lVtx => first | k_is | rfl)
    (case cVtx => first | k_is | rfl)
    (case kVtx => first | k_is | rfl)
    (case lEdg => first | k_is | rfl)
    (case cEdg => first | k_is | rfl)
    (case kEdg => first | k_is | rfl)
    (case lNls => first | k_is | rfl)
    (case cNls => first | k_is | rfl)
    (case kNls => first | k_is | rfl)
    (case lPart => first | k_is | rfl)
    (case cPart => first | k_is | rfl)
    (case kPart => first | k_is | rfl)
    (case lBtw => first | k_is | rfl)
    (case cBtw => first | k_is | rfl)
    (case kBtw => first | k_is | rfl)
    (case lRen => first | k_is | rfl)
    (case cRen => first | k_is | rfl)
    (case kRen => first | k_is | rfl)
    (case lWo => first | k_is | rfl)
    (case cWo => first | k_is | rfl)
    (case kWo => first | k_is | rfl)
    (case lNums => first | k_is | rfl)
    (case cNums => first | k_is | rfl)
    (case kNums => first | k_is | rfl)
    (case lTake => first | k_is | rfl)
    (case cTake => first | k_is | rfl)
    (case kTake => first | k_is | rfl)
    (case lPrs => first | k_is | rfl)
    (case cPrs => first | k_is | rfl)
    (case kPrs => first | k_is | rfl)
    (case lGr => first | k_is | rfl)
    (case cGr => first | k_is | rfl)
    (case kGr => first | k_is | rfl)
    (case lRef => first | k_is | rfl)
    (case cRef => first | k_is | rfl)
    (case kRef => first | k_is | rfl)
    (case lLaw => first | k_is | rfl)
    (case cLaw => first | k_is | rfl)
    (case kLaw => first | k_is | rfl)
    (case lInit => first | k_is | rfl)
    (case cInit => first | k_is | rfl)
    (case kInit => first | k_is | rfl)
    (case lHas => first | k_is | rfl)
    (case cHas => first | k_is | rfl)
    (case kHas => first | k_is | rfl)
    (case lNear => first | k_is | rfl)
    (case cNear => first | k_is | rfl)
    (case kNear => first | k_is | rfl)
    (case lChk => first | k_is | rfl)
    (case cChk => first | k_is | rfl)
    (case kChk => first | k_is | rfl)
    (case pg => first | k_is | rfl)
    (case hd => first | k_is | rfl)
    (case po => first | k_is | rfl)
    (case sa => first | k_is | rfl)
    (case mk => first | k_is | rfl)
    (case kc => first | k_is | rfl)
    (case nS => first | k_is | rfl)
    (case nE => first | k_is | rfl)
    (case nN => first | k_is | rfl)
    (case xB => first | k_is | k_exc | decide +kernel)
    (case kB => first | k_is | rfl)
    (case bB => first | k_is | rfl)
    (case tB => first | k_is | rfl)
    (case e1 => first | k_is | rfl)
    (case e2 => first | k_is | rfl)
    (case e4 => first | k_is | rfl)
    (case e5 => first | k_is | rfl)
    (case e6 => first | k_is | rfl)
    (case e7 => first | k_is | rfl)
    (case e8 => first | k_is | rfl)
    (case kW => first | k_is | rfl)
    (case kVE => first | k_is | rfl)
    (case kTL => first | k_is | rfl)
    (case em => first | k_is | rfl)
    (case aM => first | k_is | rfl)
    (case z_isinstance => first | k_is | rfl)
    (case z_int => first | k_is | rfl)
    (case z_bool => first | k_is | rfl)
    (case z_tuple => first | k_is | rfl)
    (case z_len => first | k_is | rfl)
    (case z_set => first | k_is | rfl)
    (case z_sorted => first | k_is | rfl)
    (case z_range => first | k_is | rfl)
    (case z_list => first | k_is | rfl)
    (case z_enumerate => first | k_is | rfl)
    (case z_min => first | k_is | rfl)
    (case z_max => first | k_is | rfl)
    (case z_abs => first | k_is | rfl)
    (case z_ValueError => first | k_is | rfl)

