import PyProof.Rows.All
import Wide.All
import OpenK.AllK
import Wide.FinOn
import HandS.ForMost
import HandS.Set
import HandS.Strs
import HandS.TupSets
import HandS.SortRule
import HandS.SortInts
import HandS.ForExc
import KE.KSetDisp
import KE.GoesSet
import HandS.IsInst
import HandS.Deep
import HandS.Flow
import HandS.ExcIs
import HandS.Walk
import HandS.Conv
import HandS.TupLe
import HandS.Star
import KE.DataMinMax
import PyProof.Rows.CallKwBuiltin
import HandS.WideBits
import KE.OsArith
import KE.BitLaws
import KE.GoesMore
import KE.GoesEnum
import HandS.Iter
import HandS.TupAny
import HandS.Style
import KE.DataAny
import HandS.TupMul
import HandS.Codes
import PySem.Challenge.RW_smallwidth_k13_faults_of_decompositions
set_option Elab.async false
set_option linter.all false
set_option maxRecDepth 100000
set_option maxHeartbeats 2000000
/-! Sets of tuples of ints that grow by add, asked by in, sorted; up to 75 members. -/
namespace Sm
open PySem PySem.Spec PyProof.Rows L2
section
variable {P : Program} {w : World} {A : Around} {E : Value → Shared → Prop} {s : Shared}
/-- where the search for a hash begins -/
abbrev walk0 (m : Nat) (h : Int) : SetTable.Probe := runAt m (SetTable.bits h % (m + 1)) (SetTable.bits h)
/-- at a stands a set whose members are the tuples of L (its address, its ints) -/
structure TW (P : Program) (w : World) (h : Heap) (a : Addr) (L : List (Addr × List Int)) (es : Array (Int × Value)) (ep : Nat) (t : SetTable) : Prop where
  obj : ∃ o, h.get? a = some o ∧ o.ExactSet ∧ o.data = .set es ep t
  rws : es.toList = rowsOf P w L
  tbl : TabOk t (L.map fun p => thash P w p.2)
  dif : (L.map (·.2)).Nodup
  mem : ∀ p ∈ L, IsT P w h p.2 p.1
  pln : t.plain = true
  ld : w.params.followText "set-order" = true ∨ t.led = true
  fit : L.length * 5 < t.mask * 3
variable {a : Addr} {L : List (Addr × List Int)} {es : Array (Int × Value)} {ep : Nat} {t : SetTable}
theorem TW.len (R : TW P w s.heap a L es ep t) : es.size = L.length := by
  have q : es.toList.length = (rowsOf P w L).length := by rw [R.rws]
  rw [Array.length_toList, rowsOf, List.length_map] at q
  exact q
theorem TW.few (R : TW P w s.heap a L es ep t) : L.length ≤ 76 := by
  have q := R.fit
  rcases R.tbl.mok with e | e | e <;> omega
theorem TW.holds (R : TW P w s.heap a L es ep t) : t.fits es.size = true := by
  have q1 := R.tbl.sz
  rw [List.length_map] at q1
  have q2 := R.len
  have q3 := R.fit
  simp only [SetTable.fits, SetTable.fill, R.tbl.dm, Bool.and_eq_true, beq_iff_eq, decide_eq_true_eq]
  refine ⟨by omega, ?_⟩
  show t.place.size + 0 ≤ t.mask
  omega
theorem TW.at (R : TW P w s.heap a L es ep t) {i : Nat} {p : Addr × List Int} (h : L[i]? = some p) : es[i]? = some (thash P w p.2, Value.ref p.1) := by
  have q : es.toList[i]? = (rowsOf P w L)[i]? := by rw [R.rws]
  rw [Array.getElem?_toList] at q
  rw [q, rowsOf, List.getElem?_map, h]
  rfl
theorem nth_clean (m : Nat) : ∀ (n : Nat) (p : SetTable.Probe), p.dummy = none → (nth m p n).dummy = none
  | 0, _, h => h
  | n + 1, p, h => nth_clean m n (adv m p) (by unfold adv; split <;> exact h)
/-- the search from the c-th place of its way on, whether one adds or asks -/
theorem tw_from (R : TW P w s.heap a L es ep t) {x : Addr} {k : List Int} (hx : IsT P w s.heap k x) (hu : A.units < cLine) (adding : Bool) {K : Nat} (hKf : K < 10 * SetTable.turns t.mask)
    (hK : way t.mask (thash P w k) K ∉ t.place.toList) (hKb : ∀ c, c < K → way t.mask (thash P w k) c ∈ t.place.toList) {Q : SetFound → Shared → Prop}
    (hin : k ∈ L.map (·.2) → ∀ r : Option Nat, (adding = false → r.isSome = true) → Q (.there r) s)
    (hout : k ∉ L.map (·.2) → Q (.free (way t.mask (thash P w k) K) false) s) (f : Nat) :
    ∀ (c : Nat) (stand : Option SetTable.Probe), stand.getD (t.probeStart (thash P w k)) = nth t.mask (walk0 t.mask (thash P w k)) c → c ≤ K → K < c + f →
      (∀ (i : Nat) p, L[i]? = some p → p.2 = k → ∃ c', c ≤ c' ∧ c' < K ∧ t.place.toList[i]? = some (way t.mask (thash P w k) c')) →
      wpAny (model P w) A (setSearchFrom a (.ref x) (thash P w k) adding f stand) Q E s := by
  induction f with
  | zero => intro c _ _ h1 h2 _; omega
  | succ f ih =>
    intro c stand hst hc hf hre
    have ⟨o, ho, hex, hd⟩ := R.obj
    have hashes : ∀ (i : Nat) p, L[i]? = some p → (es[i]?.map (·.1)).getD 0 = thash P w p.2 := fun i p hp => by rw [R.at hp]; rfl
    have later : ∀ q, nth t.mask (nth t.mask (walk0 t.mask (thash P w k)) c) q = nth t.mask (walk0 t.mask (thash P w k)) (c + q) := fun q => (nth_add t.mask c _ q).symm
    have lj : ∀ q, (nth t.mask (nth t.mask (walk0 t.mask (thash P w k)) c) q).j = way t.mask (thash P w k) (c + q) := fun q => congrArg SetTable.Probe.j (later q)
    have met := go_spec t R.tbl.ris R.tbl.dm (fun i => (es[i]?.map (·.1)).getD 0) (thash P w k) (10 * SetTable.turns t.mask) (K - c) (nth t.mask (walk0 t.mask (thash P w k)) c)
      (nth_clean _ _ _ rfl) (by omega) (fun q hq => by rw [lj]; exact hKb (c + q) (by omega)) (by rw [lj, show c + (K - c) = K from by omega]; exact hK)
    rw [setSearchFrom_succ]
    refine wpAny_bind (wpAny_setState_of ho hd R.holds ?_)
    dsimp only
    have ngw : ¬ t.gaveWay = true := by
      unfold SetTable.gaveWay
      rw [mask_odd R.tbl.mok]
      decide
    refine wp_if_neg ngw ?_
    try refine wpAny_bind (wpAny_pure ?_)
    rcases met with ⟨q, i, hq, hi, hh, hno, hpr⟩ | ⟨hno, hpr⟩
    · rw [lj] at hi
      have pr : t.probe (fun i => (es[i]?.map (·.1)).getD 0) (thash P w k) (stand.getD (t.probeStart (thash P w k))) =
          some (.candidate (way t.mask (thash P w k) (c + q)) i (nth t.mask (walk0 t.mask (thash P w k)) (c + (q + 1)))) := by
        rw [hst, ← lj, ← later]
        exact hpr
      rw [pr]
      dsimp only
      have il : i < L.length := by
        have z1 : i < t.place.toList.length := (List.getElem?_eq_some_iff.mp hi).1
        have z2 := R.tbl.sz
        rw [List.length_map] at z2
        rw [Array.length_toList] at z1
        omega
      obtain ⟨p, hp⟩ : ∃ p, L[i]? = some p := ⟨_, List.getElem?_eq_getElem il⟩
      have pm : p ∈ L := List.mem_of_getElem? hp
      have tail : wpAny (model P w) A (searchRest a (.ref x) (thash P w k) adding f es t (way t.mask (thash P w k) (c + q)) i (nth t.mask (walk0 t.mask (thash P w k)) (c + (q + 1)))) Q E s := by
        unfold searchRest
        rw [R.at hp]
        dsimp only
        refine wpAny_bind (wpAny_holding (wpAny_eqBool_tuple hu (R.mem p pm) hx ?_))
        refine wpAny_bind (wpAny_setState_of ho hd R.holds ?_)
        dsimp only
        have sl : t.slot (way t.mask (thash P w k) (c + q)) = .live i := slot_live R.tbl.ris hi
        by_cases same : p.2 = k
        · have there : k ∈ L.map (·.2) := List.mem_map.mpr ⟨p, pm, same⟩
          cases adding with
          | true =>
            refine wp_if_pos (by simp [same]) ?_
            exact wpAny_pure (hin there none (fun z => by cases z))
          | false =>
            refine wp_if_neg (by simp) ?_
            try refine wpAny_bind (wpAny_pure ?_)
            rw [sameMem]
            dsimp only
            simp only [if_true, sl, R.at hp]
            refine wpAny_bind (wpAny_isSame_ref_self (wpAny_bind (wpAny_pure ?_)))
            simp only [if_true]
            refine wp_if_pos (by simp [same]) ?_
            exact wpAny_pure (hin there (some i) (fun _ => rfl))
        · refine wp_if_neg (by simp [same]) ?_
          try refine wpAny_bind (wpAny_pure ?_)
          rw [sameMem]
          dsimp only
          simp only [if_true, sl, R.at hp]
          refine wpAny_bind (wpAny_isSame_ref_self (wpAny_bind (wpAny_pure ?_)))
          simp only [if_true]
          refine wp_if_neg (by simp [same]) ?_
          refine ih (c + (q + 1)) _ rfl (by omega) (by omega) fun i0 p0 h0 k0 => ?_
          obtain ⟨c', a1, a2, a3⟩ := hre i0 p0 h0 k0
          refine ⟨c', ?_, a2, a3⟩
          have ne1 : ¬ c' < c + q := fun z => by
            refine hno (c' - c) i0 (by omega) (by rw [lj, show c + (c' - c) = c' from by omega]; exact a3) ?_
            exact (hashes i0 p0 h0).trans (congrArg (thash P w) k0)
          have ne2 : c' ≠ c + q := fun z => by
            rw [z] at a3
            have s0 := slot_live R.tbl.ris a3
            rw [sl] at s0
            cases s0
            rw [hp] at h0
            exact same ((congrArg Prod.snd (Option.some.inj h0)).trans k0)
          omega
      by_cases hl : t.led = true
      · refine wp_if_neg (by simp [hl]) ?_
        try refine wpAny_bind (wpAny_pure ?_)
        exact tail
      · refine wp_if_pos (by simp [hl]) ?_
        refine wpAny_bind (seen_tup hx (fun y hy => ?_) ?_)
        · obtain ⟨e, he, ee⟩ := List.mem_map.mp hy
          have he1 : e ∈ es ∧ e.1 = thash P w k := by simpa using he
          have he2 : e ∈ es.toList := by simpa using he1.1
          rw [R.rws] at he2
          obtain ⟨p2, hp2, e2⟩ := List.mem_map.mp he2
          exact ⟨p2.2, p2.1, by rw [← ee, ← e2], R.mem p2 hp2⟩
        · refine wp_if_neg (by decide) ?_
          try refine wpAny_bind (wpAny_pure ?_)
          exact tail
    · have pr : t.probe (fun i => (es[i]?.map (·.1)).getD 0) (thash P w k) (stand.getD (t.probeStart (thash P w k))) = some (.empty (way t.mask (thash P w k) K) none) := by
        have z := hpr
        rw [lj, show c + (K - c) = K from by omega] at z
        rw [hst]
        exact z
      rw [pr]
      dsimp only
      refine wpAny_pure (hout fun hm => ?_)
      obtain ⟨p0, h0, k0⟩ := List.mem_map.mp hm
      obtain ⟨i0, hi0, e0⟩ := List.getElem_of_mem h0
      have h00 : L[i0]? = some p0 := by rw [List.getElem?_eq_getElem hi0, e0]
      obtain ⟨c', a1, a2, a3⟩ := hre i0 p0 h00 k0
      refine hno (c' - c) i0 (by omega) (by rw [lj, show c + (c' - c) = c' from by omega]; exact a3) ?_
      exact (hashes i0 p0 h00).trans (congrArg (thash P w) k0)
theorem tw_search (R : TW P w s.heap a L es ep t) {x : Addr} {k : List Int} (hx : IsT P w s.heap k x) (hu : A.units < cLine) (adding : Bool) {Q : SetFound → Shared → Prop}
    (hin : k ∈ L.map (·.2) → ∀ r : Option Nat, (adding = false → r.isSome = true) → Q (.there r) s)
    (hout : ∀ K, k ∉ L.map (·.2) → way t.mask (thash P w k) K ∉ t.place.toList → (∀ c, c < K → way t.mask (thash P w k) c ∈ t.place.toList) → Q (.free (way t.mask (thash P w k) K) false) s) :
    wpAny (model P w) A (setSearch a (.ref x) (thash P w k) adding) Q E s := by
  have fit := R.fit
  obtain ⟨K, h1, h2, h3⟩ := R.tbl.first (by rw [List.length_map]; omega) (thash P w k)
  have small : K < 100000 := by
    have z : 10 * SetTable.turns t.mask ≤ 1420 := by
      unfold SetTable.turns
      rcases R.tbl.mok with e | e | e <;> omega
    omega
  unfold setSearch
  refine tw_from R hx hu adding h1 h2 h3 hin (fun hn => hout K hn h2 h3) 100000 0 none rfl (Nat.zero_le _) (by omega) fun i p hp hk => ?_
  have hi : (L.map fun p => thash P w p.2)[i]? = some (thash P w k) := by rw [List.getElem?_map, hp, ← hk]; rfl
  have il : i < t.place.toList.length := by
    have z1 : i < L.length := (List.getElem?_eq_some_iff.mp hp).1
    have z2 := R.tbl.sz
    rw [List.length_map] at z2
    rw [Array.length_toList]
    omega
  obtain ⟨c, hc, e⟩ := R.tbl.before h2 hi (List.getElem?_eq_getElem il)
  exact ⟨c, Nat.zero_le _, hc, by rw [List.getElem?_eq_getElem il, e]⟩
end
end Sm

set_option Elab.async false
set_option linter.all false
set_option maxRecDepth 100000
set_option maxHeartbeats 2000000
namespace Sm
open PySem PySem.Spec PyProof.Rows L2
section
variable {P : Program} {w : World} {A : Around} {E : Value → Shared → Prop} {s : Shared} {a : Addr} {L : List (Addr × List Int)} {es : Array (Int × Value)} {ep : Nat} {t : SetTable}
theorem TW.of (R : SetTR P w s.heap a L es ep t) : TW P w s.heap a L es ep t := ⟨R.ob, R.rows, R.tab, R.nd, R.tup, R.plain, R.led, R.room⟩
/-- one more tuple put in -/
theorem tw_add (R : TW P w s.heap a L es ep t) {x : Addr} {k : List Int} (hx : IsT P w s.heap k x) (hu : A.units < cLine) (room : L.length < 75) (hno : k ∉ L.map (·.2)) {Q : Bool → Shared → Prop}
    (hQ : ∀ h' L' es' ep' t', Heap.SameBut a s.heap h' → TW P w h' a L' es' ep' t' → L'.Perm ((x, k) :: L) → Q true { s with heap := h' }) :
    wpAny (model P w) A (setAddHashed a (.ref x) (thash P w k)) Q E s := by
  have ⟨o, ho, hex, hd⟩ := R.obj
  have len := R.len
  have fit := R.fit
  unfold setAddHashed
  refine wpAny_holding ?_
  rw [show (100000 : Nat) = 99999 + 1 from rfl, setAddHashedIn_succ]
  refine wpAny_bind (wpAny_setState_of ho hd R.holds ?_)
  dsimp only
  refine wp_if_neg (by simp [byScan, Value.scannable]) ?_
  try refine wpAny_bind (wpAny_pure ?_)
  refine wpAny_bind (tw_search R hx hu true (fun hm => absurd hm hno) fun K _ hK hb => ?_)
  dsimp only
  refine wpAny_bind (wpAny_setState_of ho hd R.holds ?_)
  dsimp only
  obtain ⟨q1, q2, q3, q4, q5, q6, q7, q8, q9⟩ := R.tbl.put hK hb
  have pl1 : (t.put (way t.mask (thash P w k) K)).1.plain = true := by rw [q6]; exact R.pln
  generalize hpt : t.put (way t.mask (thash P w k) K) = pt at q1 q3 q4 q5 q6 q7 q8 q9 pl1 ⊢
  obtain ⟨t1, j⟩ := pt
  dsimp only at q1 q3 q4 q5 q6 q7 q8 q9 pl1 ⊢
  subst q1
  first
    | (refine wpAny_bind ?_; refine wp_if_pos pl1 ?_; refine hashBy_tup hx ?_)
    | refine wp_if_pos pl1 (wpAny_bind (hashBy_tup hx ?_))
  simp only [if_true]
  have rows1 : (SetTable.insertAt es (SetTable.below t.place (way t.mask (thash P w k) K)) (thash P w k, Value.ref x)).toList =
      rowsOf P w (L.take (SetTable.below t.place (way t.mask (thash P w k) K)) ++ (x, k) :: L.drop (SetTable.below t.place (way t.mask (thash P w k) K))) := by
    rw [SetTable.toList_insertAt, rows_put, R.rws]
  generalize hpp : SetTable.below t.place (way t.mask (thash P w k) K) = j at q2 q3 rows1 ⊢
  have pm := put_perm L j (x, k)
  have n1 : (L.take j ++ (x, k) :: L.drop j).length = L.length + 1 := pm.length_eq
  have hash1 : (L.take j ++ (x, k) :: L.drop j).map (fun p => thash P w p.2) = (L.map fun p => thash P w p.2).take j ++ thash P w k :: (L.map fun p => thash P w p.2).drop j := by
    rw [List.map_append, List.map_cons, List.map_take, List.map_drop]
  rw [← hash1] at q3
  have dif1 : ((L.take j ++ (x, k) :: L.drop j).map (·.2)).Nodup := by
    refine (pm.map (·.2)).nodup_iff.mpr ?_
    rw [List.map_cons]
    exact List.nodup_cons.mpr ⟨hno, R.dif⟩
  have z1 : (SetTable.insertAt es j (thash P w k, Value.ref x)).size = L.length + 1 := by
    have q := congrArg List.length rows1
    rw [rowsOf, Array.length_toList, List.length_map, n1] at q
    exact q
  generalize SetTable.insertAt es j (thash P w k, Value.ref x) = es1 at rows1 z1 ⊢
  generalize L.take j ++ (x, k) :: L.drop j = L1 at pm n1 q3 dif1 rows1
  refine wpAny_bind (wpAny_storeSet_of ho hd ?_ (by rw [z1, sizeLine_eq]; omega))
  have but : Heap.SameBut a s.heap (s.heap.update a (Obj.putSet es1 t1)) := Heap.SameBut.update ..
  have ho1 := store_at (es' := es1) (t' := t1) ho hd
  generalize s.heap.update a (Obj.putSet es1 t1) = h1 at but ho1 ⊢
  have mem1 : ∀ p ∈ L1, IsT P w h1 p.2 p.1 := fun p hp => by
    rcases List.mem_cons.mp (pm.mem_iff.mp hp) with e | hp
    · rw [e]; exact isT_same hx ho hd but
    · exact isT_same (R.mem p hp) ho hd but
  have ld1 : w.params.followText "set-order" = true ∨ t1.led = true := by rw [q5]; exact R.ld
  have fill1 : t1.fill = L.length + 1 := by rw [q9, List.length_map]
  by_cases full : t1.tooFull = true
  · first
      | (refine wpAny_bind ?_; refine wp_if_pos (by simp [full]) ?_)
      | (refine wp_if_pos (by simp [full]) ?_; refine wpAny_bind ?_)
    have over : (L.length + 1) * 5 ≥ t1.mask * 3 := by
      have q := full
      simp only [SetTable.tooFull, decide_eq_true_eq, fill1] at q
      exact q
    rw [len]
    have place1 : t1.place.size = es1.size := by rw [q3.sz, List.length_map, n1, z1]
    have which : (t.mask = 7 ∧ L.length = 4) ∨ (t.mask = 31 ∧ L.length = 18) := by
      rcases R.tbl.mok with e | e | e
      · rw [q4, e] at over; rw [e] at fit; exact .inl ⟨e, by omega⟩
      · rw [q4, e] at over; rw [e] at fit; exact .inr ⟨e, by omega⟩
      · exfalso; rw [q4, e] at over; omega
    have grow : ∀ M, SetTable.sizeAbove (SetTable.grown (L.length + 1)) - 1 = M → MaskOk M → SetTable.sizeAbove (SetTable.grown (L.length + 1)) ≤ 128 → (L.length + 1) * 5 < M * 3 →
        wpAny (model P w) A (setRelay a (SetTable.grown (L.length + 1))) (fun _ s' => wpAny (model P w) A (pure true) Q E s') E { s with heap := h1 } := fun M m1 m2 m3 m4 => by
      refine relay_at (s := { s with heap := h1 }) ho1 ⟨hex.1, hex.2.1, hex.2.2⟩ rfl rows1 place1 q3.dm (by rw [z1, q4]; rcases which with ⟨e, e2⟩ | ⟨e, e2⟩ <;> omega) dif1 mem1 pl1 ld1 (by omega) m1 m2 m3 (by rw [n1]; exact m4) ?_
      intro h2 L2 es2 ep2 t2 but2 R2 pm2
      exact wpAny_pure (hQ h2 L2 es2 ep2 t2 (but.trans but2) ⟨R2.ob, R2.rows, R2.tab, R2.nd, R2.tup, R2.plain, R2.led, R2.room⟩ (pm2.trans pm))
    rcases which with ⟨_, e2⟩ | ⟨_, e2⟩
    · exact grow 31 (by rw [e2, size_20]) (.inr (.inl rfl)) (by rw [e2, size_20]; decide) (by omega)
    · exact grow 127 (by rw [e2, size_76]) (.inr (.inr rfl)) (by rw [e2, size_76]; decide) (by omega)
  · first
      | refine wp_if_neg (by simp [full]) ?_
      | (refine wpAny_bind ?_; refine wp_if_neg (by simp [full]) ?_; refine wpAny_pure ?_)
    refine wpAny_pure (hQ h1 L1 es1 (ep + 1) t1 but ⟨⟨_, ho1, ⟨hex.1, hex.2.1, hex.2.2⟩, rfl⟩, rows1, q3, dif1, mem1, pl1, ld1, ?_⟩ pm)
    have q := full
    simp only [SetTable.tooFull, decide_eq_true_eq, fill1] at q
    rw [n1]
    omega
/-- set.add(t), t not yet in -/
theorem tw_call_add (R : TW P w s.heap a L es ep t) {x : Addr} {k : List Int} (hx : IsT P w s.heap k x) (hu : A.units + 8 < cLine) (room : L.length < 75) (hno : k ∉ L.map (·.2)) {Q : Value → Shared → Prop}
    (hQ : ∀ h' tk L' es' ep' t', Heap.SameBut a s.heap h' → TW P w h' a L' es' ep' t' → L'.Perm ((x, k) :: L) → Q .none { s with heap := h', toks := tk }) :
    wpAny (model P w) A (call (.builtin "set.add") [.ref a, .ref x]) Q E s := by
  have ⟨o, ho, hex, hd⟩ := R.obj
  have ty : s.TypeIs (.ref a) "set" := ⟨o, ho, hex.1⟩
  refine wpAny_call_entry F.slot_set_add ty F.entry_set_add ?_ (F.args_set_add_2 _ _)
  unfold Builtin.«set.add» Builtin.Frozenset.oneOther
  simp only [List.isEmpty_nil, bind_assoc]
  unfold Builtin.Frozenset.addrOf setAdd
  refine wpAny_bind (wpAny_pure ?_)
  try dsimp only
  refine wpAny_bind (wpAny_pure ?_)
  try dsimp only
  refine wpAny_bind ?_
  refine wpAny_holding ?_
  refine wpAny_bind (wpAny_pyHash_tuple (knd := intKind P w) (by show A.units + _ < cLine; omega) hx ?_)
  refine tw_add (s := { s with toks := s.toks + (k.length + 1) }) ⟨R.obj, R.rws, R.tbl, R.dif, R.mem, R.pln, R.ld, R.fit⟩ hx (by show A.units + _ < cLine; omega) room hno fun h' L' es' ep' t' b1 b2 b3 => ?_
  show wpAny _ _ (ret Value.none) _ _ _
  exact wpAny_pure ⟨_, rfl, hQ h' (s.toks + (k.length + 1)) L' es' ep' t' b1 b2 b3⟩
/-- t in set -/
theorem tw_in (R : TW P w s.heap a L es ep t) {x : Addr} {k : List Int} (hx : IsT P w s.heap k x) (hu : A.units + 8 < cLine) {Q : Value → Shared → Prop}
    (hQ : ∀ tk, Q (.bool (decide (k ∈ L.map (·.2)))) { s with toks := tk }) :
    wpAny (model P w) A (compareOp .In (.ref x) (.ref a)) Q E s := by
  have ⟨o, ho, hex, hd⟩ := R.obj
  have ty : s.TypeIs (.ref a) "set" := ⟨o, ho, hex.1⟩
  show wpAny _ _ (do return .bool (← contains (.ref a) (.ref x))) Q E s
  refine wpAny_bind ?_
  unfold contains
  try with_reducible refine wpAny_holding ?_
  refine wpAny_bind (wpAny_specialOf ty F.slot_set_contains.lookup ?_)
  show wpAny _ _ (if (some (Value.builtin "set.__contains__") == some Value.none) = true then _ else _) _ E s
  rw [if_neg (by rw [beq_builtin_none]; exact Bool.false_ne_true)]
  refine wpAny_bind (wpAny_callSpecialUnlessNone?_slot (name := Str.ofString "__contains__") ty F.slot_set_contains
    (wpAny_call_entry F.slot_set_contains ty entry_set_contains ?_ (F.args_set_contains_2 _ _)))
  unfold Builtin.«frozenset.__contains__» Builtin.Frozenset.oneOther
  simp only [List.isEmpty_nil, bind_assoc]
  unfold Builtin.Frozenset.addrOf Builtin.Frozenset.withSetAsKey setContains
  refine wpAny_bind (wpAny_pure ?_)
  try dsimp only
  refine wpAny_bind (wpAny_pure ?_)
  try dsimp only
  refine wpAny_bind (wpAny_tryCatch ?_)
  refine wpAny_holding ?_
  refine wpAny_bind (wpAny_pyHash_tuple (knd := intKind P w) (by show A.units + _ < cLine; omega) hx ?_)
  have R1 : TW P w ({ s with toks := s.toks + (k.length + 1) } : Shared).heap a L es ep t := ⟨R.obj, R.rws, R.tbl, R.dif, R.mem, R.pln, R.ld, R.fit⟩
  have fin : ∀ r : Option Nat, r.isSome = decide (k ∈ L.map (·.2)) → ∀ (E' : Value → Shared → Prop) (A' : Around) (Q' : Value → Shared → Prop), (∀ tk, Q' (.bool (decide (k ∈ L.map (·.2)))) { s with toks := tk }) → Q' (.bool r.isSome) { s with toks := s.toks + (k.length + 1) } := fun r e _ _ _ q => by
    rw [e]; exact q _
  unfold setFind
  rw [show (100000 : Nat) = 99999 + 1 from rfl]
  unfold setFindIn
  refine wpAny_bind (wpAny_bind (wpAny_setState_of ho hd R1.holds ?_))
  dsimp only
  refine wp_if_neg (by simp [byScan, Value.scannable]) ?_
  try refine wpAny_bind (wpAny_pure ?_)
  refine wpAny_bind (tw_search R1 hx (by show A.units + _ < cLine; omega) false (fun hm r hr => ?_) fun K hm _ _ => ?_)
  · dsimp only
    refine wpAny_pure (wpAny_pure ?_)
    show wpAny _ _ (ret (Value.bool r.isSome)) _ _ _
    rw [hr rfl, show true = decide (k ∈ L.map (·.2)) from (decide_eq_true hm).symm]
    exact wpAny_pure ⟨_, rfl, wpAny_truthy_bool (wpAny_pure (hQ _))⟩
  · dsimp only
    refine wpAny_pure (wpAny_pure ?_)
    show wpAny _ _ (ret (Value.bool false)) _ _ _
    rw [show false = decide (k ∈ L.map (·.2)) from (decide_eq_false hm).symm]
    exact wpAny_pure ⟨_, rfl, wpAny_truthy_bool (wpAny_pure (hQ _))⟩
end
end Sm

set_option Elab.async false
set_option linter.all false
set_option maxRecDepth 100000
set_option maxHeartbeats 2000000
namespace Sm
open PySem PySem.Spec PyProof.Rows L2
/-- the set without its members' own objects -/
structure TW0 (P : Program) (w : World) (h : Heap) (a : Addr) (L : List (Addr × List Int)) : Prop where
  ex : ∃ (es : Array (Int × Value)) (ep : Nat) (t : SetTable), (∃ o, h.get? a = some o ∧ o.ExactSet ∧ o.data = .set es ep t) ∧ es.toList = rowsOf P w L ∧ TabOk t (L.map fun p => thash P w p.2) ∧
    (L.map (·.2)).Nodup ∧ t.plain = true ∧ (w.params.followText "set-order" = true ∨ t.led = true) ∧ L.length * 5 < t.mask * 3
def TSet (P : Program) (w : World) (a : Addr) (L : List (Addr × List Int)) : HO := .ext fun h => TW0 P w h a L
theorem TW.bare {P : Program} {w : World} {h : Heap} {a : Addr} {L : List (Addr × List Int)} {es : Array (Int × Value)} {ep : Nat} {t : SetTable} (R : TW P w h a L es ep t) : TW0 P w h a L :=
  ⟨es, ep, t, R.obj, R.rws, R.tbl, R.dif, R.pln, R.ld, R.fit⟩
theorem TW0.with {P : Program} {w : World} {h : Heap} {a : Addr} {L : List (Addr × List Int)} (R : TW0 P w h a L) (hm : ∀ p ∈ L, IsT P w h p.2 p.1) : ∃ es ep t, TW P w h a L es ep t := by
  obtain ⟨es, ep, t, h1, h2, h3, h4, h5, h6, h7⟩ := R.ex
  exact ⟨es, ep, t, h1, h2, h3, h4, hm, h5, h6, h7⟩
theorem tset_ok {P : Program} {w : World} {H : Hp} {h : Heap} {a : Addr} {L : List (Addr × List Int)} (R : TW0 P w h a L) : ObjOk P w H h a (TSet P w a L) := by
  have ⟨es, ep, t, ⟨o, ho, r⟩, q⟩ := R.ex
  refine ⟨R, ⟨o, ho⟩, fun h1 h2 p k => ?_⟩
  have ⟨es', ep', t', ⟨o', ho', r'⟩, q'⟩ := TW0.ex p
  exact ⟨es', ep', t', ⟨o', k o' ho', r'⟩, q'⟩
section
variable {X : Cx} {pins : List (Addr × Obj)} {σ : L2.St} {H : Hp} {s : Shared}
theorem tset_get {a : Addr} {L : List (Addr × List Int)} (I : Inv X pins σ H s) (ha : H a = some (TSet X.prog X.w a L)) (hm : ∀ p ∈ L, SqT X.K H p.1 (p.2.map V.int)) : ∃ es ep t, TW X.prog X.w s.heap a L es ep t :=
  TW0.with (I.hok a _ ha).1 fun p hp => I.isT (hm p hp)
/-- set() -/
def rSet0T (P : Program) (w : World) : List V → Hp → VK → Prop := fun xs H Q => xs = [] ∧ ∀ p, H p = none → Q (.ref p) (upd H p (TSet P w p []))
theorem cr_set0T : CallR X (.type "set") (rSet0T X.prog X.w) := by
  intro pins s σ H xs us Q I r h
  obtain ⟨rfl, q⟩ := h
  cases r
  refine setR_new fun _ => ?_
  have R : TW X.prog X.w (s.heap.push { cls := .type "set", dict := none, data := .set #[] 0 (.fresh 0 0 (!X.w.params.followText "set-order")) }) s.heap.objs.size [] #[] 0 (.fresh 0 0 (!X.w.params.followText "set-order")) := by
    have S := setTR_fresh (P := X.prog) (w := X.w) (Heap.get?_push_size s.heap (o := { cls := .type "set", dict := none, data := .set #[] 0 (.fresh 0 0 (!X.w.params.followText "set-order")) }) rfl)
    exact ⟨S.ob, S.rows, S.tab, S.nd, S.tup, S.plain, S.led, S.room⟩
  exact ⟨.ref _, upd H s.heap.objs.size (TSet X.prog X.w s.heap.objs.size []), I.laid (t' := s.toks) (fun b u e => Heap.get?_push_of_some _ e) (Nat.le_refl _) (tset_ok R.bare), rfl, q _ (I.hok.fresh (Nat.le_refl _))⟩
/-- s.add(t), t not yet a member -/
def rAddT (K : PySem.W.Frag) (P : Program) (w : World) : V → List V → Hp → VK → Prop := fun x xs H Q => ∃ (a b : Addr) (k : List Int) (L : List (Addr × List Int)), x = V.ref a ∧ xs = [V.ref b] ∧ H a = some (TSet P w a L) ∧
  (∀ p ∈ L, SqT K H p.1 (p.2.map V.int)) ∧ SqT K H b (k.map V.int) ∧ L.length < 75 ∧ k ∉ L.map (·.2) ∧ ∀ L' : List (Addr × List Int), L'.Perm ((b, k) :: L) → Q .non (upd H a (TSet P w a L'))
theorem mt_addT (hu : X.A.units + 64 < cLine) : MtR X "set.add" (rAddT X.K X.prog X.w) := by
  intro pins s σ H x xs v us Q I rx rxs h
  obtain ⟨a, b, k, L, rfl, rfl, ha, hm, hb, room, hno, q⟩ := h
  cases rx
  cases rxs with
  | cons ry rt =>
    cases rt
    cases ry
    obtain ⟨es, ep, t, R⟩ := tset_get I ha hm
    refine tw_call_add R (I.isT hb) (by omega) room hno fun h' tk L' es' ep' t' sb R' pm => ?_
    have he : ∃ u, h'.get? a = some u := by
      obtain ⟨o, ho, _⟩ := R'.obj
      exact ⟨o, ho⟩
    exact ⟨.non, upd H a (TSet X.prog X.w a L'), I.write (e := a) (t' := tk) (by rw [ha]; trivial) (.inl rfl) (fun b u hb hu => (sb.2 b hb).trans hu) he (tset_ok R'.bare), rfl, q L' pm⟩
def tAddT (K : PySem.W.Frag) (P : Program) (w : World) (to : TE) (t : TA) : TE := fun σ H Q => to σ H fun x H1 => (∃ a L, x = V.ref a ∧ H1 a = some (TSet P w a L)) ∧ t σ H1 fun xs H2 => rAddT K P w x xs H2 Q
variable {o e : Expr} {es : List Expr} {to : TE} {t : TA} {apos cpos : Pos}
theorem pe_addT (hu : X.A.units + 64 < cLine) (ho : PE X o to) (ha : PA X (e :: es) t)
    (h1 : attributeBase o "add" X.env (eval o X.env) = eval o X.env := by rfl)
    (h2 : ((backTo cpos (starEach (e :: es) X.env)).all (fun x => !x.1) && (backToKw cpos (keywordEach [] X.env)).all (fun x => x.1.isSome)
      && decide ((e :: es).length + ([] : List Keyword).length + (if ([] : List Keyword).isEmpty then 0 else 1) < 30)) = true := by rfl)
    (h3 : (apos.endLine == cpos.line) = true := by rfl) (h4 : starEach (e :: es) X.env = (false, eval e X.env) :: starEach es X.env := by rfl) (h5 : (backTo cpos (starEach es X.env)).any (·.1) = false := by rfl) :
    PE X (.Call (.Attribute o "add" apos) (e :: es) [] cpos) (tAddT X.K X.prog X.w to t) := by
  refine ⟨fun pins s σ H Q I h => ?_⟩
  refine wpAny_Call_method_late h1 h2 h3 rfl (thn (ho.run pins s σ H _ I h) fun v s1 ⟨x, H1, I1, r1, ty, q1⟩ => ?_)
  obtain ⟨a, L, rfl, hka⟩ := ty
  obtain ⟨es0, ep0, t0, ⟨ob, hob, hex, hdt⟩, _⟩ := (show TW0 X.prog X.w s1.heap a L from (I1.hok a _ hka).1).ex
  cases r1
  refine ⟨"set", "set.add", F.plainAttrs_set, F.slot_set_add, F.type_set_add, ⟨ob, hob, hex.1⟩, fun b e => by cases e; exact ⟨ob, hob, hex.2.1⟩, ?_⟩
  have hA := ha.run cpos pins s1 σ H1 _ I1 q1
  rw [h4] at hA ⊢
  refine Calls.callWith_builtin (by show (false || (backTo cpos (starEach es X.env)).any (·.1)) = false; rw [h5] <;> rfl) (Calls.evalArgs_plain ?_)
  exact thn hA fun us s2 ⟨vs, H2, I2, r2, q2⟩ => mt_addT hu pins s2 σ H2 (.ref a) vs (.ref a) us Q I2 rfl r2 q2
/-- t in s -/
def rInT (K : PySem.W.Frag) (P : Program) (w : World) : V → V → Hp → VK → Prop := fun x y H Q => ∃ (b a : Addr) (k : List Int) (L : List (Addr × List Int)), x = V.ref b ∧ y = V.ref a ∧ H a = some (TSet P w a L) ∧
  (∀ p ∈ L, SqT K H p.1 (p.2.map V.int)) ∧ SqT K H b (k.map V.int) ∧ Q (.bl (decide (k ∈ L.map (·.2)))) H
theorem or_inT (hu : X.A.units + 64 < cLine) : OpR X (compareOp .In) (rInT X.K X.prog X.w) := by
  intro pins s σ H x y v u Q I rx ry h
  obtain ⟨b, a, k, L, rfl, rfl, ha, hm, hb, q⟩ := h
  cases rx
  cases ry
  obtain ⟨es, ep, t, R⟩ := tset_get I ha hm
  exact tw_in R (I.isT hb) (by omega) fun tk => ⟨.bl _, H, I.tok _, rfl, q⟩
/-- sorted(s), the members pairs of ints: the keys in ascending order -/
def pairOf (k : List Int) : Int × Int := (k.getD 0 0, k.getD 1 0)
def rSortT (K : PySem.W.Frag) (P : Program) (w : World) : List V → Hp → VK → Prop := fun vs H Q => ∃ (a : Addr) (L : List (Addr × List Int)), vs = [V.ref a] ∧ H a = some (TSet P w a L) ∧ (∀ p ∈ L, SqT K H p.1 (p.2.map V.int)) ∧ (∀ p ∈ L, p.2.length = 2) ∧
  ∀ (L' : List (Addr × List Int)) (p : Addr), L'.Perm L → L'.Pairwise (fun q r => SrtO.lexB (pairOf q.2) (pairOf r.2) = true) → H p = none → Q (.ref p) (upd H p (.lst (L'.map fun q => V.ref q.1)))
end
section
variable {P : Program} {w : World} {A : Around} {E : Value → Shared → Prop} {s : Shared}
theorem tw_sorted {a : Addr} {L : List (Addr × List Int)} {es : Array (Int × Value)} {ep : Nat} {t : SetTable} {Q : Value → Shared → Prop} (R : TW P w s.heap a L es ep t) (hh : A.handled = none) (two : ∀ p ∈ L, p.2.length = 2)
    (hQ : ∀ s' p (out : List Value) (c : Nat) (L' : List (Addr × List Int)), (∀ b o, s.heap.get? b = some o → s'.heap.get? b = some o) → s'.gens = s.gens → s'.os = s.os → s.heap.objs.size ≤ p →
      s'.heap.get? p = some (seqObj "list" out.toArray c) → out = L'.map (fun q => Value.ref q.1) → L'.Perm L → L'.Pairwise (fun q r => SrtO.lexB (pairOf q.2) (pairOf r.2) = true) → Q (.ref p) s') :
    wpAny (model P w) A (call (.builtin "sorted") [.ref a]) Q E s := by
  have ⟨o, ho, hex, hd⟩ := R.obj
  have len := R.len
  have few := R.few
  refine Calls.call_function_entry kind_sorted plain_sorted entry_sorted (args_sorted1 _) ?_
  unfold Builtin.«sorted»
  refine wpAny_bind (m := checkCount "sorted" 1 1 _) (wpAny_pure ?_)
  refine wpAny_bind (collect_set (A := A.in1) hh ⟨o, ho, hex.1, hd⟩ R.holds (by unfold scanBound; omega) R.tbl.ris R.ld fun s1 vs k1 hz g1 o1 pm => ?_)
  have vals : es.toList.map (·.2) = L.map fun q => Value.ref q.1 := by
    rw [R.rws, rowsOf, List.map_map]
    rfl
  rw [vals] at pm
  have pick : ∀ vs : List Value, (∀ v ∈ vs, ∃ q ∈ L, v = Value.ref q.1) → ∃ M : List (Addr × List Int), vs = M.map (fun q => Value.ref q.1) ∧ ∀ q ∈ M, q ∈ L := by
    intro vs
    induction vs with
    | nil => exact fun _ => ⟨[], rfl, fun q hq => nomatch hq⟩
    | cons v vs ih =>
      intro hv
      obtain ⟨q, hq, e⟩ := hv v List.mem_cons_self
      obtain ⟨M, e1, hs⟩ := ih fun u hu => hv u (List.mem_cons_of_mem _ hu)
      exact ⟨q :: M, by rw [List.map_cons, e, e1], fun r hr => (List.mem_cons.mp hr).elim (fun z => z ▸ hq) (hs r)⟩
  have inj : ∀ q ∈ L, ∀ r ∈ L, q.1 = r.1 → q = r := fun q hq r hr e => by
    have a1 := R.mem q hq
    rw [e] at a1
    exact Prod.ext e (a1.inj (R.mem r hr))
  have ndL : L.Nodup := nodup_of_map R.dif
  have back : ∀ M : List (Addr × List Int), (∀ q ∈ M, q ∈ L) → (M.map (fun q => Value.ref q.1)).Perm (L.map fun q => Value.ref q.1) → M.Perm L := by
    intro M hs pm1
    have nref : (L.map fun q => Value.ref q.1).Nodup := by
      refine List.pairwise_map.mpr (List.Pairwise.imp_of_mem (fun {q r} hq hr hne e => ?_) ndL)
      exact hne (inj q hq r hr (Value.ref.inj e))
    have nM : M.Nodup := nodup_of_map (pm1.nodup_iff.mpr nref)
    refine (List.perm_ext_iff_of_nodup nM ndL).mpr fun q => ⟨hs q, fun hq => ?_⟩
    obtain ⟨r, hr, e⟩ := List.mem_map.mp (pm1.mem_iff.mpr (List.mem_map.mpr ⟨q, hq, rfl⟩))
    rw [← inj r (hs r hr) q hq (Value.ref.inj e)]
    exact hr
  have vlen : vs.length = L.length := by rw [pm.length_eq, List.length_map]
  refine wpAny_bind (wpAny_newList ?_ (by rw [vlen, sizeLine_eq]; omega))
  have hoL : (s1.heap.push (seqObj "list" vs.toArray 0)).get? s1.heap.objs.size = some (seqObj "list" vs.toArray 0) := Heap.get?_push_size _ rfl
  -- which pair of ints a value is
  have keyed : ∃ k : Value → Int × Int, ∀ q ∈ L, k (.ref q.1) = pairOf q.2 := by
    refine ⟨fun v => match v with | .ref b => (match L.find? (fun q => q.1 == b) with | some q => pairOf q.2 | none => (0, 0)) | _ => (0, 0), fun q hq => ?_⟩
    dsimp only
    cases e : L.find? (fun r => r.1 == q.1) with
    | none =>
      exact absurd (beq_self_eq_true q.1) (by simpa using List.find?_eq_none.mp e q hq)
    | some r =>
      have e1 : r.1 = q.1 := by simpa using List.find?_some e
      have e2 : r ∈ L := List.mem_of_find?_eq_some e
      rw [inj r e2 q hq e1]
  obtain ⟨k, hk⟩ := keyed
  have isPair : ∀ v ∈ vs, Srt.IsPair (s1.heap.push (seqObj "list" vs.toArray 0)) v (k v).1 (k v).2 := fun v hv => by
    obtain ⟨q, hq, e⟩ := List.mem_map.mp (pm.mem_iff.mp hv)
    rw [← e, hk q hq]
    obtain ⟨o', items, n, h1, h2, h3, h4⟩ := R.mem q hq
    have l2 := two q hq
    match hq2 : q.2, l2 with
    | [x, y], _ =>
      rw [hq2] at h4
      generalize hit : items.toList = il at h4
      cases h4 with
      | @cons _ v1 _ r1 z1 z2 =>
        cases z2 with
        | @cons _ v2 _ r2 z3 z4 =>
          cases z4
          obtain ⟨t1, rfl⟩ := Value.isInt_shape z1
          obtain ⟨t2, rfl⟩ := Value.isInt_shape z3
          refine ⟨q.1, o', t1, t2, n, rfl, Heap.get?_push_of_some _ (k1 _ _ h1), h2, ?_⟩
          rw [h3]
          have : items = #[Value.int x t1, Value.int y t2] := by
            apply Array.ext'
            rw [hit]
          rw [this]
          rfl
  refine wpAny_bind (wpAny_holding (wpAny_call_entry slot_list_sort ⟨_, hoL, rfl⟩ entry_list_sort (SrtO.list_sort_ord (s := { s1 with heap := s1.heap.push (seqObj "list" vs.toArray 0) }) (SrtO.swo_lex k) hoL (by rw [vlen, sizeLine_eq]; omega)
    (fun h2 => SrtO.pairs_sortableO (by omega) isPair fun o e => ?_) fun out hs hb => ⟨_, rfl, ?_⟩) (args_list_sort _)))
  · have e' : some o = some (seqObj "list" vs.toArray 0) := e.symm.trans hoL
    cases e'
    intro c
    exact absurd (Value.type.inj c) (by decide)
  · obtain ⟨c, hc⟩ := sortedHeap_at (vs := vs) (out := out.toArray) hoL
    obtain ⟨M, e', hsub⟩ := pick out fun v hv => by
      obtain ⟨q, hq, e⟩ := List.mem_map.mp (pm.mem_iff.mp (hb.perm.mem_iff.mp hv))
      exact ⟨q, hq, e.symm⟩
    have pL : M.Perm L := back M hsub (by rw [← e']; exact hb.perm.trans pm)
    have pw : M.Pairwise (fun q r => SrtO.lexB (pairOf q.2) (pairOf r.2) = true) := by
      have z : (M.map (fun q => Value.ref q.1)).Pairwise (fun x y => SrtO.lexB (k y) (k x) = false) := by rw [← e']; exact hs
      have ndM : M.Nodup := pL.nodup_iff.mpr ndL
      have both := List.Pairwise.and (List.pairwise_map.mp z) ndM
      refine List.Pairwise.imp_of_mem (fun {q r} hq hr hle => ?_) both
      obtain ⟨h1, h2⟩ := hle
      have mq := hsub q hq
      have mr := hsub r hr
      rw [hk q mq, hk r mr] at h1
      have n1 := SrtO.lexB_no.mp h1
      refine SrtO.lexB_iff.mpr ?_
      by_cases c1 : (pairOf q.2).1 = (pairOf r.2).1
      · by_cases c2 : (pairOf q.2).2 = (pairOf r.2).2
        · exfalso
          have l1 := two q mq
          have l2 := two r mr
          have ek : q.2 = r.2 := by
            match e1 : q.2, e2 : r.2, l1, l2 with
            | [x, y], [x', y'], _, _ =>
              rw [e1, e2] at c1 c2
              have d1 : x = x' := c1
              have d2 : y = y' := c2
              rw [d1, d2]
          have nd2 : (L.map (·.2)).Nodup := R.dif
          have : q = r := by
            by_cases hqr : q = r
            · exact hqr
            · exact absurd ek (fun z => by
                have w1 := (List.pairwise_map.mp nd2)
                exact hqr (by
                  obtain ⟨i, hi, ei⟩ := List.getElem_of_mem mq
                  obtain ⟨j, hj, ej⟩ := List.getElem_of_mem mr
                  have g := List.pairwise_iff_getElem.mp w1
                  rcases Nat.lt_trichotomy i j with c | c | c
                  · exact absurd z (by have := g i j hi hj c; rw [ei, ej] at this; exact this)
                  · subst c; rw [← ei, ← ej]
                  · exact absurd z.symm (by have := g j i hj hi c; rw [ei, ej] at this; exact this)))
          exact h2 this
        · exact .inr ⟨c1, by omega⟩
      · exact .inl (by omega)
    refine wpAny_pure ⟨_, rfl, hQ _ s1.heap.objs.size out c M (fun b u e => ?_) g1 o1 hz hc e' pL pw⟩
    have q := k1 b u e
    have hlt := Heap.lt_size q
    show (sortedHeap (s1.heap.push (seqObj "list" vs.toArray 0)) s1.heap.objs.size vs out.toArray).get? b = some u
    rw [sortedHeap_old (Nat.ne_of_lt hlt) (by rw [size_push']; exact Nat.lt_succ_of_lt hlt)]
    exact Heap.get?_push_of_some _ q
end
section
variable {X : Cx}
theorem cr_sortT2 (hc : X.calm = true) : CallR X (.builtin "sorted") (rSortT X.K X.prog X.w) := by
  intro pins s σ H vs us Q I r h
  obtain ⟨a, L, rfl, ha, hm, two, q⟩ := h
  obtain ⟨es, ep, t, R⟩ := tset_get I ha hm
  rw [Vals.ref1 r]
  refine tw_sorted R (I.ok.hd hc) two fun s' p out c L' k g o hp hg hout pm pw => ?_
  have few : L'.length ≤ 76 := by rw [pm.length_eq]; exact R.few
  have hlen : (L'.map fun q => V.ref q.1).length ≤ sizeLine := by rw [List.length_map, sizeLine_eq]; omega
  have hn : H p = none := I.hok.fresh hp
  have hv : Vals (L'.map fun q => V.ref q.1) out := by rw [hout]; exact vals_of_refs L'
  have J : Inv X pins σ (upd H p (.lst (L'.map fun q => V.ref q.1))) { s with heap := s'.heap, gens := s'.gens, drawn := s'.drawn, toks := s'.toks } :=
    I.call (ch := []) (Un.laid k hp hn) (I.hok.laid k hp ⟨hlen, out, c, hv, hg⟩) (by rw [g]; exact I.bare) (fun _ z => nomatch z)
  have e : s' = { s with heap := s'.heap, gens := s'.gens, drawn := s'.drawn, toks := s'.toks } := by
    cases s'
    cases s
    cases o
    rfl
  rw [e]
  exact ⟨.ref p, _, J, rfl, q L' p pm pw hn⟩
end
end Sm

set_option Elab.async false
set_option linter.all false
set_option maxRecDepth 100000
set_option maxHeartbeats 2000000
/-! {e}: a set displayed with one number; a def's body that knows its code object. -/
namespace Sm
open PySem PySem.Spec PyProof.Rows L2
theorem kds_of_code {K : PySem.W.Frag} {cd : Value} {q : Str} (h : PySem.W.codeIn K cd q = true) : PySem.W.kdsCode K cd = true := by
  unfold PySem.W.codeIn at h
  unfold PySem.W.kdsCode
  split at h
  · split at h
    · rename_i e
      dsimp only
      rw [e]
    · cases h
  · cases h
section
variable {X : Cx} {e : Expr} {te : TE} {pos : Pos}
def tSet1 (w : World) (te : TE) : TE := fun σ H Q => ∀ p, H p = none → te σ (upd H p (SetO w p (fun _ => false) 0)) fun x H1 => ∃ i, x = .int i ∧ H1 p = some (SetO w p (fun _ => false) 0) ∧ Q (.ref p) (upd H1 p (SetO w p (fun j => decide (j = i)) 1))
theorem pe_set1 (he : PE X e te) (hcd : PySem.W.kdsCode X.K X.env.code = true) (hs : starEach [e] X.env = [(false, eval e X.env)] := by rfl) : PE X (.Set [e] 0 pos) (tSet1 X.w te) := by
  refine ⟨fun pins s σ H Q I h => ?_⟩
  rw [arm_eval_Set]
  refine wpAny_bind (wpAny_standAt ?_)
  refine wpAny_bind (PySem.W.kds_main I.kIn hcd fun b => ?_)
  rw [hs]
  show wpAny _ _ (setDisplay .oneByOne b [(false, do let v ← eval e X.env; standAt pos; pure v)]) _ _ _
  unfold setDisplay
  try dsimp only
  rw [if_neg (by decide)]
  refine wpAny_bind (PySem.wpAny_newSet_raw fun led hled => ?_)
  subst hled
  dsimp only
  have new : SetR X.w (s.heap.push { cls := .type "set", dict := none, data := .set #[] 0 (.fresh 0 0 (!X.w.params.followText "set-order")) }) s.heap.objs.size (fun _ => false) 0 := setR_fresh X.w
  have I1 : Inv X pins σ (upd H s.heap.objs.size (SetO X.w s.heap.objs.size (fun _ => false) 0)) { s with heap := s.heap.push { cls := .type "set", dict := none, data := .set #[] 0 (.fresh 0 0 (!X.w.params.followText "set-order")) } } :=
    I.laid (t' := s.toks) (fun b u e => Heap.get?_push_of_some _ e) (Nat.le_refl _) (setO_new new)
  have h1 := h s.heap.objs.size (I.hok.fresh (Nat.le_refl _))
  have hn : ∀ u : Sem Value, (if [(false, u)].length > 30 then 0 else (List.findIdx? (fun (x : Bool × Sem Value) => x.1) [(false, u)]).getD [(false, u)].length) = 1 := fun u => by simp
  rw [hn]
  refine wpAny_bind (wpAny_holding ?_)
  refine wpAny_bind ?_
  show wpAny _ _ ((eval e X.env >>= fun v => standAt pos >>= fun _ => pure v) >>= fun v => holding [v] (evalAll []) >>= fun r => pure (v :: r)) _ _ _
  refine wpAny_bind (wpAny_bind (thn (he.run pins _ σ _ _ I1 h1) fun v s2 ⟨x, H2, I2, rx, i, ex, hp, q⟩ => ?_))
  subst ex
  obtain ⟨tk, rfl⟩ := rx
  refine wpAny_bind (wpAny_standAt (wpAny_pure ?_))
  refine wpAny_bind (wpAny_holding (wpAny_pure (wpAny_pure ?_)))
  refine wpAny_bind (wpAny_holding ?_)
  have R := setO_get I2 hp
  have fin : ∀ s', (∃ h', Heap.SameBut s.heap.objs.size s2.heap h' ∧ SetR X.w h' s.heap.objs.size (fun j => decide (j = i)) 1 ∧ s' = { s2 with heap := h', toks := s2.toks + 1 }) → EP X pins σ Q (.ref s.heap.objs.size) s' := by
    rintro s' ⟨h', sb, r, rfl⟩
    have he' : ∃ u, h'.get? s.heap.objs.size = some u := by
      have ⟨o, _, _, _, ho, _⟩ := r
      exact ⟨o, ho⟩
    exact ⟨.ref s.heap.objs.size, _, I2.write (e := s.heap.objs.size) (t' := s2.toks + 1) (by rw [hp]; trivial) (.inl rfl) (fun b u hb hu => (sb.2 b hb).trans hu) he' (setO_new r), rfl, q⟩
  refine wpAny_bind ?_
  rw [List.forIn_cons]
  refine wpAny_bind (wpAny_bind ?_)
  unfold setAdd
  refine wpAny_holding ?_
  refine wpAny_bind ((intKind X.prog X.w).pyHash (intKind_is X.prog X.w i tk) ?_)
  refine setR_add_hashed (s := { s2 with toks := s2.toks + 1 }) R (by unfold scanBound; omega) fun h' sb r => ?_
  refine wpAny_pure ?_
  dsimp only
  rw [List.forIn_nil]
  refine wpAny_pure ?_
  rw [if_neg (by decide)]
  refine wpAny_pure ?_
  refine wpAny_bind ?_
  show wpAny _ _ (forIn ([] : List (Bool × Sem Value)) PUnit.unit _) _ _ _
  rw [List.forIn_nil]
  refine wpAny_pure (wpAny_pure (wpAny_pure (fin _ ⟨h', sb, r, rfl⟩)))
end
section
variable {P : Program} {w : World} {K : PySem.W.Frag} {mg : Str → Option Value} {base : Heap}
/-- a def's body, its code object known -/
theorem okXc {x qual : Str} {st : Stmt} {f : Addr} {fd : FuncData} {N ps : List Str} {k : Nat} {sp : Sp} (F : Fun K x qual st f fd) (S : FnScope N ps (defScope st)) (len : ∀ vs H Q E, sp vs H Q E → vs.length = ps.length)
    (hbody : ∀ (cdv : Value) (A : Around) (outer : List Env) (s : Shared) (H : Hp) (vs : List V) (Q : VK) (E : XK), PySem.W.kdsCode K cdv = true → Room k (A.deeper (envOfC qual (defScope st) s.heap.objs.size f cdv)) → sp vs H Q E →
      ∃ t, PSs (cxOf (L2.CX P w) P w K mg base N qual (defScope st) f cdv A outer s H E) (defBody st) t ∧ t { nx := fun _ H' => Q .non H', rt := Q } (start N vs) H) : FnOk P w K mg base (L2.CX P w) (k + 1) f fd ps sp := by
  obtain ⟨oc, od, kV, doc, pm, an, cdv, ct, osl, rfl, lk, hcd⟩ := F.ex
  exact fn_of lk hcd S len fun A outer s H vs Q E hr hsp => hbody cdv A outer s H vs Q E (kds_of_code hcd) hr hsp
end
end Sm

set_option Elab.async false
set_option linter.all false
set_option maxRecDepth 100000
set_option maxHeartbeats 2000000
/-! The numbers, vertices and edges of smallwidth.graph. -/
namespace Sm
open PySem PySem.Spec PyProof.Rows L2
def topS (i : Nat) : Stmt := PySem.Challenge.pw_smallwidth_k13_faults_of_decompositions.main.body.getD i (.Pass ⟨0, 0, 0, 0⟩)
abbrev sNum : Stmt := topS 6
abbrev sVtx : Stmt := topS 7
abbrev sEdg : Stmt := topS 8
/-! ### what a value may be -/
inductive IB : V → Option Int → Prop where
  | int (i : Int) : IB (.int i) (some i)
  | bl (b : Bool) : IB (.bl b) none
inductive EdgeV (K : PySem.W.Frag) (H : Hp) : V → Option (Option Int × Option Int) → Prop where
  | pair {a : Addr} {x y : V} {i j : Option Int} : SqT K H a [x, y] → IB x i → IB y j → EdgeV K H (.ref a) (some (i, j))
  | tup {a : Addr} {xs : List V} : SqT K H a xs → xs.length ≠ 2 → EdgeV K H (.ref a) none
  | lst {a : Addr} {xs : List V} : H a = some (.lst xs) → EdgeV K H (.ref a) none
  | non : EdgeV K H .non none
def vtxB (n : Int) : Option Int → Bool
  | some i => decide (0 ≤ i) && decide (i < n)
  | none => false
def edgB (n : Int) : Option (Option Int × Option Int) → Bool
  | some (some i, some j) => vtxB n (some i) && (vtxB n (some j) && decide (i < j))
  | _ => false
theorem same_sqT {K : PySem.W.Frag} {H H' : Hp} {a : Addr} {xs : List V} (e : Same H H') (h : SqT K H a xs) : SqT K H' a xs := by
  rcases h with (h | ⟨o, h⟩) | h
  · exact .inl (.inl (e _ _ h))
  · exact .inl (.inr ⟨o, e _ _ h⟩)
  · exact .inr h
theorem EdgeV.same {K : PySem.W.Frag} {H H' : Hp} {v : V} {e : Option (Option Int × Option Int)} (s : Same H H') (h : EdgeV K H v e) : EdgeV K H' v e := by
  cases h with
  | pair h1 h2 h3 => exact .pair (same_sqT s h1) h2 h3
  | tup h1 h2 => exact .tup (same_sqT s h1) h2
  | lst h => exact .lst (s _ _ h)
  | non => exact .non
theorem iteN {c A B : Prop} [Decidable c] (hc : ¬ c) (h : A) : if (!decide c) = true then A else B := by
  rw [decide_eq_false hc]
  exact iteT h
theorem iteY {c A B : Prop} [Decidable c] (hc : c) (h : A) : if decide c = true then A else B := by
  rw [decide_eq_true hc]
  exact iteT h
theorem iteD {c A B : Prop} [Decidable c] (hc : ¬ c) (h : B) : if decide c = true then A else B := by
  rw [decide_eq_false hc]
  exact iteF h
theorem tyx_T {K : PySem.W.Frag} {H : Hp} {a : Addr} {xs : List V} (h : SqT K H a xs) : TyX K H (.ref a) (.type "tuple") := by
  rcases h with (h | ⟨o, h⟩) | ⟨o, its, n, h1, h2, _⟩
  · exact .base (.tup h)
  · exact .fTuple h
  · exact .kTuple h1 h2
/-! ### what the top has bound, as far as these defs ask -/
structure TxA (mg : Str → Option Value) : Prop where
  isi : mg "isinstance" = none
  int : mg "int" = none
  bool : mg "bool" = none
  tuple : mg "tuple" = none
  len : mg "len" = none
def spNum : Sp := fun vs H Q _ => ∃ v i, vs = [v] ∧ IB v i ∧ Q (.bl i.isSome) H
def spVtx : Sp := fun vs H Q _ => ∃ v i n, vs = [v, .int n] ∧ IB v i ∧ Q (.bl (vtxB n i)) H
def spEdg (K : PySem.W.Frag) : Sp := fun vs H Q _ => ∃ v e n, vs = [v, .int n] ∧ EdgeV K H v e ∧ Q (.bl (edgB n e)) H
section
variable {P : Program} {w : World} {K : PySem.W.Frag} {mg : Str → Option Value} {base : Heap}
theorem scNum : FnScope ["value"] ["value"] (defScope sNum) := ⟨rfl, rfl, rfl, by decide +kernel, rfl, by decide +kernel, by decide +kernel⟩
theorem ok_num {f : Addr} {fd : FuncData} (F : Fun K "is_number" "is_number" sNum f fd) (T : TxA mg) : FnOk P w K mg base CX0 1 f fd ["value"] spNum := by
  refine F.ok scNum (fun vs H Q E h => ?_) (fun cdv A outer s H vs Q E hr h => ?_)
  · obtain ⟨v, i, rfl, _⟩ := h
    rfl
  · obtain ⟨v, i, rfl, hv, q⟩ := h
    refine ⟨_, pss_one (ps_ret (pe_and (pe_callB call_isi (by rfl) T.isi (by decide +kernel) (pa_cons (pv 0) (pa_cons (pe_bltn (v := .ty "int") (by rfl) T.int (by decide +kernel) rfl) pa_nil)))
      (pe_one (pe_not (pe_callB call_isi (by rfl) T.isi (by decide +kernel) (pa_cons (pv 0) (pa_cons (pe_bltn (v := .ty "bool") (by rfl) T.bool (by decide +kernel) rfl) pa_nil))))))), ?_⟩
    cases hv with
    | int i =>
      refine ⟨_, rfl, .int i, .ty "int", .type "int", .type "int", true, rfl, .ty "int", .base (.int i), kit_ty (by decide +kernel), true, rfl, iteT ?_⟩
      exact ⟨_, rfl, .int i, .ty "bool", .type "int", .type "bool", false, rfl, .ty "bool", .base (.int i), kit_ty (by decide +kernel), false, rfl, q⟩
    | bl b =>
      refine ⟨_, rfl, .bl b, .ty "int", .type "bool", .type "int", true, rfl, .ty "int", .base (.bl b), kit_ty (by decide +kernel), true, rfl, iteT ?_⟩
      exact ⟨_, rfl, .bl b, .ty "bool", .type "bool", .type "bool", true, rfl, .ty "bool", .base (.bl b), kit_ty (by decide +kernel), true, rfl, q⟩
theorem scVtx : FnScope ["value", "size"] ["value", "size"] (defScope sVtx) := ⟨rfl, rfl, rfl, by decide +kernel, rfl, by decide +kernel, by decide +kernel⟩
theorem ok_vtx {f fN : Addr} {fd fdN : FuncData} (F : Fun K "is_vertex" "is_vertex" sVtx f fd) (FN : Fun K "is_number" "is_number" sNum fN fdN) (bN : Binds K fdN ["value"] []) (gN : mg "is_number" = some (.ref fN)) (T : TxA mg) :
    FnOk P w K mg base CX0 2 f fd ["value", "size"] spVtx := by
  have GN : FnOk P w K mg base CX0 1 fN fdN ["value"] spNum := ok_num FN T
  refine F.ok scVtx (fun vs H Q E h => ?_) (fun cdv A outer s H vs Q E hr h => ?_)
  · obtain ⟨v, i, n, rfl, _⟩ := h
    rfl
  · obtain ⟨v, i, n, rfl, hv, q⟩ := h
    refine ⟨_, pss_one (ps_ret (pe_and (pe_call GN hr (by rfl) gN FN.kp bN .nil pass0 (pa_cons (pv 0) pa_nil)) (pe_one (pe_chain op_le op_lt pe_int (pv 0) (pv 1))))), ?_⟩
    refine ⟨v, rfl, v, i, rfl, hv, i.isSome, rfl, ?_⟩
    cases hv with
    | int i =>
      refine iteT ⟨_, rfl, _, _, rfl, rfl, _, rfl, ?_⟩
      by_cases c : 0 ≤ i
      · rw [decide_eq_true c]
        refine iteT ⟨_, rfl, _, _, rfl, rfl, ?_⟩
        have e : vtxB n (some i) = decide (i < n) := by simp [vtxB, c]
        rw [e] at q
        exact q
      · rw [decide_eq_false c]
        refine iteF ?_
        have e : vtxB n (some i) = false := by simp only [vtxB, decide_eq_false c, Bool.false_and]
        rw [e] at q
        exact q
    | bl b => exact iteF q
theorem scEdg : FnScope ["value", "size", "u", "v"] ["value", "size"] (defScope sEdg) := ⟨rfl, rfl, rfl, by decide +kernel, rfl, by decide +kernel, by decide +kernel⟩
theorem ok_edg {f fV : Addr} {fd fdV : FuncData} (F : Fun K "is_edge" "is_edge" sEdg f fd) (GV : FnOk P w K mg base CX0 2 fV fdV ["value", "size"] spVtx) (kV : PySem.W.keepIn K (.ref fV) = true) (bV : Binds K fdV ["value", "size"] []) (gV : mg "is_vertex" = some (.ref fV)) (T : TxA mg) :
    FnOk P w K mg base CX0 3 f fd ["value", "size"] (spEdg K) := by
  refine F.ok scEdg (fun vs H Q E h => ?_) (fun cdv A outer s H vs Q E hr h => ?_)
  · obtain ⟨v, e, n, rfl, _⟩ := h
    rfl
  · obtain ⟨v, e, n, rfl, hv, q⟩ := h
    refine ⟨_, pss_cons (ps_if (PW.pt (pw_or (pt_not (pt_val (pe_callB call_isi (by rfl) T.isi (by decide +kernel) (pa_cons (pv 0) (pa_cons (pe_bltn (v := .ty "tuple") (by rfl) T.tuple (by decide +kernel) rfl) pa_nil)))))
        (pw_or1 (pt_cmpR op_ne (pe_callB call_len_seq (by rfl) T.len PySem.boot_len (pa_cons (pv 0) pa_nil)) pe_int (nomark _))))) (pss_one (ps_ret pe_bl)) pss_nil)
      (pss_cons (ps_asg (pv 0) (pg_tup (by rfl) (pgs_cons (pg_name (i := 2) scEdg.nd rfl (.inl rfl)) (pgs_cons (pg_name (i := 3) scEdg.nd rfl (.inl rfl)) pgs_nil))))
      (pss_one (ps_ret (pe_and (pe_call GV hr (by rfl) gV kV bV .nil pass0 (pa_cons (pv 2) (pa_cons (pv 1) pa_nil)))
        (pe_and (pe_call GV hr (by rfl) gV kV bV .nil pass0 (pa_cons (pv 3) (pa_cons (pv 1) pa_nil))) (pe_one (pe_cmpR op_lt (pv 2) (pv 3) (nomark _)))))))), ?_⟩
    cases hv with
    | non =>
      refine ⟨_, rfl, .non, .ty "tuple", .type "NoneType", .type "tuple", false, rfl, .ty "tuple", .base .non, kit_ty (by decide +kernel), false, rfl, iteT ?_⟩
      exact iteT q
    | lst h =>
      refine ⟨_, rfl, _, .ty "tuple", .type "list", .type "tuple", false, rfl, .ty "tuple", .base (.lst h), kit_ty (by decide +kernel), false, rfl, iteT ?_⟩
      exact iteT q
    | tup h ne =>
      refine ⟨_, rfl, _, .ty "tuple", .type "tuple", .type "tuple", true, rfl, .ty "tuple", tyx_T h, kit_ty (by decide +kernel), true, rfl, iteF ?_⟩
      refine ⟨_, rfl, _, _, rfl, .inr h, rfl, _, rfl, ?_⟩
      exact iteN (fun e => ne (Int.ofNat.inj (V.int.inj e))) q
    | @pair a x y i j h hx hy =>
      refine ⟨_, rfl, _, .ty "tuple", .type "tuple", .type "tuple", true, rfl, .ty "tuple", tyx_T h, kit_ty (by decide +kernel), true, rfl, iteF ?_⟩
      refine ⟨_, rfl, _, _, rfl, .inr h, rfl, _, rfl, ?_⟩
      refine iteNS rfl ?_
      refine ⟨_, rfl, a, [x, y], rfl, h, rfl, x, [y], rfl, y, [], rfl, rfl, ?_⟩
      refine ⟨x, rfl, .int n, rfl, x, i, n, rfl, hx, vtxB n i, rfl, ?_⟩
      cases ci : vtxB n i with
      | false =>
        refine iteF ?_
        have z : edgB n (some (i, j)) = false := by
          cases i with
          | none => rfl
          | some i => cases j with
            | none => rfl
            | some j => simp only [edgB, ci, Bool.false_and]
        rw [z] at q
        exact q
      | true =>
        refine iteT ⟨y, rfl, .int n, rfl, y, j, n, rfl, hy, vtxB n j, rfl, ?_⟩
        cases cj : vtxB n j with
        | false =>
          refine iteF ?_
          have z : edgB n (some (i, j)) = false := by
            cases i with
            | none => rfl
            | some i => cases j with
              | none => rfl
              | some j => simp only [edgB, cj, Bool.false_and, Bool.and_false]
          rw [z] at q
          exact q
        | true =>
          refine iteT ?_
          cases hx with
          | bl b => cases ci
          | int i =>
            cases hy with
            | bl b => cases cj
            | int j =>
              refine ⟨_, rfl, _, rfl, i, j, rfl, rfl, ?_⟩
              have z : edgB n (some (some i, some j)) = decide (i < j) := by simp only [edgB, ci, cj, Bool.true_and]
              rw [z] at q
              exact q
end
end Sm

set_option Elab.async false
set_option linter.all false
set_option maxRecDepth 100000
set_option maxHeartbeats 2000000
namespace Sm
open PySem PySem.Spec PyProof.Rows L2
abbrev Pr := Int × Int
/-! ### lists of pairs, lists of neighbours -/
abbrev PairsAt (K : PySem.W.Frag) (H : Hp) : List Addr → List Pr → Prop := Paired fun a q => SqT K H a [.int q.1, .int q.2]
theorem PairsAt.same {K : PySem.W.Frag} {H H' : Hp} (s : Same H H') : ∀ {as : List Addr} {qs : List Pr}, PairsAt K H as qs → PairsAt K H' as qs
  | _, _, .nil => .nil
  | _, _, .cons h t => .cons (same_sqT s h) (PairsAt.same s t)
theorem PairsAt.get {K : PySem.W.Frag} {H : Hp} : ∀ {as : List Addr} {qs : List Pr} {i : Nat} {a : Addr}, PairsAt K H as qs → as[i]? = some a → ∃ q, qs[i]? = some q ∧ SqT K H a [.int q.1, .int q.2]
  | _, _, _, _, .nil, e => by simp at e
  | _, _, 0, _, .cons h _, e => by simp at e; subst e; exact ⟨_, rfl, h⟩
  | _, _, i + 1, a, .cons _ t, e => by
    obtain ⟨q, h1, h2⟩ := PairsAt.get (i := i) (a := a) t (by simpa using e)
    exact ⟨q, by simpa using h1, h2⟩
def nearOf (qs : List Pr) (i : Int) : List Int := qs.flatMap fun q => (if q.1 = i then [q.2] else []) ++ (if q.2 = i then [q.1] else [])
theorem nearOf_len (qs : List Pr) (i : Int) : (nearOf qs i).length ≤ 2 * qs.length := by
  unfold nearOf
  induction qs with
  | nil => simp
  | cons q r ih =>
    rw [List.flatMap_cons, List.length_append, List.length_cons, List.length_append]
    have h1 : (if q.1 = i then [q.2] else ([] : List Int)).length ≤ 1 := by split <;> simp
    have h2 : (if q.2 = i then [q.1] else ([] : List Int)).length ≤ 1 := by split <;> simp
    omega
theorem nearOf_more {qs : List Pr} {t : Nat} {q : Pr} (h : qs[t]? = some q) (i : Int) : nearOf (qs.take (t + 1)) i = nearOf (qs.take t) i ++ ((if q.1 = i then [q.2] else []) ++ (if q.2 = i then [q.1] else [])) := by
  unfold nearOf
  rw [L2.take_next h, List.flatMap_append, List.flatMap_singleton]
def NLists (H : Hp) (nts : List Addr) (f : Nat → List Int) : Prop := ∀ i a, nts[i]? = some a → H a = some (.lst ((f i).map V.int))
theorem NLists.put {H : Hp} {nts : List Addr} {f : Nat → List Int} {u : Nat} {a : Addr} (h : NLists H nts f) (nd : nts.Nodup) (hu : nts[u]? = some a) (v : Int) :
    NLists (upd H a (.lst ((f u).map V.int ++ [.int v]))) nts (fun i => if i = u then f u ++ [v] else f i) := by
  intro i b hb
  by_cases e : i = u
  · subst e
    rw [hu] at hb
    cases hb
    have e2 : (fun i' => if i' = i then f i ++ [v] else f i') i = f i ++ [v] := if_pos rfl
    rw [upd_same, e2, List.map_append]
    rfl
  · have ne : b ≠ a := fun z => by
      subst z
      have h1 := (List.getElem?_eq_some_iff.mp hb)
      have h2 := (List.getElem?_eq_some_iff.mp hu)
      obtain ⟨l1, e1⟩ := h1
      obtain ⟨l2, e2⟩ := h2
      exact e ((List.getElem_inj nd).mp (e1.trans e2.symm))
    have e2 : (fun i' => if i' = u then f u ++ [v] else f i') i = f i := if_neg e
    rw [upd_ne ne, e2]
    exact h i b hb
theorem same_upd {H : Hp} {p : Addr} {o : HO} (h : H p = none) : Same H (upd H p o) := fun b x e => by
  rw [upd_ne (ne_of_none e h)]
  exact e
theorem same_put {H H' : Hp} {p : Addr} {o : HO} (s : Same H H') (h : H p = none) : Same H (upd H' p o) := fun b x e => by
  rw [upd_ne (ne_of_none e h)]
  exact s _ _ e
theorem NLists.same {H H' : Hp} {nts : List Addr} {f : Nat → List Int} (s : Same H H') (h : NLists H nts f) : NLists H' nts f := fun i a e => s _ _ (h i a e)
abbrev sNls : Stmt := topS 11
def spNls (K : PySem.W.Frag) : Sp := fun vs H Q _ => ∃ (n : Nat) (et : Addr) (ets : List Addr) (qs : List Pr), vs = [.int n, .ref et] ∧ n ≤ 60 ∧ SqT K H et (ets.map V.ref) ∧ PairsAt K H ets qs ∧ qs.length ≤ 100 ∧
  (∀ q ∈ qs, 0 ≤ q.1 ∧ q.1 < n ∧ 0 ≤ q.2 ∧ q.2 < n ∧ q.1 ≠ q.2) ∧
  ∀ (H' : Hp) (nt : Addr) (nts : List Addr), Same H H' → H nt = none → H' nt = some (.lst (nts.map V.ref)) → nts.length = n → (nts.Nodup ∧ ∀ a ∈ nts, H a = none) → NLists H' nts (fun i => nearOf qs i) → Q (.ref nt) H'
section
variable {P : Program} {w : World} {K : PySem.W.Frag} {mg : Str → Option Value} {base : Heap}
theorem scNls : FnScope ["size", "edges", "near", "u", "v", "_"] ["size", "edges"] (defScope sNls) := ⟨rfl, rfl, rfl, by decide +kernel, rfl, by decide +kernel, by decide +kernel⟩
theorem ok_nls {f : Addr} {fd : FuncData} (F : Fun K "near_lists" "near_lists" sNls f fd) (mr : mg "range" = none) : FnOk P w K mg base CX0 1 f fd ["size", "edges"] (spNls K) := by
  refine F.ok scNls (fun vs H Q E h => ?_) (fun cdv A outer s H vs Q E hr h => ?_)
  · obtain ⟨n, et, ets, qs, rfl, _⟩ := h
    rfl
  · obtain ⟨n, et, ets, qs, rfl, hn, hT, hP, hl, hb, q⟩ := h
    refine ⟨_, pss_cons (ps_setLc (i := 2) (own := [("_", 5)]) (g := gName 5) (tt := tYes) (by rfl) scNls.nd rfl rfl (sw_true rfl rfl rfl (by decide +kernel)) (pi_range1 rfl mr (pa_cons (pv 0) pa_nil))
        (blkOk_by (own := [("_", 5)]) (N := ["size", "edges", "near", "u", "v", "_"]) (sc := defScope sNls) (by decide +kernel)) (fun _ _ _ _ _ => pg_name (i := 5) scNls.nd rfl (Or.inl rfl)) (fun _ _ _ _ _ => pts_nil) (fun _ _ _ _ _ => pe_lst pa_nil))
      (pss_cons (ps_for PassesOwn.never rfl (pi_tup (pv 1)) (pg_tup rfl (pgs_cons (pg_name (i := 3) scNls.nd rfl (.inl rfl)) (pgs_cons (pg_name (i := 4) scNls.nd rfl (.inl rfl)) pgs_nil)))
        (pss_cons (ps_expr (pe_bm PySem.F.plainAttrs_list PySem.F.slot_list_append PySem.F.type_list_append mt_append (pe_ix ix_list (pv 2) (pv 3) (fun _ _ => rfl)) (pa_cons (pv 4) pa_nil)))
        (pss_one (ps_expr (pe_bm PySem.F.plainAttrs_list PySem.F.slot_list_append PySem.F.type_list_append mt_append (pe_ix ix_list (pv 2) (pv 4) (fun _ _ => rfl)) (pa_cons (pv 3) pa_nil))))))
      (pss_one (ps_ret (pv 2)))), ?_⟩
    refine ⟨_, rfl, n, rfl, by omega, by omega, fun D hD => ?_⟩
    have toNat : ((n : Int)).toNat = n := by omega
    refine lc_range (lo := 0) (n := ((n : Int)).toNat) (fun i H' => Same H H' ∧ ∃ nts : List Addr, nts.length = i ∧ H' D = some (.lst (nts.map V.ref)) ∧ nts.Nodup ∧ ∀ a ∈ nts, H' a = some (.lst []) ∧ a ≠ D ∧ H a = none) ?_ ?_ ?_
    · exact ⟨same_upd hD, [], rfl, upd_same, List.nodup_nil, fun a ha => nomatch ha⟩
    · rintro i H' hi ⟨sm, nts, hlen, eD, nd, hall⟩
      refine ⟨rfl, ⟨Nat.zero_le _, fun p np => ?_⟩⟩
      have npD : p ≠ D := fun z => by rw [z, eD] at np; cases np
      have npH : H p = none := sm.free np
      refine ⟨_, by rw [upd_ne npD.symm]; exact eD, by rw [List.length_map]; exact small1000 (by omega), ?_⟩
      refine ⟨same_put (same_put sm npH) hD, nts ++ [p], by rw [List.length_append, hlen]; rfl, by rw [upd_same, List.map_append]; rfl, ?_, fun a ha => ?_⟩
      · refine List.nodup_append.mpr ⟨nd, List.nodup_cons.mpr ⟨(by simp), List.nodup_nil⟩, fun a ha b hb e => ?_⟩
        rw [List.mem_singleton.mp hb] at e
        subst e
        rw [(hall _ ha).1] at np
        cases np
      · rcases List.mem_append.mp ha with z | z
        · obtain ⟨h1, h2, h3⟩ := hall a z
          refine ⟨?_, h2, h3⟩
          rw [upd_ne h2, upd_ne (ne_of_none h1 np)]
          exact h1
        · rw [List.mem_singleton.mp z]
          refine ⟨?_, npD, npH⟩
          rw [upd_ne npD, upd_same]
    · rintro H1 ⟨sm, nts, hlen, eD, nd, hall⟩
      rw [toNat] at hlen
      refine ⟨.ref et, rfl, et, rfl, ⟨_, same_sqT sm hT⟩, for_tup (K := K) (a := et) (xs := ets.map V.ref) (fun t σ H' => ∃ y3 y4, σ = [some (.int n), some (.ref et), some (.ref D), y3, y4, none] ∧ Same H H' ∧ H' D = some (.lst (nts.map V.ref)) ∧
        NLists H' nts (fun i => nearOf (qs.take t) i)) ⟨none, none, rfl, sm, eD, fun i a e => (hall a (List.mem_of_getElem? e)).1⟩ (fun t σ H' _ ⟨_, _, _, s', _⟩ => same_sqT s' hT) ?_ ?_⟩
      · rintro t x σ H' hx ⟨y3, y4, rfl, sm', eD', nl⟩
        rw [List.getElem?_map] at hx
        cases ea : ets[t]? with
        | none => rw [ea] at hx; cases hx
        | some a =>
          rw [ea] at hx
          cases hx
          obtain ⟨⟨u, v⟩, hq, hs⟩ := (hP.same sm').get ea
          have hm : (u, v) ∈ qs := List.mem_of_getElem? hq
          obtain ⟨u0, un, v0, vn, uv⟩ := hb _ hm
          have tq : t < qs.length := (List.getElem?_eq_some_iff.mp hq).1
          dsimp only at u0 un v0 vn uv hs
          obtain ⟨u', rfl⟩ : ∃ k : Nat, u = k := ⟨u.toNat, by omega⟩
          obtain ⟨v', rfl⟩ : ∃ k : Nat, v = k := ⟨v.toNat, by omega⟩
          have uv' : u' ≠ v' := fun z => uv (by rw [z])
          obtain ⟨au, hau⟩ : ∃ a, nts[u']? = some a := ⟨_, List.getElem?_eq_getElem (by omega)⟩
          obtain ⟨av, hav⟩ : ∃ a, nts[v']? = some a := ⟨_, List.getElem?_eq_getElem (by omega)⟩
          have mu := hall au (List.mem_of_getElem? hau)
          have mv := hall av (List.mem_of_getElem? hav)
          have ixu : (nts.map V.ref)[u']? = some (.ref au) := by rw [List.getElem?_map, hau]; rfl
          have ixv : (nts.map V.ref)[v']? = some (.ref av) := by rw [List.getElem?_map, hav]; rfl
          have lu := nearOf_len (qs.take t) u'
          have lv := nearOf_len (qs.take t) v'
          rw [List.length_take] at lu lv
          have hu0 := nl u' au hau
          have nl1 := nl.put nd hau v'
          have hv1 := nl1 v' av hav
          dsimp only at hv1
          rw [if_neg (fun z => uv' z.symm)] at hv1
          have nl2 := nl1.put nd hav u'
          refine ⟨a, _, rfl, hs, rfl, _, _, rfl, _, _, rfl, rfl, ?_⟩
          refine ⟨_, rfl, _, rfl, D, _, _, .ref au, rfl, rfl, SqL.of eD', atI_nat ixu, .inl ⟨rfl, _, SqL.of hu0⟩, _, rfl, au, _, _, rfl, rfl, hu0, by rw [List.length_map]; exact small1000 (show (nearOf (List.take t qs) u').length ≤ 1000 by omega), ?_⟩
          refine ⟨_, rfl, _, rfl, D, _, _, .ref av, rfl, rfl, SqL.of (by rw [upd_ne (fun z => mu.2.1 z.symm)]; exact eD'), atI_nat ixv, .inl ⟨rfl, _, SqL.of hv1⟩, _, rfl, av, _, _, rfl, rfl, hv1, by rw [List.length_map]; exact small1000 (show (nearOf (List.take t qs) v').length ≤ 1000 by omega), ?_⟩
          refine ⟨some (.int u'), some (.int v'), rfl, same_put (same_put sm' mu.2.2) mv.2.2, ?_, fun i b hb' => ?_⟩
          · rw [upd_ne (fun z => mv.2.1 z.symm), upd_ne (fun z => mu.2.1 z.symm)]
            exact eD'
          · have z := nl2 i b hb'
            dsimp only at z ⊢
            rw [if_neg (fun z => uv' z.symm)] at z
            rw [z, nearOf_more hq]
            dsimp only
            congr 3
            by_cases c1 : i = u'
            · subst c1
              rw [if_neg uv', if_pos rfl, if_pos rfl, if_neg (by omega), List.append_nil]
            · rw [if_neg c1]
              by_cases c2 : i = v'
              · subst c2
                rw [if_pos rfl, if_neg (by omega), if_pos rfl, List.nil_append]
              · rw [if_neg c2, if_neg (by omega), if_neg (by omega), List.append_nil, List.append_nil]
      · rintro σ H' ⟨y3, y4, rfl, sm', eD', nl⟩
        have lenq : qs.length = ets.length := hP.length.symm
        rw [List.length_map, ← lenq, List.take_length] at nl
        exact ⟨_, rfl, q H' D nts sm' hD eD' hlen ⟨nd, fun a ha => (hall a ha).2.2⟩ nl⟩
end
end Sm

set_option Elab.async false
set_option linter.all false
set_option maxRecDepth 100000
set_option maxHeartbeats 4000000
namespace Sm
open PySem PySem.Spec PyProof.Rows L2
abbrev EV := Option (Option Int × Option Int)
def prOf : EV → Pr
  | some (some i, some j) => (i, j)
  | _ => (0, 0)
def toL (q : Pr) : List Int := [q.1, q.2]
theorem toL_inj {p q : Pr} (h : toL p = toL q) : p = q := by
  obtain ⟨a, b⟩ := p
  obtain ⟨c, d⟩ := q
  simp only [toL, List.cons.injEq, and_true] at h
  rw [h.1, h.2]
/-- the edges that are taken, in the order of the list; none if one is refused -/
def scan (n : Int) : List Pr → List EV → Option (List Pr)
  | seen, [] => some seen
  | seen, e :: r => if edgB n e = true ∧ prOf e ∉ seen then scan n (seen ++ [prOf e]) r else none
def mkE (n : Int) (es : List EV) : Option (List Pr) := if 0 ≤ n ∧ n ≤ 60 then scan n [] es else none
theorem scan_app (n : Int) : ∀ (l r : List EV) (seen : List Pr), scan n seen (l ++ r) = (scan n seen l).bind fun s => scan n s r
  | [], r, seen => rfl
  | e :: l, r, seen => by
    show (if edgB n e = true ∧ prOf e ∉ seen then scan n (seen ++ [prOf e]) (l ++ r) else none) = (if edgB n e = true ∧ prOf e ∉ seen then scan n (seen ++ [prOf e]) l else none).bind _
    by_cases c : edgB n e = true ∧ prOf e ∉ seen
    · rw [if_pos c, if_pos c]
      exact scan_app n l r _
    · rw [if_neg c, if_neg c]
      rfl
def Okp (n : Int) (q : Pr) : Prop := 0 ≤ q.1 ∧ q.1 < q.2 ∧ q.2 < n
theorem edgB_ok {n : Int} {e : EV} (h : edgB n e = true) : ∃ i j, e = some (some i, some j) ∧ Okp n (i, j) := by
  match e, h with
  | some (some i, some j), h =>
    simp only [edgB, vtxB, Bool.and_eq_true, decide_eq_true_eq] at h
    exact ⟨i, j, rfl, h.1.1, h.2.2, h.2.1.2⟩
theorem split_at {α : Type} {l : List α} {t : Nat} {e : α} (h : l[t]? = some e) : l = l.take t ++ e :: l.drop (t + 1) := by
  obtain ⟨hl, rfl⟩ := List.getElem?_eq_some_iff.mp h
  conv => lhs; rw [← List.take_append_drop t l, List.drop_eq_getElem_cons hl]
theorem scan_ok (n : Int) : ∀ (es : List EV) (seen ps : List Pr), scan n seen es = some ps → (∀ q ∈ seen, Okp n q) → seen.Nodup → (∀ q ∈ ps, Okp n q) ∧ ps.Nodup ∧ ps.length = seen.length + es.length
  | [], seen, ps, h, a, b => by
    cases h
    exact ⟨a, b, rfl⟩
  | e :: r, seen, ps, h, a, b => by
    have h' : (if edgB n e = true ∧ prOf e ∉ seen then scan n (seen ++ [prOf e]) r else none) = some ps := h
    by_cases c : edgB n e = true ∧ prOf e ∉ seen
    · rw [if_pos c] at h'
      obtain ⟨i, j, rfl, ok⟩ := edgB_ok c.1
      obtain ⟨h1, h2, h3⟩ := scan_ok n r _ ps h' (fun q hq => by
        rcases List.mem_append.mp hq with z | z
        · exact a q z
        · rw [List.mem_singleton.mp z]; exact ok) (List.nodup_append.mpr ⟨b, by simp, fun x hx y hy e => by
          rw [List.mem_singleton.mp hy] at e
          exact c.2 (e ▸ hx)⟩)
      refine ⟨h1, h2, ?_⟩
      rw [h3, List.length_append, List.length_cons, List.length_cons, List.length_nil]
      omega
    · rw [if_neg c] at h'
      cases h'
abbrev lexlt (p q : Pr) : Prop := SrtO.lexB p q = true
def gflds (n : Int) (et nt : Addr) : List (Str × V) := putF "_near" (.ref nt) (putF "edges" (.ref et) (putF "size" (.int n) []))
theorem gf_size (n : Int) (et nt : Addr) : (gflds n et nt).lookup ("size" : Str) = some (.int n) := by
  unfold gflds
  rw [lookup_putF, if_neg (by decide +kernel), lookup_putF, if_neg (by decide +kernel), lookup_putF, if_pos rfl]
theorem gf_edges (n : Int) (et nt : Addr) : (gflds n et nt).lookup ("edges" : Str) = some (.ref et) := by
  unfold gflds
  rw [lookup_putF, if_neg (by decide +kernel), lookup_putF, if_pos rfl]
theorem gf_near (n : Int) (et nt : Addr) : (gflds n et nt).lookup ("_near" : Str) = some (.ref nt) := by
  unfold gflds
  rw [lookup_putF, if_pos rfl]
theorem gf_no (n : Int) (et nt : Addr) {m : Str} (h1 : ¬ m = "_near") (h2 : ¬ m = "edges") (h3 : ¬ m = "size") : (gflds n et nt).lookup m = none := by
  unfold gflds
  rw [lookup_putF, if_neg h1, lookup_putF, if_neg h2, lookup_putF, if_neg h3]
  rfl
/-- a graph stands at p -/
structure GraphAt (K : PySem.W.Frag) (C : Addr) (H : Hp) (p : Addr) (n : Nat) (qs : List Pr) : Prop where
  ob : ∃ dx et nt, H p = some (.ins C dx (gflds n et nt)) ∧ (∃ ets : List Addr, SqT K H et (ets.map V.ref) ∧ PairsAt K H ets qs) ∧ ∃ nts : List Addr, H nt = some (.lst (nts.map V.ref)) ∧ nts.length = n ∧ NLists H nts (fun i => nearOf qs i)
  lim : n ≤ 60
  few : qs.length ≤ 75
  ok : ∀ q ∈ qs, Okp n q
  srt : qs.Pairwise lexlt
theorem GraphAt.same {K : PySem.W.Frag} {C : Addr} {H H' : Hp} {p : Addr} {n : Nat} {qs : List Pr} (s : Same H H') (g : GraphAt K C H p n qs) : GraphAt K C H' p n qs := by
  obtain ⟨dx, et, nt, h1, ⟨ets, h2, h3⟩, nts, h4, h5, h6⟩ := g.ob
  exact ⟨⟨dx, et, nt, s _ _ h1, ⟨ets, same_sqT s h2, h3.same s⟩, nts, s _ _ h4, h5, h6.same s⟩, g.lim, g.few, g.ok, g.srt⟩
/-- all as it was but at p -/
def But (p : Addr) (H H' : Hp) : Prop := ∀ b o, H b = some o → b ≠ p → H' b = some o
theorem But.sqT {K : PySem.W.Frag} {p C dx a : Addr} {fs : List (Str × V)} {H H' : Hp} {xs : List V} (s : But p H H') (hp : H p = some (.ins C dx fs)) (h : SqT K H a xs) : SqT K H' a xs := by
  rcases h with (h | ⟨o, h⟩) | h
  · exact .inl (.inl (s _ _ h (fun z => by rw [z, hp] at h; cases h)))
  · exact .inl (.inr ⟨o, s _ _ h (fun z => by rw [z, hp] at h; cases h)⟩)
  · exact .inr h
theorem Same.but {p : Addr} {H H' : Hp} (s : Same H H') : But p H H' := fun b o e _ => s b o e
theorem But.put {p : Addr} {H H' : Hp} {o : HO} (s : But p H H') : But p H (upd H' p o) := fun b x e n => by
  rw [upd_ne n]
  exact s b x e n
theorem But.new {p q : Addr} {H H' : Hp} {o : HO} (s : But p H H') (h : H q = none) : But p H (upd H' q o) := fun b x e n => by
  rw [upd_ne (ne_of_none e h)]
  exact s b x e n
theorem But.same {p : Addr} {H H1 H2 : Hp} (s : But p H H1) (t : Same H1 H2) : But p H H2 := fun b x e n => t _ _ (s b x e n)
/-- an exception's class, as the top has made it -/
structure TxE (K : PySem.W.Frag) (mg : Str → Option Value) (x : Str) (C : Addr) : Prop where
  g : mg x = some (.ref C)
  x : PySem.W.excIn K C [.type "ValueError", .type "Exception", .type "BaseException", .type "object"] "ValueError.__new__" = true
  k : PySem.W.keepIn K (.ref C) = true
  b : PySem.W.subIn K (.ref C) (.type "BaseException") = some true
  t : PySem.W.typeIn K (.ref C) = some (.type "type")
/-- what the class Graph says -/
structure TxG (K : PySem.W.Frag) (mg : Str → Option Value) (C : Addr) : Prop where
  cl : Cls K C
  nS : NoAttr K C "size"
  nE : NoAttr K C "edges"
  nN : NoAttr K C "_near"
  g : mg "Graph" = some (.ref C)
abbrev sInit : Stmt := inClass (topS 10) 0
abbrev sHas : Stmt := inClass (topS 10) 1
abbrev sNear : Stmt := inClass (topS 10) 2
abbrev sChk : Stmt := inClass (topS 10) 3
theorem pairs_keep {K : PySem.W.Frag} {H H' : Hp} (k : ∀ (a : Addr) (xs : List V), SqT K H a xs → SqT K H' a xs) : ∀ {as : List Addr} {qs : List Pr}, PairsAt K H as qs → PairsAt K H' as qs
  | _, _, .nil => .nil
  | _, _, .cons h t => .cons (k _ _ h) (pairs_keep k t)
def spInit (K : PySem.W.Frag) (C CB : Addr) : Sp := fun vs H Q E => ∃ (p dx : Addr) (n : Int) (a : Addr) (xs : List V) (es : List EV), vs = [.ref p, .int n, .ref a] ∧ H p = some (.ins C dx []) ∧ SqL K H a xs ∧ Paired (EdgeV K H) xs es ∧ es.length ≤ 75 ∧
  (mkE n es = none → ∀ H', Same H H' → E (.ref CB) none H') ∧
  (∀ ps, mkE n es = some ps → ∀ (H' : Hp) (qs : List Pr), (∀ b o, H b = some o → b ≠ p → H' b = some o) → qs.Perm ps → GraphAt K C H' p n.toNat qs → (∀ (S : Addr → Prop) (H'' : Hp), (∀ D, S D → ∃ x, H D = some (.lst x)) → (∀ b o, H' b = some o → ¬ S b → H'' b = some o) → GraphAt K C H'' p n.toNat qs) → Q .non H')
theorem ev_get {K : PySem.W.Frag} {H : Hp} : ∀ {xs : List V} {es : List EV} {i : Nat} {x : V}, Paired (EdgeV K H) xs es → xs[i]? = some x → ∃ e, es[i]? = some e ∧ EdgeV K H x e
  | _, _, _, _, .nil, e => by simp at e
  | _, _, 0, _, .cons h _, e => by simp at e; subst e; exact ⟨_, rfl, h⟩
  | _, _, i + 1, x, .cons _ t, e => by
    obtain ⟨q, h1, h2⟩ := ev_get (i := i) (x := x) t (by simpa using e)
    exact ⟨q, by simpa using h1, h2⟩
theorem edgeV_pair {K : PySem.W.Frag} {H : Hp} {v : V} {i j : Int} (h : EdgeV K H v (some (some i, some j))) : ∃ a, v = .ref a ∧ SqT K H a [.int i, .int j] := by
  cases h with
  | pair h hx hy =>
    cases hx
    cases hy
    exact ⟨_, rfl, h⟩
theorem pairs_of {K : PySem.W.Frag} {H : Hp} : ∀ {L : List (Addr × List Int)} {qs : List Pr}, L.map (·.2) = qs.map toL → (∀ p ∈ L, SqT K H p.1 (p.2.map V.int)) → PairsAt K H (L.map (·.1)) qs
  | [], [], _, _ => .nil
  | [], _ :: _, e, _ => by cases e
  | _ :: _, [], e, _ => by cases e
  | p :: L, q :: qs, e, h => by
    have e1 : p.2 = toL q := (List.cons.inj e).1
    have h1 := h p List.mem_cons_self
    rw [e1] at h1
    exact .cons h1 (pairs_of (List.cons.inj e).2 fun r hr => h r (List.mem_cons_of_mem _ hr))
section
variable {P : Program} {w : World} {K : PySem.W.Frag} {mg : Str → Option Value} {base : Heap}
theorem scInit : FnScope ["self", "size", "edges", "seen", "edge"] ["self", "size", "edges"] (defScope sInit) := ⟨rfl, rfl, rfl, by decide +kernel, rfl, by decide +kernel, by decide +kernel⟩
theorem ok_init {f C CB fN fE fL : Addr} {fd fdN fdE fdL : FuncData} (F : Fun K "__init__" "Graph.__init__" sInit f fd) (T : TxG K mg C) (B : TxE K mg "BadGraph" CB)
    (GN : FnOk P w K mg base CX0 1 fN fdN ["value"] spNum) (gN : mg "is_number" = some (.ref fN)) (kN : PySem.W.keepIn K (.ref fN) = true) (bN : Binds K fdN ["value"] [])
    (GE : FnOk P w K mg base CX0 3 fE fdE ["value", "size"] (spEdg K)) (gE : mg "is_edge" = some (.ref fE)) (kE : PySem.W.keepIn K (.ref fE) = true) (bE : Binds K fdE ["value", "size"] [])
    (GL : FnOk P w K mg base CX0 1 fL fdL ["size", "edges"] (spNls K)) (gL : mg "near_lists" = some (.ref fL)) (kL : PySem.W.keepIn K (.ref fL) = true) (bL : Binds K fdL ["size", "edges"] [])
    {tm : Tok} (gM : mg "MOST_VERTICES" = some (.int 60 tm)) (mset : mg "set" = none) (mtup : mg "tuple" = none) (msort : mg "sorted" = none) :
    FnOk P w K mg base (L2.CX P w) 4 f fd ["self", "size", "edges"] (spInit K C CB) := by
  refine F.okX scInit (fun vs H Q E h => ?_) (fun cdv A outer s H vs Q E hr h => ?_)
  · obtain ⟨p, dx, n, a, xs, es, rfl, _⟩ := h
    rfl
  · obtain ⟨p, dx, n, a, xs, es, rfl, hp, hS, hE, hlen, kE0, kQ⟩ := h
    have hr1 : Room 1 _ := hr.mono (by decide)
    have hu : _ + 64 < cLine := hr.units
    refine ⟨_, pss_cons (ps_if (PW.pt (pw_or (pt_not (pt_val (pe_call GN hr1 (by rfl) gN kN bN .nil pass0 (pa_cons (pv 1) pa_nil)))) (pw_or1 (pt_not (pt_chain op_le op_le pe_int (pv 1) (pe_glob (v := .int 60) rfl gM ⟨_, rfl⟩))))))
        (pss_one (ps_raise rfl (takes_of rfl rfl rfl rfl) (pmk_own PySem.F.excBase_ValueError B.x B.g B.k (raises_own B.b B.t) (by exact rfl)))) pss_nil)
      (pss_cons (ps_set (i := 3) scInit.nd rfl (.inl rfl) (pe_callTy0 cr_set0T (by rfl) mset (by decide +kernel)))
      (pss_cons (ps_for (passes_of rfl) rfl (pi_list (pv 2)) (pg_name (i := 4) scInit.nd rfl (.inl rfl))
        (pss_cons (ps_if (pt_not (pt_val (pe_call GE hr (by rfl) gE kE bE .nil pass0 (pa_cons (pv 4) (pa_cons (pv 1) pa_nil)))))
          (pss_one (ps_raise rfl (takes_of rfl rfl rfl rfl) (pmk_own PySem.F.excBase_ValueError B.x B.g B.k (raises_own B.b B.t) (by exact rfl)))) pss_nil)
        (pss_cons (ps_if (pt_cmpR (or_inT hu) (pv 4) (pv 3) (by rfl))
          (pss_one (ps_raise rfl (takes_of rfl rfl rfl rfl) (pmk_own PySem.F.excBase_ValueError B.x B.g B.k (raises_own B.b B.t) (by exact rfl)))) pss_nil)
        (pss_one (ps_expr (pe_addT hu (pv 3) (pa_cons (pv 4) pa_nil)))))))
      (pss_cons (ps_fld (pv 0) (pv 1) rfl)
      (pss_cons (ps_fld (pv 0) (pe_callTy call_tuple_of (by rfl) mtup (by decide +kernel) (pa_cons (pe_callB (cr_sortT2 rfl) (by rfl) msort (by decide +kernel) (pa_cons (pv 3) pa_nil)) pa_nil)) rfl)
      (pss_one (ps_fld (pv 0) (pe_call GL hr1 (by rfl) gL kL bL .nil pass0 (pa_cons (pv 1) (pa_cons (pe_fld (pv 0) rfl) pa_nil))) rfl)))))), ?_⟩
    refine ⟨_, rfl, _, some n, rfl, .int n, true, rfl, iteF ?_⟩
    refine ⟨_, rfl, _, _, rfl, rfl, _, rfl, ?_⟩
    have bad : ¬ (0 ≤ n ∧ n ≤ 60) → E (.ref CB) none H := fun c => kE0 (by unfold mkE; rw [if_neg c]) H (Same.refl H)
    refine ite2 (fun c0 => ?_) (fun c0 => ?_)
    rotate_left
    · refine ⟨_, rfl, ?_⟩
      exact iteT (bad fun z => c0 (decide_eq_true z.1))
    refine ⟨_, _, rfl, rfl, _, rfl, ?_⟩
    have n0 : 0 ≤ n := of_decide_eq_true c0
    by_cases c1 : n ≤ 60
    rotate_left
    · exact iteN c1 (bad fun z => c1 z.2)
    refine iteNS c1 ?_
    -- seen = set()
    refine ⟨rfl, fun S nS => ?_⟩
    have s1 : Same H (upd H S (TSet P w S [])) := same_upd nS
    have noS : ∀ {b : Addr} {o : HO}, H b = some o → b ≠ S := fun e => ne_of_none e nS
    have hxl : xs.length = es.length := hE.length
    refine ⟨_, rfl, a, rfl, ⟨_, s1.seq hS⟩, for_list (K := K) (a := a) (xs := xs) (fun t σ H' => ∃ (y4 : Option V) (seen : List Pr) (L : List (Addr × List Int)), σ = [some (.ref p), some (.int n), some (.ref a), some (.ref S), y4] ∧ Same H H' ∧
      H' S = some (TSet P w S L) ∧ scan n [] (es.take t) = some seen ∧ (L.map (·.2)).Perm (seen.map toL) ∧ (∀ r ∈ L, SqT K H r.1 (r.2.map V.int)) ∧ L.length ≤ t)
      ⟨none, [], [], rfl, s1, upd_same, by rw [List.take_zero]; rfl, List.Perm.refl _, (fun r hr => by cases hr), Nat.le_refl _⟩ (fun t σ H' _ ⟨_, _, _, _, s', _⟩ => s'.seq hS) ?_ ?_⟩
    · rintro t x σ H' hx ⟨y4, seen, L, rfl, sm, eS, hsc, pm, hm, hl⟩
      obtain ⟨e, he, hv⟩ := ev_get hE hx
      have tl : t < es.length := (List.getElem?_eq_some_iff.mp he).1
      have stop : ¬ (edgB n e = true ∧ prOf e ∉ seen) → ∀ H2, Same H H2 → E (.ref CB) none H2 := fun c => by
        refine kE0 ?_
        unfold mkE
        rw [if_pos ⟨n0, c1⟩]
        rw [split_at he, scan_app, hsc]
        show (if edgB n e = true ∧ prOf e ∉ seen then _ else none) = none
        rw [if_neg c]
      refine ⟨_, rfl, _, rfl, _, e, n, rfl, hv.same sm, edgB n e, rfl, ?_⟩
      cases ce : edgB n e with
      | false => exact iteT (stop (by rw [ce]; simp) H' sm)
      | true =>
        refine iteF ?_
        obtain ⟨i, j, rfl, ok⟩ := edgB_ok ce
        obtain ⟨b, rfl, hb⟩ := edgeV_pair hv
        have hm' : ∀ r ∈ L, SqT K H' r.1 (r.2.map V.int) := fun r hr => same_sqT sm (hm r hr)
        have hmem : toL (i, j) ∈ L.map (·.2) ↔ (i, j) ∈ seen := by
          rw [pm.mem_iff]
          constructor
          · intro z
            obtain ⟨q, hq, e⟩ := List.mem_map.mp z
            rw [← toL_inj e]
            exact hq
          · intro z
            exact List.mem_map.mpr ⟨_, z, rfl⟩
        refine ⟨_, rfl, _, rfl, b, S, toL (i, j), L, rfl, rfl, eS, hm', same_sqT sm hb, _, rfl, ?_⟩
        refine ite2 (fun c => ?_) (fun c => ?_)
        · have c' : (i, j) ∈ seen := hmem.mp (of_decide_eq_true c)
          exact stop (fun z => z.2 c') H' sm
        · have c' : (i, j) ∉ seen := fun z => c (decide_eq_true (hmem.mpr z))
          refine ⟨_, rfl, ⟨S, L, rfl, eS⟩, _, rfl, S, b, toL (i, j), L, rfl, rfl, eS, hm', same_sqT sm hb, by omega, fun z => c' (hmem.mp z), fun L' pm' => ?_⟩
          refine ⟨_, seen ++ [(i, j)], L', rfl, same_put sm nS, upd_same, ?_, ?_, fun r hr => ?_, ?_⟩
          · rw [L2.take_next he, scan_app, hsc]
            show (if edgB n (some (some i, some j)) = true ∧ prOf (some (some i, some j)) ∉ seen then scan n (seen ++ [prOf (some (some i, some j))]) [] else none) = _
            rw [if_pos ⟨ce, c'⟩]
            rfl
          · refine (pm'.map (·.2)).trans ?_
            rw [List.map_cons, List.map_append]
            exact (List.Perm.cons _ pm).trans (List.perm_append_singleton _ _).symm
          · rcases List.mem_cons.mp (pm'.mem_iff.mp hr) with z | z
            · rw [z]; exact hb
            · exact hm r z
          · rw [pm'.length_eq, List.length_cons]; omega
    · rintro σ H' ⟨y4, seen, L, rfl, sm, eS, hsc, pm, hm, hl⟩
      rw [hxl, List.take_length] at hsc
      have hmk : mkE n es = some seen := by unfold mkE; rw [if_pos ⟨n0, c1⟩]; exact hsc
      obtain ⟨ok, nd, sl⟩ := scan_ok n es [] seen hsc (fun q hq => by cases hq) List.nodup_nil
      have hp1 := sm _ _ hp
      have pS : p ≠ S := noS hp
      -- self.size = size
      refine ⟨_, rfl, _, rfl, p, C, dx, [], rfl, hp1, T.cl, T.nS, (by show 0 < 1000; decide), ?_⟩
      -- self.edges = tuple(sorted(seen))
      refine ⟨_, rfl, S, L, rfl, by rw [upd_ne pS.symm]; exact eS, fun r hr => ?_, fun r hr => ?_, fun L2' l2 pm2 srt2 nl2 => ?_⟩
      · exact (But.put (Same.but sm)).sqT hp (hm r hr)
      · have := (pm.mem_iff.mp (List.mem_map.mpr ⟨r, hr, rfl⟩))
        obtain ⟨q, _, e⟩ := List.mem_map.mp this
        rw [← e]
        rfl
      · obtain ⟨k, rfl⟩ : ∃ k : Nat, n = (k : Int) := ⟨n.toNat, by omega⟩
        -- the pairs in their order
        have two : ∀ r ∈ L, ∃ q, q ∈ seen ∧ r.2 = toL q := fun r hr => by
          obtain ⟨q, hq, e⟩ := List.mem_map.mp (pm.mem_iff.mp (List.mem_map.mpr ⟨r, hr, rfl⟩))
          exact ⟨q, hq, e.symm⟩
        have keyP : ∀ r ∈ L, r.2 = toL (pairOf r.2) := fun r hr => by
          obtain ⟨q, _, e⟩ := two r hr
          rw [e]
          rfl
        have eqs : L2'.map (·.2) = (L2'.map fun r => pairOf r.2).map toL := by
          rw [List.map_map]
          exact List.map_congr_left fun r hr => keyP r (pm2.mem_iff.mp hr)
        have pq : (L2'.map fun r => pairOf r.2).Perm seen := by
          have z : ((L.map (·.2)).map pairOf).Perm ((seen.map toL).map pairOf) := pm.map pairOf
          rw [List.map_map, List.map_map] at z
          have e1 : seen.map (pairOf ∘ toL) = seen := by
            rw [show (pairOf ∘ toL) = id from funext fun q => rfl]
            exact List.map_id _
          rw [e1] at z
          exact (pm2.map _).trans z
        have srtq : (L2'.map fun r => pairOf r.2).Pairwise lexlt := List.pairwise_map.mpr srt2
        have okq : ∀ q ∈ L2'.map fun r => pairOf r.2, Okp k q := fun q hq => ok q (pq.mem_iff.mp hq)
        have fewq : (L2'.map fun r => pairOf r.2).length ≤ 75 := by rw [pq.length_eq, sl, List.length_nil]; omega
        generalize hqs : (L2'.map fun r => pairOf r.2) = qs at eqs pq srtq okq fewq
        have bt0 : But p H (upd H' p (.ins C dx (putF "size" (.int k) []))) := But.put (Same.but sm)
        have nl2H : H l2 = none := by
          cases e : H l2 with
          | none => rfl
          | some o =>
            have z := bt0 l2 o e (fun y => by rw [y] at nl2; rw [upd_same] at nl2; cases nl2)
            rw [z] at nl2
            cases nl2
        have pl2 : p ≠ l2 := fun z => by rw [← z, upd_same] at nl2; cases nl2
        refine ⟨l2, _, rfl, .inl ⟨SqL.of upd_same, fun et net => ?_⟩⟩
        have bt1 : But p H (upd (upd H' p (.ins C dx (putF "size" (.int k) []))) l2 (.lst (L2'.map fun q => V.ref q.1))) := bt0.new nl2H
        have at1 : (upd (upd H' p (.ins C dx (putF "size" (.int k) []))) l2 (.lst (L2'.map fun q => V.ref q.1))) p = some (.ins C dx (putF "size" (.int k) [])) := by rw [upd_ne pl2, upd_same]
        generalize (upd (upd H' p (.ins C dx (putF "size" (.int k) []))) l2 (.lst (L2'.map fun q => V.ref q.1))) = H2 at net bt1 at1 ⊢
        have netH : H et = none := by
          cases e : H et with
          | none => rfl
          | some o =>
            have z := bt1 et o e (fun y => by rw [y, at1] at net; cases net)
            rw [z] at net
            cases net
        have pet : p ≠ et := fun z => by rw [← z, at1] at net; cases net
        refine ⟨_, rfl, p, C, dx, _, rfl, by rw [upd_ne pet]; exact at1, T.cl, T.nE, (by show 1 < 1000; decide), ?_⟩
        -- self._near = near_lists(size, self.edges)
        have bt2 : But p H (upd (upd H2 et (.tup (L2'.map fun q => V.ref q.1))) p (.ins C dx (putF "edges" (.ref et) (putF "size" (.int k) [])))) := (bt1.new netH).put
        have et2 : (upd (upd H2 et (.tup (L2'.map fun q => V.ref q.1))) p (.ins C dx (putF "edges" (.ref et) (putF "size" (.int k) [])))) et = some (.tup (L2'.map fun q => V.ref q.1)) := by rw [upd_ne pet.symm, upd_same]
        have at2 : (upd (upd H2 et (.tup (L2'.map fun q => V.ref q.1))) p (.ins C dx (putF "edges" (.ref et) (putF "size" (.int k) [])))) p = some (.ins C dx (putF "edges" (.ref et) (putF "size" (.int k) []))) := upd_same
        generalize (upd (upd H2 et (.tup (L2'.map fun q => V.ref q.1))) p (.ins C dx (putF "edges" (.ref et) (putF "size" (.int k) [])))) = H3 at bt2 et2 at2 ⊢
        have mapref : (L2'.map fun q => V.ref q.1) = (L2'.map (·.1)).map V.ref := by rw [List.map_map]; rfl
        have hm3 : ∀ r ∈ L2', SqT K H r.1 (r.2.map V.int) := fun r hr => hm r (pm2.mem_iff.mp hr)
        have pa0 : PairsAt K H (L2'.map (·.1)) qs := pairs_of eqs hm3
        have pa3 : PairsAt K H3 (L2'.map (·.1)) qs := pairs_of eqs fun r hr => bt2.sqT hp (hm3 r hr)
        rw [mapref] at et2
        refine ⟨_, rfl, _, rfl, p, C, dx, _, .ref et, rfl, at2, T.cl, T.nE, by rw [lookup_putF, if_pos rfl], ?_⟩
        refine ⟨k, et, L2'.map (·.1), qs, rfl, by omega, SqT.of et2, pa3, by omega, fun q hq => ?_, fun H4 nt nts sm4 nnt ent lnt ndn nl => ?_⟩
        · obtain ⟨z1, z2, z3⟩ := okq q hq
          exact ⟨z1, by omega, by omega, z3, by omega⟩
        · have at4 := sm4 _ _ at2
          refine ⟨_, rfl, p, C, dx, _, rfl, at4, T.cl, T.nN, (by show 2 < 1000; decide), ?_⟩
          have pnt : p ≠ nt := fun z => by rw [z] at at2; rw [at2] at nnt; cases nnt
          have sb : But p H4 (upd H4 p (.ins C dx (gflds k et nt))) := But.put (Same.but (Same.refl _))
          have g1 : SqT K (upd H4 p (.ins C dx (gflds k et nt))) et ((L2'.map (·.1)).map V.ref) := sb.sqT at4 (SqT.of (sm4 _ _ et2))
          have g2 : PairsAt K (upd H4 p (.ins C dx (gflds k et nt))) (L2'.map (·.1)) qs := pairs_of eqs fun r hr => sb.sqT at4 (same_sqT sm4 (bt2.sqT hp (hm3 r hr)))
          have ent' : upd H4 p (.ins C dx (gflds k et nt)) nt = some (.lst (nts.map V.ref)) := by rw [upd_ne pnt.symm]; exact ent
          have nl' : ∀ (i : Nat) a, nts[i]? = some a → upd H4 p (.ins C dx (gflds k et nt)) a = some (.lst ((nearOf qs i).map V.int)) := fun i a e => by
            have z := nl i a e
            rw [upd_ne (fun y => by rw [y, at4] at z; cases z)]
            exact z
          have down : ∀ q : Addr, H3 q = none → H q = none := fun q h => by
            cases e : H q with
            | none => rfl
            | some o =>
              have z := bt2 q o e (fun y => by rw [y, at2] at h; cases h)
              rw [z] at h
              cases h
          have bt5 : But p H (upd H4 p (.ins C dx (gflds k et nt))) := (bt2.same sm4).put
          refine kQ seen hmk (upd H4 p (.ins C dx (gflds k et nt))) qs bt5 pq ⟨⟨dx, et, nt, upd_same, ⟨_, g1, g2⟩, nts, ent', lnt, nl'⟩, by omega, fewq, okq, srtq⟩ fun S H'' hS bD => ?_
          have noS : ∀ b o, upd H4 p (.ins C dx (gflds k et nt)) b = some o → b ≠ p → (∀ x, o ≠ .lst x) → ¬ S b := fun b o e bp no hs => by
            obtain ⟨x, hx⟩ := hS b hs
            have z := bt5 b _ hx bp
            rw [e] at z
            exact no x (Option.some.inj z)
          have pS : ¬ S p := fun hs => by
            obtain ⟨x, hx⟩ := hS p hs
            rw [hp] at hx
            cases hx
          have keepT : ∀ {a : Addr} {xs : List V}, SqT K (upd H4 p (.ins C dx (gflds k et nt))) a xs → SqT K H'' a xs := fun {a xs} h => by
            have ap : ∀ o, upd H4 p (.ins C dx (gflds k et nt)) a = some o → (∀ c d f, o ≠ .ins c d f) → a ≠ p := fun o e no z => by
              rw [z, upd_same] at e
              exact no _ _ _ (Option.some.inj e).symm
            rcases h with (h | ⟨o, h⟩) | h
            · exact .inl (.inl (bD _ _ h (noS _ _ h (ap _ h (fun _ _ _ => HO.noConfusion)) (fun _ => HO.noConfusion))))
            · exact .inl (.inr ⟨o, bD _ _ h (noS _ _ h (ap _ h (fun _ _ _ => HO.noConfusion)) (fun _ => HO.noConfusion))⟩)
            · exact .inr h
          refine ⟨⟨dx, et, nt, bD _ _ upd_same pS, ⟨_, keepT g1, pairs_keep (fun a xs => keepT) g2⟩, nts, bD _ _ ent' (fun hs => ?_), lnt, fun i a e => bD _ _ (nl' i a e) (fun hs => ?_)⟩, by omega, fewq, okq, srtq⟩
          · obtain ⟨x, hx⟩ := hS _ hs
            rw [down nt nnt] at hx
            cases hx
          · obtain ⟨x, hx⟩ := hS _ hs
            rw [down a (ndn.2 a (List.mem_of_getElem? e))] at hx
            cases hx
end
end Sm

set_option Elab.async false
set_option linter.all false
set_option maxRecDepth 100000
set_option maxHeartbeats 4000000
namespace Sm
open PySem PySem.Spec PyProof.Rows L2
def spChk (K : PySem.W.Frag) (C CB : Addr) : Sp := fun vs H Q E => ∃ (p : Addr) (n : Nat) (qs : List Pr) (v : V) (i : Option Int), vs = [.ref p, v] ∧ GraphAt K C H p n qs ∧ IB v i ∧ (vtxB n i = false → E (.ref CB) none H) ∧ (vtxB n i = true → Q .non H)
def spNear (K : PySem.W.Frag) (C CB : Addr) : Sp := fun vs H Q E => ∃ (p : Addr) (n : Nat) (qs : List Pr) (v : V) (i : Option Int), vs = [.ref p, v] ∧ GraphAt K C H p n qs ∧ IB v i ∧ (vtxB n i = false → E (.ref CB) none H) ∧
  (∀ u : Nat, i = some (u : Int) → u < n → ∀ (l : Addr), H l = none → Q (.ref l) (upd H l (.lst ((nearOf qs u).map V.int))))
def spHas (K : PySem.W.Frag) (C CB : Addr) : Sp := fun vs H Q E => ∃ (p : Addr) (n : Nat) (qs : List Pr) (v v' : V) (i j : Option Int), vs = [.ref p, v, v'] ∧ GraphAt K C H p n qs ∧ IB v i ∧ IB v' j ∧ ((vtxB n i && vtxB n j) = false → E (.ref CB) none H) ∧
  (∀ u w : Nat, i = some (u : Int) → j = some (w : Int) → u < n → w < n → Q (.bl (decide ((w : Int) ∈ nearOf qs u))) H)
theorem vtxB_nat {n : Nat} {i : Option Int} (h : vtxB n i = true) : ∃ u : Nat, i = some (u : Int) ∧ u < n := by
  match i, h with
  | some i, h =>
    simp only [vtxB, Bool.and_eq_true, decide_eq_true_eq] at h
    exact ⟨i.toNat, by rw [show ((i.toNat : Nat) : Int) = i by omega], by omega⟩
theorem vtxB_of {n u : Nat} (h : u < n) : vtxB n (some (u : Int)) = true := by
  simp only [vtxB, Bool.and_eq_true, decide_eq_true_eq]
  omega
theorem inV_int (x : Int) : ∀ l : List Int, inV (.int x) (l.map V.int) = decide (x ∈ l)
  | [] => by simp [inV]
  | y :: l => by
    have ih := inV_int x l
    unfold inV at ih ⊢
    rw [List.map_cons, List.any_cons, ih]
    by_cases c : y = x
    · simp [eqV, c]
    · have c' : ¬ x = y := fun z => c z.symm
      simp [eqV, c, c']
theorem flat_ints : ∀ l : List Int, (l.map V.int).all flatV = true
  | [] => rfl
  | _ :: l => by rw [List.map_cons, List.all_cons, flat_ints l]; rfl
section
variable {P : Program} {w : World} {K : PySem.W.Frag} {mg : Str → Option Value} {base : Heap}
theorem scChk : FnScope ["self", "value"] ["self", "value"] (defScope sChk) := ⟨rfl, rfl, rfl, by decide +kernel, rfl, by decide +kernel, by decide +kernel⟩
theorem ok_chk {f C CB fV : Addr} {fd fdV : FuncData} (F : Fun K "_check_vertex" "Graph._check_vertex" sChk f fd) (T : TxG K mg C) (B : TxE K mg "BadGraph" CB)
    (GV : FnOk P w K mg base CX0 2 fV fdV ["value", "size"] spVtx) (kV : PySem.W.keepIn K (.ref fV) = true) (bV : Binds K fdV ["value", "size"] []) (gV : mg "is_vertex" = some (.ref fV)) :
    FnOk P w K mg base (L2.CX P w) 3 f fd ["self", "value"] (spChk K C CB) := by
  refine F.okX scChk (fun vs H Q E h => ?_) (fun cdv A outer s H vs Q E hr h => ?_)
  · obtain ⟨p, n, qs, v, i, rfl, _⟩ := h
    rfl
  · obtain ⟨p, n, qs, v, i, rfl, g, hv, kE, kQ⟩ := h
    obtain ⟨dx, et, nt, hp, _⟩ := g.ob
    refine ⟨_, pss_one (ps_if (pt_not (pt_val (pe_call GV hr (by rfl) gV kV bV .nil pass0 (pa_cons (pv 1) (pa_cons (pe_fld (pv 0) rfl) pa_nil)))))
        (pss_one (ps_raise rfl (takes_of rfl rfl rfl rfl) (pmk_own PySem.F.excBase_ValueError B.x B.g B.k (raises_own B.b B.t) (by exact rfl)))) pss_nil), ?_⟩
    refine ⟨_, rfl, _, rfl, p, C, dx, _, .int n, rfl, hp, T.cl, T.nS, gf_size _ _ _, v, i, n, rfl, hv, vtxB n i, rfl, ?_⟩
    cases c : vtxB n i with
    | false => exact iteT (kE c)
    | true => exact iteF (kQ c)
theorem scNear : FnScope ["self", "u"] ["self", "u"] (defScope sNear) := ⟨rfl, rfl, rfl, by decide +kernel, rfl, by decide +kernel, by decide +kernel⟩
theorem ok_near {f C CB fK : Addr} {fd fdK : FuncData} (F : Fun K "near" "Graph.near" sNear f fd) (T : TxG K mg C)
    (GK : FnOk P w K mg base (L2.CX P w) 3 fK fdK ["self", "value"] (spChk K C CB)) (mK : Meth K C "_check_vertex" fK) (bK : Binds K fdK ["self", "value"] []) (ml : mg "list" = none) :
    FnOk P w K mg base (L2.CX P w) 4 f fd ["self", "u"] (spNear K C CB) := by
  refine F.okX scNear (fun vs H Q E h => ?_) (fun cdv A outer s H vs Q E hr h => ?_)
  · obtain ⟨p, n, qs, v, i, rfl, _⟩ := h
    rfl
  · obtain ⟨p, n, qs, v, i, rfl, g, hv, kE, kQ⟩ := h
    have ⟨dx, et, nt, hp, _, nts, hnt, lnt, nl⟩ := g.ob
    refine ⟨_, pss_cons (ps_expr (pe_meth (pv 0) T.cl mK GK hr bK .nil (passes_call (takes_of rfl rfl rfl rfl) fun _ _ _ _ h => h) (pa_cons (pv 1) pa_nil)))
      (pss_one (ps_ret (pe_callTy call_list_of (by rfl) ml (by decide +kernel) (pa_cons (pe_ix ix_list (pe_fld (pv 0) rfl) (pv 1) (fun _ _ => rfl)) pa_nil)))), ?_⟩
    refine ⟨_, rfl, p, dx, _, rfl, hp, gf_no _ _ _ (by decide +kernel) (by decide +kernel) (by decide +kernel), _, rfl, p, n, qs, v, i, rfl, g, hv, kE, fun c => ?_⟩
    obtain ⟨u, rfl, hu⟩ := vtxB_nat c
    cases hv with
    | int =>
      obtain ⟨au, hau⟩ : ∃ a, nts[u]? = some a := ⟨_, List.getElem?_eq_getElem (by omega)⟩
      have ixu : (nts.map V.ref)[u]? = some (.ref au) := by rw [List.getElem?_map, hau]; rfl
      exact ⟨_, rfl, p, C, dx, _, .ref nt, rfl, hp, T.cl, T.nN, gf_near _ _ _, _, rfl, nt, _, _, .ref au, rfl, rfl, SqL.of hnt, atI_nat ixu, au, _, rfl, .inl (SqL.of (nl u au hau)), fun l hl => kQ u rfl hu l hl⟩
end
end Sm

set_option Elab.async false
set_option linter.all false
set_option maxRecDepth 100000
set_option maxHeartbeats 4000000
namespace Sm
open PySem PySem.Spec PyProof.Rows L2

theorem valV_ne {kvs : List (Key × V)} {k : Key} (h : k ∈ kvs.map (·.1)) : valV kvs k ≠ none := fun z => by
  obtain ⟨p, hp, e⟩ := List.mem_map.mp h
  have q := valV_any k kvs
  rw [z] at q
  have r : (kvs.any fun kv => decide (kv.1 = k)) = true := List.any_eq_true.mpr ⟨p, hp, decide_eq_true e⟩
  rw [r] at q
  cases q
theorem u65 {k : Nat} {A : Around} (r : Room k A) : A.units + 65 < cLine := by have := r.un; omega
theorem neD_at {X : Cx} {A : Around} {K : PySem.W.Frag} (hA : X.A = A) (hK : X.K = K) (hu : A.units + 64 < cLine) : OpR X (compareOp .NotEq) (rNeD K) := by
  subst hA
  subst hK
  exact op_neD hu
def pD (q : Pr) : PyData := .tuple [.int q.1, .int q.2]
theorem pD_lay (q : Pr) : (pD q).canLay0 = true := by simp [pD, PyData.canLay0, PyData.canLayAll0]
theorem pD_depth (q : Pr) : (pD q).depth = 1 := by simp [pD, PyData.depth, PyData.depthAll]
theorem pDs_lay : ∀ qs : List Pr, PyData.canLayAll0 (qs.map pD) = true
  | [] => by simp [PyData.canLayAll0]
  | q :: qs => by simp [PyData.canLayAll0, pD_lay q, pDs_lay qs]
theorem pDs_depth : ∀ qs : List Pr, PyData.depthAll (qs.map pD) ≤ 1
  | [] => by simp [PyData.depthAll]
  | q :: qs => by
    have h1 := pDs_depth qs
    have h2 := pD_depth q
    simp only [List.map_cons, PyData.depthAll]
    omega
theorem pD_shaped (q : Pr) : SeqAt.shaped (pD q) = true := by
  have h := pD_depth q
  unfold SeqAt.shaped
  rw [Bool.and_eq_true]
  exact ⟨pD_lay q, decide_eq_true (by omega)⟩
theorem pDs_shapedT (qs : List Pr) : SeqAt.shaped (.tuple (qs.map pD)) = true := by
  have h1 := pDs_depth qs
  unfold SeqAt.shaped
  rw [Bool.and_eq_true]
  refine ⟨by simp only [PyData.canLay0]; exact pDs_lay qs, decide_eq_true ?_⟩
  simp only [PyData.depth]
  omega
theorem pDs_shapedL (qs : List Pr) : SeqAt.shaped (.list (qs.map pD)) = true := by
  have h1 := pDs_depth qs
  unfold SeqAt.shaped
  rw [Bool.and_eq_true]
  refine ⟨by simp only [PyData.canLay0]; exact pDs_lay qs, decide_eq_true ?_⟩
  simp only [PyData.depth]
  omega
theorem pD_eqv (p q : Pr) : PyData.eqv (pD p) (pD q) = decide (p = q) := by
  obtain ⟨a, b⟩ := p
  obtain ⟨c, d⟩ := q
  have e : PyData.eqv (pD (a, b)) (pD (c, d)) = ((a == c) && ((b == d) && true)) := by simp only [pD, PyData.eqv, PyData.eqvAll]
  rw [e]
  by_cases h1 : a = c
  · by_cases h2 : b = d
    · simp [h1, h2]
    · simp [h1, h2]
  · simp [h1]
theorem pDs_any (q : Pr) : ∀ qs : List Pr, ((qs.map pD).any fun z => PyData.eqv z (pD q)) = decide (q ∈ qs)
  | [] => by simp
  | p :: qs => by
    rw [List.map_cons, List.any_cons, pDs_any q qs, pD_eqv]
    by_cases c : p = q
    · simp [c]
    · have c' : ¬ q = p := fun z => c z.symm
      simp [c, c']
theorem dp_pair {K : PySem.W.Frag} {H : Hp} {a : Addr} {i j : Int} (h : SqT K H a [.int i, .int j]) : Dp K H (.ref a) (pD (i, j)) := .tup h (.cons (.int i) (.cons (.int j) .nil))
theorem dp_pairs {K : PySem.W.Frag} {H : Hp} : ∀ {as : List Addr} {qs : List Pr}, PairsAt K H as qs → DpAll K H (as.map V.ref) (qs.map pD)
  | _, _, .nil => .nil
  | _, _, .cons h t => .cons (dp_pair h) (dp_pairs t)
section
variable {X : Cx}
def rInDT (K : PySem.W.Frag) (neg : Bool) : R2 := fun x y H Q => ∃ d ds, Dp K H x d ∧ Dp K H y (.tuple ds) ∧ SeqAt.shaped d = true ∧ SeqAt.shaped (.tuple ds) = true ∧ Q (.bl (if neg then !(ds.any fun z => PyData.eqv z d) else ds.any fun z => PyData.eqv z d)) H
theorem op_inDT (hu : X.A.units + 65 < cLine) : OpR X (compareOp .In) (rInDT X.K false) := by
  intro pins s σ H x y v u Q I rx ry ⟨d, ds, hd, he, sd, se, q⟩
  obtain ⟨as, r1⟩ := Dp.reads I d x v hd rx
  obtain ⟨bs, r2⟩ := Dp.reads I (.tuple ds) y u he ry
  exact SeqAt.in_tuple_reads r2 r1 (SeqAt.canLay_of_shaped se) (SeqAt.canLay_of_shaped sd) (room_in_shaped sd hu) ⟨.bl _, H, I, rfl, q⟩
theorem op_notInDT (hu : X.A.units + 65 < cLine) : OpR X (compareOp .NotIn) (rInDT X.K true) := by
  intro pins s σ H x y v u Q I rx ry ⟨d, ds, hd, he, sd, se, q⟩
  obtain ⟨as, r1⟩ := Dp.reads I d x v hd rx
  obtain ⟨bs, r2⟩ := Dp.reads I (.tuple ds) y u he ry
  exact SeqAt.notIn_tuple_reads r2 r1 (SeqAt.canLay_of_shaped se) (SeqAt.canLay_of_shaped sd) (room_in_shaped sd hu) ⟨.bl _, H, I, rfl, q⟩
end
theorem cut_take (ns : List Int) (m : Nat) : cutV (ns.map V.int) none (some (m : Int)) = (ns.take m).map V.int := by
  unfold cutV
  rw [HT.sIx_none, HT.sIx_nat, List.drop_zero, Nat.sub_zero, List.length_map, ← List.map_take]
  congr 1
  by_cases h : m ≤ ns.length
  · rw [Nat.min_eq_left h]
  · rw [Nat.min_eq_right (by omega), List.take_length, List.take_of_length_le (by omega)]
def rowP (n u : Nat) : List Pr := (List.range (n - (u + 1))).map fun i => ((u : Int), ((u + 1 + i : Nat) : Int))
def pairsL (n : Nat) : List Pr := (List.range n).flatMap fun u => rowP n u
theorem rowP_len (n u : Nat) : (rowP n u).length = n - (u + 1) := by unfold rowP; rw [List.length_map, List.length_range]
theorem flat_len (n : Nat) : ∀ k, k ≤ n → ((List.range k).flatMap fun u => rowP n u).length ≤ k * n
  | 0, _ => by simp
  | k + 1, h => by
    rw [List.range_succ, List.flatMap_append, List.length_append, List.flatMap_singleton, rowP_len]
    have := flat_len n k (by omega)
    rw [Nat.succ_mul]
    omega
theorem mem_rowP {n u : Nat} {q : Pr} (h : q ∈ rowP n u) (hu : u < n) : Okp n q := by
  obtain ⟨i, hi, rfl⟩ := List.mem_map.mp h
  have := List.mem_range.mp hi
  refine ⟨?_, ?_, ?_⟩ <;> dsimp only <;> omega
theorem mem_pairs {n : Nat} {q : Pr} (h : q ∈ pairsL n) : Okp n q := by
  obtain ⟨u, hu, h2⟩ := List.mem_flatMap.mp h
  exact mem_rowP h2 (List.mem_range.mp hu)
theorem But.sqL {K : PySem.W.Frag} {p a : Addr} {H H' : Hp} {xs ys : List V} (s : But p H H') (hp : H p = some (.lst ys)) (h : SqL K H a xs) (ne : a ≠ p) : SqL K H' a xs := by
  rcases h with (h | ⟨o, h⟩) | h
  · exact .inl (.inl (s _ _ h ne))
  · exact .inl (.inr ⟨o, s _ _ h ne⟩)
  · exact .inr h
theorem But.trans {p : Addr} {H H1 H2 : Hp} (s : But p H H1) (t : But p H1 H2) : But p H H2 := fun b o e n => t b o (s b o e n) n
theorem But.sqTl {K : PySem.W.Frag} {p a : Addr} {H H' : Hp} {xs ys : List V} (s : But p H H') (hp : H p = some (.lst ys)) (h : SqT K H a xs) : SqT K H' a xs := by
  rcases h with (h | ⟨o, h⟩) | h
  · exact .inl (.inl (s _ _ h (fun z => by rw [z, hp] at h; cases h)))
  · exact .inl (.inr ⟨o, s _ _ h (fun z => by rw [z, hp] at h; cases h)⟩)
  · exact .inr h
theorem But.pairs {K : PySem.W.Frag} {p : Addr} {H H' : Hp} {ys : List V} (s : But p H H') (hp : H p = some (.lst ys)) : ∀ {as : List Addr} {qs : List Pr}, PairsAt K H as qs → PairsAt K H' as qs
  | _, _, .nil => .nil
  | _, _, .cons h t => .cons (s.sqTl hp h) (But.pairs s hp t)
theorem PairsAt.snoc {K : PySem.W.Frag} {H : Hp} {a : Addr} {q : Pr} (h : SqT K H a [.int q.1, .int q.2]) : ∀ {as : List Addr} {qs : List Pr}, PairsAt K H as qs → PairsAt K H (as ++ [a]) (qs ++ [q])
  | _, _, .nil => .cons h .nil
  | _, _, .cons h' t => .cons h' (PairsAt.snoc h t)
theorem But.free {p q : Addr} {H H' : Hp} {o : HO} (s : But p H H') (hp : H' p = some o) (h : H' q = none) : H q = none := by
  cases e : H q with
  | none => rfl
  | some o' =>
    by_cases z : q = p
    · rw [z, hp] at h; cases h
    · rw [s _ _ e z] at h; cases h
def evs (es : List Pr) : List EV := es.map fun q => some (some q.1, some q.2)
theorem ev_pairs {K : PySem.W.Frag} {H : Hp} : ∀ {as : List Addr} {es : List Pr}, PairsAt K H as es → Paired (EdgeV K H) (as.map V.ref) (evs es)
  | _, _, .nil => .nil
  | _, _, .cons h t => .cons (.pair h (.int _) (.int _)) (ev_pairs t)
theorem scan_evs {n : Int} : ∀ (es seen : List Pr), (∀ q ∈ es, Okp n q) → (∀ q ∈ es, q ∉ seen) → es.Nodup → scan n seen (evs es) = some (seen ++ es)
  | [], seen, _, _, _ => by rw [List.append_nil]; rfl
  | q :: es, seen, h1, h2, h3 => by
    obtain ⟨a, b, c⟩ := h1 q List.mem_cons_self
    have e : edgB n (some (some q.1, some q.2)) = true := by
      simp only [edgB, vtxB, Bool.and_eq_true, decide_eq_true_eq]
      omega
    show (if edgB n (some (some q.1, some q.2)) = true ∧ prOf (some (some q.1, some q.2)) ∉ seen then scan n (seen ++ [prOf (some (some q.1, some q.2))]) (evs es) else none) = _
    rw [if_pos ⟨e, h2 q List.mem_cons_self⟩]
    obtain ⟨d1, d2⟩ := List.nodup_cons.mp h3
    rw [scan_evs es _ (fun r hr => h1 r (List.mem_cons_of_mem _ hr)) (fun r hr hm => ?_) d2]
    · show some (seen ++ [q] ++ es) = _
      rw [List.append_assoc]
      rfl
    · rcases List.mem_append.mp hm with z | z
      · exact h2 r (List.mem_cons_of_mem _ hr) z
      · rw [List.mem_singleton.mp z] at hr
        exact d1 hr
theorem mk_evs {n : Nat} {es : List Pr} (h : n ≤ 60) (h1 : ∀ q ∈ es, Okp n q) (h3 : es.Nodup) : mkE n (evs es) = some es := by
  unfold mkE
  rw [if_pos ⟨by omega, by omega⟩]
  exact scan_evs es [] h1 (fun q _ => by simp) h3
theorem pD_inj : ∀ {ps qs : List Pr}, ps.map pD = qs.map pD → ps = qs
  | [], [], _ => rfl
  | [], _ :: _, h => by cases h
  | _ :: _, [], h => by cases h
  | p :: ps, q :: qs, h => by
    have h1 := (List.cons.inj h).1
    have h2 := pD_inj (List.cons.inj h).2
    obtain ⟨a, b⟩ := p
    obtain ⟨c, d⟩ := q
    unfold pD at h1
    injection h1 with h1
    have e1 := (List.cons.inj h1).1
    have e2 := (List.cons.inj (List.cons.inj h1).2).1
    injection e1 with e1
    injection e2 with e2
    rw [h2]
    dsimp only at e1 e2
    rw [e1, e2]
theorem pDs_eqv : ∀ ps qs : List Pr, PyData.eqvAll (ps.map pD) (qs.map pD) = decide (ps = qs)
  | [], [] => by simp [PyData.eqvAll]
  | [], q :: qs => by simp [PyData.eqvAll]
  | p :: ps, [] => by simp [PyData.eqvAll]
  | p :: ps, q :: qs => by
    have e : PyData.eqvAll ((p :: ps).map pD) ((q :: qs).map pD) = (PyData.eqv (pD p) (pD q) && PyData.eqvAll (ps.map pD) (qs.map pD)) := by simp only [List.map_cons, PyData.eqvAll]
    rw [e, pDs_eqv ps qs, pD_eqv]
    by_cases h1 : p = q
    · by_cases h2 : ps = qs
      · simp [h1, h2]
      · simp [h1, h2]
    · simp [h1]
theorem fld_at {X : Cx} {K : PySem.W.Frag} {e : Expr} {f : Str} {pos : Pos} {ta : TE} (hK : X.K = K) (he : PE X e ta) (hb : attributeBase e f X.env (eval e X.env) = eval e X.env) : PE X (.Attribute e f pos) (tFld K ta f) := by
  subst hK
  exact pe_fld he hb
theorem mem_near {qs : List Pr} {u v : Int} : v ∈ nearOf qs u ↔ (u, v) ∈ qs ∨ (v, u) ∈ qs := by
  unfold nearOf
  rw [List.mem_flatMap]
  constructor
  · rintro ⟨q, hq, h⟩
    rcases List.mem_append.mp h with z | z
    · by_cases c : q.1 = u
      · rw [if_pos c] at z
        have e := List.mem_singleton.mp z
        exact .inl (by rw [show (u, v) = q from Prod.ext c.symm e]; exact hq)
      · rw [if_neg c] at z; cases z
    · by_cases c : q.2 = u
      · rw [if_pos c] at z
        have e := List.mem_singleton.mp z
        exact .inr (by rw [show (v, u) = q from Prod.ext e c.symm]; exact hq)
      · rw [if_neg c] at z; cases z
  · rintro (h | h)
    · exact ⟨_, h, List.mem_append_left _ (by rw [if_pos rfl]; exact List.mem_singleton.mpr rfl)⟩
    · exact ⟨_, h, List.mem_append_right _ (by rw [if_pos rfl]; exact List.mem_singleton.mpr rfl)⟩
theorem near_sym {qs : List Pr} {u v : Int} (h : v ∈ nearOf qs u) : u ∈ nearOf qs v := mem_near.mpr ((mem_near.mp h).symm)
inductive Rch (qs : List Pr) (s : Int) : Int → Prop where
  | refl : Rch qs s s
  | step {u v : Int} : Rch qs s u → v ∈ nearOf qs u → Rch qs s v
theorem Rch.trans {qs : List Pr} {a b c : Int} (h : Rch qs a b) (h' : Rch qs b c) : Rch qs a c := by
  induction h' with
  | refl => exact h
  | step _ hn ih => exact .step ih hn
theorem Rch.symm {qs : List Pr} {a b : Int} (h : Rch qs a b) : Rch qs b a := by
  induction h with
  | refl => exact .refl
  | step _ hn ih => exact (Rch.step .refl (near_sym hn)).trans ih
def Vx (n : Nat) (k : Int) : Prop := 0 ≤ k ∧ k < n
theorem near_vx {n : Nat} {qs : List Pr} (ok : ∀ q ∈ qs, Okp n q) {u v : Int} (h : v ∈ nearOf qs u) : Vx n v := by
  unfold Vx
  rcases mem_near.mp h with z | z
  · obtain ⟨a, b, c⟩ := ok _ z
    dsimp only at a b c
    omega
  · obtain ⟨a, b, c⟩ := ok _ z
    dsimp only at a b c
    omega
theorem Rch.vx {n : Nat} {qs : List Pr} (ok : ∀ q ∈ qs, Okp n q) {s k : Int} (hs : Vx n s) (h : Rch qs s k) : Vx n k := by
  cases h with
  | refl => exact hs
  | step _ hn => exact near_vx ok hn
/-- numbers below n, none twice -/
theorem few_vx {n : Nat} {l : List Int} (nd : l.Nodup) (h : ∀ k ∈ l, Vx n k) : l.length ≤ n := by
  have nd2 : (l.map Int.toNat).Nodup := by
    refine List.pairwise_map.mpr (List.Pairwise.imp_of_mem (fun {a b} ha hb ne e => ne ?_) nd)
    have x := h a ha
    have y := h b hb
    unfold Vx at x y
    omega
  have z := nat_nodup_len (l.map Int.toNat) (List.range n) nd2 fun x hx => by
    obtain ⟨k, hk, rfl⟩ := List.mem_map.mp hx
    have y := h k hk
    unfold Vx at y
    exact List.mem_range.mpr (by omega)
  rw [List.length_map, List.length_range] at z
  exact z
theorem near_len {n : Nat} {qs : List Pr} (few : qs.length ≤ 75) (u : Int) : (nearOf qs u).length ≤ 150 := by
  have := nearOf_len qs u
  omega
/-- the edges that no vertex of G bears -/
def cutE (qs : List Pr) (G : List Int) : List Pr := qs.filter fun q => decide (q.1 ∉ G) && decide (q.2 ∉ G)
theorem mem_cutE {qs : List Pr} {G : List Int} {q : Pr} : q ∈ cutE qs G ↔ q ∈ qs ∧ q.1 ∉ G ∧ q.2 ∉ G := by
  unfold cutE
  rw [List.mem_filter, Bool.and_eq_true, decide_eq_true_eq, decide_eq_true_eq]
theorem cutE_nil (qs : List Pr) : cutE qs [] = qs := List.filter_eq_self.mpr fun q _ => by simp
theorem near_cut {qs : List Pr} {G : List Int} {u v : Int} : v ∈ nearOf (cutE qs G) u ↔ v ∈ nearOf qs u ∧ u ∉ G ∧ v ∉ G := by
  rw [mem_near, mem_near, mem_cutE, mem_cutE]
  constructor
  · rintro (⟨a, b, c⟩ | ⟨a, b, c⟩)
    · exact ⟨.inl a, b, c⟩
    · exact ⟨.inr a, c, b⟩
  · rintro ⟨a | a, b, c⟩
    · exact .inl ⟨a, b, c⟩
    · exact .inr ⟨a, c, b⟩
theorem valV_keys {kvs : List (Key × V)} {S : List Int} (e : kvs.map (·.1) = S.map Sum.inl) (k : Int) : (valV kvs (Sum.inl k : Key)).isSome = decide (k ∈ S) := by
  have h : (Sum.inl k : Key) ∈ kvs.map (·.1) ↔ k ∈ S := by
    rw [e, List.mem_map]
    exact ⟨fun ⟨j, hj, z⟩ => by rw [← Sum.inl.inj z]; exact hj, fun hk => ⟨k, hk, rfl⟩⟩
  unfold valV
  rw [Option.isSome_map, Bool.eq_iff_iff, List.find?_isSome, decide_eq_true_eq, ← h, List.mem_map]
  exact ⟨fun ⟨x, hx, z⟩ => ⟨x, hx, of_decide_eq_true z⟩, fun ⟨x, hx, z⟩ => ⟨x, hx, decide_eq_true z⟩⟩
theorem valV_no {kvs : List (Key × V)} {S : List Int} (e : kvs.map (·.1) = S.map Sum.inl) {k : Int} (h : k ∉ S) : valV kvs (Sum.inl k : Key) = none := by
  have z := valV_keys e k
  rw [decide_eq_false h] at z
  cases y : valV kvs (Sum.inl k : Key) with
  | none => rfl
  | some v => rw [y] at z; cases z
theorem putK_keys {kvs : List (Key × V)} {S : List Int} (e : kvs.map (·.1) = S.map Sum.inl) {k : Int} (h : k ∉ S) (v : V) : (putK kvs (Sum.inl k : Key) v).map (·.1) = (S ++ [k]).map Sum.inl := by
  rw [putK_new _ (valV_no e h), List.map_append, e, List.map_append]
  rfl
theorem lt_of_le {l : List Int} (h : l.Pairwise (· ≤ ·)) (nd : l.Nodup) : l.Pairwise (· < ·) := List.Pairwise.imp (fun {a b} h => by omega) (List.Pairwise.and h nd)
theorem lt_ext : ∀ {l m : List Int}, l.Pairwise (· < ·) → m.Pairwise (· < ·) → (∀ k, k ∈ l ↔ k ∈ m) → l = m
  | [], [], _, _, _ => rfl
  | [], b :: m, _, _, h => by have z := (h b).mpr List.mem_cons_self; cases z
  | a :: l, [], _, _, h => by have z := (h a).mp List.mem_cons_self; cases z
  | a :: l, b :: m, hl, hm, h => by
    obtain ⟨l1, l2⟩ := List.pairwise_cons.mp hl
    obtain ⟨m1, m2⟩ := List.pairwise_cons.mp hm
    have e : a = b := by
      rcases List.mem_cons.mp ((h a).mp List.mem_cons_self) with z | z
      · exact z
      · rcases List.mem_cons.mp ((h b).mpr List.mem_cons_self) with y | y
        · exact y.symm
        · have := m1 a z
          have := l1 b y
          omega
    subst e
    refine congrArg (a :: ·) (lt_ext l2 m2 fun k => ?_)
    constructor
    · intro hk
      rcases List.mem_cons.mp ((h k).mp (List.mem_cons_of_mem _ hk)) with z | z
      · have := l1 k hk
        omega
      · exact z
    · intro hk
      rcases List.mem_cons.mp ((h k).mpr (List.mem_cons_of_mem _ hk)) with z | z
      · have := m1 k hk
        omega
      · exact z
def vxs (n : Nat) : List Int := (List.range n).map fun (i : Nat) => (i : Int)
theorem vxs_lt (n : Nat) : (vxs n).Pairwise (· < ·) := List.pairwise_map.mpr (List.Pairwise.imp (fun {a b} h => by omega) List.pairwise_lt_range)
theorem mem_vxs {n : Nat} {k : Int} : k ∈ vxs n ↔ Vx n k := by
  unfold vxs Vx
  rw [List.mem_map]
  constructor
  · rintro ⟨i, hi, rfl⟩
    have := List.mem_range.mp hi
    omega
  · intro h
    exact ⟨k.toNat, List.mem_range.mpr (by omega), by omega⟩
open Classical in
noncomputable def compL (n : Nat) (qs : List Pr) (u : Int) : List Int := (vxs n).filter fun k => decide (Rch qs u k)
open Classical in
theorem compL_lt (n : Nat) (qs : List Pr) (u : Int) : (compL n qs u).Pairwise (· < ·) := (vxs_lt n).filter _
open Classical in
theorem mem_compL {n : Nat} {qs : List Pr} (ok : ∀ q ∈ qs, Okp n q) {u k : Int} (hu : Vx n u) : k ∈ compL n qs u ↔ Rch qs u k := by
  unfold compL
  rw [List.mem_filter, mem_vxs, decide_eq_true_eq]
  exact ⟨fun h => h.2, fun h => ⟨h.vx ok hu, h⟩⟩
abbrev ListsAt (H : Hp) : List Addr → List (List Int) → Prop := Paired fun a c => H a = some (.lst (c.map V.int))
theorem ListsAt.keep {H H' : Hp} (h : ∀ a c, H a = some (.lst c) → H' a = some (.lst c)) : ∀ {ps : List Addr} {cs : List (List Int)}, ListsAt H ps cs → ListsAt H' ps cs
  | _, _, .nil => .nil
  | _, _, .cons e t => .cons (h _ _ e) (ListsAt.keep h t)
theorem ListsAt.keep2 {H H' : Hp} {f : Addr} (h : ∀ a c, a ≠ f → H a = some (.lst c) → H' a = some (.lst c)) : ∀ {ps : List Addr} {cs : List (List Int)}, (∀ a ∈ ps, a ≠ f) → ListsAt H ps cs → ListsAt H' ps cs
  | _, _, _, .nil => .nil
  | _, _, n, .cons e t => .cons (h _ _ (n _ List.mem_cons_self) e) (ListsAt.keep2 h (fun a ha => n a (List.mem_cons_of_mem _ ha)) t)
theorem ListsAt.snoc {H : Hp} {a : Addr} {c : List Int} (e : H a = some (.lst (c.map V.int))) : ∀ {ps : List Addr} {cs : List (List Int)}, ListsAt H ps cs → ListsAt H (ps ++ [a]) (cs ++ [c])
  | _, _, .nil => .cons e .nil
  | _, _, .cons e' t => .cons e' (ListsAt.snoc e t)
open Classical in
/-- the components of what is left without G, of the least vertices below i -/
noncomputable def compG (n : Nat) (qs : List Pr) (G : List Int) (i : Nat) : List (List Int) := ((List.range i).filter fun (u : Nat) => decide ((u : Int) ∉ G ∧ ∀ v : Nat, v < u → ¬ Rch (cutE qs G) v u)).map fun (u : Nat) => compL n (cutE qs G) (u : Int)
open Classical in
theorem compG_no {n i : Nat} {qs : List Pr} {G : List Int} (h : (i : Int) ∈ G ∨ ∃ v : Nat, v < i ∧ Rch (cutE qs G) v i) : compG n qs G (i + 1) = compG n qs G i := by
  unfold compG
  rw [List.range_succ, List.filter_append, List.filter_cons_of_neg, List.filter_nil, List.append_nil]
  simp only [decide_eq_true_eq]
  rintro ⟨z1, z2⟩
  rcases h with h | ⟨v, hv, hr⟩
  · exact z1 h
  · exact z2 v hv hr
open Classical in
theorem compG_yes {n i : Nat} {qs : List Pr} {G : List Int} (h1 : (i : Int) ∉ G) (h : ¬ ∃ v : Nat, v < i ∧ Rch (cutE qs G) v i) : compG n qs G (i + 1) = compG n qs G i ++ [compL n (cutE qs G) (i : Int)] := by
  unfold compG
  rw [List.range_succ, List.filter_append, List.filter_cons_of_pos, List.filter_nil, List.map_append]
  · rfl
  · simp only [decide_eq_true_eq]
    exact ⟨h1, fun v hv hr => h ⟨v, hv, hr⟩⟩
theorem Rch.stay {qs : List Pr} {G : List Int} {a b : Int} (h : Rch (cutE qs G) a b) (ha : a ∉ G) : b ∉ G := by
  cases h with
  | refl => exact ha
  | step _ hn => exact (near_cut.mp hn).2.2
theorem Rch.stuck {qs : List Pr} {G : List Int} {a b : Int} (h : Rch (cutE qs G) a b) (ha : a ∈ G) : b = a := by
  induction h with
  | refl => rfl
  | step _ hn ih => subst ih; exact absurd ha (near_cut.mp hn).2.1
theorem rg_vxs (n : Nat) : rgV 0 (n : Int) = (vxs n).map V.int := by
  unfold rgV vxs
  rw [List.map_map]
  have e : ((n : Int) - 0).toNat = n := by omega
  rw [e]
  exact List.map_congr_left fun i _ => by
    show V.int (0 + (i : Int)) = V.int (i : Int)
    rw [Int.zero_add]
theorem erase_perm {l : List Int} {k : Nat} {y : Int} (h : l[k]? = some y) : (y :: l.eraseIdx k).Perm l := by
  obtain ⟨hk, e⟩ := List.getElem?_eq_some_iff.mp h
  rw [List.eraseIdx_eq_take_drop_succ]
  have z := split_at h
  conv => rhs; rw [z]
  exact List.perm_middle.symm
theorem same_of_but {p : Addr} {H Hs H' : Hp} (s : Same H Hs) (np : H p = none) (b : But p Hs H') : Same H H' := fun c o e => b _ _ (s _ _ e) (ne_of_none e np)
theorem lt_of_le_nd {l : List Int} (h : l.Pairwise (· ≤ ·)) (nd : l.Nodup) : l.Pairwise (· < ·) := List.Pairwise.imp (fun {a b} h => by have := h.1; have := h.2; omega) (List.Pairwise.and h nd)
theorem notInS_at {X : Cx} {K : PySem.W.Frag} (hK : X.K = K) : OpR X (compareOp .NotIn) (rIn K true) := by
  subst hK
  exact op_notIn_seq
theorem iteIn {x : Int} {l : List Int} {A B : Prop} (h1 : x ∈ l → A) (h2 : x ∉ l → B) : if (if false = true then !inV (.int x) (l.map V.int) else inV (.int x) (l.map V.int)) = true then A else B := by
  rw [if_neg Bool.false_ne_true, inV_int]
  by_cases c : x ∈ l
  · rw [decide_eq_true c]; exact iteT (h1 c)
  · rw [decide_eq_false c]; exact iteF (h2 c)
theorem iteNIn {x : Int} {l : List Int} {A B : Prop} (h1 : x ∉ l → A) (h2 : x ∈ l → B) : if (if true = true then !inV (.int x) (l.map V.int) else inV (.int x) (l.map V.int)) = true then A else B := by
  rw [if_pos rfl, inV_int]
  by_cases c : x ∈ l
  · rw [decide_eq_true c]; exact iteF (h2 c)
  · rw [decide_eq_false c]; exact iteT (h1 c)
theorem sorted_uniq {qs es : List Pr} (h1 : qs.Pairwise lexlt) (h2 : es.Pairwise fun x y => SrtO.lexB y x = false) (pm : es.Perm qs) : es = qs := by
  refine List.Perm.eq_of_pairwise (le := fun x y => SrtO.lexB y x = false) (fun a b _ _ h h' => ?_) h2 (List.Pairwise.imp (fun {a b} h => ?_) h1) pm
  · have x := SrtO.lexB_no.mp h
    have y := SrtO.lexB_no.mp h'
    have e1 : a.1 = b.1 := by omega
    have e2 : a.2 = b.2 := by omega
    exact Prod.ext e1 e2
  · have x := SrtO.lexB_iff.mp h
    refine SrtO.lexB_no.mpr ?_
    omega
theorem inD_at {X : Cx} {A : Around} {K : PySem.W.Frag} (hA : X.A = A) (hK : X.K = K) (hu : A.units + 65 < cLine) : OpR X (compareOp .In) (rInD K) := by
  subst hA
  subst hK
  exact op_inD hu
theorem nearOf_lt {n : Nat} {qs : List Pr} (ok : ∀ q ∈ qs, Okp n q) (srt : qs.Pairwise lexlt) (u : Int) : (nearOf qs u).Pairwise (· < ·) := by
  unfold nearOf
  refine List.pairwise_flatMap.mpr ⟨fun q hq => ?_, List.Pairwise.imp_of_mem (fun {q r} hq hr h x hx y hy => ?_) srt⟩
  · obtain ⟨a, b, c⟩ := ok q hq
    by_cases c1 : q.1 = u
    · by_cases c2 : q.2 = u
      · omega
      · rw [if_pos c1, if_neg c2]
        exact List.pairwise_singleton _ _
    · rw [if_neg c1]
      by_cases c2 : q.2 = u
      · rw [if_pos c2]
        exact List.pairwise_singleton _ _
      · rw [if_neg c2]
        exact List.Pairwise.nil
  · obtain ⟨a, b, c⟩ := ok q hq
    obtain ⟨a', b', c'⟩ := ok r hr
    have l := SrtO.lexB_iff.mp h
    have kx : (q.1 = u ∧ x = q.2) ∨ (q.2 = u ∧ x = q.1) := by
      rcases List.mem_append.mp hx with z | z
      · by_cases c1 : q.1 = u
        · rw [if_pos c1] at z; exact .inl ⟨c1, List.mem_singleton.mp z⟩
        · rw [if_neg c1] at z; cases z
      · by_cases c1 : q.2 = u
        · rw [if_pos c1] at z; exact .inr ⟨c1, List.mem_singleton.mp z⟩
        · rw [if_neg c1] at z; cases z
    have ky : (r.1 = u ∧ y = r.2) ∨ (r.2 = u ∧ y = r.1) := by
      rcases List.mem_append.mp hy with z | z
      · by_cases c1 : r.1 = u
        · rw [if_pos c1] at z; exact .inl ⟨c1, List.mem_singleton.mp z⟩
        · rw [if_neg c1] at z; cases z
      · by_cases c1 : r.2 = u
        · rw [if_pos c1] at z; exact .inr ⟨c1, List.mem_singleton.mp z⟩
        · rw [if_neg c1] at z; cases z
    omega
/-- what the law takes for the neighbours of u -/
def lnear (n : Nat) (es : List Pr) (u : Int) : List Int := (vxs n).filter fun v => decide ((if v < u then v else u, if v > u then v else u) ∈ es)
theorem mm_mem {es : List Pr} {n : Nat} (ok : ∀ q ∈ es, Okp n q) {u v : Int} : (if v < u then v else u, if v > u then v else u) ∈ es ↔ v ∈ nearOf es u := by
  rw [mem_near]
  by_cases c : v < u
  · rw [if_pos c, if_neg (by omega)]
    exact ⟨.inr, fun h => h.elim (fun z => by have := (ok _ z).2.1; dsimp only at this; omega) id⟩
  · rw [if_neg c]
    by_cases c2 : v > u
    · rw [if_pos c2]
      exact ⟨.inl, fun h => h.elim id (fun z => by have := (ok _ z).2.1; dsimp only at this; omega)⟩
    · rw [if_neg c2]
      have e : u = v := by omega
      subst e
      exact ⟨.inl, fun h => h.elim id id⟩
theorem near_perm {qs es : List Pr} (pm : qs.Perm es) {u v : Int} : v ∈ nearOf qs u ↔ v ∈ nearOf es u := by
  rw [mem_near, mem_near, pm.mem_iff, pm.mem_iff]
theorem near_lnear {n : Nat} {qs es : List Pr} (ok : ∀ q ∈ qs, Okp n q) (srt : qs.Pairwise lexlt) (pm : qs.Perm es) (u : Int) : nearOf qs u = lnear n es u := by
  refine lt_ext (nearOf_lt ok srt u) ((vxs_lt n).filter _) fun k => ?_
  have ok' : ∀ q ∈ es, Okp n q := fun q hq => ok q (pm.mem_iff.mpr hq)
  unfold lnear
  rw [List.mem_filter, mem_vxs, decide_eq_true_eq, mm_mem ok', ← near_perm pm]
  exact ⟨fun h => ⟨near_vx ok h, h⟩, fun h => h.2⟩
theorem ints_eqv : ∀ l : List Int, PyData.eqvAll (l.map PyData.int) (l.map PyData.int) = true
  | [] => by simp [PyData.eqvAll]
  | i :: l => by simp only [List.map_cons, PyData.eqvAll, ints_eqv l, PyData.eqv]; simp
theorem dp_ints {K : PySem.W.Frag} {H : Hp} : ∀ l : List Int, DpAll K H (l.map V.int) (l.map PyData.int)
  | [] => .nil
  | i :: l => .cons (.int i) (dp_ints l)
theorem ints_lay : ∀ l : List Int, PyData.canLayAll0 (l.map PyData.int) = true
  | [] => by simp [PyData.canLayAll0]
  | i :: l => by simp only [List.map_cons, PyData.canLayAll0, ints_lay l, PyData.canLay0]; simp
theorem ints_depth : ∀ l : List Int, PyData.depthAll (l.map PyData.int) ≤ 0
  | [] => by simp [PyData.depthAll]
  | i :: l => by
    have z := ints_depth l
    simp only [List.map_cons, PyData.depthAll, PyData.depth]
    omega
theorem flt1 {p : Int → Bool} {a : Int} (h : p a = true) : [a].filter p = [a] := List.filter_cons_of_pos h
theorem flt0 {p : Int → Bool} {a : Int} (h : p a = false) : [a].filter p = [] := List.filter_cons_of_neg (by rw [h]; decide)
theorem ints_shaped (l : List Int) : SeqAt.shaped (.list (l.map PyData.int)) = true := by
  have h1 := ints_depth l
  unfold SeqAt.shaped
  rw [Bool.and_eq_true]
  refine ⟨by simp only [PyData.canLay0]; exact ints_lay l, decide_eq_true ?_⟩
  simp only [PyData.depth]
  omega
theorem memRow {n u : Nat} {q : Pr} : q ∈ rowP n u ↔ ∃ i, i < n - (u + 1) ∧ ((u : Int), ((u + 1 + i : Nat) : Int)) = q := by
  unfold rowP
  rw [List.mem_map]
  constructor
  · rintro ⟨i, hi, e⟩
    exact ⟨i, List.mem_range.mp hi, e⟩
  · rintro ⟨i, hi, e⟩
    exact ⟨i, List.mem_range.mpr hi, e⟩
theorem mem_pairsL {n : Nat} {q : Pr} : q ∈ pairsL n ↔ Okp n q := by
  refine ⟨mem_pairs, fun ⟨a, b, c⟩ => ?_⟩
  unfold pairsL
  refine List.mem_flatMap.mpr ⟨q.1.toNat, List.mem_range.mpr (by omega), memRow.mpr ⟨(q.2 - q.1 - 1).toNat, by omega, Prod.ext ?_ ?_⟩⟩
  · show ((q.1.toNat : Nat) : Int) = q.1
    omega
  · show ((q.1.toNat + 1 + (q.2 - q.1 - 1).toNat : Nat) : Int) = q.2
    omega
theorem pairsL_lt (n : Nat) : (pairsL n).Pairwise lexlt := by
  unfold pairsL
  refine List.pairwise_flatMap.mpr ⟨fun u _ => ?_, List.Pairwise.imp (fun {u v} h x hx y hy => ?_) List.pairwise_lt_range⟩
  · unfold rowP
    refine List.pairwise_map.mpr (List.Pairwise.imp (R := (· < ·)) (fun {i j} h => ?_) List.pairwise_lt_range)
    refine SrtO.lexB_iff.mpr (.inr ⟨rfl, ?_⟩)
    show ((u + 1 + i : Nat) : Int) < ((u + 1 + j : Nat) : Int)
    omega
  · obtain ⟨i, _, rfl⟩ := memRow.mp hx
    obtain ⟨j, _, rfl⟩ := memRow.mp hy
    refine SrtO.lexB_iff.mpr (.inl ?_)
    show ((u : Nat) : Int) < ((v : Nat) : Int)
    omega
theorem lex_le {es : List Pr} (h : es.Pairwise lexlt) : es.Pairwise fun x y => SrtO.lexB y x = false := List.Pairwise.imp (fun {a b} h => by
  have x := SrtO.lexB_iff.mp h
  refine SrtO.lexB_no.mpr ?_
  omega) h
theorem lex_eq {qs es : List Pr} (h1 : qs.Pairwise lexlt) (h2 : es.Pairwise lexlt) (pm : qs.Perm es) : qs = es := (sorted_uniq h1 (lex_le h2) pm.symm).symm
theorem getD_at {s : List Int} {i : Nat} {v : Int} (h : s[i]? = some v) : s.getD i 0 = v := by
  rw [List.getD_eq_getElem?_getD, h]
  rfl
theorem vx_perm {n : Nat} {os : List Int} (pm : os.Perm (vxs n)) : (∀ x ∈ os, Vx n x) ∧ os.Nodup ∧ os.length = n := by
  refine ⟨fun x hx => mem_vxs.mp (pm.mem_iff.mp hx), pm.symm.nodup (List.Pairwise.imp (fun {a b} h e => by omega) (vxs_lt n)), ?_⟩
  rw [pm.length_eq]
  unfold vxs
  rw [List.length_map, List.length_range]
end Sm

set_option Elab.async false
set_option linter.all false
set_option maxRecDepth 100000
set_option maxHeartbeats 4000000
namespace Sm
open PySem PySem.Spec PyProof.Rows L2
/-! ### taking vertices away -/
abbrev Rel := Int → Int → Bool
def r0 (qs : List Pr) : Rel := fun u w => decide ((u, w) ∈ qs) || decide ((w, u) ∈ qs)
def elim (R : Rel) (v : Int) : Rel := fun u w => !decide (u = v) && !decide (w = v) && !decide (u = w) && (R u w || (R v u && R v w))
/-- who are neighbours when the first t vertices of an order are taken away -/
def relT (qs : List Pr) (o : Nat → Int) : Nat → Rel
  | 0 => r0 qs
  | t + 1 => elim (relT qs o t) (o t)
def arT (n : Nat) (qs : List Pr) (o : Nat → Int) (t : Nat) : List Int := (vxs n).filter fun w => relT qs o t (o t) w
def bagT (n : Nat) (qs : List Pr) (o : Nat → Int) (t : Nat) : List Int := (vxs n).filter fun w => decide (w = o t) || relT qs o t (o t) w
theorem elim_iff {R : Rel} {v u w : Int} : elim R v u w = true ↔ u ≠ v ∧ w ≠ v ∧ u ≠ w ∧ (R u w = true ∨ (R v u = true ∧ R v w = true)) := by
  unfold elim
  simp only [Bool.and_eq_true, Bool.or_eq_true, Bool.not_eq_true', decide_eq_false_iff_not, and_assoc, ne_eq]
theorem r0_iff {qs : List Pr} {u w : Int} : r0 qs u w = true ↔ (u, w) ∈ qs ∨ (w, u) ∈ qs := by
  unfold r0
  simp only [Bool.or_eq_true, decide_eq_true_eq]
structure Ord (n : Nat) (o : Nat → Int) : Prop where
  vx : ∀ t, t < n → Vx n (o t)
  inj : ∀ s t, s < n → t < n → o s = o t → s = t
  all : ∀ v, Vx n v → ∃ t, t < n ∧ o t = v
section
variable {n : Nat} {qs : List Pr} {o : Nat → Int}
theorem rel_sym : ∀ {t : Nat} {u w : Int}, relT qs o t u w = true → relT qs o t w u = true
  | 0, u, w, h => r0_iff.mpr (r0_iff.mp h).symm
  | t + 1, u, w, h => by
    obtain ⟨a, b, c, d⟩ := elim_iff.mp h
    exact elim_iff.mpr ⟨b, a, fun e => c e.symm, d.imp rel_sym fun z => ⟨z.2, z.1⟩⟩
theorem rel_irr (ok : ∀ q ∈ qs, Okp n q) : ∀ {t : Nat} {u w : Int}, relT qs o t u w = true → u ≠ w
  | 0, u, w, h => by
    rintro rfl
    rcases r0_iff.mp h with z | z
    · have := (ok _ z).2.1
      omega
    · have := (ok _ z).2.1
      omega
  | t + 1, u, w, h => (elim_iff.mp h).2.2.1
theorem rel_vx (ok : ∀ q ∈ qs, Okp n q) : ∀ {t : Nat} {u w : Int}, relT qs o t u w = true → Vx n u ∧ Vx n w
  | 0, u, w, h => by
    unfold Vx
    rcases r0_iff.mp h with z | z
    · obtain ⟨a, b, c⟩ := ok _ z
      dsimp only at a b c
      omega
    · obtain ⟨a, b, c⟩ := ok _ z
      dsimp only at a b c
      omega
  | t + 1, u, w, h => by
    obtain ⟨_, _, _, d⟩ := elim_iff.mp h
    rcases d with d | ⟨d, e⟩
    · exact rel_vx ok d
    · exact ⟨(rel_vx ok d).2, (rel_vx ok e).2⟩
theorem rel_dead : ∀ {t s : Nat} {u w : Int}, relT qs o t u w = true → s < t → u ≠ o s ∧ w ≠ o s
  | 0, s, u, w, h, hs => by omega
  | t + 1, s, u, w, h, hs => by
    obtain ⟨a, b, c, d⟩ := elim_iff.mp h
    by_cases e : s = t
    · subst e
      exact ⟨a, b⟩
    · have hs' : s < t := by omega
      rcases d with d | ⟨d, e⟩
      · exact rel_dead d hs'
      · exact ⟨(rel_dead d hs').2, (rel_dead e hs').2⟩
theorem rel_grow (ok : ∀ q ∈ qs, Okp n q) {s : Nat} {u w : Int} (h : relT qs o s u w = true) : ∀ {t : Nat}, s ≤ t → (∀ x, s ≤ x → x < t → u ≠ o x ∧ w ≠ o x) → relT qs o t u w = true
  | 0, hs, _ => by
    have e : s = 0 := by omega
    rw [← e]
    exact h
  | t + 1, hs, hx => by
    by_cases e : s = t + 1
    · rw [← e]
      exact h
    · have ih := rel_grow ok h (t := t) (by omega) fun x a b => hx x a (by omega)
      obtain ⟨a, b⟩ := hx t (by omega) (by omega)
      exact elim_iff.mpr ⟨a, b, rel_irr ok ih, .inl ih⟩
theorem mem_arT (ok : ∀ q ∈ qs, Okp n q) {t : Nat} {w : Int} : w ∈ arT n qs o t ↔ relT qs o t (o t) w = true := by
  unfold arT
  rw [List.mem_filter, mem_vxs]
  exact ⟨fun h => h.2, fun h => ⟨(rel_vx ok h).2, h⟩⟩
theorem mem_bagT (ok : ∀ q ∈ qs, Okp n q) (O : Ord n o) {t : Nat} (ht : t < n) {w : Int} : w ∈ bagT n qs o t ↔ w = o t ∨ relT qs o t (o t) w = true := by
  unfold bagT
  rw [List.mem_filter, mem_vxs, Bool.or_eq_true, decide_eq_true_eq]
  constructor
  · exact fun h => h.2
  · intro h
    refine ⟨?_, h⟩
    rcases h with h | h
    · rw [h]
      exact O.vx t ht
    · exact (rel_vx ok h).2
/-- who is a neighbour then is taken away later -/
theorem ar_later (ok : ∀ q ∈ qs, Okp n q) (O : Ord n o) {t : Nat} {w : Int} (h : relT qs o t (o t) w = true) : ∃ s, t < s ∧ s < n ∧ o s = w := by
  obtain ⟨s, hs, rfl⟩ := O.all w (rel_vx ok h).2
  refine ⟨s, ?_, hs, rfl⟩
  by_cases c : t < s
  · exact c
  · exfalso
    by_cases e : s = t
    · subst e
      exact rel_irr ok h rfl
    · exact (rel_dead h (s := s) (by omega)).2 rfl
end
def minOr (d : Int) : List Int → Int
  | [] => d
  | a :: l => l.foldl min a
def maxOr (d : Int) : List Int → Int
  | [] => d
  | a :: l => l.foldl max a
theorem foldl_min_spec : ∀ (l : List Int) (a : Int), l.foldl min a ∈ a :: l ∧ ∀ x ∈ a :: l, l.foldl min a ≤ x
  | [], a => ⟨List.mem_cons_self, fun x hx => by rw [List.mem_singleton.mp hx]; exact Int.le_refl a⟩
  | b :: l, a => by
    obtain ⟨h1, h2⟩ := foldl_min_spec l (min a b)
    have hm : min a b = a ∨ min a b = b := by omega
    refine ⟨?_, fun x hx => ?_⟩
    · show l.foldl min (min a b) ∈ _
      rcases List.mem_cons.mp h1 with z | z
      · rw [z]
        rcases hm with y | y
        · rw [y]; exact List.mem_cons_self
        · rw [y]; exact List.mem_cons_of_mem _ List.mem_cons_self
      · exact List.mem_cons_of_mem _ (List.mem_cons_of_mem _ z)
    · show l.foldl min (min a b) ≤ x
      have z0 := h2 _ List.mem_cons_self
      rcases List.mem_cons.mp hx with z | z
      · omega
      · rcases List.mem_cons.mp z with y | y
        · omega
        · exact h2 x (List.mem_cons_of_mem _ y)
theorem foldl_max_spec : ∀ (l : List Int) (a : Int), l.foldl max a ∈ a :: l ∧ ∀ x ∈ a :: l, x ≤ l.foldl max a
  | [], a => ⟨List.mem_cons_self, fun x hx => by rw [List.mem_singleton.mp hx]; exact Int.le_refl a⟩
  | b :: l, a => by
    obtain ⟨h1, h2⟩ := foldl_max_spec l (max a b)
    have hm : max a b = a ∨ max a b = b := by omega
    refine ⟨?_, fun x hx => ?_⟩
    · show l.foldl max (max a b) ∈ _
      rcases List.mem_cons.mp h1 with z | z
      · rw [z]
        rcases hm with y | y
        · rw [y]; exact List.mem_cons_self
        · rw [y]; exact List.mem_cons_of_mem _ List.mem_cons_self
      · exact List.mem_cons_of_mem _ (List.mem_cons_of_mem _ z)
    · show x ≤ l.foldl max (max a b)
      have z0 := h2 _ List.mem_cons_self
      rcases List.mem_cons.mp hx with z | z
      · omega
      · rcases List.mem_cons.mp z with y | y
        · omega
        · exact h2 x (List.mem_cons_of_mem _ y)
theorem minOr_spec {d : Int} {l : List Int} : (l = [] ∧ minOr d l = d) ∨ (minOr d l ∈ l ∧ ∀ x ∈ l, minOr d l ≤ x) := by
  cases l with
  | nil => exact .inl ⟨rfl, rfl⟩
  | cons a l => exact .inr (foldl_min_spec l a)
theorem maxOr_spec {d : Int} {l : List Int} : (l = [] ∧ maxOr d l = d) ∨ (maxOr d l ∈ l ∧ ∀ x ∈ l, x ≤ maxOr d l) := by
  cases l with
  | nil => exact .inl ⟨rfl, rfl⟩
  | cons a l => exact .inr (foldl_max_spec l a)
/-! ### decompositions -/
/-- the numbers of the bags in which a vertex lies -/
def lyn (bs : List (List Int)) (v : Int) : List Int := ((List.range bs.length).filter fun i => decide (v ∈ bs.getD i [])).map fun (i : Nat) => (i : Int)
theorem mem_lyn {bs : List (List Int)} {v x : Int} : x ∈ lyn bs v ↔ ∃ i : Nat, i < bs.length ∧ v ∈ bs.getD i [] ∧ x = i := by
  unfold lyn
  rw [List.mem_map]
  constructor
  · rintro ⟨i, hi, rfl⟩
    obtain ⟨a, b⟩ := List.mem_filter.mp hi
    exact ⟨i, List.mem_range.mp a, of_decide_eq_true b, rfl⟩
  · rintro ⟨i, hi, hv, rfl⟩
    exact ⟨i, List.mem_filter.mpr ⟨List.mem_range.mpr hi, decide_eq_true hv⟩, rfl⟩
theorem lyn_nodup (bs : List (List Int)) (v : Int) : (lyn bs v).Nodup := by
  refine List.pairwise_map.mpr (List.Pairwise.imp (fun {a b} h e => h ?_) (List.nodup_range.filter _))
  omega
structure Good (n : Nat) (qs : List Pr) (bs : List (List Int)) (ps : List Int) : Prop where
  len : bs.length = ps.length
  root : ps[0]? = some (-1)
  bag : ∀ b ∈ bs, b.Pairwise (· < ·) ∧ ∀ k ∈ b, Vx n k
  par : ∀ (i : Nat) (p : Int), 0 < i → ps[i]? = some p → 0 ≤ p ∧ p < i
  vert : ∀ v, Vx n v → lyn bs v ≠ []
  edge : ∀ q ∈ qs, ∃ x ∈ lyn bs q.1, x ∈ lyn bs q.2
  one : ∀ v, Vx n v → ((lyn bs v).filter fun x => decide (ps.getD x.toNat 0 ∉ lyn bs v)).length = 1
theorem one_of {l : List Int} {p : Int → Bool} (nd : l.Nodup) {a : Int} (ha : a ∈ l) (pa : p a = true) (h : ∀ x ∈ l, p x = true → x = a) : (l.filter p).length = 1 := by
  have e : l.filter p = [a] := by
    have nd2 := nd.filter p
    have m : ∀ x, x ∈ l.filter p ↔ x = a := fun x => by
      rw [List.mem_filter]
      exact ⟨fun z => h x z.1 z.2, fun z => by rw [z]; exact ⟨ha, pa⟩⟩
    cases hl : l.filter p with
    | nil =>
      have z := (m a).mpr rfl
      rw [hl] at z
      cases z
    | cons b r =>
      rw [hl] at nd2 m
      have hb : b = a := (m b).mp List.mem_cons_self
      cases r with
      | nil => rw [hb]
      | cons c r =>
        have hc : c = a := (m c).mp (List.mem_cons_of_mem _ List.mem_cons_self)
        exfalso
        have := (List.nodup_cons.mp nd2).1
        exact this (by rw [hb, ← hc]; exact List.mem_cons_self)
  rw [e]
  rfl
/-- the bags and parents of an order, from the last vertex on; pl tells the place of a vertex -/
def bagsL (n : Nat) (qs : List Pr) (o : Nat → Int) : List (List Int) := (List.range n).map fun i => bagT n qs o (n - 1 - i)
def minT (n : Nat) (qs : List Pr) (o : Nat → Int) (pl : Int → Int) (t : Nat) : Int := minOr ((n : Int) - 1) ((arT n qs o t).map pl)
def parsL (n : Nat) (qs : List Pr) (o : Nat → Int) (pl : Int → Int) : List Int := (List.range n).map fun i => if i = 0 then -1 else (n : Int) - 1 - minT n qs o pl (n - 1 - i)
theorem good_order {n : Nat} {qs : List Pr} {o : Nat → Int} {pl : Int → Int} (ok : ∀ q ∈ qs, Okp n q) (O : Ord n o) (hpl : ∀ t, t < n → pl (o t) = t) (hn : 0 < n) : Good n qs (bagsL n qs o) (parsL n qs o pl) := by
  have lb : (bagsL n qs o).length = n := by unfold bagsL; rw [List.length_map, List.length_range]
  have gb : ∀ i, i < n → (bagsL n qs o).getD i [] = bagT n qs o (n - 1 - i) := fun i hi => by
    unfold bagsL
    rw [List.getD_eq_getElem?_getD, List.getElem?_map, List.getElem?_range hi]
    rfl
  have gp : ∀ i, i < n → (parsL n qs o pl)[i]? = some (if i = 0 then -1 else (n : Int) - 1 - minT n qs o pl (n - 1 - i)) := fun i hi => by
    unfold parsL
    rw [List.getElem?_map, List.getElem?_range hi]
    rfl
  -- the least place of a neighbour
  have mt : ∀ t, t < n → (arT n qs o t = [] ∧ minT n qs o pl t = (n : Int) - 1) ∨ ∃ s, t < s ∧ s < n ∧ minT n qs o pl t = s ∧ relT qs o t (o t) (o s) = true ∧ ∀ x, x < n → relT qs o t (o t) (o x) = true → s ≤ x := fun t ht => by
    rcases minOr_spec (d := (n : Int) - 1) (l := (arT n qs o t).map pl) with ⟨h1, h2⟩ | ⟨h1, h2⟩
    · exact .inl ⟨List.map_eq_nil_iff.mp h1, h2⟩
    · refine .inr ?_
      obtain ⟨w, hw, e⟩ := List.mem_map.mp h1
      have hr := (mem_arT ok).mp hw
      obtain ⟨s, a, b, rfl⟩ := ar_later ok O hr
      rw [hpl s b] at e
      refine ⟨s, a, b, e.symm, hr, fun x hx hrx => ?_⟩
      have z := h2 _ (List.mem_map.mpr ⟨o x, (mem_arT ok).mpr hrx, rfl⟩)
      rw [← e, hpl x hx] at z
      omega
  have mb : ∀ t, t < n → (t : Int) < minT n qs o pl t ∨ t = n - 1 ∧ minT n qs o pl t = (n : Int) - 1 := fun t ht => by
    rcases mt t ht with ⟨_, e⟩ | ⟨s, a, b, e, _⟩
    · by_cases c : t = n - 1
      · exact .inr ⟨c, e⟩
      · left; omega
    · left; omega
  have mle : ∀ t, t < n → minT n qs o pl t ≤ (n : Int) - 1 := fun t ht => by
    rcases mt t ht with ⟨_, e⟩ | ⟨s, a, b, e, _⟩
    · omega
    · omega
  -- in which bags a vertex lies
  have inb : ∀ {x : Nat} {i : Nat}, x < n → i < n → (o x ∈ (bagsL n qs o).getD i [] ↔ x = n - 1 - i ∨ relT qs o (n - 1 - i) (o (n - 1 - i)) (o x) = true) := fun {x i} hx hi => by
    rw [gb i hi, mem_bagT ok O (by omega)]
    exact or_congr ⟨fun e => O.inj _ _ hx (by omega) e, fun e => by rw [e]⟩ Iff.rfl
  have inl : ∀ {x : Nat} {y : Int}, x < n → (y ∈ lyn (bagsL n qs o) (o x) ↔ ∃ i : Nat, i < n ∧ y = i ∧ (x = n - 1 - i ∨ relT qs o (n - 1 - i) (o (n - 1 - i)) (o x) = true)) := fun {x y} hx => by
    rw [mem_lyn, lb]
    exact ⟨fun ⟨i, hi, h, e⟩ => ⟨i, hi, e, (inb hx hi).mp h⟩, fun ⟨i, hi, e, h⟩ => ⟨i, hi, (inb hx hi).mpr h, e⟩⟩
  refine ⟨?_, ?_, ?_, ?_, ?_, ?_, ?_⟩
  · rw [lb]
    unfold parsL
    rw [List.length_map, List.length_range]
  · rw [gp 0 hn, if_pos rfl]
  · intro b hb
    unfold bagsL at hb
    obtain ⟨i, _, rfl⟩ := List.mem_map.mp hb
    exact ⟨(vxs_lt n).filter _, fun k hk => mem_vxs.mp (List.mem_filter.mp hk).1⟩
  · intro i p hi hp
    have hin : i < n := by
      have := (List.getElem?_eq_some_iff.mp hp).1
      unfold parsL at this
      rw [List.length_map, List.length_range] at this
      exact this
    rw [gp i hin, if_neg (by omega)] at hp
    have e := Option.some.inj hp
    have h1 := mb (n - 1 - i) (by omega)
    have h2 := mle (n - 1 - i) (by omega)
    omega
  · intro v hv e
    obtain ⟨t, ht, rfl⟩ := O.all v hv
    have z : (((n - 1 - t : Nat)) : Int) ∈ lyn (bagsL n qs o) (o t) := (inl ht).mpr ⟨n - 1 - t, by omega, rfl, .inl (by omega)⟩
    rw [e] at z
    cases z
  · rintro ⟨u, w⟩ hq
    obtain ⟨a, b, c⟩ := ok _ hq
    dsimp only at a b c
    obtain ⟨tu, hu, rfl⟩ := O.all u (by unfold Vx; omega)
    obtain ⟨tw, hw, rfl⟩ := O.all w (by unfold Vx; omega)
    have base : relT qs o 0 (o tu) (o tw) = true := r0_iff.mpr (.inl hq)
    have ne : tu ≠ tw := fun e => by rw [e] at b; omega
    -- the one that is taken away first
    have key : ∀ {x y : Nat}, x < n → y < n → x < y → relT qs o 0 (o x) (o y) = true → ((n - 1 - x : Nat) : Int) ∈ lyn (bagsL n qs o) (o x) ∧ ((n - 1 - x : Nat) : Int) ∈ lyn (bagsL n qs o) (o y) := fun {x y} hx hy hxy h => by
      have g := rel_grow ok h (t := x) (by omega) fun z _ hz => ⟨fun e => by have := O.inj _ _ hx (by omega) e; omega, fun e => by have := O.inj _ _ hy (by omega) e; omega⟩
      have e1 : n - 1 - (n - 1 - x) = x := by omega
      refine ⟨(inl hx).mpr ⟨n - 1 - x, by omega, rfl, .inl e1.symm⟩, (inl hy).mpr ⟨n - 1 - x, by omega, rfl, .inr ?_⟩⟩
      rw [e1]
      exact g
    by_cases c2 : tu < tw
    · exact ⟨_, (key hu hw c2 base).1, (key hu hw c2 base).2⟩
    · exact ⟨_, (key hw hu (by omega) (rel_sym base)).2, (key hw hu (by omega) (rel_sym base)).1⟩
  · intro v hv
    obtain ⟨t, ht, rfl⟩ := O.all v hv
    have gpd : ∀ i, i < n → (parsL n qs o pl).getD (i : Int).toNat 0 = if i = 0 then -1 else (n : Int) - 1 - minT n qs o pl (n - 1 - i) := fun i hi => by
      rw [Int.toNat_natCast, List.getD_eq_getElem?_getD, gp i hi]
      rfl
    refine one_of (lyn_nodup _ _) (a := ((n - 1 - t : Nat) : Int)) ((inl ht).mpr ⟨n - 1 - t, by omega, rfl, .inl (by omega)⟩) ?_ ?_
    · rw [decide_eq_true_eq, gpd _ (by omega)]
      intro hin
      by_cases c0 : n - 1 - t = 0
      · rw [if_pos c0] at hin
        obtain ⟨i, _, e, _⟩ := (inl ht).mp hin
        omega
      · rw [if_neg c0, show n - 1 - (n - 1 - t) = t by omega] at hin
        obtain ⟨i, hi, e, h⟩ := (inl ht).mp hin
        have h1 := mb t ht
        have h2 := mle t ht
        -- the parent's vertex is taken away later
        rcases h with h | h
        · omega
        · have := (rel_dead h (s := t) (by omega)).2
          exact this rfl
    · intro x hx hp
      obtain ⟨i, hi, rfl, h⟩ := (inl ht).mp hx
      rw [decide_eq_true_eq, gpd i hi] at hp
      rcases h with h | h
      · omega
      · exfalso
        obtain ⟨s', a', b', e'⟩ := ar_later ok O h
        have es : s' = t := O.inj _ _ b' ht e'
        subst es
        have c0 : i ≠ 0 := by omega
        rw [if_neg c0] at hp
        apply hp
        rcases mt (n - 1 - i) (by omega) with ⟨z, _⟩ | ⟨s, a, b, e, hr, hmin⟩
        · have y := (mem_arT ok).mpr h
          rw [z] at y
          cases y
        · rw [e]
          have hst := hmin s' ht h
          refine (inl ht).mpr ⟨n - 1 - s, by omega, by omega, ?_⟩
          rw [show n - 1 - (n - 1 - s) = s by omega]
          by_cases c1 : s' = s
          · exact .inl c1
          · right
            have f : relT qs o (n - 1 - i + 1) (o s) (o s') = true := elim_iff.mpr ⟨fun z => by have := O.inj _ _ b (by omega) z; omega, fun z => by have := O.inj _ _ ht (by omega) z; omega, fun z => c1 (O.inj _ _ ht b z.symm), .inr ⟨hr, h⟩⟩
            exact rel_grow ok f (t := s) (by omega) fun x hx1 hx2 => ⟨fun z => by have := O.inj _ _ b (by omega) z; omega, fun z => by have := O.inj _ _ ht (by omega) z; omega⟩
end Sm

set_option Elab.async false
set_option linter.all false
set_option maxRecDepth 100000
set_option maxHeartbeats 4000000
namespace Sm
open PySem PySem.Spec PyProof.Rows L2
/-! ### max and min of a list of integers, with what is told for an empty one -/
section
variable {X : Cx}
def tMxD (K : PySem.W.Frag) (f : Int → List Int → Int) (ta tk : TA) : TE := fun σ H Q => ta σ H fun vs H1 => tk σ H1 fun zs H2 => ∃ (a : Addr) (ns : List Int) (d : Int), vs = [V.ref a] ∧ zs = [.int d] ∧ SqL K H2 a (ns.map V.int) ∧ Q (.int (f d ns)) H2
theorem reads_ints {h : Heap} : ∀ {its : List Value} {ns : List Int}, IntsAre its ns → ReadsAll h its (ns.map PyData.int) []
  | _, _, .nil => .nil
  | _, _, .cons n t r => .cons (.int n t) (reads_ints r)
theorem alike_ints (ns : List Int) : PySem.W.AlikeAll (ns.map PyData.int) := by
  refine ⟨fun x hx y hy => ?_, fun x hx => ?_⟩
  · obtain ⟨i, _, rfl⟩ := List.mem_map.mp hx
    obtain ⟨j, _, rfl⟩ := List.mem_map.mp hy
    rfl
  · obtain ⟨i, _, rfl⟩ := List.mem_map.mp hx
    intro z
    cases z
theorem read_int {h : Heap} {v : Value} {m : Int} {bs : List Addr} (r : Reads h v (.int m) bs) : ∃ t, v = .int m t := by
  cases r
  exact ⟨_, rfl⟩
theorem pe_maxD {p pos kp : Pos} {e kx : Expr} {ta tk : TA} (hg : Gl X "max") (hm : X.mg "max" = none) (hc : X.calm = true) (hu : X.A.units + 64 < cLine)
    (ha : PA X [e] ta) (hk : PK X [⟨some "default", kx, kp⟩] tk)
    (he : starEach [e] X.env = (false, eval e X.env) :: starEach [] X.env := by rfl) :
    PE X (.Call (.Name "max" p) [e] [⟨some "default", kx, kp⟩] pos) (tMxD X.K maxOr ta tk) := by
  constructor
  intro pins s σ H Q I h
  refine wpAny_Call_Name_kw (ld_blt I hg hm (by rfl) ?_ (by decide) (by decide))
  refine PyProof.Rows.callWith_kw (thn (ha.run pos pins s σ H _ I h) ?_) (by rw [he]; rfl) (by rw [he]; rfl)
  rintro us s1 ⟨vs, H1, I1, r1, q1⟩
  refine thn (hk.run pos pins s1 σ H1 _ I1 q1) ?_
  rintro ws s2 ⟨zs, H2, I2, r2, a, ns, d, rfl, rfl, hs, q⟩
  rw [Vals.ref1 r1]
  obtain ⟨its, rv, hl, _⟩ := I2.list hs
  cases r2 with
  | cons rd rn =>
    cases rn
    obtain ⟨t, rfl⟩ := rd
    have hR : ReadsAll s2.heap its.toArray.toList (ns.map PyData.int) [] := reads_ints rv.ints
    refine PySem.W.max_list_default (I2.ok.hd hc) hl.isList hR (alike_ints ns) (by have := ints_depth ns; omega) (fun z h' tk' hk' => ?_) (fun y ys i v h' tk' bs e1 ev er hk' => ?_)
    · have e0 : ns = [] := List.map_eq_nil_iff.mp z
      subst e0
      exact ⟨.int _, H2, I2.kept hk', ⟨_, rfl⟩, q⟩
    · cases ns with
      | nil => cases e1
      | cons n ns =>
        rw [List.map_cons] at e1
        obtain ⟨rfl, rfl⟩ := List.cons.inj e1
        rw [PySem.W.maxD_ints] at er
        obtain ⟨u, rfl⟩ := read_int er
        exact ⟨.int _, H2, I2.kept hk', ⟨_, rfl⟩, q⟩
theorem pe_minD {p pos kp : Pos} {e kx : Expr} {ta tk : TA} (hg : Gl X "min") (hm : X.mg "min" = none) (hc : X.calm = true) (hu : X.A.units + 64 < cLine)
    (ha : PA X [e] ta) (hk : PK X [⟨some "default", kx, kp⟩] tk)
    (he : starEach [e] X.env = (false, eval e X.env) :: starEach [] X.env := by rfl) :
    PE X (.Call (.Name "min" p) [e] [⟨some "default", kx, kp⟩] pos) (tMxD X.K minOr ta tk) := by
  constructor
  intro pins s σ H Q I h
  refine wpAny_Call_Name_kw (ld_blt I hg hm (by rfl) ?_ (by decide) (by decide))
  refine PyProof.Rows.callWith_kw (thn (ha.run pos pins s σ H _ I h) ?_) (by rw [he]; rfl) (by rw [he]; rfl)
  rintro us s1 ⟨vs, H1, I1, r1, q1⟩
  refine thn (hk.run pos pins s1 σ H1 _ I1 q1) ?_
  rintro ws s2 ⟨zs, H2, I2, r2, a, ns, d, rfl, rfl, hs, q⟩
  rw [Vals.ref1 r1]
  obtain ⟨its, rv, hl, _⟩ := I2.list hs
  cases r2 with
  | cons rd rn =>
    cases rn
    obtain ⟨t, rfl⟩ := rd
    have hR : ReadsAll s2.heap its.toArray.toList (ns.map PyData.int) [] := reads_ints rv.ints
    refine PySem.W.min_list_default (I2.ok.hd hc) hl.isList hR (alike_ints ns) (by have := ints_depth ns; omega) (fun z h' tk' hk' => ?_) (fun y ys i v h' tk' bs e1 ev er hk' => ?_)
    · have e0 : ns = [] := List.map_eq_nil_iff.mp z
      subst e0
      exact ⟨.int _, H2, I2.kept hk', ⟨_, rfl⟩, q⟩
    · cases ns with
      | nil => cases e1
      | cons n ns =>
        rw [List.map_cons] at e1
        obtain ⟨rfl, rfl⟩ := List.cons.inj e1
        rw [PySem.W.minD_ints] at er
        obtain ⟨u, rfl⟩ := read_int er
        exact ⟨.int _, H2, I2.kept hk', ⟨_, rfl⟩, q⟩
end
end Sm

set_option Elab.async false
set_option linter.all false
set_option maxRecDepth 100000
set_option maxHeartbeats 4000000
namespace Sm
open PySem PySem.Spec PyProof.Rows L2
/-! ### sets as integers -/
theorem or_xa (a b : Nat) : a ||| b = (a ^^^ b) + (a &&& b) := by
  induction a using Nat.strongRecOn generalizing b with
  | _ a ih =>
    by_cases h0 : a = 0
    · subst h0
      simp
    · have e := ih (a / 2) (by omega) (b / 2)
      have d1 : (a ||| b) / 2 = a / 2 ||| b / 2 := Nat.or_div_two
      have d2 : (a ^^^ b) / 2 = a / 2 ^^^ b / 2 := Nat.xor_div_two
      have d3 : (a &&& b) / 2 = a / 2 &&& b / 2 := Nat.and_div_two
      have m1 := @Nat.or_mod_two_eq_one a b
      have m2 := @Nat.xor_mod_two_eq_one a b
      have m3 := @Nat.and_mod_two_eq_one a b
      rw [← d1, ← d2, ← d3] at e
      clear ih d1 d2 d3
      generalize a ||| b = o at *
      generalize a ^^^ b = x at *
      generalize a &&& b = y at *
      omega
theorem bor_nat (a b : Nat) : Builtin.bitOr (a : Int) (b : Int) = ((a ||| b : Nat) : Int) := by
  rw [bitOr_nn (Int.natCast_nonneg a) (Int.natCast_nonneg b), Int.toNat_natCast, Int.toNat_natCast]
theorem bxor_nat (a b : Nat) : Builtin.bitXor (a : Int) (b : Int) = ((a ^^^ b : Nat) : Int) := by
  show Builtin.bitOr (a : Int) (b : Int) - Builtin.bitAnd (a : Int) (b : Int) = _
  rw [bor_nat, PySem.W.os_band]
  have := or_xa a b
  omega
theorem band1_nat (a : Nat) : Builtin.bitAnd (a : Int) 1 = ((a % 2 : Nat) : Int) := by
  have := PySem.W.os_band a 1
  rw [Nat.and_one_is_mod] at this
  exact this
theorem pow_cast (k : Nat) : (1 : Int) * 2 ^ ((k : Int)).toNat = ((2 ^ k : Nat) : Int) := by
  rw [Int.toNat_natCast, Int.one_mul, Int.natCast_pow]
  rfl
theorem shr_bit (M k : Nat) : ((M : Int) / 2 ^ ((k : Int)).toNat) = ((M / 2 ^ k : Nat) : Int) := by
  rw [Int.toNat_natCast, Int.natCast_ediv, Int.natCast_pow]
  rfl
theorem bit_ne (M k : Nat) : (((M / 2 ^ k % 2 : Nat) : Int) != 0) = M.testBit k := by
  have h : M.testBit k = decide (M / 2 ^ k % 2 = 1) := Nat.testBit_eq_decide_div_mod_eq
  rw [h]
  rcases Nat.mod_two_eq_zero_or_one (M / 2 ^ k) with z | z
  · rw [z]; rfl
  · rw [z]; rfl
/-- the sum of the powers of an ascending list -/
def powN (l : List Int) : Nat := (l.map fun k => 2 ^ k.toNat).sum
theorem powN_snoc (l : List Int) (k : Int) : powN (l ++ [k]) = powN l + 2 ^ k.toNat := by
  unfold powN
  rw [List.map_append, List.sum_append]
  simp
theorem powN_lt {b : Nat} : ∀ {l : List Int}, l.Pairwise (· < ·) → (∀ k ∈ l, 0 ≤ k ∧ k < b) → powN l < 2 ^ b ∧ ∀ j, (powN l).testBit j = decide ((j : Int) ∈ l) := by
  intro l
  induction hl : l.length generalizing l b with
  | zero =>
    intro _ _
    have e := List.eq_nil_of_length_eq_zero hl
    subst e
    exact ⟨Nat.two_pow_pos b, fun j => by simp [powN]⟩
  | succ n ih =>
    intro pw hb
    rcases List.eq_nil_or_concat l with rfl | ⟨r, k, rfl⟩
    · cases hl
    · rw [List.concat_eq_append] at *
      obtain ⟨p1, _, p3⟩ := List.pairwise_append.mp pw
      have hk := hb k (by simp)
      have hr : ∀ x ∈ r, 0 ≤ x ∧ x < ((k.toNat : Nat) : Int) := fun x hx => by
        have a := hb x (List.mem_append_left _ hx)
        have c := p3 x hx k (List.mem_singleton.mpr rfl)
        omega
      rw [List.length_append] at hl
      obtain ⟨i1, i2⟩ := ih (b := k.toNat) (l := r) (by simpa using hl) p1 hr
      rw [powN_snoc, Nat.add_comm]
      have le : 2 ^ k.toNat + powN r < 2 ^ (k.toNat + 1) := by rw [Nat.pow_succ]; omega
      refine ⟨Nat.lt_of_lt_of_le le (Nat.pow_le_pow_right (by decide) (by omega)), fun j => ?_⟩
      by_cases c1 : j = k.toNat
      · subst c1
        rw [Nat.testBit_two_pow_add_eq, i2]
        have e : ((k.toNat : Nat) : Int) = k := by omega
        have n1 : ((k.toNat : Nat) : Int) ∉ r := fun z => by have := (hr _ z).2; omega
        have y1 : ((k.toNat : Nat) : Int) ∈ r ++ [k] := by rw [e]; simp
        rw [decide_eq_false n1, decide_eq_true y1]
        rfl
      · have n2 : ((j : Int) ∈ r ++ [k]) ↔ (j : Int) ∈ r := by
          rw [List.mem_append, List.mem_singleton]
          exact ⟨fun h => h.elim id fun z => by omega, .inl⟩
        by_cases c2 : j < k.toNat
        · rw [Nat.testBit_two_pow_add_gt c2, i2]
          exact decide_eq_decide.mpr n2.symm
        · rw [Nat.testBit_lt_two_pow (Nat.lt_of_lt_of_le le (Nat.pow_le_pow_right (by decide) (by omega)))]
          have n3 : ¬ (j : Int) ∈ r ++ [k] := fun z => by have := (hr _ (n2.mp z)).2; omega
          rw [decide_eq_false n3]
theorem sum_pow (l : List Int) : (l.map fun k => (1 : Int) * 2 ^ k.toNat).sum = ((powN l : Nat) : Int) := by
  unfold powN
  induction l with
  | nil => rfl
  | cons k l ih =>
    rw [List.map_cons, List.map_cons, List.sum_cons, List.sum_cons, ih, Int.natCast_add, Int.natCast_pow, Int.one_mul]
    rfl
/-- masks that tell the neighbours of each vertex -/
structure MskL (n : Nat) (R : Rel) (ms : List Nat) : Prop where
  len : ms.length = n
  bit : ∀ (u m : Nat), ms[u]? = some m → ∀ j : Nat, m.testBit j = R u j
def mV (m : Nat) : V := V.int (m : Int)
structure RelOk (n : Nat) (R : Rel) : Prop where
  sym : ∀ u w, R u w = true → R w u = true
  irr : ∀ u, R u u = false
  vx : ∀ u w, R u w = true → Vx n u ∧ Vx n w
theorem RelOk.symB {n : Nat} {R : Rel} (h : RelOk n R) (u w : Int) : R u w = R w u := by
  cases e : R u w with
  | true => rw [h.sym _ _ e]
  | false =>
    cases e' : R w u with
    | false => rfl
    | true => rw [h.sym _ _ e'] at e; cases e
theorem relOk {n : Nat} {qs : List Pr} (ok : ∀ q ∈ qs, Okp n q) (o : Nat → Int) (t : Nat) : RelOk n (relT qs o t) := ⟨fun u w h => rel_sym h, fun u => by
  cases e : relT qs o t u u with
  | false => rfl
  | true => exact absurd rfl (rel_irr ok e), fun u w h => rel_vx ok h⟩
theorem elim_bit {n : Nat} {R : Rel} (h : RelOk n R) {v u : Nat} {a m : Nat} (ha : ∀ j : Nat, a.testBit j = R v j) (hm : ∀ j : Nat, m.testBit j = R u j) (huv : u ≠ v) (hin : R v u = true) (j : Nat) :
    (((m ||| a) ^^^ 2 ^ v) ^^^ 2 ^ u).testBit j = elim R v u j := by
  rw [Nat.testBit_xor, Nat.testBit_xor, Nat.testBit_or, ha, hm, Nat.testBit_two_pow, Nat.testBit_two_pow]
  have hvu : R u v = true := h.sym _ _ hin
  unfold elim
  have n0 : decide ((u : Int) = (v : Int)) = false := decide_eq_false (by omega)
  rw [n0]
  by_cases c1 : j = v
  · subst c1
    have e2 : decide (u = j) = false := decide_eq_false huv
    have e3 : decide ((j : Int) = (j : Int)) = true := decide_eq_true rfl
    rw [hvu, e2, e3, decide_eq_true rfl]
    rfl
  · by_cases c2 : j = u
    · subst c2
      have e2 : decide (v = j) = false := decide_eq_false (fun z => c1 z.symm)
      rw [hin, h.irr, e2, decide_eq_true rfl]
      simp
    · have e1 : decide (v = j) = false := decide_eq_false (fun z => c1 z.symm)
      have e2 : decide (u = j) = false := decide_eq_false (fun z => c2 z.symm)
      have e3 : decide ((j : Int) = (v : Int)) = false := decide_eq_false (by omega)
      have e4 : decide ((u : Int) = (j : Int)) = false := decide_eq_false (by omega)
      rw [hin, e1, e2, e3, e4]
      cases R u j <;> cases R v j <;> rfl
theorem elim_keep {n : Nat} {R : Rel} (h : RelOk n R) {v u : Nat} (huv : u ≠ v) (hin : R v u = false) (j : Nat) : R u j = elim R v u j := by
  unfold elim
  have n0 : decide ((u : Int) = (v : Int)) = false := decide_eq_false (by omega)
  rw [n0, hin]
  by_cases c1 : j = v
  · subst c1
    rw [h.symB, hin]
    simp
  · by_cases c2 : j = u
    · subst c2
      rw [h.irr]
      simp
    · have e3 : decide ((j : Int) = (v : Int)) = false := decide_eq_false (by omega)
      have e4 : decide ((u : Int) = (j : Int)) = false := decide_eq_false (by omega)
      rw [e3, e4]
      simp
theorem elim_self {R : Rel} {v j : Int} : elim R v v j = false := by
  unfold elim
  rw [decide_eq_true (rfl : v = v)]
  rfl
theorem elim_ok {n : Nat} {R : Rel} (h : RelOk n R) (v : Int) : RelOk n (elim R v) := by
  refine ⟨fun u w z => ?_, fun u => ?_, fun u w z => ?_⟩
  · obtain ⟨a, b, c, d⟩ := elim_iff.mp z
    exact elim_iff.mpr ⟨b, a, fun e => c e.symm, d.imp (h.sym _ _) fun z => ⟨z.2, z.1⟩⟩
  · cases e : elim R v u u with
    | false => rfl
    | true => exact absurd rfl (elim_iff.mp e).2.2.1
  · obtain ⟨_, _, _, d⟩ := elim_iff.mp z
    rcases d with d | ⟨d, e⟩
    · exact h.vx _ _ d
    · exact ⟨(h.vx _ _ d).2, (h.vx _ _ e).2⟩
end Sm

set_option Elab.async false
set_option linter.all false
set_option maxRecDepth 100000
set_option maxHeartbeats 4000000
/-! ### enumerate of a tuple -/
namespace Sm
open PySem PySem.Spec PyProof.Rows L2
def cellE (i : Addr) : Obj := { cls := .type "enumerate", data := .fields #[.none, .bool false, .ref i, rawInt 0, .none, .none] }
theorem meets_en1 {v : Value} {o : Obj} {G : Heap → Prop} (B : Begins v o G) :
    Meets (Builtin.«enumerate.__new__» ⟨[.type "enumerate", v], []⟩) (fun _ R s => G s.heap ∧ R (.ok (.ret (.ref (s.heap.push o).objs.size))) { s with heap := (s.heap.push o).push (cellE s.heap.objs.size) }) := by
  refine .of_wp ?_
  intro prog w A R s h
  obtain ⟨hp, g, d, tk, os⟩ := s
  obtain ⟨h1, h⟩ := h
  have sube := sub_enumerate
  have go : ∀ {A' : Around} {E : Value → Shared → Prop} {Q : Value → Shared → Prop}, Q (.ref hp.objs.size) ⟨hp.push o, g, d, tk, os⟩ → wpAny (model prog w) A' (pyIter v) Q E ⟨hp, g, d, tk, os⟩ := by
    intro A' E Q q
    exact B.iter prog w _ _ ⟨hp, g, d, tk, os⟩ _ h1 q
  wp_walk using go
  refine wpAny_stack_any ?_
  intro st
  refine wpAny_pure ?_
  split
  · rename_i c _ _ _ _ _
    cases (c == Value.type "enumerate") <;> (wp_walk using go; exact ⟨_, rfl, h⟩)
  · wp_walk using go
    exact ⟨_, rfl, h⟩
section
variable {prog : Program} {w : World} {A : Around} {E : Value → Shared → Prop} {s : Shared}
theorem call_en1 {v : Value} {o : Obj} {G : Heap → Prop} {Q : Value → Shared → Prop} (B : Begins v o G) (h1 : G s.heap)
    (h : ∀ hh, IsEnum hh (s.heap.objs.size + 1) s.heap.objs.size 0 .none → hh.get? s.heap.objs.size = some o → (∀ b ob, s.heap.get? b = some ob → hh.get? b = some ob) → Q (.ref (s.heap.objs.size + 1)) { s with heap := hh }) :
    wpAny (model prog w) A (call (.type "enumerate") [v]) Q E s := by
  refine callType_new F.called_enumerate (by decide) (F.typeCall_enumerate_1 _) (F.newCall_enumerate_1 _) (fun obj => F.args_object_init_2 obj _) F.entry_enumerate_new (meets_en1 B) ⟨h1, ?_⟩
  have z1 : (s.heap.push o).objs.size = s.heap.objs.size + 1 := Heap.size_push ..
  show _ ∧ _
  rw [z1]
  have isE : IsEnum ((s.heap.push o).push (cellE s.heap.objs.size)) (s.heap.objs.size + 1) s.heap.objs.size 0 .none := by
    have y := Heap.get?_push_size (s.heap.push o) (o := cellE s.heap.objs.size) rfl
    rw [z1] at y
    exact y
  refine ⟨⟨_, isE, rfl⟩, h _ isE ?_ ?_⟩
  · exact Heap.get?_push_of_some _ (Heap.get?_push_size _ B.free)
  · intro b ob x
    exact Heap.get?_push_of_some _ (Heap.get?_push_of_some _ x)
end
/-- the tuple at a, each item in a new pair with its number -/
def IteT (K : PySem.W.Frag) (a : Addr) : It :=
  ⟨fun i H => ∃ (xs : List V) (x : V), SqT K H a xs ∧ xs[i]? = some x,
   fun i H v H' => ∃ T x, v = .ref T ∧ H T = none ∧ H' = upd H T (.tup [.int (i : Nat), x]) ∧ ∀ xs, SqT K H a xs → xs[i]? = some x,
   fun i H => ∃ xs : List V, SqT K H a xs ∧ xs.length ≤ i⟩
def EnT (e it a : Addr) (i : Nat) (h : Heap) : Prop := (∃ old, IsEnum h e it ((i : Nat) : Int) old) ∧ h.IsTupleIter it a i ∧ e ≠ it
theorem turn_enT {P : Program} {w : World} {K : PySem.W.Frag} {elts : List Expr} {kk : Nat} {tpos : Pos} (a e it : Addr) : Turn P w K (.Tuple elts kk tpos) (IteT K a) [e, it] e (EnT e it a) where
  mem := List.mem_cons_self
  obj := by
    rintro i h ⟨⟨old, he⟩, ⟨o, ho, hc, hd⟩, _⟩ b hb
    rcases List.mem_cons.mp hb with z | z
    · rw [z]
      exact ⟨_, he, fun v q => nomatch q⟩
    · rw [List.mem_singleton.mp z]
      exact ⟨o, ho, fun v q => by rw [hd] at q; cases q⟩
  keep := by
    rintro i h h' ⟨⟨old, he⟩, hi, hne⟩ k
    exact ⟨⟨old, k e (by simp) _ he⟩, hi.at fun o q => k it (by simp) o q, hne⟩
  item := by
    intro X hP hw hK hc i pins s σ H E I hf st hg
    subst hP hw hK
    obtain ⟨⟨old, he⟩, hit, hne⟩ := st
    obtain ⟨xs, x, hq, hx⟩ := hg
    obtain ⟨its, rv, p, hz⟩ := I.tuple hq
    obtain ⟨u, hu, ru⟩ := rv.get hx
    have isT : s.heap.IsTuple a its.toArray := p
    have hel : e < s.heap.objs.size := Heap.lt_size he
    have hil : it < s.heap.objs.size := by
      obtain ⟨_, q, _⟩ := hit
      exact Heap.lt_size q
    have ait : a ≠ it := by
      intro z
      obtain ⟨o1, q1, c1, _⟩ := isT
      obtain ⟨o2, q2, c2, _⟩ := hit
      rw [z, q2] at q1
      cases q1
      rw [c2] at c1
      exact absurd (Value.type.inj c1) (by decide)
    have ae : a ≠ e := by
      intro z
      obtain ⟨o1, q1, c1, _⟩ := isT
      have q2 : s.heap.get? e = some _ := he
      rw [z, q2] at q1
      cases q1
      exact absurd (Value.type.inj c1) (by decide)
    have hlt : i < its.toArray.size := by
      have := (List.getElem?_eq_some_iff.mp hu).1
      simpa using this
    refine wpAny_pyNext_enum_itemD (Draws.tuple (A := X.A.in1) (I.ok.hd hc) it a ait its.toArray) he ⟨hit, isT⟩ hlt hne (by simp [hne, Ne.symm ae]) ?_
    intro y h' tk hy ho hst hT hsz hk
    have hy2 : its.toArray[i]? = some y := hy
    have ey : y = u := by
      have : its[i]? = some y := by simpa using hy2
      rw [hu] at this
      exact (Option.some.inj this).symm
    subst ey
    refine ⟨_, rfl, wpAny_letOwnedTupleGo_enum (s := { s with heap := h', toks := tk + 1 }) ho ?_⟩
    intro h'' he' sb
    have hT2 : h''.get? s.heap.objs.size = some { cls := .type "tuple", data := .seq #[.int i tk, y] } := (sb.2 _ (Nat.ne_of_gt hel)).trans hT
    have new : ObjOk X.prog X.w (upd H s.heap.objs.size (.tup [.int (i : Nat), x])) h'' s.heap.objs.size (.tup [.int (i : Nat), x]) := by
      refine ⟨by show 2 ≤ sizeLine; decide, [.int i tk, y], .cons ⟨_, rfl⟩ (.cons ru .nil), ⟨_, hT2, rfl, _, rfl⟩⟩
    have I1 : Inv X pins σ (upd H s.heap.objs.size (.tup [.int (i : Nat), x])) { s with heap := h'', toks := tk + 1 } := by
      refine I.turnedNew (ch := [e, it]) (fun b ob hb q => ?_) hf (Nat.le_refl _) new
      have n1 : b ≠ e := fun z => hb (by simp [z])
      have n2 : b ≠ it := fun z => hb (by simp [z])
      exact (sb.2 b n1).trans (hk b ob n1 n2 q)
    refine ⟨.ref s.heap.objs.size, _, I1, rfl, ⟨_, x, rfl, I.hok.fresh (Nat.le_refl _), rfl, fun ys hy => ?_⟩, ⟨⟨y, ?_⟩, hst.1.at fun o q => (sb.2 it (Ne.symm hne)).trans q, hne⟩, fun b hb => ?_⟩
    · rw [I.tuple_inj hy hq]
      exact hx
    · have e1 : ((i + 1 : Nat) : Int) = (i : Int) + 1 := by omega
      rw [e1]
      exact he'
    · have hb' : b < s.heap.objs.size := by
        rcases List.mem_cons.mp hb with z | z
        · rw [z]
          exact hel
        · rw [List.mem_singleton.mp z]
          exact hil
      rw [upd_ne (Nat.ne_of_lt hb')]
      exact (hf b hb).1
  done := by
    intro X hP hw hK hc i pins s σ H E I hf st hg
    subst hP hw hK
    obtain ⟨⟨old, he⟩, hit, hne⟩ := st
    obtain ⟨xs, hq, hx⟩ := hg
    obtain ⟨its, rv, p, hz⟩ := I.tuple hq
    have isT : s.heap.IsTuple a its.toArray := p
    have hl := rv.length
    have ait : a ≠ it := by
      intro z
      obtain ⟨o1, q1, c1, _⟩ := isT
      obtain ⟨o2, q2, c2, _⟩ := hit
      rw [z, q2] at q1
      cases q1
      rw [c2] at c1
      exact absurd (Value.type.inj c1) (by decide)
    obtain ⟨f0, f1, f2, f3, f4, f5⟩ := hf it (by simp)
    have hend : its.toArray[i]? = none := by simp; omega
    unfold pyNext
    have tE : s.TypeIs (.ref e) "enumerate" := ⟨_, he, rfl⟩
    refine wpAny_bind (wpAny_attempt (wpAny_callSpecial?_slot (name := Str.ofString "__next__") tE F.slot_enumerate_next (wpAny_call_entry F.slot_enumerate_next tE F.entry_enumerate_next ?_ (F.args_enumerate_next_1 _))))
    show wpAny _ _ (field (.ref e) 2 >>= _) _ _ _
    refine wpAny_bind (wpAny_field he rfl (x := .ref it) rfl ?_)
    refine wpAny_bind (wpAny_nextOf_tuple_end (A := X.A.in1) (I.ok.hd hc) hit isT hend ?_)
    rintro h' x he' ⟨o, ho, hcs⟩
    refine wpAny_bind (wpAny_isInstance (T := "StopIteration") (b := true) ⟨o, ho, hcs⟩ isSubtype_stop ?_)
    exact wpAny_pure ⟨rfl, I.turned (t' := s.toks) (fun b o hb q => he' b o hb q) f0 f1 f3 f4 f5⟩
  self := by
    rintro A i s Q E ⟨⟨_, he⟩, _⟩ h
    exact wpAny_pyIter_enum he h
def iEnT (K : PySem.W.Frag) (ta : TA) : TI := fun σ H R => ta σ H fun vs H1 => ∃ a xs, vs = [.ref a] ∧ SqT K H1 a xs ∧ R (IteT K a) H1
theorem pi_enT {X : Cx} {e : Expr} {ta : TA} {p pos tpos : Pos} {elts : List Expr} {kk : Nat} (hg : Gl X "enumerate") (hm : X.mg "enumerate" = none) (ha : PA X [e] ta)
    (hs : starEach [e] X.env = [(false, eval e X.env)] := by rfl) : PI X (.Tuple elts kk tpos) (.Call (.Name "enumerate" p) [e] [] pos) (iEnT X.K ta) := by
  constructor
  intro pins s σ H R I h
  refine Call_ (ld_blt I hg hm boot_enumerate (PyProof.Rows.callWith_type1 (thn (ha.run pos pins s σ H _ I h) ?_) hs rfl))
  rintro us s1 ⟨vs, H1, I1, r1, a, xs, rfl, hq, q⟩
  rw [Vals.ref1 r1]
  obtain ⟨its, rv, p', hz⟩ := I1.tuple hq
  refine call_en1 (begins_tuple a its.toArray) (show s1.heap.IsTuple a its.toArray from p') ?_
  intro h' he hit hk
  refine wpAny_pyIter_enum he ?_
  have I2 : Inv X pins σ H1 { s1 with heap := h' } := I1.kept (t' := s1.toks) hk
  refine ⟨s1.heap.objs.size + 1, [s1.heap.objs.size + 1, s1.heap.objs.size], _, _, H1, rfl, I2, turn_enT a (s1.heap.objs.size + 1) s1.heap.objs.size, ⟨⟨.none, he⟩, ⟨_, hit, rfl, rfl⟩, Nat.succ_ne_self _⟩, fun b hb => ?_, q⟩
  have hle : s1.heap.objs.size ≤ b := by
    rcases List.mem_cons.mp hb with z | z
    · rw [z]
      exact Nat.le_add_right _ _
    · rw [List.mem_singleton.mp z]
      exact Nat.le_refl _
  exact I1.fpOk hle (I1.hok.fresh hle)
theorem walk_enT {K : PySem.W.Frag} {a : Addr} {xs : List V} : Walk (IteT K a) xs.length (fun H => SqT K H a xs) (YPair (fun i => some (.int (i : Nat))) (fun i => xs[i]?)) := by
  refine ⟨?_, ?_, ?_⟩
  · intro i _ hi q
    exact ⟨xs, xs[i], q, by simp [hi]⟩
  · intro _ q
    exact ⟨xs, q, Nat.le_refl _⟩
  · rintro i H v H' _ q ⟨T, x, h1, h2, h3, h4⟩
    exact ⟨T, .int (i : Nat), x, h1, h2, h3, rfl, h4 xs q⟩
end Sm

set_option Elab.async false
set_option linter.all false
set_option maxRecDepth 100000
set_option maxHeartbeats 8000000
namespace Sm
open PySem PySem.Spec PyProof.Rows L2

theorem at_nat {α : Type} {xs : List α} {k : Nat} {v : α} (h : xs[k]? = some v) : atI xs ((k : Nat) : Int) = some v := by
  have hk := (List.getElem?_eq_some_iff.mp h).1
  unfold atI ixN
  rw [if_pos (by omega), if_pos (by omega)]
  simpa using h
def tTru (K : PySem.W.Frag) (ta : TE) : TT := fun σ H Q => ta σ H fun x H' => ∃ k, TruV K x H' k ∧ Q k H'
theorem truth_at {X : Cx} {K : PySem.W.Frag} {a : Expr} {ta : TE} (hK : X.K = K) (ha : PE X a ta) (he : ∀ whole, isTrue a X.env whole = (do let v ← whole; standAt a.pos; holding [v] (truthy v))) :
    PT X a (tTru K ta) := by
  subst hK
  exact pt_truth ha he
theorem ix_at {X : Cx} {K : PySem.W.Frag} (hK : X.K = K) : IxR X (rIxL K) := by
  subst hK
  exact ix_list
theorem ixT_at {X : Cx} {K : PySem.W.Frag} (hK : X.K = K) : IxR X (rIxT K) := by
  subst hK
  exact ix_tup
abbrev TupsAt (K : PySem.W.Frag) (H : Hp) : List Addr → List (List Int) → Prop := Paired fun a c => SqT K H a (c.map V.int)
theorem TupsAt.same {K : PySem.W.Frag} {H H' : Hp} (s : Same H H') : ∀ {as : List Addr} {cs : List (List Int)}, TupsAt K H as cs → TupsAt K H' as cs
  | _, _, .nil => .nil
  | _, _, .cons h t => .cons (same_sqT s h) (TupsAt.same s t)
theorem TupsAt.but {K : PySem.W.Frag} {H H' : Hp} {p : Addr} {ys : List V} (b : But p H H') (hp : H p = some (.lst ys)) : ∀ {as : List Addr} {cs : List (List Int)}, TupsAt K H as cs → TupsAt K H' as cs
  | _, _, .nil => .nil
  | _, _, .cons h t => .cons (b.sqTl hp h) (TupsAt.but b hp t)
theorem TupsAt.snoc {K : PySem.W.Frag} {H : Hp} {a : Addr} {c : List Int} (h : SqT K H a (c.map V.int)) : ∀ {as : List Addr} {cs : List (List Int)}, TupsAt K H as cs → TupsAt K H (as ++ [a]) (cs ++ [c])
  | _, _, .nil => .cons h .nil
  | _, _, .cons h' t => .cons h' (TupsAt.snoc h t)
theorem paired_get {α β : Type} {r : α → β → Prop} : ∀ {as : List α} {bs : List β} {i : Nat} {a : α}, Paired r as bs → as[i]? = some a → ∃ b, bs[i]? = some b ∧ r a b
  | _, _, _, _, .nil, e => by simp at e
  | _, _, 0, _, .cons h t, e => ⟨_, rfl, by cases e; exact h⟩
  | _, _, i + 1, _, .cons h t, e => paired_get (i := i) t (by simpa using e)
def rTupOf (K : PySem.W.Frag) : List V → Hp → VK → Prop := fun xs H Q => ∃ p ys, xs = [.ref p] ∧ ((SqL K H p ys ∧ ∀ l, H l = none → Q (.ref l) (upd H l (.tup ys))) ∨ (SqT K H p ys ∧ Q (.ref p) H))
theorem tuple_at {X : Cx} {K : PySem.W.Frag} (hK : X.K = K) : CallR X (.type "tuple") (rTupOf K) := by
  subst hK
  exact call_tuple_of
def rLenOf (K : PySem.W.Frag) : List V → Hp → VK → Prop := fun xs H Q => ∃ p ys, xs = [.ref p] ∧ (SqL K H p ys ∨ SqT K H p ys) ∧ Q (.int ys.length) H
theorem len_at {X : Cx} {K : PySem.W.Frag} (hK : X.K = K) : CallR X (.builtin "len") (rLenOf K) := by
  subst hK
  exact call_len_seq
def ordF (os : List Int) : Nat → Int := fun i => os.getD i 0
def degs (n : Nat) (qs : List Pr) (os : List Int) : List Int := (List.range os.length).map fun t => ((arT n qs (ordF os) t).length : Int)
def DLists (H : Hp) (ds : List Addr) (f : Nat → List Int) : Prop := ∀ (i : Nat) (d : Addr), ds[i]? = some d → ∃ kvs : List (Key × V), H d = some (.dK kvs) ∧ kvs.map (·.1) = (f i).map Sum.inl
theorem nodup_at {ds : List Addr} (nd : ds.Nodup) {i j : Nat} {d : Addr} (h1 : ds[i]? = some d) (h2 : ds[j]? = some d) : i = j := by
  obtain ⟨l1, e1⟩ := List.getElem?_eq_some_iff.mp h1
  obtain ⟨l2, e2⟩ := List.getElem?_eq_some_iff.mp h2
  exact (List.getElem_inj nd).mp (e1.trans e2.symm)
theorem DLists.put {H : Hp} {ds : List Addr} {f : Nat → List Int} {u : Nat} {d : Addr} {kvs : List (Key × V)} (h : DLists H ds f) (nd : ds.Nodup) (hu : ds[u]? = some d) (hd : H d = some (.dK kvs)) {k : Int} (hk : k ∉ f u) (v : V) :
    DLists (upd H d (.dK (putK kvs (Sum.inl k) v))) ds (fun i => if i = u then f u ++ [k] else f i) := by
  intro i b hb
  by_cases e : i = u
  · subst e
    rw [hu] at hb
    cases hb
    obtain ⟨kvs', h1, h2⟩ := h i d hu
    rw [hd] at h1
    cases h1
    exact ⟨_, upd_same, by rw [putK_keys h2 hk, show (fun i' => if i' = i then f i ++ [k] else f i') i = f i ++ [k] from if_pos rfl]⟩
  · have ne : b ≠ d := fun z => by
      subst z
      exact e (nodup_at nd hb hu)
    obtain ⟨kvs', h1, h2⟩ := h i b hb
    exact ⟨kvs', by rw [upd_ne ne]; exact h1, by rw [show (fun i' => if i' = u then f u ++ [k] else f i') i = f i from if_neg e]; exact h2⟩
theorem DLists.congr {H : Hp} {ds : List Addr} {f g : Nat → List Int} (h : DLists H ds f) (e : ∀ i, i < ds.length → f i = g i) : DLists H ds g := fun i d hd => by
  rw [← e i (List.getElem?_eq_some_iff.mp hd).1]
  exact h i d hd
theorem lyn_snoc (bs : List (List Int)) (b : List Int) (v : Int) : lyn (bs ++ [b]) v = lyn bs v ++ (if v ∈ b then [(bs.length : Int)] else []) := by
  unfold lyn
  rw [List.length_append, List.length_singleton, List.range_succ, List.filter_append, List.map_append]
  congr 1
  · congr 1
    refine List.filter_congr fun i hi => ?_
    have := List.mem_range.mp hi
    rw [List.getD_eq_getElem?_getD, List.getElem?_append_left this, ← List.getD_eq_getElem?_getD]
  · have e : (bs ++ [b]).getD bs.length [] = b := by
      rw [List.getD_eq_getElem?_getD, List.getElem?_append_right (Nat.le_refl _), Nat.sub_self]
      rfl
    by_cases c : v ∈ b
    · rw [if_pos c, List.filter_cons_of_pos (by rw [e]; exact decide_eq_true c)]
      rfl
    · rw [if_neg c, List.filter_cons_of_neg (by rw [e]; simp [c])]
      rfl
theorem lyn_lt {bs : List (List Int)} {v x : Int} (h : x ∈ lyn bs v) : 0 ≤ x ∧ x < bs.length := by
  obtain ⟨i, hi, _, rfl⟩ := mem_lyn.mp h
  omega
theorem lyn_len (bs : List (List Int)) (v : Int) : (lyn bs v).length ≤ bs.length := few_vx (lyn_nodup bs v) fun k hk => by unfold Vx; exact lyn_lt hk
theorem same_lock {H : Hp} {d : Addr} {o u : HO} (h : H d = some u) : Same H (upd (upd H d o) d u) := fun b x e => by
  by_cases c : b = d
  · subst c
    rw [upd_same]
    rw [h] at e
    exact e
  · rw [upd_ne c, upd_ne c]
    exact e
theorem dc_it {J : It} {n : Nat} {G : Hp → Prop} {Y : Nat → Hp → V → Hp → Prop} (wk : Walk J n G Y) {g : TG} {tt : TT} {tk tv : TE} {vs : List Nat} {σ : L2.St} {H1 : Hp} {D : Addr} {Qd : Hp → Prop} (Pv : Nat → Hp → Prop)
    (h0 : Pv 0 (upd H1 D (.dK []))) (hG : ∀ i H, i ≤ n → Pv i H → G H)
    (hs : ∀ i x H H', i < n → Pv i H → Y i H x H' → g x (wipe σ vs) H' fun σ2 H2 => wipe σ2 vs = wipe σ vs ∧ tt σ2 H2 fun b H3 =>
      if b = true then tk σ2 H3 fun y H4 => tv σ2 H4 fun z H5 => ∃ kvs k, y = kV k ∧ H5 D = some (.dK kvs) ∧ kvs.length < sizeLine ∧ Pv (i + 1) (upd H5 D (.dK (putK kvs k z)))
      else Pv (i + 1) H3) (hd : ∀ H, Pv n H → Qd H) :
    ∃ W : Nat → Nat → Hp → Prop, (∃ m, W 0 m (upd H1 D (.dK []))) ∧ ∀ i m H, W i m H → (J.stop i H ∧ Qd H) ∨ (J.go i H ∧ ∃ Nx : Hp → Prop, (∀ H', Nx H' → ∃ m', m' < m ∧ W (i + 1) m' H') ∧
      ∀ x H', J.yld i H x H' → g x (wipe σ vs) H' fun σ2 H2 => wipe σ2 vs = wipe σ vs ∧ tt σ2 H2 fun b H3 =>
        if b = true then tk σ2 H3 fun y H4 => tv σ2 H4 fun z H5 => ∃ kvs k, y = kV k ∧ H5 D = some (.dK kvs) ∧ kvs.length < sizeLine ∧ Nx (upd H5 D (.dK (putK kvs k z))) else Nx H3) := by
  refine ⟨fun i m H => (m = n - i ∧ i ≤ n) ∧ Pv i H, ⟨n, ⟨by omega, Nat.zero_le _⟩, h0⟩, ?_⟩
  rintro i m H ⟨⟨rfl, hi⟩, p⟩
  have gH := hG i H hi p
  rcases Nat.lt_or_ge i n with lt | ge
  · right
    refine ⟨wk.goes i H lt gH, Pv (i + 1), fun H' p' => ⟨n - (i + 1), by omega, ⟨rfl, lt⟩, p'⟩, fun x H' y => ?_⟩
    exact hs i x H H' lt p (wk.yields i H x H' lt gH y)
  · left
    have e : i = n := by omega
    subst e
    exact ⟨wk.stops H gH, hd H p⟩
/-- where each vertex stands in an order -/
def plF (os : List Int) (v : Int) : Int := (os.idxOf v : Int)
def bagsO (qs : List Pr) (os : List Int) : List (List Int) := if os = [] then [[]] else bagsL os.length qs (ordF os)
def parsO (qs : List Pr) (os : List Int) : List Int := if os = [] then [-1] else parsL os.length qs (ordF os) (plF os)
theorem ord_of {os : List Int} (pm : os.Perm (vxs os.length)) : Ord os.length (ordF os) := by
  obtain ⟨h1, h2, _⟩ := vx_perm pm
  have at_ : ∀ t, t < os.length → os[t]? = some (ordF os t) := fun t ht => by
    unfold ordF
    rw [List.getD_eq_getElem?_getD, List.getElem?_eq_getElem ht]
    rfl
  refine ⟨fun t ht => h1 _ (List.mem_of_getElem? (at_ t ht)), fun s t hs ht e => ?_, fun v hv => ?_⟩
  · have a := at_ s hs
    have b := at_ t ht
    rw [← e] at b
    obtain ⟨l1, e1⟩ := List.getElem?_eq_some_iff.mp a
    obtain ⟨l2, e2⟩ := List.getElem?_eq_some_iff.mp b
    exact (List.getElem_inj h2).mp (e1.trans e2.symm)
  · have hm : v ∈ os := pm.mem_iff.mpr (mem_vxs.mpr hv)
    obtain ⟨t, ht, e⟩ := List.getElem_of_mem hm
    refine ⟨t, ht, ?_⟩
    have := at_ t ht
    rw [List.getElem?_eq_getElem ht, e] at this
    exact (Option.some.inj this).symm
theorem pl_at {os : List Int} (nd : os.Nodup) {t : Nat} {v : Int} (h : os[t]? = some v) : plF os v = t := by
  have hm : v ∈ os := List.mem_of_getElem? h
  have l1 := List.idxOf_lt_length_iff.mpr hm
  have e1 : os[os.idxOf v] = v := List.getElem_idxOf l1
  obtain ⟨l2, e2⟩ := List.getElem?_eq_some_iff.mp h
  have := (List.getElem_inj nd (h₀ := l1) (h₁ := l2)).mp (e1.trans e2.symm)
  unfold plF
  omega
theorem set0_map {n : Nat} (g : Nat → Int) (x : Int) : ((List.range n).map g).set 0 x = (List.range n).map fun i => if i = 0 then x else g i := by
  refine List.ext_getElem? fun i => ?_
  rw [List.getElem?_set, List.getElem?_map, List.getElem?_map, List.length_map, List.length_range]
  by_cases c : 0 = i
  · subst c
    rw [if_pos rfl]
    by_cases h : 0 < n
    · rw [if_pos h, List.getElem?_range h]
      rfl
    · rw [if_neg h, List.getElem?_eq_none (by rw [List.length_range]; omega)]
      rfl
  · rw [if_neg c]
    by_cases h : i < n
    · rw [List.getElem?_range h]
      show some (g i) = some (if i = 0 then x else g i)
      rw [if_neg (fun z => c z.symm)]
    · rw [List.getElem?_eq_none (by rw [List.length_range]; omega)]
      rfl
def nearR (n : Nat) (R : Rel) (u : Int) : List Int := (vxs n).filter fun v => R u v
theorem nearR_lt (n : Nat) (R : Rel) (u : Int) : (nearR n R u).Pairwise (· < ·) := (vxs_lt n).filter _
theorem mem_nearR {n : Nat} {R : Rel} (h : RelOk n R) {u v : Int} : v ∈ nearR n R u ↔ R u v = true := by
  unfold nearR
  rw [List.mem_filter, mem_vxs]
  exact ⟨fun z => z.2, fun z => ⟨(h.vx _ _ z).2, z⟩⟩
theorem nearR_len (n : Nat) (R : Rel) (u : Int) : (nearR n R u).length ≤ n := by
  unfold nearR
  refine Nat.le_trans (List.length_filter_le _ _) ?_
  unfold vxs
  rw [List.length_map, List.length_range]
  exact Nat.le_refl _
theorem lnear_R {n : Nat} {es : List Pr} (ok : ∀ q ∈ es, Okp n q) (u : Int) : (vxs n).filter (fun v => decide ((if v < u then v else u, if v > u then v else u) ∈ es)) = nearR n (r0 es) u := by
  unfold nearR
  refine List.filter_congr fun v hv => ?_
  rw [Bool.eq_iff_iff, decide_eq_true_eq, mm_mem ok, mem_near, r0_iff]
theorem inS_at {X : Cx} {K : PySem.W.Frag} (hK : X.K = K) : OpR X (compareOp .In) (rIn K false) := by
  subst hK
  exact op_in_seq
theorem flt_take {l : List Int} {p : Int → Bool} {i : Nat} {k : Int} (h : l[i]? = some k) : (l.take (i + 1)).filter p = (l.take i).filter p ++ (if p k = true then [k] else []) := by
  rw [L2.take_next h, List.filter_append, List.filter_cons, List.filter_nil]
theorem flt_few {l : List Int} {p : Int → Bool} {i m : Nat} (h : l.length ≤ m) (hm : m ≤ 200) : (((l.take i).filter p).map V.int).length < sizeLine := by
  rw [List.length_map]
  refine small1000 ?_
  have := List.length_filter_le p (l.take i)
  rw [List.length_take] at this
  omega
theorem slA_at {X : Cx} {K : PySem.W.Frag} (hK : X.K = K) : SlR X (rSlA K) := by
  subst hK
  exact sl_tupA
/-- still there after t steps -/
def Alv (n : Nat) (os : List Int) (t : Nat) (w : Int) : Prop := Vx n w ∧ w ∉ os.take t
theorem ord_at {os : List Int} {t : Nat} {v : Int} (h : os[t]? = some v) : ordF os t = v := by
  unfold ordF
  rw [List.getD_eq_getElem?_getD, h]
  rfl
theorem dead_at {n : Nat} {es : List Pr} {os : List Int} {t : Nat} {u w : Int} (h : relT es (ordF os) t u w = true) (ht : t ≤ os.length) : u ∉ os.take t ∧ w ∉ os.take t := by
  have key : ∀ z : Int, z ∈ os.take t → ∃ s, s < t ∧ ordF os s = z := fun z hz => by
    obtain ⟨s, hs, e⟩ := List.getElem_of_mem hz
    rw [List.length_take] at hs
    refine ⟨s, by omega, ?_⟩
    rw [List.getElem_take] at e
    exact ord_at (by rw [List.getElem?_eq_getElem (by omega), e])
  refine ⟨fun z => ?_, fun z => ?_⟩
  · obtain ⟨s, hs, e⟩ := key _ z
    exact (rel_dead h hs).1 e.symm
  · obtain ⟨s, hs, e⟩ := key _ z
    exact (rel_dead h hs).2 e.symm
def tsD (cs : List (List Int)) : List PyData := cs.map fun c => .tuple (c.map PyData.int)
theorem tsD_at {K : PySem.W.Frag} {H : Hp} : ∀ {ps : List Addr} {cs : List (List Int)}, TupsAt K H ps cs → DpAll K H (ps.map V.ref) (tsD cs)
  | _, _, .nil => .nil
  | _, _, .cons h t => .cons (.tup h (dp_ints _)) (tsD_at t)
theorem tsD_lay : ∀ cs, PyData.canLayAll0 (tsD cs) = true
  | [] => by simp [tsD, PyData.canLayAll0]
  | c :: cs => by
    have z := tsD_lay cs
    unfold tsD at z
    simp only [tsD, List.map_cons, PyData.canLayAll0, PyData.canLay0, ints_lay, z]
    rfl
theorem tsD_depth : ∀ cs, PyData.depthAll (tsD cs) ≤ 1
  | [] => by simp [tsD, PyData.depthAll]
  | c :: cs => by
    have z := tsD_depth cs
    have y := ints_depth c
    unfold tsD at z
    simp only [tsD, List.map_cons, PyData.depthAll, PyData.depth]
    omega
theorem tsD_eqv : ∀ cs, PyData.eqvAll (tsD cs) (tsD cs) = true
  | [] => by simp [tsD, PyData.eqvAll]
  | c :: cs => by
    have z := tsD_eqv cs
    unfold tsD at z
    simp only [tsD, List.map_cons, PyData.eqvAll, PyData.eqv, ints_eqv, z]
    rfl
theorem good_o {n : Nat} {es : List Pr} {os : List Int} (ok : ∀ q ∈ es, Okp n q) (pm : os.Perm (vxs n)) : Good n es (bagsO es os) (parsO es os) := by
  obtain ⟨h1, h2, h3⟩ := vx_perm pm
  unfold bagsO parsO
  by_cases c : os = []
  · subst c
    have n0 : n = 0 := by rw [← h3]; rfl
    subst n0
    rw [if_pos rfl, if_pos rfl]
    have ne : es = [] := by
      cases es with
      | nil => rfl
      | cons q r =>
        obtain ⟨a, b, d⟩ := ok q List.mem_cons_self
        omega
    subst ne
    refine ⟨rfl, rfl, fun b hb => ?_, fun i p hi hp => ?_, fun v hv => ?_, (fun q hq => by cases hq), fun v hv => ?_⟩
    · rw [List.mem_singleton.mp hb]
      exact ⟨List.Pairwise.nil, fun k hk => by cases hk⟩
    · have := (List.getElem?_eq_some_iff.mp hp).1
      simp at this
      omega
    · unfold Vx at hv; omega
    · unfold Vx at hv; omega
  · rw [if_neg c, if_neg c, h3]
    have O := ord_of (os := os) (by rw [h3]; exact pm)
    rw [h3] at O
    refine good_order ok O (fun t ht => ?_) (by rw [← h3]; exact List.length_pos_iff.mpr c)
    refine pl_at h2 ?_
    unfold ordF
    rw [List.getD_eq_getElem?_getD, List.getElem?_eq_getElem (by omega)]
    rfl
theorem bags_len {n : Nat} {es : List Pr} {os : List Int} (pm : os.Perm (vxs n)) (hn : n ≤ 59) : (bagsO es os).length ≤ 60 := by
  obtain ⟨h1, h2, h3⟩ := vx_perm pm
  unfold bagsO
  by_cases c : os = []
  · rw [if_pos c]; decide
  · rw [if_neg c]
    unfold bagsL
    rw [List.length_map, List.length_range]
    omega
theorem bags_ne {es : List Pr} {os : List Int} : bagsO es os ≠ [] := by
  unfold bagsO
  by_cases c : os = []
  · rw [if_pos c]; simp
  · rw [if_neg c]
    unfold bagsL
    intro z
    have := congrArg List.length z
    rw [List.length_map, List.length_range] at this
    exact c (List.eq_nil_of_length_eq_zero this)
abbrev sWof : Stmt := topS 18
abbrev sBw : Stmt := topS 15
def spWof (K : PySem.W.Frag) : Sp := fun vs H Q _ => ∃ (t : Addr) (ps : List Addr) (bs : List (List Int)), vs = [.ref t] ∧ SqT K H t (ps.map V.ref) ∧ TupsAt K H ps bs ∧ bs ≠ [] ∧ bs.length ≤ 60 ∧
  ∀ (H' : Hp) (m : Int), Same H H' → m ∈ bs.map (fun b => (b.length : Int)) → (∀ y ∈ bs.map (fun b => (b.length : Int)), y ≤ m) → Q (.int (m - 1)) H'
def spBw (K : PySem.W.Frag) (C : Addr) : Sp := fun vs H Q _ => ∃ (g b : Addr) (n : Nat) (qs : List Pr) (ps : List Addr) (bs : List (List Int)), vs = [.ref g, .ref b] ∧ GraphAt K C H g n qs ∧ SqT K H b (ps.map V.ref) ∧ TupsAt K H ps bs ∧
  (∀ b ∈ bs, b.Pairwise (· < ·) ∧ ∀ k ∈ b, Vx n k) ∧ bs.length ≤ 60 ∧
  ∀ (H' : Hp) (l : Addr) (ds : List Addr), Same H H' → H l = none → H' l = some (.lst (ds.map V.ref)) → ds.length = n → ds.Nodup → DLists H' ds (fun i => lyn bs i) → Q (.ref l) H'
section
variable {P : Program} {w : World} {K : PySem.W.Frag} {mg : Str → Option Value} {base : Heap}
theorem scWof : FnScope ["bags", "bag"] ["bags"] (defScope sWof) := ⟨rfl, rfl, rfl, by decide +kernel, rfl, by decide +kernel, by decide +kernel⟩
theorem ok_wof {f : Addr} {fd : FuncData} (F : Fun K "width_of" "width_of" sWof f fd) (ml : mg "len" = none) (mx : mg "max" = none) : FnOk P w K mg base CX0 1 f fd ["bags"] (spWof K) := by
  refine F.ok scWof (fun vs H Q E h => ?_) (fun cdv A outer s H vs Q E hr h => ?_)
  · obtain ⟨t, ps, bs, rfl, _⟩ := h
    rfl
  · obtain ⟨t, ps, bs, rfl, hT, pl, hne, few, q⟩ := h
    refine ⟨_, pss_one (ps_ret (pe_op op_sub (pe_callB (cr_max rfl) (by rfl) mx (by decide +kernel) (pa_cons (pe_lc (own := [("bag", 1)]) (g := gName 1) (by rfl) scWof.nd (pi_tup (pv 0)) (blkOk_by (own := [("bag", 1)]) (N := ["bags", "bag"]) (sc := defScope sWof) (by decide +kernel))
      (fun _ _ _ _ _ => pg_name (i := 1) scWof.nd rfl (Or.inl rfl)) (fun _ _ _ _ _ => pts_nil) (fun _ _ _ _ _ => pe_callB (len_at (K := K) rfl) (by rfl) ml PySem.boot_len (pa_cons (pv 1) pa_nil))) pa_nil)) pe_int)), ?_⟩
    refine ⟨_, rfl, t, rfl, ⟨_, hT⟩, fun D nD => ?_⟩
    refine lc_tup (K := K) (a := t) (xs := ps.map V.ref) (fun t H' => Same H H' ∧ H' D = some (.lst (((bs.map fun b => (b.length : Int)).take t).map V.int))) ⟨same_upd nD, upd_same⟩ (fun t H' _ h => same_sqT h.1 hT) ?_ ?_
    · rintro i x H' hx ⟨sm, hD⟩
      rw [List.getElem?_map] at hx
      cases ea : ps[i]? with
      | none => rw [ea] at hx; cases hx
      | some a =>
        rw [ea] at hx
        cases hx
        obtain ⟨c, hc, hca⟩ := paired_get pl ea
        have dk : (bs.map fun b => (b.length : Int))[i]? = some (c.length : Int) := by rw [List.getElem?_map, hc]; rfl
        refine ⟨rfl, _, rfl, a, _, rfl, .inr (same_sqT sm hca), _, hD, ?_, same_put sm nD, ?_⟩
        · rw [List.length_map, List.length_take, List.length_map]
          exact small1000 (by omega)
        · rw [upd_same, L2.take_next dk, List.map_append, List.length_map]
          rfl
    · rintro H' ⟨sm, hD⟩
      have e : (ps.map V.ref).length = (bs.map fun b => (b.length : Int)).length := by rw [List.length_map, pl.length, List.length_map]
      rw [e, List.take_length] at hD
      refine ⟨D, _, rfl, SqL.of hD, ?_, fun m h1 h2 => ⟨_, _, rfl, rfl, q H' m sm h1 h2⟩⟩
      rw [List.length_map]
      exact List.length_pos_iff.mpr hne
abbrev bwN : List Str := ["graph", "bags", "lying", "number", "bag", "vertex", "_"]
theorem scBw : FnScope bwN ["graph", "bags"] (defScope sBw) := ⟨rfl, rfl, rfl, by decide +kernel, rfl, by decide +kernel, by decide +kernel⟩
theorem ok_bw {f C : Addr} {fd : FuncData} (F : Fun K "bags_with" "bags_with" sBw f fd) (T : TxG K mg C) (me : mg "enumerate" = none) (mr : mg "range" = none) :
    FnOk P w K mg base CX0 1 f fd ["graph", "bags"] (spBw K C) := by
  refine F.ok scBw (fun vs H Q E h => ?_) (fun cdv A outer s H vs Q E hr h => ?_)
  · obtain ⟨g, b, n, qs, ps, bs, rfl, _⟩ := h
    rfl
  · obtain ⟨g, b, n, qs, ps, bs, rfl, G, hB, pl, hbag, few, q⟩ := h
    have hu := hu_of hr
    have lim := G.lim
    have lp := pl.length
    have ⟨dx, et, nt, hg, _⟩ := G.ob
    refine ⟨_, pss_cons (ps_setLc (i := 2) (own := [("_", 6)]) (g := gName 6) (tt := tYes) (by rfl) scBw.nd rfl rfl (sw_true rfl rfl rfl (by decide +kernel)) (pi_range1 rfl mr (pa_cons (pe_fld (pv 0) rfl) pa_nil))
        (blkOk_by (own := [("_", 6)]) (N := bwN) (sc := defScope sBw) (by decide +kernel)) (fun _ _ _ _ _ => pg_name (i := 6) scBw.nd rfl (Or.inl rfl)) (fun _ _ _ _ _ => pts_nil) (fun _ _ _ _ _ => pe_dnewK))
      (pss_cons (ps_for PassesOwn.never rfl (pi_enT (by rfl) me (pa_cons (pv 1) pa_nil)) (pg_tup rfl (pgs_cons (pg_name (i := 3) scBw.nd rfl (.inl rfl)) (pgs_cons (pg_name (i := 4) scBw.nd rfl (.inl rfl)) pgs_nil)))
        (pss_one (ps_for PassesOwn.never rfl (pi_tup (pv 4)) (pg_name (i := 5) scBw.nd rfl (.inl rfl))
          (pss_one (ps_dput hu (pe_ix ix_list (pv 2) (pv 5) (fun _ _ => rfl)) (pv 3) pe_bl rfl)))))
      (pss_one (ps_ret (pv 2)))), ?_⟩
    refine ⟨_, rfl, g, C, dx, _, .int n, rfl, hg, T.cl, T.nS, gf_size _ _ _, n, rfl, by omega, by omega, fun D hD => ?_⟩
    have toNat : ((n : Int)).toNat = n := by omega
    rw [toNat]
    refine lc_range (lo := 0) (n := n) (fun i H' => Same H H' ∧ ∃ ds : List Addr, ds.length = i ∧ H' D = some (.lst (ds.map V.ref)) ∧ ds.Nodup ∧ ∀ a ∈ ds, H' a = some (.dK []) ∧ a ≠ D ∧ H a = none) ?_ ?_ ?_
    · exact ⟨same_upd hD, [], rfl, upd_same, List.nodup_nil, fun a ha => nomatch ha⟩
    · rintro i H' hi ⟨sm, ds, hlen, eD, nd, hall⟩
      refine ⟨rfl, fun p np => ?_⟩
      have npD : p ≠ D := fun z => by rw [z, eD] at np; cases np
      have npH : H p = none := sm.free np
      refine ⟨_, by rw [upd_ne npD.symm]; exact eD, by rw [List.length_map]; exact small1000 (by omega), ?_⟩
      refine ⟨same_put (same_put sm npH) hD, ds ++ [p], by rw [List.length_append, hlen]; rfl, by rw [upd_same, List.map_append]; rfl, ?_, fun a ha => ?_⟩
      · refine List.nodup_append.mpr ⟨nd, List.nodup_cons.mpr ⟨(by simp), List.nodup_nil⟩, fun a ha b hb e => ?_⟩
        rw [List.mem_singleton.mp hb] at e
        subst e
        rw [(hall _ ha).1] at np
        cases np
      · rcases List.mem_append.mp ha with z | z
        · obtain ⟨h1, h2, h3⟩ := hall a z
          refine ⟨?_, h2, h3⟩
          rw [upd_ne h2, upd_ne (ne_of_none h1 np)]
          exact h1
        · rw [List.mem_singleton.mp z]
          refine ⟨?_, npD, npH⟩
          rw [upd_ne npD, upd_same]
    · rintro H1 ⟨sm1, ds, hlen, eD1, nd, hall⟩
      have dsD : ∀ a ∈ ds, a ≠ D ∧ H a = none := fun a ha => ⟨(hall a ha).2.1, (hall a ha).2.2⟩
      have base0 : DLists H1 ds (fun i => lyn (bs.take 0) i) := fun i d hd => ⟨[], (hall d (List.mem_of_getElem? hd)).1, by rw [List.take_zero]; rfl⟩
      refine ⟨_, rfl, b, _, rfl, same_sqT sm1 hB, for_it (walk_enT (K := K) (a := b) (xs := ps.map V.ref)) (fun t σ H' => ∃ (y3 y4 y5 : Option V), σ = [some (.ref g), some (.ref b), some (.ref D), y3, y4, y5, none] ∧ Same H H' ∧ H' D = some (.lst (ds.map V.ref)) ∧ DLists H' ds (fun i => lyn (bs.take t) i))
        ⟨none, none, none, rfl, sm1, eD1, base0⟩ (fun t σ H' _ ⟨_, _, _, _, s', _⟩ => same_sqT s' hB) ?_ ?_⟩
      · rintro t x σ H2 H' ht ⟨y3, y4, y5, rfl, sm, eD, dl⟩ ⟨T1, v1, v2, rfl, nT, rfl, e1, e2⟩
        cases e1
        have e2 : (ps.map V.ref)[t]? = some v2 := e2
        rw [List.getElem?_map] at e2
        cases ea : ps[t]? with
        | none => rw [ea] at e2; cases e2
        | some a =>
          rw [ea] at e2
          cases e2
          obtain ⟨c, hc, hca⟩ := paired_get pl ea
          have htb : t < bs.length := (List.getElem?_eq_some_iff.mp hc).1
          have hT1 : (upd H2 T1 (.tup [.int (t : Nat), .ref a])) T1 = some (.tup [.int (t : Nat), .ref a]) := upd_same
          have sm' : Same H (upd H2 T1 (.tup [.int (t : Nat), .ref a])) := same_put sm (sm.free nT)
          have eD' : (upd H2 T1 (.tup [.int (t : Nat), .ref a])) D = some (.lst (ds.map V.ref)) := same_upd nT _ _ eD
          have dl' : DLists (upd H2 T1 (.tup [.int (t : Nat), .ref a])) ds (fun i => lyn (bs.take t) i) := fun i d hd => by
            obtain ⟨kvs, h1, h2⟩ := dl i d hd
            exact ⟨kvs, same_upd nT _ _ h1, h2⟩
          generalize (upd H2 T1 (.tup [.int (t : Nat), .ref a])) = H3 at hT1 sm' eD' dl' ⊢
          obtain ⟨cp, cv⟩ := hbag c (List.mem_of_getElem? hc)
          have tk : bs.take (t + 1) = bs.take t ++ [c] := L2.take_next hc
          have ltk : (bs.take t).length = t := by rw [List.length_take]; omega
          refine ⟨T1, _, rfl, SqT.of hT1, rfl, _, _, rfl, _, _, rfl, rfl, ?_⟩
          refine ⟨_, rfl, a, rfl, ⟨_, same_sqT sm' hca⟩, for_it (walk_tup (K := K) (a := a) (xs := c.map V.int)) (fun j σ H4 => ∃ (y5 : Option V), σ = [some (.ref g), some (.ref b), some (.ref D), some (.int (t : Nat)), some (.ref a), y5, none] ∧ Same H H4 ∧ H4 D = some (.lst (ds.map V.ref)) ∧ DLists H4 ds (fun i => lyn (bs.take t) i ++ (if (i : Int) ∈ c.take j then [(t : Int)] else [])))
            ⟨_, rfl, sm', eD', dl'.congr fun i _ => by rw [List.take_zero]; simp⟩ (fun j σ H4 _ ⟨_, _, s', _⟩ => same_sqT s' hca) ?_ ?_⟩
          · rintro j x σ H4 H5 hj ⟨y5, rfl, sm4, eD4, dl4⟩ ⟨rfl, hx⟩
            have hx : (c.map V.int)[j]? = some x := hx
            rw [List.getElem?_map] at hx
            cases ek : c[j]? with
            | none => rw [ek] at hx; cases hx
            | some k =>
              rw [ek] at hx
              cases hx
              have vk := cv k (List.mem_of_getElem? ek)
              obtain ⟨u, rfl⟩ : ∃ u : Nat, k = u := ⟨k.toNat, by unfold Vx at vk; omega⟩
              have hu2 : u < ds.length := by unfold Vx at vk; omega
              obtain ⟨d, hd⟩ : ∃ d, ds[u]? = some d := ⟨_, List.getElem?_eq_getElem hu2⟩
              have gd : (ds.map V.ref)[u]? = some (.ref d) := by rw [List.getElem?_map, hd]; rfl
              have ndt : (u : Int) ∉ c.take j := fun z => by
                have p2 := cp
                rw [← List.take_append_drop (j + 1) c, L2.take_next ek] at p2
                have := (List.pairwise_append.mp (List.pairwise_append.mp p2).1).2.2 _ z _ (List.mem_singleton.mpr rfl)
                omega
              obtain ⟨kvs, hk1, hk2⟩ := dl4 u d hd
              have nin : (t : Int) ∉ (fun (i : Nat) => lyn (bs.take t) i ++ (if (i : Int) ∈ c.take j then [(t : Int)] else [])) u := by
                show (t : Int) ∉ lyn (bs.take t) u ++ (if (u : Int) ∈ c.take j then [(t : Int)] else [])
                rw [if_neg ndt, List.append_nil]
                intro z
                have := lyn_lt z
                rw [ltk] at this
                omega
              have kl : kvs.length < sizeLine := by
                have e := congrArg List.length hk2
                rw [List.length_map, List.length_map] at e
                rw [e]
                refine small1000 ?_
                show (lyn (bs.take t) u ++ (if (u : Int) ∈ c.take j then [(t : Int)] else [])).length ≤ 1000
                rw [if_neg ndt, List.append_nil]
                have := lyn_len (bs.take t) u
                omega
              have mem := dsD d (List.mem_of_getElem? hd)
              refine ⟨_, rfl, _, rfl, D, _, u, _, rfl, rfl, SqL.of eD4, at_nat gd, _, rfl, d, _, rfl, DPut.k (k := Sum.inl (t : Int)) hk1 kl, ?_⟩
              refine ⟨_, rfl, same_put sm4 mem.2, by rw [upd_ne mem.1.symm]; exact eD4, (dl4.put nd hd hk1 nin _).congr fun i hi => ?_⟩
              show (if i = u then (lyn (bs.take t) u ++ (if (u : Int) ∈ c.take j then [(t : Int)] else [])) ++ [(t : Int)] else lyn (bs.take t) i ++ (if (i : Int) ∈ c.take j then [(t : Int)] else [])) = lyn (bs.take t) i ++ (if (i : Int) ∈ c.take (j + 1) then [(t : Int)] else [])
              rw [L2.take_next ek]
              by_cases ci : i = u
              · subst ci
                rw [if_pos rfl, if_neg ndt, List.append_nil, if_pos (by simp)]
              · rw [if_neg ci]
                have e3 : ((i : Int) ∈ c.take j ++ [(u : Int)]) ↔ (i : Int) ∈ c.take j := by
                  rw [List.mem_append, List.mem_singleton]
                  exact ⟨fun h => h.elim id fun z => by omega, .inl⟩
                by_cases c2 : (i : Int) ∈ c.take j
                · rw [if_pos c2, if_pos (e3.mpr c2)]
                · rw [if_neg c2, if_neg (fun z => c2 (e3.mp z))]
          · rintro σ H4 ⟨y5, rfl, sm4, eD4, dl4⟩
            rw [List.length_map, List.take_length] at dl4
            refine ⟨_, _, _, rfl, sm4, eD4, dl4.congr fun i _ => ?_⟩
            show lyn (bs.take t) i ++ (if (i : Int) ∈ c then [(t : Int)] else []) = lyn (bs.take (t + 1)) i
            rw [tk, lyn_snoc, ltk]
      · rintro σ H' ⟨y3, y4, y5, rfl, sm, eD, dl⟩
        rw [List.length_map, lp, List.take_length] at dl
        exact ⟨_, rfl, q H' D ds sm hD eD hlen nd dl⟩
end
end Sm

set_option Elab.async false
set_option linter.all false
set_option maxRecDepth 100000
set_option maxHeartbeats 4000000
namespace Sm
open PySem PySem.Spec PyProof.Rows L2
abbrev sIsi : Stmt := topS 20
abbrev sCel : Stmt := topS 21
abbrev sMix : Stmt := topS 22
abbrev sDig : Stmt := topS 23
abbrev sEds : Stmt := topS 24
abbrev sOrd : Stmt := topS 25
def spIsi : Sp := fun vs H Q _ => ∃ i : Int, vs = [.int i] ∧ Q (.bl true) H
def spCel (K : PySem.W.Frag) : Sp := fun vs H Q _ => ∃ (a : Addr) (ns : List Int) (k : Nat), vs = [.ref a, .int k] ∧ SqL K H a (ns.map V.int) ∧ ∀ x : Int, Q (.int x) H
def spMix : Sp := fun vs H Q _ => ∃ (c : Int) (k : Nat), vs = [.int c, .int k] ∧ ∀ x : Int, Q (.int x) H
def spDig (K : PySem.W.Frag) : Sp := fun vs H Q _ => ∃ (c : Int) (n m : Nat), vs = [.int c, .int n, .int m] ∧ n ≤ 60 ∧ 0 < m ∧ m ≤ 1000 ∧
  ∀ (H' : Hp) (p : Addr) (ds : List Int), Same H H' → H p = none → H' p = some (.lst (ds.map V.int)) → ds.length = n → (∀ d ∈ ds, 0 ≤ d ∧ d < m) → Q (.ref p) H'
def spEds (K : PySem.W.Frag) : Sp := fun vs H Q _ => ∃ (c : Int) (m : Nat), vs = [.int c, .int m] ∧ m ≤ 9 ∧
  ∀ (H' : Hp) (r e : Addr) (n : Nat) (as : List Addr) (es : List Pr), Same H H' → H' r = some (.tup [.int n, .ref e]) → H' e = some (.lst (as.map V.ref)) → PairsAt K H' as es → n ≤ m → es.Sublist (pairsL n) → Q (.ref r) H'
def spOrd (K : PySem.W.Frag) : Sp := fun vs H Q _ => ∃ (c : Int) (n : Nat), vs = [.int c, .int n] ∧ n ≤ 60 ∧
  ∀ (H' : Hp) (p : Addr) (os : List Int), Same H H' → H p = none → H' p = some (.lst (os.map V.int)) → os.Perm (vxs n) → Q (.ref p) H'
theorem pairs_few {n : Nat} (h : n ≤ 9) : (pairsL n).length ≤ 36 := by
  have z : ((List.range 10).all fun n => decide ((pairsL n).length ≤ 36)) = true := by decide +kernel
  exact of_decide_eq_true (List.all_eq_true.mp z n (List.mem_range.mpr (by omega)))
theorem pairs_pre {n u j : Nat} (hu : u < n) : ((List.range u).flatMap fun u => rowP n u).length + ((rowP n u).take j).length ≤ (pairsL n).length := by
  have e : List.range n = List.range u ++ (u :: (List.range' (u + 1) (n - u - 1))) := by
    have h1 : n = u + (1 + (n - u - 1)) := by omega
    rw [List.range_eq_range', List.range_eq_range']
    conv => lhs; rw [h1]
    rw [← List.range'_append_1, ← List.range'_append_1]
    simp
  unfold pairsL
  rw [e, List.flatMap_append, List.flatMap_cons, List.length_append, List.length_append]
  rw [List.length_take]
  omega
section
variable {P : Program} {w : World} {K : PySem.W.Frag} {mg : Str → Option Value} {base : Heap}
theorem scIsi : FnScope ["actual"] ["actual"] (defScope sIsi) := ⟨rfl, rfl, rfl, by decide +kernel, rfl, by decide +kernel, by decide +kernel⟩
theorem ok_isi {f : Addr} {fd : FuncData} (F : Fun K "_law_is_integer" "_law_is_integer" sIsi f fd) (T : TxA mg) : FnOk P w K mg base CX0 1 f fd ["actual"] spIsi := by
  refine F.ok scIsi (fun vs H Q E h => ?_) (fun cdv A outer s H vs Q E hr h => ?_)
  · obtain ⟨i, rfl, _⟩ := h
    rfl
  · obtain ⟨i, rfl, q⟩ := h
    refine ⟨_, pss_one (ps_ret (pe_and (pe_callB call_isi (by rfl) T.isi (by decide +kernel) (pa_cons (pv 0) (pa_cons (pe_bltn (v := .ty "int") (by rfl) T.int (by decide +kernel) rfl) pa_nil)))
      (pe_one (pe_not (pe_callB call_isi (by rfl) T.isi (by decide +kernel) (pa_cons (pv 0) (pa_cons (pe_bltn (v := .ty "bool") (by rfl) T.bool (by decide +kernel) rfl) pa_nil))))))), ?_⟩
    refine ⟨_, rfl, .int i, .ty "int", .type "int", .type "int", true, rfl, .ty "int", .base (.int i), kit_ty (by decide +kernel), true, rfl, iteT ?_⟩
    exact ⟨_, rfl, .int i, .ty "bool", .type "int", .type "bool", false, rfl, .ty "bool", .base (.int i), kit_ty (by decide +kernel), false, rfl, q⟩
theorem scCel : FnScope ["script", "k"] ["script", "k"] (defScope sCel) := ⟨rfl, rfl, rfl, by decide +kernel, rfl, by decide +kernel, by decide +kernel⟩
theorem ok_cel {f : Addr} {fd : FuncData} (F : Fun K "_law_cell" "_law_cell" sCel f fd) (ml : mg "len" = none) : FnOk P w K mg base CX0 1 f fd ["script", "k"] (spCel K) := by
  refine F.ok scCel (fun vs H Q E h => ?_) (fun cdv A outer s H vs Q E hr h => ?_)
  · obtain ⟨a, ns, k, rfl, _⟩ := h
    rfl
  · obtain ⟨a, ns, k, rfl, hS, q⟩ := h
    refine ⟨_, pss_cons (ps_if (pt_cmpR op_lt (pv 1) (pe_callB call_len_seq (by rfl) ml PySem.boot_len (pa_cons (pv 0) pa_nil)) (nomark _)) (pss_one (ps_ret (pe_ix ix_list (pv 0) (pv 1) (fun _ _ => rfl)))) pss_nil) (pss_one (ps_ret pe_int)), ?_⟩
    refine ⟨_, rfl, _, rfl, a, _, rfl, .inl hS, _, _, rfl, rfl, _, rfl, ?_⟩
    refine ite2 (fun c => ?_) (fun _ => q 0)
    have hk : k < ns.length := by
      have z := of_decide_eq_true c
      rw [List.length_map] at z
      omega
    exact ⟨_, rfl, _, rfl, a, _, k, _, rfl, rfl, hS, at_nat (v := V.int ns[k]) (by rw [List.getElem?_map, List.getElem?_eq_getElem hk]; rfl), q _⟩
theorem scMix : FnScope ["cell", "k", "first", "second"] ["cell", "k"] (defScope sMix) := ⟨rfl, rfl, rfl, by decide +kernel, rfl, by decide +kernel, by decide +kernel⟩
theorem ok_mix {f : Addr} {fd : FuncData} (F : Fun K "_law_mixed" "_law_mixed" sMix f fd) (mi : mg "int" = none) : FnOk P w K mg base CX0 1 f fd ["cell", "k"] spMix := by
  refine F.ok scMix (fun vs H Q E h => ?_) (fun cdv A outer s H vs Q E hr h => ?_)
  · obtain ⟨c, k, rfl, _⟩ := h
    rfl
  · obtain ⟨c, k, rfl, q⟩ := h
    refine ⟨_, pss_cons (ps_set (i := 2) scMix.nd rfl (.inl rfl) (pe_op op_mod (pe_callTy call_int1 (by rfl) mi (by decide +kernel) (pa_cons (pe_op op_add (pe_op op_add (pe_op op_mul (pe_callTy call_int1 (by rfl) mi (by decide +kernel) (pa_cons (pv 0) pa_nil)) pe_int) (pe_op op_mul (pv 1) pe_int)) pe_int) pa_nil)) pe_int))
      (pss_cons (ps_set (i := 3) scMix.nd rfl (.inl rfl) (pe_op op_mod (pe_callTy call_int1 (by rfl) mi (by decide +kernel) (pa_cons (pe_op op_add (pe_op op_add (pe_op op_mul (pv 2) pe_int) (pe_op op_mul (pe_op op_add (pv 1) pe_int) pe_int)) pe_int) pa_nil)) pe_int))
      (pss_one (ps_ret (pe_op op_fdiv (pv 3) pe_int)))), ?_⟩
    refine ⟨_, rfl, .inl ⟨_, rfl, _, _, rfl, rfl, .inr ⟨by decide, by decide⟩, ?_⟩⟩
    refine ⟨_, rfl, _, _, rfl, rfl, .inr ⟨by decide, by decide⟩, _, _, rfl, rfl, _, _, rfl, rfl, .inl ⟨_, rfl, _, _, rfl, rfl, (by show (0 : Int) < 2147483647; decide), ?_⟩⟩
    refine ⟨_, rfl, _, _, rfl, rfl, .inr ⟨by decide, by decide⟩, ?_⟩
    refine ⟨_, rfl, _, _, rfl, rfl, _, _, rfl, rfl, .inr ⟨by decide, by decide⟩, _, _, rfl, rfl, _, _, rfl, rfl, .inl ⟨_, rfl, _, _, rfl, rfl, (by show (0 : Int) < 2147483563; decide), ?_⟩⟩
    exact ⟨_, rfl, _, _, rfl, rfl, ⟨by decide, by decide⟩, q _⟩
theorem scDig : FnScope ["cell", "count", "many", "digits", "k"] ["cell", "count", "many"] (defScope sDig) := ⟨rfl, rfl, rfl, by decide +kernel, rfl, by decide +kernel, by decide +kernel⟩
theorem ok_dig {f fM : Addr} {fd fdM : FuncData} (F : Fun K "_law_digits" "_law_digits" sDig f fd) (mr : mg "range" = none) (mi : mg "int" = none)
    (GM : FnOk P w K mg base CX0 1 fM fdM ["cell", "k"] spMix) (kM : PySem.W.keepIn K (.ref fM) = true) (bM : Binds K fdM ["cell", "k"] []) (gM : mg "_law_mixed" = some (.ref fM)) :
    FnOk P w K mg base CX0 2 f fd ["cell", "count", "many"] (spDig K) := by
  refine F.ok scDig (fun vs H Q E h => ?_) (fun cdv A outer s H vs Q E hr h => ?_)
  · obtain ⟨c, n, m, rfl, _⟩ := h
    rfl
  · obtain ⟨c, n, m, rfl, hn, m0, m1, q⟩ := h
    have hr1 : Room 1 _ := hr.mono (by decide)
    have toNat : ((n : Nat) : Int).toNat = n := by omega
    refine ⟨_, pss_cons (ps_set (i := 3) scDig.nd rfl (.inl rfl) (pe_lst pa_nil))
      (pss_cons (ps_if (pt_cmpR op_lt (pv 0) (pe_op op_pow pe_int pe_int) (nomark _))
        (pss_cons (ps_for PassesOwn.never rfl (pi_range1 rfl mr (pa_cons (pv 1) pa_nil)) (pg_name (i := 4) scDig.nd rfl (.inl rfl))
          (pss_one (ps_expr (pe_bm PySem.F.plainAttrs_list PySem.F.slot_list_append PySem.F.type_list_append mt_append (pv 3) (pa_cons (pe_op op_mod (pe_callTy call_int1 (by rfl) mi (by decide +kernel) (pa_cons (pe_call GM hr1 (by rfl) gM kM bM .nil pass0 (pa_cons (pv 0) (pa_cons (pv 4) pa_nil))) pa_nil)) (pv 2)) pa_nil)))))
        (pss_one (ps_ret (pv 3)))) pss_nil)
      (pss_cons (ps_for PassesOwn.never rfl (pi_range1 rfl mr (pa_cons (pv 1) pa_nil)) (pg_name (i := 4) scDig.nd rfl (.inl rfl))
        (pss_cons (ps_expr (pe_bm PySem.F.plainAttrs_list PySem.F.slot_list_append PySem.F.type_list_append mt_append (pv 3) (pa_cons (pe_op op_mod (pe_callTy call_int1 (by rfl) mi (by decide +kernel) (pa_cons (pv 0) pa_nil)) (pv 2)) pa_nil)))
        (pss_one (ps_set (i := 0) scDig.nd rfl (.inl rfl) (pe_op op_fdiv (pv 0) (pv 2))))))
      (pss_one (ps_ret (pv 3))))), ?_⟩
    refine ⟨Nat.zero_le _, fun p np => ?_⟩
    have s1 := same_upd (o := .lst []) np
    have md : ∀ x : Int, 0 ≤ x % (m : Int) ∧ x % (m : Int) < m := fun x => ⟨Int.emod_nonneg _ (by omega), Int.emod_lt_of_pos _ (by omega)⟩
    have more : ∀ {ds : List Int} (x : Int), (∀ d ∈ ds, 0 ≤ d ∧ d < (m : Int)) → ∀ d ∈ ds ++ [x % (m : Int)], 0 ≤ d ∧ d < (m : Int) := fun x h d hd => by
      rcases List.mem_append.mp hd with z | z
      · exact h d z
      · rw [List.mem_singleton.mp z]
        exact md x
    refine ⟨_, rfl, _, _, rfl, rfl, ⟨by decide, by decide, by decide⟩, _, _, rfl, rfl, _, rfl, ?_⟩
    refine ite2 (fun _ => ?_) (fun _ => ?_)
    · refine ⟨_, rfl, n, rfl, by omega, by omega, ?_⟩
      rw [toNat]
      refine for_range (lo := 0) (n := n) (fun i σ H' => ∃ (y4 : Option V) (ds : List Int), σ = [some (.int c), some (.int n), some (.int m), some (.ref p), y4] ∧ Same H H' ∧ H' p = some (.lst (ds.map V.int)) ∧ ds.length = i ∧ ∀ d ∈ ds, 0 ≤ d ∧ d < (m : Int))
        ⟨none, [], rfl, s1, upd_same, rfl, fun d hd => by cases hd⟩ ?_ ?_
      · rintro i σ H' hi ⟨y4, ds, rfl, sm, hp, hl, hd⟩
        have e0 : (0 : Int) + (i : Int) = (i : Int) := by omega
        rw [e0]
        refine ⟨_, rfl, .inl ⟨rfl, _, SqL.of hp⟩, _, rfl, _, rfl, c, i, rfl, fun x => ?_⟩
        refine .inl ⟨_, rfl, _, rfl, _, _, rfl, rfl, (by omega : (0 : Int) < (m : Int)), p, _, _, rfl, rfl, hp, by rw [List.length_map]; exact small1000 (by omega), ?_⟩
        exact ⟨_, ds ++ [x % (m : Int)], rfl, same_put sm np, by rw [upd_same, List.map_append]; rfl, by rw [List.length_append, hl]; rfl, more x hd⟩
      · rintro σ H' ⟨y4, ds, rfl, sm, hp, hl, hd⟩
        exact ⟨_, rfl, q H' p ds sm np hp hl hd⟩
    · refine ⟨_, rfl, n, rfl, by omega, by omega, ?_⟩
      rw [toNat]
      refine for_range (lo := 0) (n := n) (fun i σ H' => ∃ (y4 : Option V) (c : Int) (ds : List Int), σ = [some (.int c), some (.int n), some (.int m), some (.ref p), y4] ∧ Same H H' ∧ H' p = some (.lst (ds.map V.int)) ∧ ds.length = i ∧ ∀ d ∈ ds, 0 ≤ d ∧ d < (m : Int))
        ⟨none, c, [], rfl, s1, upd_same, rfl, fun d hd => by cases hd⟩ ?_ ?_
      · rintro i σ H' hi ⟨y4, c, ds, rfl, sm, hp, hl, hd⟩
        refine ⟨_, rfl, .inl ⟨rfl, _, SqL.of hp⟩, _, rfl, .inl ⟨_, rfl, _, rfl, _, _, rfl, rfl, (by omega : (0 : Int) < (m : Int)), p, _, _, rfl, rfl, hp, by rw [List.length_map]; exact small1000 (by omega), ?_⟩⟩
        refine ⟨_, rfl, _, rfl, _, _, rfl, rfl, ⟨by omega, by omega⟩, ?_⟩
        exact ⟨_, c / (m : Int), ds ++ [c % (m : Int)], rfl, same_put sm np, by rw [upd_same, List.map_append]; rfl, by rw [List.length_append, hl]; rfl, more c hd⟩
      · rintro σ H' ⟨y4, c, ds, rfl, sm, hp, hl, hd⟩
        exact ⟨_, rfl, q H' p ds sm np hp hl hd⟩
theorem scEds : FnScope ["cell", "most", "digits", "size", "found", "at", "u", "v"] ["cell", "most"] (defScope sEds) := ⟨rfl, rfl, rfl, by decide +kernel, rfl, by decide +kernel, by decide +kernel⟩
theorem ok_eds {f fD : Addr} {fd fdD : FuncData} (F : Fun K "_law_edges" "_law_edges" sEds f fd) (mr : mg "range" = none)
    (GD : FnOk P w K mg base CX0 2 fD fdD ["cell", "count", "many"] (spDig K)) (kD : PySem.W.keepIn K (.ref fD) = true) (bD : Binds K fdD ["cell", "count", "many"] []) (gD : mg "_law_digits" = some (.ref fD)) :
    FnOk P w K mg base CX0 3 f fd ["cell", "most"] (spEds K) := by
  refine F.ok scEds (fun vs H Q E h => ?_) (fun cdv A outer s H vs Q E hr h => ?_)
  · obtain ⟨c, m, rfl, _⟩ := h
    rfl
  · obtain ⟨c, m, rfl, hm, q⟩ := h
    have hr2 : Room 2 _ := hr.mono (by decide)
    refine ⟨_, pss_cons (ps_set (i := 2) scEds.nd rfl (.inl rfl) (pe_call GD hr2 (by rfl) gD kD bD .nil pass0 (pa_cons (pv 0) (pa_cons pe_int (pa_cons pe_int pa_nil)))))
      (pss_cons (ps_set (i := 3) scEds.nd rfl (.inl rfl) (pe_op op_mod (pe_ix ix_list (pv 2) pe_int (fun _ _ => rfl)) (pe_op op_add (pv 1) pe_int)))
      (pss_cons (ps_par (i := 4) (j := 5) (by rfl) scEds.nd rfl rfl (by decide) rfl rfl (pa_cons (pe_lst pa_nil) (pa_cons pe_int pa_nil)) (by rfl))
      (pss_cons (ps_for PassesOwn.never rfl (pi_range1 rfl mr (pa_cons (pv 3) pa_nil)) (pg_name (i := 6) scEds.nd rfl (.inl rfl))
        (pss_one (ps_for PassesOwn.never rfl (pi_range2 (by rfl) mr (pa_cons (pe_op op_add (pv 6) pe_int) (pa_cons (pv 3) pa_nil))) (pg_name (i := 7) scEds.nd rfl (.inl rfl))
          (pss_cons (ps_if (pt_cmpR op_lt (pe_op op_mod (pe_ix ix_list (pv 2) (pv 5) (fun _ _ => rfl)) pe_int) (pe_op op_add pe_int (pe_op op_mod (pe_ix ix_list (pv 2) pe_int (fun _ _ => rfl)) pe_int)) (nomark _))
            (pss_one (ps_expr (pe_bm PySem.F.plainAttrs_list PySem.F.slot_list_append PySem.F.type_list_append mt_append (pv 4) (pa_cons (pe_tup (pa_cons (pv 6) (pa_cons (pv 7) pa_nil))) pa_nil)))) pss_nil)
          (pss_one (ps_set (i := 5) scEds.nd rfl (.inl rfl) (pe_op op_add (pv 5) pe_int)))))))
      (pss_one (ps_ret (pe_tup (pa_cons (pv 3) (pa_cons (pv 4) pa_nil)))))))), ?_⟩
    refine ⟨_, rfl, c, 40, 60, rfl, by decide, by decide, by decide, fun H1 d ds s1 nd hd1 hdl hdd => ?_⟩
    have dget : ∀ k : Nat, k < 40 → ∃ x, (ds.map V.int)[k]? = some (.int x) := fun k hk => ⟨_, by rw [List.getElem?_map, List.getElem?_eq_getElem (by omega)]; rfl⟩
    obtain ⟨x0, hx0⟩ := dget 0 (by decide)
    obtain ⟨x1, hx1⟩ := dget 1 (by decide)
    refine ⟨_, rfl, d, _, 0, _, rfl, rfl, SqL.of hd1, at_nat (k := 0) hx0, _, rfl, _, _, rfl, rfl, _, _, rfl, rfl, (by omega : (0 : Int) < (m : Int) + 1), ?_⟩
    obtain ⟨n, hn, hnm⟩ : ∃ n : Nat, x0 % ((m : Int) + 1) = n ∧ n ≤ m := by
      have a := Int.emod_nonneg x0 (show ((m : Int) + 1) ≠ 0 by omega)
      have b := Int.emod_lt_of_pos x0 (show (0 : Int) < (m : Int) + 1 by omega)
      exact ⟨(x0 % ((m : Int) + 1)).toNat, by omega, by omega⟩
    dsimp only
    rw [hn]
    refine ⟨Nat.zero_le _, fun p np => ⟨_, _, rfl, ?_⟩⟩
    have s2 := same_upd (o := .lst []) np
    have npH := s1.free np
    have few := pairs_few (n := n) (by omega)
    refine ⟨_, rfl, n, rfl, by omega, by omega, ?_⟩
    have toNat : ((n : Nat) : Int).toNat = n := by omega
    rw [toNat]
    refine for_range (lo := 0) (n := n) (fun u σ H' => ∃ (y6 y7 : Option V) (as : List Addr) (es : List Pr), σ = [some (.int c), some (.int m), some (.ref d), some (.int n), some (.ref p), some (.int ((2 + ((List.range u).flatMap fun u => rowP n u).length : Nat) : Int)), y6, y7] ∧ Same H1 H' ∧ H' p = some (.lst (as.map V.ref)) ∧
      PairsAt K H' as es ∧ es.Sublist ((List.range u).flatMap fun u => rowP n u) ∧ ∀ a ∈ as, a ≠ p)
      ⟨none, none, [], [], rfl, s2, upd_same, .nil, List.Sublist.refl _, fun a ha => by cases ha⟩ ?_ ?_
    · rintro u σ H' hu ⟨y6, y7, as, es, rfl, sm, ep, pa, sub, na⟩
      refine ⟨_, rfl, _, _, rfl, rfl, _, rfl, (0 + (u : Int) + 1), n, rfl, ⟨by omega, by omega, by omega, by omega⟩, ?_⟩
      have toN : ((n : Int) - (0 + (u : Int) + 1)).toNat = n - (u + 1) := by omega
      rw [toN]
      refine for_range (lo := (0 + (u : Int) + 1)) (n := n - (u + 1)) (fun j σ H' => ∃ (y7 : Option V) (as : List Addr) (es : List Pr), σ = [some (.int c), some (.int m), some (.ref d), some (.int n), some (.ref p), some (.int ((2 + (((List.range u).flatMap fun u => rowP n u).length + ((rowP n u).take j).length) : Nat) : Int)), some (.int (0 + (u : Int))), y7] ∧ Same H1 H' ∧ H' p = some (.lst (as.map V.ref)) ∧
        PairsAt K H' as es ∧ es.Sublist (((List.range u).flatMap fun u => rowP n u) ++ (rowP n u).take j) ∧ ∀ a ∈ as, a ≠ p)
        ⟨_, as, es, rfl, sm, ep, pa, by rw [List.take_zero, List.append_nil]; exact sub, na⟩ ?_ ?_
      · rintro j σ H' hj ⟨y7, as, es, rfl, sm, ep, pa, sub, na⟩
        have pre := pairs_pre (n := n) (j := j + 1) hu
        have e1 : (rowP n u)[j]? = some ((u : Int), ((u + 1 + j : Nat) : Int)) := by
          unfold rowP
          rw [List.getElem?_map, List.getElem?_range hj]
          rfl
        have tk : (rowP n u).take (j + 1) = (rowP n u).take j ++ [((u : Int), ((u + 1 + j : Nat) : Int))] := L2.take_next e1
        rw [tk, List.length_append, List.length_singleton] at pre
        have hd' := sm _ _ hd1
        obtain ⟨xa, hxa⟩ := dget (2 + (((List.range u).flatMap fun u => rowP n u).length + ((rowP n u).take j).length)) (by omega)
        have nxt : ((2 + (((List.range u).flatMap fun u => rowP n u).length + ((rowP n u).take j).length) : Nat) : Int) + 1 = ((2 + (((List.range u).flatMap fun u => rowP n u).length + ((rowP n u).take (j + 1)).length) : Nat) : Int) := by
          rw [tk, List.length_append, List.length_singleton]
          omega
        refine ⟨_, rfl, _, rfl, d, _, _, _, rfl, rfl, SqL.of hd', at_nat hxa, _, _, rfl, rfl, (by show (0 : Int) < 6; decide), ?_⟩
        refine ⟨_, rfl, d, _, 1, _, rfl, rfl, SqL.of hd', at_nat (k := 1) hx1, _, _, rfl, rfl, (by show (0 : Int) < 5; decide), _, _, rfl, rfl, _, _, rfl, rfl, _, rfl, ?_⟩
        refine ite2 (fun _ => ?_) (fun _ => ?_)
        · refine ⟨_, rfl, .inl ⟨rfl, _, SqL.of ep⟩, _, rfl, _, rfl, (by show 2 ≤ sizeLine; decide), fun t nt => ?_⟩
          have pt : p ≠ t := fun z => by rw [← z, ep] at nt; cases nt
          have st : Same H' (upd H' t (.tup [.int (0 + (u : Int)), .int (0 + (u : Int) + 1 + (j : Int))])) := same_upd nt
          have len : as.length ≤ 36 := by
            have z := pa.length
            have z2 := sub.length_le
            rw [List.length_append] at z2
            omega
          refine ⟨p, _, _, rfl, rfl, st _ _ ep, by rw [List.length_map]; exact small1000 (by omega), ?_⟩
          have bt : But p H' (upd (upd H' t (.tup [.int (0 + (u : Int)), .int (0 + (u : Int) + 1 + (j : Int))])) p (.lst (as.map V.ref ++ [.ref t]))) := (Same.but st).put
          refine ⟨_, rfl, _, _, rfl, rfl, ?_⟩
          refine ⟨_, as ++ [t], es ++ [((u : Int), ((u + 1 + j : Nat) : Int))], (by rw [← nxt]; rfl), same_put (same_put sm (sm.free nt)) np, by rw [upd_same, List.map_append]; rfl, ?_, ?_, fun a ha => ?_⟩
          · refine PairsAt.snoc ?_ (bt.pairs ep pa)
            refine SqT.of ?_
            rw [upd_ne pt.symm, upd_same]
            have a1 : (0 : Int) + (u : Int) = (u : Int) := by omega
            have a2 : (u : Int) + 1 + (j : Int) = ((u + 1 + j : Nat) : Int) := by omega
            rw [a1, a2]
          · rw [tk, ← List.append_assoc]
            exact sub.append (List.Sublist.refl _)
          · rcases List.mem_append.mp ha with z | z
            · exact na a z
            · rw [List.mem_singleton.mp z]; exact pt.symm
        · refine ⟨_, rfl, _, _, rfl, rfl, ?_⟩
          refine ⟨_, as, es, (by rw [← nxt]; rfl), sm, ep, pa, ?_, na⟩
          rw [tk, ← List.append_assoc]
          exact sub.trans (List.sublist_append_left _ _)
      · rintro σ H' ⟨y7, as, es, rfl, sm, ep, pa, sub, na⟩
        rw [List.take_of_length_le (by rw [rowP_len]; omega)] at sub ⊢
        refine ⟨some (.int (0 + (u : Int))), y7, as, es, ?_, sm, ep, pa, ?_, na⟩
        · rw [List.range_succ, List.flatMap_append, List.flatMap_singleton, List.length_append]
        · rw [List.range_succ, List.flatMap_append, List.flatMap_singleton]
          exact sub
    · rintro σ H' ⟨y6, y7, as, es, rfl, sm, ep, pa, sub, na⟩
      refine ⟨_, rfl, _, rfl, (by show 2 ≤ sizeLine; decide), fun r nr => ?_⟩
      have s3 := same_upd (o := .tup [.int n, .ref p]) nr
      exact q _ r p n as es (s1.trans (sm.trans s3)) upd_same (s3 _ _ ep) (pa.same s3) hnm sub
theorem scOrd : FnScope ["cell", "size", "left", "order", "digit"] ["cell", "size"] (defScope sOrd) := ⟨rfl, rfl, rfl, by decide +kernel, rfl, by decide +kernel, by decide +kernel⟩
theorem ok_ord {f fD : Addr} {fd fdD : FuncData} (F : Fun K "_law_order" "_law_order" sOrd f fd)
    (GD : FnOk P w K mg base CX0 2 fD fdD ["cell", "count", "many"] (spDig K)) (kD : PySem.W.keepIn K (.ref fD) = true) (bD : Binds K fdD ["cell", "count", "many"] []) (gD : mg "_law_digits" = some (.ref fD))
    (mli : mg "list" = none) (mr : mg "range" = none) (ml : mg "len" = none) :
    FnOk P w K mg base CX0 3 f fd ["cell", "size"] (spOrd K) := by
  refine F.ok scOrd (fun vs H Q E h => ?_) (fun cdv A outer s H vs Q E hr h => ?_)
  · obtain ⟨c, n, rfl, _⟩ := h
    rfl
  · obtain ⟨c, n, rfl, hn, q⟩ := h
    have hr2 : Room 2 _ := hr.mono (by decide)
    refine ⟨_, pss_cons (ps_par (i := 2) (j := 3) (by rfl) scOrd.nd rfl rfl (by decide) rfl rfl (pa_cons (pe_listRg rfl (by rfl) mli (prg_1 (by rfl) mr (pv 1))) (pa_cons (pe_lst pa_nil) pa_nil)) (by rfl))
      (pss_cons (ps_for PassesOwn.never rfl (pi_list (pe_call GD hr2 (by rfl) gD kD bD .nil pass0 (pa_cons (pv 0) (pa_cons (pv 1) (pa_cons pe_int pa_nil))))) (pg_name (i := 4) scOrd.nd rfl (.inl rfl))
        (pss_one (ps_expr (pe_bm PySem.F.plainAttrs_list PySem.F.slot_list_append PySem.F.type_list_append mt_append (pv 3)
          (pa_cons (pe_bm PySem.F.plainAttrs_list PySem.F.slot_list_pop PySem.F.type_list_pop mt_popAt (pv 2) (pa_cons (pe_op op_mod (pv 4) (pe_callB call_len_seq (by rfl) ml PySem.boot_len (pa_cons (pv 2) pa_nil))) pa_nil)) pa_nil)))))
      (pss_one (ps_ret (pv 3)))), ?_⟩
    refine ⟨_, rfl, n, rfl, RgOk.of_le (by omega) (by omega) (by omega) (by omega), fun l nl => ⟨Nat.zero_le _, fun o no => ⟨_, _, rfl, ?_⟩⟩⟩
    have s1 := same_upd (o := .lst (rgV 0 (n : Int))) nl
    have s2 := same_upd (o := .lst []) no
    have lo : l ≠ o := fun z => by rw [← z, upd_same] at no; cases no
    have noH : H o = none := s1.free no
    refine ⟨_, rfl, _, rfl, c, n, 720, rfl, hn, by decide, by decide, fun H1 d ds s3 ndd hd1 hdl hdd => ?_⟩
    have hl1 := s3 _ _ (s2 _ _ (show (upd H l (.lst (rgV 0 (n : Int)))) l = _ from upd_same))
    have ho1 := s3 _ _ (show (upd (upd H l (.lst (rgV 0 (n : Int)))) o (.lst [])) o = _ from upd_same)
    have dl : d ≠ l := fun z => by rw [z, s2 _ _ (show (upd H l (.lst (rgV 0 (n : Int)))) l = _ from upd_same)] at ndd; cases ndd
    have do' : d ≠ o := fun z => by rw [z, upd_same] at ndd; cases ndd
    rw [rg_vxs] at hl1
    have ndH : H d = none := (s1.trans s2).free ndd
    refine ⟨d, rfl, ⟨_, SqL.of hd1⟩, for_list (K := K) (a := d) (xs := ds.map V.int) (fun t σ H' => ∃ (y4 : Option V) (os ls : List Int), σ = [some (.int c), some (.int n), some (.ref l), some (.ref o), y4] ∧ Same H H' ∧ H' d = some (.lst (ds.map V.int)) ∧ H' o = some (.lst (os.map V.int)) ∧ H' l = some (.lst (ls.map V.int)) ∧
      (os ++ ls).Perm (vxs n) ∧ ls.length + t = n) ⟨none, [], vxs n, rfl, (s1.trans s2).trans s3, hd1, ho1, hl1, List.Perm.refl _, by unfold vxs; rw [List.length_map, List.length_range]; rfl⟩ (fun t σ H' _ ⟨_, _, _, _, _, h, _⟩ => SqL.of h) ?_ ?_⟩
    · rintro t x σ H' hx ⟨y4, os, ls, rfl, sm, hd', ho, hl, pm, len⟩
      rw [List.getElem?_map] at hx
      cases ek : ds[t]? with
      | none => rw [ek] at hx; cases hx
      | some x =>
        rw [ek] at hx
        cases hx
        have ht : t < n := by rw [← hdl]; exact (List.getElem?_eq_some_iff.mp ek).1
        have lpos : 0 < ls.length := by omega
        refine ⟨_, rfl, .inl ⟨rfl, _, SqL.of ho⟩, _, rfl, .inl ⟨rfl, _, SqL.of hl⟩, ?_⟩
        refine ⟨_, rfl, _, rfl, l, _, rfl, .inl (SqL.of hl), _, _, rfl, rfl, (by show (0 : Int) < ((ls.map V.int).length : Int); rw [List.length_map]; omega), ?_⟩
        dsimp only
        rw [List.length_map]
        have m1 : 0 ≤ x % (ls.length : Int) := Int.emod_nonneg _ (by omega)
        have m2 : x % (ls.length : Int) < ls.length := Int.emod_lt_of_pos _ (by omega)
        obtain ⟨k, hk⟩ : ∃ k : Nat, x % (ls.length : Int) = k := ⟨(x % (ls.length : Int)).toNat, by omega⟩
        rw [hk] at m2 ⊢
        have kl : k < ls.length := by omega
        have ek2 : ls[k]? = some ls[k] := List.getElem?_eq_getElem kl
        have six : seqIndex? (k : Int) (ls.map V.int).length = some k := by
          unfold seqIndex?
          rw [List.length_map]
          simp
          omega
        refine ⟨l, _, (k : Int), k, .int ls[k], rfl, rfl, hl, by omega, by omega, six, by rw [List.getElem?_map, ek2]; rfl, ?_⟩
        have ev : (ls.map V.int).eraseIdx k = (ls.eraseIdx k).map V.int := by
          rw [List.eraseIdx_eq_take_drop_succ, List.eraseIdx_eq_take_drop_succ, List.map_append, List.map_take, List.map_drop]
        rw [ev]
        have lo2 : os.length ≤ n := by
          have z := pm.length_eq
          rw [List.length_append] at z
          unfold vxs at z
          rw [List.length_map, List.length_range] at z
          omega
        refine ⟨o, _, _, rfl, rfl, by rw [upd_ne lo.symm]; exact ho, by rw [List.length_map]; exact small1000 (by omega), ?_⟩
        refine ⟨_, os ++ [ls[k]], ls.eraseIdx k, rfl, same_put (same_put sm nl) noH, by rw [upd_ne do', upd_ne dl]; exact hd', by rw [upd_same, List.map_append]; rfl, by rw [upd_ne lo, upd_same], ?_, by rw [List.length_eraseIdx_of_lt kl]; omega⟩
        rw [List.append_assoc]
        exact (List.Perm.append_left os (erase_perm ek2)).trans pm
    · rintro σ H' ⟨y4, os, ls, rfl, sm, hd', ho, hl, pm, len⟩
      rw [List.length_map, hdl] at len
      have z : ls = [] := List.eq_nil_of_length_eq_zero (by omega)
      subst z
      rw [List.append_nil] at pm
      exact ⟨_, rfl, q H' o os sm noH ho pm⟩
end
end Sm

set_option Elab.async false
set_option linter.all false
set_option maxRecDepth 100000
set_option maxHeartbeats 4000000
namespace Sm
open PySem PySem.Spec PyProof.Rows L2
abbrev sBo : Stmt := topS 26
def spBo (K : PySem.W.Frag) : Sp := fun vs H Q _ => ∃ (n : Nat) (e t : Addr) (as : List Addr) (es : List Pr) (os : List Int), vs = [.int n, .ref e, .ref t] ∧ n ≤ 60 ∧ SqL K H e (as.map V.ref) ∧ PairsAt K H as es ∧ (∀ q ∈ es, Okp n q) ∧ SqL K H t (os.map V.int) ∧ os.Perm (vxs n) ∧
  ∀ (H' : Hp) (r tb tp : Addr) (ps : List Addr), Same H H' → H' r = some (.tup [.ref tb, .ref tp]) → SqT K H' tb (ps.map V.ref) → TupsAt K H' ps (bagsO es os) → SqT K H' tp ((parsO es os).map V.int) → Q (.ref r) H'
section
variable {X : Cx}
theorem index_at {K : PySem.W.Frag} {o e : Expr} {apos cpos : Pos} {to : TE} {t : TA} (hK : X.K = K) (ho : PE X o to) (ha : PA X [e] t)
    (hbase : attributeBase o "index" X.env (eval o X.env) = eval o X.env := by rfl)
    (hfew : ((backTo cpos (starEach [e] X.env)).all (fun x => !x.1) && (backToKw cpos (keywordEach [] X.env)).all (fun x => x.1.isSome)
      && decide (([e] : List Expr).length + ([] : List Keyword).length + (if ([] : List Keyword).isEmpty then 0 else 1) < 30)) = true := by rfl)
    (hline : (apos.endLine == cpos.line) = true := by rfl) (hs : starEach [e] X.env = (false, eval e X.env) :: starEach [] X.env := by rfl) (hplain : (backTo cpos (starEach [] X.env)).any (·.1) = false := by rfl) :
    PE X (.Call (.Attribute o "index" apos) [e] [] cpos) (tBM K "list" (rIndex K) to t) := by
  subst hK
  exact pe_bm PySem.F.plainAttrs_list PySem.F.slot_list_index PySem.F.type_list_index mt_index ho ha hbase hfew hline hs hplain
end
theorem sqT_upK {K : PySem.W.Frag} {H : Hp} {p a : Addr} {o : HO} {kvs : List (Key × V)} {xs : List V} (hp : H p = some (.dK kvs)) (h : SqT K H a xs) : SqT K (upd H p o) a xs := by
  rcases h with (h | ⟨o', h⟩) | h
  · exact .inl (.inl (by rw [upd_ne (fun z => by rw [z, hp] at h; cases h)]; exact h))
  · exact .inl (.inr ⟨o', by rw [upd_ne (fun z => by rw [z, hp] at h; cases h)]; exact h⟩)
  · exact .inr h
theorem TupsAt.upK {K : PySem.W.Frag} {H : Hp} {p : Addr} {o : HO} {kvs : List (Key × V)} (hp : H p = some (.dK kvs)) : ∀ {as : List Addr} {cs : List (List Int)}, TupsAt K H as cs → TupsAt K (upd H p o) as cs
  | _, _, .nil => .nil
  | _, _, .cons h t => .cons (sqT_upK hp h) (TupsAt.upK hp t)
/-- what stands while the order is gone through -/
structure BoS (K : PySem.W.Frag) (n : Nat) (nd b1 p1 nb : Addr) (kvs : List (Key × V)) (bas : List Addr) (cs : List (List Int)) (prs : List Int) (p : Nat → List Int → Prop) (H : Hp) : Prop where
  hnd : H nd = some (.dK kvs)
  keys : kvs.map (·.1) = (vxs n).map Sum.inl
  kn : ∀ u : Nat, u < n → ∃ (a : Addr) (N : List Int), valV kvs (Sum.inl (u : Int) : Key) = some (.ref a) ∧ H a = some (.lst (N.map V.int)) ∧ a ≠ b1 ∧ a ≠ p1 ∧ p u N
  hb : H b1 = some (.lst (bas.map V.ref))
  pb : TupsAt K H bas cs
  hp : H p1 = some (.lst (prs.map V.int))
  hn : ∃ kvs2 : List (Key × V), H nb = some (.dK kvs2) ∧ kvs2.length ≤ cs.length
  bp : b1 ≠ p1
  nn : nd ≠ nb
theorem BoS.same {K : PySem.W.Frag} {n : Nat} {nd b1 p1 nb : Addr} {kvs : List (Key × V)} {bas : List Addr} {cs : List (List Int)} {prs : List Int} {p : Nat → List Int → Prop} {H H' : Hp} (s : Same H H') (h : BoS K n nd b1 p1 nb kvs bas cs prs p H) : BoS K n nd b1 p1 nb kvs bas cs prs p H' := by
  refine ⟨s _ _ h.hnd, h.keys, fun u hu => ?_, s _ _ h.hb, h.pb.same s, s _ _ h.hp, ?_, h.bp, h.nn⟩
  · obtain ⟨a, N, h1, h2, h3⟩ := h.kn u hu
    exact ⟨a, N, h1, s _ _ h2, h3⟩
  · obtain ⟨k2, h1, h2⟩ := h.hn
    exact ⟨k2, s _ _ h1, h2⟩
theorem BoS.imp {K : PySem.W.Frag} {n : Nat} {nd b1 p1 nb : Addr} {kvs : List (Key × V)} {bas : List Addr} {cs : List (List Int)} {prs : List Int} {p p' : Nat → List Int → Prop} {H : Hp} (h : BoS K n nd b1 p1 nb kvs bas cs prs p H) (hp : ∀ u N, u < n → p u N → p' u N) : BoS K n nd b1 p1 nb kvs bas cs prs p' H :=
  ⟨h.hnd, h.keys, fun u hu => by
    obtain ⟨a, N, h1, h2, h3, h4, h5⟩ := h.kn u hu
    exact ⟨a, N, h1, h2, h3, h4, hp u N hu h5⟩, h.hb, h.pb, h.hp, h.hn, h.bp, h.nn⟩
/-- a new list for one vertex -/
theorem BoS.put {K : PySem.W.Frag} {n : Nat} {nd b1 p1 nb : Addr} {kvs : List (Key × V)} {bas : List Addr} {cs : List (List Int)} {prs : List Int} {p p' : Nat → List Int → Prop} {H : Hp} (h : BoS K n nd b1 p1 nb kvs bas cs prs p H) {u : Nat} (hu : u < n) {l : Addr} {N : List Int}
    (hl : H l = some (.lst (N.map V.int))) (lb : l ≠ b1) (lp : l ≠ p1) (p1' : p' u N) (p2' : ∀ w N, w ≠ u → p w N → p' w N) :
    BoS K n nd b1 p1 nb (putK kvs (Sum.inl (u : Int)) (.ref l)) bas cs prs p' (upd H nd (.dK (putK kvs (Sum.inl (u : Int)) (.ref l)))) := by
  have ne : ∀ {b : Addr} {xs : List V}, H b = some (.lst xs) → b ≠ nd := fun {b xs} e z => by rw [z, h.hnd] at e; cases e
  have kin : (putK kvs (Sum.inl (u : Int) : Key) (.ref l)).map (·.1) = kvs.map (·.1) := by
    have hm : (kvs.any fun kv => decide (kv.1 = (Sum.inl (u : Int) : Key))) = true := by
      have z := valV_keys h.keys (u : Int)
      have e : decide ((u : Int) ∈ vxs n) = true := decide_eq_true (mem_vxs.mpr (by unfold Vx; omega))
      rw [e] at z
      unfold valV at z
      rw [Option.isSome_map, List.find?_isSome] at z
      obtain ⟨x, hx, hd⟩ := z
      exact List.any_eq_true.mpr ⟨x, hx, hd⟩
    unfold putK
    rw [if_pos hm, List.map_map]
    refine List.map_congr_left fun kv _ => ?_
    show (if kv.1 = (Sum.inl (u : Int) : Key) then (kv.1, V.ref l) else kv).1 = kv.1
    split <;> rfl
  refine ⟨upd_same, kin.trans h.keys, fun w hw => ?_, by rw [upd_ne (ne h.hb)]; exact h.hb, h.pb.upK h.hnd, by rw [upd_ne (ne h.hp)]; exact h.hp, ?_, h.bp, h.nn⟩
  · rw [valV_put]
    by_cases c : w = u
    · subst c
      rw [if_pos rfl]
      exact ⟨l, N, rfl, by rw [upd_ne (ne hl)]; exact hl, lb, lp, p1'⟩
    · rw [if_neg (fun z => c (by have := Sum.inl.inj z; omega))]
      obtain ⟨a, M, h1, h2, h3, h4, h5⟩ := h.kn w hw
      exact ⟨a, M, h1, by rw [upd_ne (ne h2)]; exact h2, h3, h4, p2' w M c h5⟩
  · obtain ⟨k2, h1, h2⟩ := h.hn
    exact ⟨k2, by rw [upd_ne h.nn.symm]; exact h1, h2⟩
theorem BoS.bag {K : PySem.W.Frag} {n : Nat} {nd b1 p1 nb : Addr} {kvs : List (Key × V)} {bas : List Addr} {cs : List (List Int)} {prs : List Int} {p : Nat → List Int → Prop} {H : Hp} (h : BoS K n nd b1 p1 nb kvs bas cs prs p H) {T : Addr} {c : List Int} (hT : SqT K H T (c.map V.int))
    {k2 : List (Key × V)} (h2 : H nb = some (.dK k2)) (hl : k2.length ≤ cs.length) (k : Key) (v : V) (bnb : b1 ≠ nb) :
    BoS K n nd b1 p1 nb kvs (bas ++ [T]) (cs ++ [c]) prs p (upd (upd H b1 (.lst (bas.map V.ref ++ [.ref T]))) nb (.dK (putK k2 k v))) := by
  have nnb : ∀ {b : Addr} {xs : List V}, H b = some (.lst xs) → b ≠ nb := fun {b xs} e z => by rw [z, h2] at e; cases e
  have ndb : nd ≠ b1 := fun z => by have e := h.hb; rw [← z, h.hnd] at e; cases e
  have hnb' : (upd H b1 (.lst (bas.map V.ref ++ [.ref T]))) nb = some (.dK k2) := by rw [upd_ne bnb.symm]; exact h2
  have bt : But b1 H (upd H b1 (.lst (bas.map V.ref ++ [.ref T]))) := (Same.but (Same.refl H)).put
  refine ⟨by rw [upd_ne h.nn, upd_ne ndb]; exact h.hnd, h.keys, fun u hu => ?_, by rw [upd_ne bnb, upd_same, List.map_append]; rfl, ?_, by rw [upd_ne (nnb h.hp), upd_ne h.bp.symm]; exact h.hp, ⟨_, upd_same, ?_⟩, h.bp, h.nn⟩
  · obtain ⟨a, N, e1, e2, e3, e4, e5⟩ := h.kn u hu
    exact ⟨a, N, e1, by rw [upd_ne (nnb e2), upd_ne e3]; exact e2, e3, e4, e5⟩
  · exact (TupsAt.snoc (bt.sqTl h.hb hT) (h.pb.but bt h.hb)).upK hnb'
  · have := length_putK k2 k v
    rw [List.length_append, List.length_singleton]
    omega
theorem BoS.par {K : PySem.W.Frag} {n : Nat} {nd b1 p1 nb : Addr} {kvs : List (Key × V)} {bas : List Addr} {cs : List (List Int)} {prs : List Int} {p : Nat → List Int → Prop} {H : Hp} (h : BoS K n nd b1 p1 nb kvs bas cs prs p H) (x : Int) :
    BoS K n nd b1 p1 nb kvs bas cs (prs ++ [x]) p (upd H p1 (.lst (prs.map V.int ++ [.int x]))) := by
  have bt : But p1 H (upd H p1 (.lst (prs.map V.int ++ [.int x]))) := (Same.but (Same.refl H)).put
  refine ⟨by rw [upd_ne (fun z => by have e := h.hp; rw [← z, h.hnd] at e; cases e)]; exact h.hnd, h.keys, fun u hu => ?_, by rw [upd_ne h.bp]; exact h.hb, h.pb.but bt h.hp, by rw [upd_same, List.map_append]; rfl, ?_, h.bp, h.nn⟩
  · obtain ⟨a, N, e1, e2, e3, e4, e5⟩ := h.kn u hu
    exact ⟨a, N, e1, by rw [upd_ne e4]; exact e2, e3, e4, e5⟩
  · obtain ⟨k2, h1, h2⟩ := h.hn
    exact ⟨k2, by rw [upd_ne (fun z => by have e := h.hp; rw [← z, h1] at e; cases e)]; exact h1, h2⟩
theorem rev_map {α : Type} (n : Nat) (f : Nat → α) : ((List.range n).map f).reverse = (List.range n).map fun i => f (n - 1 - i) := by
  refine List.ext_getElem? fun i => ?_
  by_cases h : i < n
  · rw [List.getElem?_reverse (by rw [List.length_map, List.length_range]; exact h), List.length_map, List.length_range, List.getElem?_map, List.getElem?_map, List.getElem?_range h, List.getElem?_range (by omega)]
    rfl
  · rw [List.getElem?_eq_none (by rw [List.length_reverse, List.length_map, List.length_range]; omega), List.getElem?_eq_none (by rw [List.length_map, List.length_range]; omega)]
theorem cut_drop1 {xs : List V} : cutV xs (some 1) none = xs.drop 1 := by
  unfold cutV
  have e : HT.sIx xs.length 0 (some 1) = min 1 xs.length := HT.sIx_nat _ _ 1
  rw [e, HT.sIx_none]
  by_cases h : 1 ≤ xs.length
  · rw [Nat.min_eq_left h, List.take_of_length_le (by rw [List.length_drop]; exact Nat.le_refl _)]
  · have z : xs = [] := List.eq_nil_of_length_eq_zero (by omega)
    subst z
    rfl
end Sm

set_option Elab.async false
set_option linter.all false
set_option maxRecDepth 100000
set_option maxHeartbeats 8000000
namespace Sm
open PySem PySem.Spec PyProof.Rows L2
theorem vxs_succ (u : Nat) : vxs (u + 1) = vxs u ++ [(u : Int)] := by
  unfold vxs
  rw [List.range_succ, List.map_append]
  rfl
theorem nodup_take {os : List Int} (nd : os.Nodup) {i : Nat} {v : Int} (h : os[i]? = some v) : v ∉ os.take i := fun z => by
  rw [← List.take_append_drop (i + 1) os, L2.take_next h] at nd
  exact absurd rfl ((List.nodup_append.mp (List.nodup_append.mp nd).1).2.2 _ z _ (List.mem_singleton.mpr rfl))
theorem pl_index {os : List Int} {v : Int} (hv : v ∈ os) : ∃ j : Nat, plF os v = j ∧ (os.map V.int)[j]? = some (.int v) ∧ ∀ (m : Nat) (z' : V), m < j → (os.map V.int)[m]? = some z' → eqV z' (.int v) = false := by
  have l1 := List.idxOf_lt_length_iff.mpr hv
  have e1 : os[os.idxOf v] = v := List.getElem_idxOf l1
  refine ⟨os.idxOf v, rfl, by rw [List.getElem?_map, List.getElem?_eq_getElem l1, e1]; rfl, fun m z' hm hz => ?_⟩
  rw [List.getElem?_map] at hz
  cases ek : os[m]? with
  | none => rw [ek] at hz; cases hz
  | some y =>
    rw [ek] at hz
    cases hz
    have ne : y ≠ v := fun z => by
      subst z
      obtain ⟨h3, h4⟩ := List.getElem?_eq_some_iff.mp ek
      have h5 := List.not_of_lt_findIdx (p := (· == y)) (xs := os) (i := m) hm
      rw [h4] at h5
      simp at h5
    show (y == v) = false
    exact beq_eq_false_iff_ne.mpr ne
theorem tups_rev {K : PySem.W.Frag} {H : Hp} : ∀ {as : List Addr} {cs : List (List Int)}, TupsAt K H as cs → TupsAt K H as.reverse cs.reverse
  | _, _, .nil => .nil
  | _, _, .cons h t => by
    rw [List.reverse_cons, List.reverse_cons]
    exact TupsAt.snoc h (tups_rev t)
/-- no number twice in a row: what is left of an ascending list -/
structure Dd (xs : List Int) (k : Nat) (res : List Int) : Prop where
  srt : res.Pairwise (· < ·)
  mem : ∀ y, y ∈ res ↔ y ∈ xs.take k
theorem Dd.more {xs res : List Int} {k : Nat} {x : Int} (le : xs.Pairwise (· ≤ ·)) (h : xs[k]? = some x) (d : Dd xs k res) (hx : k = 0 ∨ ∃ y, xs[k - 1]? = some y ∧ x ≠ y) : Dd xs (k + 1) (res ++ [x]) := by
  have tk := L2.take_next h
  have ord : ∀ (i j : Nat) (a b : Int), i ≤ j → xs[i]? = some a → xs[j]? = some b → a ≤ b := fun i j a b hij ha hb => by
    rcases Nat.lt_or_ge i j with lt | ge
    · obtain ⟨l1, e1⟩ := List.getElem?_eq_some_iff.mp ha
      obtain ⟨l2, e2⟩ := List.getElem?_eq_some_iff.mp hb
      have := List.pairwise_iff_getElem.mp le i j l1 l2 lt
      rw [e1, e2] at this
      exact this
    · have e : i = j := by omega
      subst e
      rw [ha] at hb
      cases hb
      exact Int.le_refl _
  have lt : ∀ y ∈ xs.take k, y < x := fun y hy => by
    obtain ⟨i, hi, e⟩ := List.getElem_of_mem hy
    rw [List.length_take] at hi
    rw [List.getElem_take] at e
    have ei : xs[i]? = some y := by rw [List.getElem?_eq_getElem (by omega), e]
    rcases hx with hx | ⟨z, hz, ne⟩
    · omega
    · have a := ord i (k - 1) y z (by omega) ei hz
      have b := ord (k - 1) k z x (by omega) hz h
      omega
  refine ⟨List.pairwise_append.mpr ⟨d.srt, by simp, fun a ha b hb => ?_⟩, fun y => ?_⟩
  · rw [List.mem_singleton.mp hb]
    exact lt a ((d.mem a).mp ha)
  · rw [tk, List.mem_append, List.mem_append, d.mem]
theorem Dd.skip {xs res : List Int} {k : Nat} {x : Int} (h : xs[k]? = some x) (d : Dd xs k res) (hk : 0 < k) (hx : xs[k - 1]? = some x) : Dd xs (k + 1) res := by
  refine ⟨d.srt, fun y => ?_⟩
  rw [d.mem, L2.take_next h, List.mem_append, List.mem_singleton]
  refine ⟨.inl, fun z => z.elim id fun e => ?_⟩
  rw [e]
  refine List.mem_of_getElem? (i := k - 1) ?_
  rw [List.getElem?_take, if_pos (by omega)]
  exact hx
section
variable {P : Program} {w : World} {K : PySem.W.Frag} {mg : Str → Option Value} {base : Heap}
abbrev boN : List Str := ["size", "edges", "order", "near", "u", "v", "bags", "parents", "numbers", "at", "around", "turned", "w", "k", "one"]
theorem scBo : FnScope boN ["size", "edges", "order"] (defScope sBo) := ⟨rfl, rfl, rfl, by decide +kernel, rfl, by decide +kernel, by decide +kernel⟩
theorem ok_bo {f : Addr} {fd : FuncData} (F : Fun K "_law_by_order" "_law_by_order" sBo f fd) (mr : mg "range" = none) (mi : mg "min" = none) (mx : mg "max" = none) (mt : mg "tuple" = none) (ms : mg "sorted" = none) (ml : mg "len" = none) :
    FnOk P w K mg base CX0 1 f fd ["size", "edges", "order"] (spBo K) := by
  refine F.ok scBo (fun vs H Q E h => ?_) (fun cdv A outer s H vs Q E hr h => ?_)
  · obtain ⟨n, e, t, as, es, os, rfl, _⟩ := h
    rfl
  · obtain ⟨n, e, t, as, es, os, rfl, hn, hE, hP, ok, hT, pm, q⟩ := h
    have hu := hu_of hr
    have hu64 : _ + 64 < cLine := hr.units
    have toNat : ((n : Nat) : Int).toNat = n := by omega
    obtain ⟨vxo, ndo, lo⟩ := vx_perm pm
    refine ⟨_, pss_cons (ps_set (i := 3) scBo.nd rfl (.inr rfl) pe_dnewK)
      (pss_cons (ps_for PassesOwn.never rfl (pi_range1 rfl mr (pa_cons (pv 0) pa_nil)) (pg_name (i := 4) scBo.nd rfl (.inr rfl))
        (pss_one (ps_dput hu (pv 3) (pv 4) (pe_lc (own := [("v", 5)]) (g := gName 5) (by rfl) scBo.nd (pi_range1 rfl mr (pa_cons (pv 0) pa_nil)) (blkOk_by (own := [("v", 5)]) (N := boN) (sc := defScope sBo) (by decide +kernel)) (fun _ _ _ _ _ => pg_name (i := 5) scBo.nd rfl (Or.inl rfl))
            (fun _ _ _ _ _ => pts_one (pt_cmpR (inD_at rfl rfl (u65 hr)) (pe_tup (pa_cons (pe_callB (call_min2 rfl) (by rfl) mi (by decide +kernel) (pa_cons (pv 4) (pa_cons (pv 5) pa_nil))) (pa_cons (pe_callB (call_max2 rfl) (by rfl) mx (by decide +kernel) (pa_cons (pv 4) (pa_cons (pv 5) pa_nil))) pa_nil))) (pv 1) (by rfl)))
            (fun _ _ _ _ _ => pv 5)) rfl)))
      (pss_cons (ps_par3 (i := 6) (j := 7) (l := 8) (by rfl) scBo.nd rfl rfl rfl (by decide) (by decide) (by decide) rfl rfl rfl (pa_cons (pe_lst pa_nil) (pa_cons (pe_lst pa_nil) (pa_cons pe_dnewK pa_nil))) (by rfl))
      (pss_cons (ps_for PassesOwn.never rfl (pi_range1 rfl mr (pa_cons (pv 0) pa_nil)) (pg_name (i := 9) scBo.nd rfl (.inl rfl))
        (pss_cons (ps_set (i := 5) scBo.nd rfl (.inr rfl) (pe_ix ix_list (pv 2) (pv 9) (fun _ _ => rfl)))
        (pss_cons (ps_set (i := 10) scBo.nd rfl (.inl rfl) (pe_dget hu (pv 3) (pv 5) (fun _ _ => rfl)))
        (pss_cons (ps_expr (pe_bm PySem.F.plainAttrs_list PySem.F.slot_list_append PySem.F.type_list_append mt_append (pv 6) (pa_cons (pe_callTy call_tuple_of (by rfl) mt (by decide +kernel) (pa_cons (pe_callB cr_sortedI (by rfl) ms (by decide +kernel) (pa_cons (pe_op op_cat (pv 10) (pe_lst (pa_cons (pv 5) pa_nil))) pa_nil)) pa_nil)) pa_nil)))
        (pss_cons (ps_dput hu (pv 8) (pv 5) (pv 9) rfl)
        (pss_cons (ps_for PassesOwn.never rfl (pi_list (pv 10)) (pg_name (i := 4) scBo.nd rfl (.inr rfl))
          (pss_cons (ps_dput hu (pv 3) (pv 4) (pe_callB cr_sortedI (by rfl) ms (by decide +kernel) (pa_cons (pe_lc (own := [("w", 12)]) (g := gName 12) (by rfl) scBo.nd (pi_list (pe_op op_cat (pe_dget hu (pv 3) (pv 4) (fun _ _ => rfl)) (pv 10))) (blkOk_by (own := [("w", 12)]) (N := boN) (sc := defScope sBo) (by decide +kernel)) (fun _ _ _ _ _ => pg_name (i := 12) scBo.nd rfl (Or.inl rfl))
              (fun _ _ _ _ _ => pts_one (pt_cmpR (notInS_at rfl) (pv 12) (pe_tup (pa_cons (pv 4) (pa_cons (pv 5) pa_nil))) (by rfl))) (fun _ _ _ _ _ => pv 12)) pa_nil)) rfl)
          (pss_one (ps_dput hu (pv 3) (pv 4) (pe_lc (own := [("k", 13)]) (g := gName 13) (by rfl) scBo.nd (pi_range1 rfl mr (pa_cons (pe_callB call_len_seq (by rfl) ml PySem.boot_len (pa_cons (pe_dget hu (pv 3) (pv 4) (fun _ _ => rfl)) pa_nil)) pa_nil)) (blkOk_by (own := [("k", 13)]) (N := boN) (sc := defScope sBo) (by decide +kernel)) (fun _ _ _ _ _ => pg_name (i := 13) scBo.nd rfl (Or.inl rfl))
              (fun _ _ _ _ _ => pts_one (PW.pt (pw_or (pt_cmpR op_eq (pv 13) pe_int (nomark _)) (pw_or1 (pt_cmpR op_ne (pe_ix (ix_at (K := K) rfl) (pe_dget hu (pv 3) (pv 4) (fun _ _ => rfl)) (pv 13) (fun _ _ => rfl)) (pe_ix (ix_at (K := K) rfl) (pe_dget hu (pv 3) (pv 4) (fun _ _ => rfl)) (pe_op op_sub (pv 13) pe_int) (fun _ _ => rfl)) (by rfl))))))
              (fun _ _ _ _ _ => pe_ix (ix_at (K := K) rfl) (pe_dget hu (pv 3) (pv 4) (fun _ _ => rfl)) (pv 13) (fun _ _ => rfl))) rfl))))
        (pss_one (ps_expr (pe_bm PySem.F.plainAttrs_list PySem.F.slot_list_append PySem.F.type_list_append mt_append (pv 7) (pa_cons (pe_minD (by rfl) mi (by rfl) hu64
            (pa_cons (pe_lc (own := [("u", 4)]) (g := gName 4) (by rfl) scBo.nd (pi_list (pv 10)) (blkOk_by (own := [("u", 4)]) (N := boN) (sc := defScope sBo) (by decide +kernel)) (fun _ _ _ _ _ => pg_name (i := 4) scBo.nd rfl (Or.inl rfl)) (fun _ _ _ _ _ => pts_nil) (fun _ _ _ _ _ => index_at (K := K) rfl (pv 2) (pa_cons (pv 4) pa_nil))) pa_nil)
            (pk_cons (pe_op op_sub (pv 0) pe_int) pk_nil)) pa_nil))))))))))
      (pss_cons (ps_if (pt_cmpR op_eq (pv 0) pe_int (nomark _)) (pss_one (ps_ret (pe_tup (pa_cons (pe_tup (pa_cons (pe_tup pa_nil) pa_nil)) (pa_cons (pe_tup (pa_cons (pe_un un_neg pe_int) pa_nil)) pa_nil))))) pss_nil)
      (pss_cons (ps_set (i := 11) scBo.nd rfl (.inl rfl) (pe_callTy call_tuple_of (by rfl) mt (by decide +kernel) (pa_cons (pe_lc (own := [("one", 14)]) (g := gName 14) (by rfl) scBo.nd (pi_list (pe_revL (pv 7))) (blkOk_by (own := [("one", 14)]) (N := boN) (sc := defScope sBo) (by decide +kernel)) (fun _ _ _ _ _ => pg_name (i := 14) scBo.nd rfl (Or.inl rfl)) (fun _ _ _ _ _ => pts_nil)
          (fun _ _ _ _ _ => pe_op op_sub (pe_op op_sub (pv 0) pe_int) (pv 14))) pa_nil)))
      (pss_one (ps_ret (pe_tup (pa_cons (pe_callTy call_tuple_of (by rfl) mt (by decide +kernel) (pa_cons (pe_revL (pv 6)) pa_nil)) (pa_cons (pe_op op_catA (pe_tup (pa_cons (pe_un un_neg pe_int) pa_nil)) (pe_slice sl_tupA (pv 11) (po_some pe_int) po_none)) pa_nil)))))))))), ?_⟩
    intro nd nnd
    have s1 := same_upd (o := .dK []) nnd
    refine ⟨_, rfl, n, rfl, by omega, by omega, ?_⟩
    rw [toNat]
    have RO : RelOk n (r0 es) := relOk ok (fun _ => 0) 0
    refine for_range (lo := 0) (n := n) (fun u σ H' => ∃ (y4 : Option V) (kvs : List (Key × V)), σ = [some (.int n), some (.ref e), some (.ref t), some (.ref nd), y4, none, none, none, none, none, none, none, none, none, none] ∧ Same H H' ∧ H' nd = some (.dK kvs) ∧ kvs.map (·.1) = (vxs u).map Sum.inl ∧
      ∀ w : Nat, w < u → ∃ a, valV kvs (Sum.inl (w : Int) : Key) = some (.ref a) ∧ H' a = some (.lst ((nearR n (r0 es) w).map V.int)))
      ⟨none, [], rfl, s1, upd_same, rfl, fun w hw => by omega⟩ ?_ ?_
    · rintro u σ H' hu2 ⟨y4, kvs, rfl, sm, hnd, hk, hv⟩
      have e0 : (0 : Int) + (u : Int) = (u : Int) := by omega
      rw [e0]
      refine ⟨_, rfl, n, rfl, by omega, by omega, fun D nD => ?_⟩
      rw [toNat]
      have Dnd : D ≠ nd := fun z => by rw [z, hnd] at nD; cases nD
      refine lc_range (lo := 0) (n := n) (fun m H7 => Same H' H7 ∧ H7 D = some (.lst ((((vxs n).take m).filter fun v => decide ((if v < (u : Int) then v else (u : Int), if v > (u : Int) then v else (u : Int)) ∈ es)).map V.int))) ⟨same_upd nD, upd_same⟩ ?_ ?_
      · rintro m H7 hm ⟨s7, hD⟩
        have e1 : (0 : Int) + (m : Int) = (m : Int) := by omega
        rw [e1]
        have sH7 := sm.trans s7
        have ek : (vxs n)[m]? = some (m : Int) := by
          unfold vxs
          rw [List.getElem?_map, List.getElem?_range hm]
          rfl
        have vl : (vxs n).length ≤ n := by unfold vxs; rw [List.length_map, List.length_range]; exact Nat.le_refl _
        refine ⟨rfl, _, rfl, _, rfl, _, _, rfl, _, rfl, _, rfl, _, _, rfl, (by show 2 ≤ sizeLine; decide), fun T nT => ?_⟩
        have st := same_upd (o := .tup [V.int (if (m : Int) < (u : Int) then (m : Int) else (u : Int)), V.int (if (m : Int) > (u : Int) then (m : Int) else (u : Int))]) nT
        refine ⟨_, rfl, pD (if (m : Int) < (u : Int) then (m : Int) else (u : Int), if (m : Int) > (u : Int) then (m : Int) else (u : Int)), es.map pD, dp_pair (SqT.of upd_same), .lst ((sH7.trans st).seq hE) (dp_pairs (hP.same (sH7.trans st))), pD_shaped _, pDs_shapedL _, _, rfl, ?_⟩
        rw [pDs_any]
        by_cases c : (if (m : Int) < (u : Int) then (m : Int) else (u : Int), if (m : Int) > (u : Int) then (m : Int) else (u : Int)) ∈ es
        · rw [decide_eq_true c]
          refine iteT ⟨_, rfl, _, st _ _ hD, flt_few vl (by omega), same_put (s7.trans st) nD, ?_⟩
          rw [upd_same, flt_take ek, if_pos (decide_eq_true c), List.map_append]
          rfl
        · rw [decide_eq_false c]
          refine iteF ⟨s7.trans st, ?_⟩
          rw [flt_take ek, decide_eq_false c]
          simp only [Bool.false_eq_true, if_false, List.append_nil]
          exact st _ _ hD
      · rintro H7 ⟨s7, hD⟩
        have vl : (vxs n).length = n := by unfold vxs; rw [List.length_map, List.length_range]
        rw [List.take_of_length_le (by omega), lnear_R ok] at hD
        have hnd7 := s7 _ _ hnd
        have lk : kvs.length = u := by
          have z := congrArg List.length hk
          rw [List.length_map, List.length_map] at z
          unfold vxs at z
          rw [List.length_map, List.length_range] at z
          exact z
        have nin : (u : Int) ∉ vxs u := fun z => by
          have := mem_vxs.mp z
          unfold Vx at this
          omega
        refine ⟨_, rfl, _, rfl, nd, _, rfl, DPut.k (k := Sum.inl (u : Int)) hnd7 (small1000 (by omega)), ?_⟩
        refine ⟨_, _, rfl, same_put (sm.trans s7) nnd, upd_same, ?_, fun w hw => ?_⟩
        · rw [putK_keys hk nin, vxs_succ]
        · rw [valV_put]
          by_cases c : w = u
          · subst c
            rw [if_pos rfl]
            exact ⟨D, rfl, by rw [upd_ne Dnd]; exact hD⟩
          · rw [if_neg (fun z => c (by have := Sum.inl.inj z; omega))]
            obtain ⟨a, h1, h2⟩ := hv w (by omega)
            have ha := s7 _ _ h2
            exact ⟨a, h1, by rw [upd_ne (fun z => by rw [z, hnd7] at ha; cases ha)]; exact ha⟩
    rintro σ H2 ⟨y4, kvs0, rfl, sm2, hnd2, hk0, hv0⟩
    refine ⟨Nat.zero_le _, fun b1 nb1 => ⟨Nat.zero_le _, fun p1 np1 => fun nb nnb => ⟨_, _, _, rfl, ?_⟩⟩⟩
    have u1 := same_upd (o := .lst []) nb1
    have u2 := same_upd (o := .lst []) np1
    have u3 := same_upd (o := .dK []) nnb
    have bp : b1 ≠ p1 := fun z => by rw [← z, upd_same] at np1; cases np1
    have bnb : b1 ≠ nb := fun z => by rw [← z, u2 _ _ upd_same] at nnb; cases nnb
    have pnb : p1 ≠ nb := fun z => by rw [← z, upd_same] at nnb; cases nnb
    have ndnb : nd ≠ nb := fun z => by rw [← z, u2 _ _ (u1 _ _ hnd2)] at nnb; cases nnb
    have nb1H : H b1 = none := sm2.free nb1
    have np1H : H p1 = none := sm2.free (u1.free np1)
    have nnbH : H nb = none := sm2.free (u1.free (u2.free nnb))
    have sm3 := sm2.trans (u1.trans (u2.trans u3))
    have B0 : BoS K n nd b1 p1 nb kvs0 [] [] [] (fun u N => Alv n os 0 u → N = nearR n (relT es (ordF os) 0) u) (upd (upd (upd H2 b1 (.lst [])) p1 (.lst [])) nb (.dK [])) := by
      refine ⟨u3 _ _ (u2 _ _ (u1 _ _ hnd2)), hk0, fun u hu => ?_, u3 _ _ (u2 _ _ upd_same), .nil, u3 _ _ upd_same, ⟨[], upd_same, Nat.le_refl _⟩, bp, ndnb⟩
      obtain ⟨a, h1, h2⟩ := hv0 u hu
      refine ⟨a, _, h1, u3 _ _ (u2 _ _ (u1 _ _ h2)), (fun z => by rw [z, nb1] at h2; cases h2), (fun z => by have y := u1.free np1; rw [z, y] at h2; cases h2), fun _ => rfl⟩
    generalize (upd (upd (upd H2 b1 (.lst [])) p1 (.lst [])) nb (.dK [])) = H3 at sm3 B0 ⊢
    refine ⟨_, rfl, n, rfl, by omega, by omega, ?_⟩
    rw [toNat]
    refine for_range (lo := 0) (n := n) (fun i σ H' => ∃ (y4 y5 y9 y10 : Option V) (kvs : List (Key × V)) (bas : List Addr), σ = [some (.int n), some (.ref e), some (.ref t), some (.ref nd), y4, y5, some (.ref b1), some (.ref p1), some (.ref nb), y9, y10, none, none, none, none] ∧ Same H H' ∧
      BoS K n nd b1 p1 nb kvs bas ((List.range i).map fun t => bagT n es (ordF os) t) ((List.range i).map fun t => minT n es (ordF os) (plF os) t) (fun u N => Alv n os i u → N = nearR n (relT es (ordF os) i) u) H')
      ⟨_, none, none, none, kvs0, [], rfl, sm3, B0⟩ ?_ ?_
    · rintro i σ H' hi ⟨y4, y5, y9, y10, kvs, bas, rfl, sm, B⟩
      have e0 : (0 : Int) + (i : Int) = (i : Int) := by omega
      rw [e0]
      have eo : os[i]? = some os[i] := List.getElem?_eq_getElem (by omega)
      generalize os[i] = v at eo
      have vv := vxo v (List.mem_of_getElem? eo)
      obtain ⟨v, rfl⟩ : ∃ k : Nat, v = k := ⟨v.toNat, by unfold Vx at vv; omega⟩
      have hv : v < n := by unfold Vx at vv; omega
      have ov : ordF os i = (v : Int) := ord_at eo
      have gov : (os.map V.int)[i]? = some (.int (v : Int)) := by rw [List.getElem?_map, eo]; rfl
      have tk := L2.take_next eo
      have vnt := nodup_take ndo eo
      have alv : Alv n os i v := ⟨vv, vnt⟩
      have RI := relOk ok (ordF os) i
      have O : Ord n (ordF os) := by have z := ord_of (os := os) (by rw [lo]; exact pm); rw [lo] at z; exact z
      have alS : ∀ w, Alv n os (i + 1) w ↔ Alv n os i w ∧ w ≠ v := fun w => by
        unfold Alv
        rw [tk, List.mem_append, List.mem_singleton, not_or, and_assoc]
      have frel : relT es (ordF os) (i + 1) = elim (relT es (ordF os) i) v := by
        show elim (relT es (ordF os) i) (ordF os i) = _
        rw [ov]
      obtain ⟨av, A, ha1, ha2, ha3, ha4, ha5⟩ := B.kn v hv
      have eA := ha5 alv
      have Amem : ∀ w, w ∈ A ↔ relT es (ordF os) i v w = true := fun w => by rw [eA, mem_nearR RI]
      have Alt : A.Pairwise (· < ·) := by rw [eA]; exact nearR_lt n _ _
      have And : A.Nodup := List.Pairwise.imp (fun {a b} h e => by omega) Alt
      have Al : A.length ≤ n := by rw [eA]; exact nearR_len n _ _
      have eAT : A = arT n es (ordF os) i := by
        rw [eA]
        unfold arT nearR
        rw [ov]
      have gv : DGet H' nd (kV (Sum.inl (v : Int))) (some (.ref av)) := by
        have z := DGet.k (k := Sum.inl (v : Int)) B.hnd
        rw [ha1] at z
        exact z
      refine ⟨_, rfl, _, rfl, t, _, i, _, rfl, rfl, sm.seq hT, at_nat gov, ?_⟩
      refine ⟨_, rfl, _, rfl, nd, _, rfl, gv, ?_⟩
      refine ⟨_, rfl, .inl ⟨rfl, _, SqL.of B.hb⟩, _, rfl, _, rfl, (by show 1 ≤ sizeLine; decide), fun L1 nL1 => ?_⟩
      have w1 := same_upd (o := .lst [V.int (v : Int)]) nL1
      refine ⟨av, L1, _, _, rfl, rfl, w1 _ _ ha2, upd_same, ?_, fun L2a nL2 => ?_⟩
      · rw [List.length_map, List.length_singleton, sizeLine_eq]
        omega
      have w2 := same_upd (o := .lst (A.map V.int ++ [V.int (v : Int)])) nL2
      have hL2 : (upd (upd H' L1 (.lst [V.int (v : Int)])) L2a (.lst (A.map V.int ++ [V.int (v : Int)]))) L2a = some (.lst ((A ++ [(v : Int)]).map V.int)) := by rw [upd_same, List.map_append]; rfl
      refine ⟨L2a, _, rfl, SqL.of hL2, fun ns l2 pn le nl2 => ⟨l2, _, rfl, .inl ⟨SqL.of upd_same, fun T nT => ?_⟩⟩⟩
      have w3 := same_upd (o := .lst (ns.map V.int)) nl2
      have w4 := same_upd (o := .tup (ns.map V.int)) nT
      have hT9 : (upd (upd (upd (upd H' L1 (.lst [V.int (v : Int)])) L2a (.lst (A.map V.int ++ [V.int (v : Int)]))) l2 (.lst (ns.map V.int))) T (.tup (ns.map V.int))) T = some (.tup (ns.map V.int)) := upd_same
      have w5 := w1.trans (w2.trans (w3.trans w4))
      generalize (upd (upd (upd (upd H' L1 (.lst [V.int (v : Int)])) L2a (.lst (A.map V.int ++ [V.int (v : Int)]))) l2 (.lst (ns.map V.int))) T (.tup (ns.map V.int))) = H7 at hT9 w5 ⊢
      have vA : (v : Int) ∉ A := fun z => by have := (Amem _).mp z; rw [RI.irr] at this; cases this
      have nsn : ns.Nodup := pn.nodup_iff.mpr (List.nodup_append.mpr ⟨And, by simp, fun a ha b hb e9 => by rw [List.mem_singleton.mp hb] at e9; exact vA (e9 ▸ ha)⟩)
      have nse : ns = bagT n es (ordF os) i := lt_ext (lt_of_le le nsn) ((vxs_lt n).filter _) fun k => by
        rw [pn.mem_iff, List.mem_append, List.mem_singleton, mem_bagT ok O hi, ov, Amem, or_comm]
      have B7 := B.same w5
      obtain ⟨k2, hk2, hl2⟩ := B7.hn
      rw [List.length_map, List.length_range] at hl2
      have bl : bas.length = i := by rw [B.pb.length, List.length_map, List.length_range]
      refine ⟨b1, _, _, rfl, rfl, B7.hb, by rw [List.length_map]; exact small1000 (by omega), ?_⟩
      have hnb8 : (upd H7 b1 (.lst (bas.map V.ref ++ [.ref T]))) nb = some (.dK k2) := by rw [upd_ne bnb.symm]; exact hk2
      refine ⟨_, rfl, _, rfl, _, rfl, nb, _, rfl, DPut.k (k := Sum.inl (v : Int)) hnb8 (small1000 (by omega)), ?_⟩
      have sm9 : Same H (upd (upd H7 b1 (.lst (bas.map V.ref ++ [.ref T]))) nb (.dK (putK k2 (Sum.inl (v : Int)) (.int (i : Int))))) := same_put (same_put (sm.trans w5) nb1H) nnbH
      have B9 : BoS K n nd b1 p1 nb kvs (bas ++ [T]) ((List.range (i + 1)).map fun t => bagT n es (ordF os) t) ((List.range i).map fun t => minT n es (ordF os) (plF os) t) (fun u N => Alv n os i u → N = nearR n (relT es (ordF os) i) u) (upd (upd H7 b1 (.lst (bas.map V.ref ++ [.ref T]))) nb (.dK (putK k2 (Sum.inl (v : Int)) (.int (i : Int))))) := by
        have z := B7.bag (SqT.of hT9) hk2 (by rw [List.length_map, List.length_range]; exact hl2) (Sum.inl (v : Int)) (.int (i : Int)) bnb
        rw [List.range_succ, List.map_append, List.map_singleton, ← nse]
        exact z
      have hav9 : (upd (upd H7 b1 (.lst (bas.map V.ref ++ [.ref T]))) nb (.dK (putK k2 (Sum.inl (v : Int)) (.int (i : Int))))) av = some (.lst (A.map V.int)) := by
        have h7 := w5 _ _ ha2
        rw [upd_ne (fun z => by rw [z, hk2] at h7; cases h7), upd_ne ha3]
        exact h7
      generalize (upd (upd H7 b1 (.lst (bas.map V.ref ++ [.ref T]))) nb (.dK (putK k2 (Sum.inl (v : Int)) (.int (i : Int))))) = H9 at sm9 B9 hav9 ⊢
      refine ⟨_, rfl, av, rfl, ⟨_, SqL.of hav9⟩, for_list (K := K) (a := av) (xs := A.map V.int) (fun j σ H10 => ∃ (y4 : Option V) (kvs : List (Key × V)), σ = [some (.int n), some (.ref e), some (.ref t), some (.ref nd), y4, some (.int (v : Int)), some (.ref b1), some (.ref p1), some (.ref nb), some (.int (i : Int)), some (.ref av), none, none, none, none] ∧ Same H H10 ∧ H10 av = some (.lst (A.map V.int)) ∧
        BoS K n nd b1 p1 nb kvs (bas ++ [T]) ((List.range (i + 1)).map fun t => bagT n es (ordF os) t) ((List.range i).map fun t => minT n es (ordF os) (plF os) t) (fun u N => Alv n os i u → u ≠ v → N = if (u : Int) ∈ A.take j then nearR n (relT es (ordF os) (i + 1)) u else nearR n (relT es (ordF os) i) u) H10)
        ⟨_, kvs, rfl, sm9, hav9, B9.imp fun u N _ h au _ => by rw [List.take_zero, if_neg (by simp)]; exact h au⟩ (fun j σ H10 _ ⟨_, _, _, _, h, _⟩ => SqL.of h) ?_ ?_⟩
      · rintro j x σ H10 hx10 ⟨y4, kvs, rfl, sm10, hav, B⟩
        rw [List.getElem?_map] at hx10
        cases eu : A[j]? with
        | none => rw [eu] at hx10; cases hx10
        | some u =>
          rw [eu] at hx10
          cases hx10
          have uA := List.mem_of_getElem? eu
          have Rvu := (Amem _).mp uA
          have vu := (RI.vx _ _ Rvu).2
          obtain ⟨u, rfl⟩ : ∃ k : Nat, u = k := ⟨u.toNat, by unfold Vx at vu; omega⟩
          have hu2 : u < n := by unfold Vx at vu; omega
          have uv : u ≠ v := fun z => by rw [z, RI.irr] at Rvu; cases Rvu
          have nut := nodup_take And eu
          have aLu : Alv n os i u := ⟨vu, (dead_at (n := n) Rvu (by omega)).2⟩
          obtain ⟨ua, N, h1, h2, h3, h4, h5⟩ := B.kn u hu2
          have eN : N = nearR n (relT es (ordF os) i) u := by
            have z := h5 aLu uv
            rw [if_neg nut] at z
            exact z
          have Nl : N.length ≤ n := by rw [eN]; exact nearR_len n _ _
          have kvl : kvs.length = n := by
            have z := congrArg List.length B.keys
            rw [List.length_map, List.length_map] at z
            unfold vxs at z
            rw [List.length_map, List.length_range] at z
            exact z
          have gu : DGet H10 nd (kV (Sum.inl (u : Int))) (some (.ref ua)) := by
            have z := DGet.k (k := Sum.inl (u : Int)) B.hnd
            rw [h1] at z
            exact z
          refine ⟨_, rfl, _, rfl, nd, _, rfl, gu, _, rfl, ua, av, _, _, rfl, rfl, h2, hav, ?_, fun L nL => ⟨L, rfl, ⟨_, SqL.of upd_same⟩, fun D nD => ?_⟩⟩
          · rw [List.length_map, List.length_map, sizeLine_eq]
            omega
          have x1 := same_upd (o := .lst (N.map V.int ++ A.map V.int)) nL
          have hL : (upd H10 L (.lst (N.map V.int ++ A.map V.int))) L = some (.lst ((N ++ A).map V.int)) := by rw [upd_same, List.map_append]
          have eNA : N.map V.int ++ A.map V.int = (N ++ A).map V.int := (List.map_append ..).symm
          generalize (upd H10 L (.lst (N.map V.int ++ A.map V.int))) = H11 at x1 hL nD ⊢
          have NAl : (N ++ A).length ≤ 120 := by rw [List.length_append]; omega
          refine lc_list (K := K) (a := L) (xs := (N ++ A).map V.int) (fun m H12 => Same H11 H12 ∧ H12 D = some (.lst ((((N ++ A).take m).filter fun w => decide (w ∉ [(u : Int), (v : Int)])).map V.int))) ⟨same_upd nD, upd_same⟩ (fun m H12 _ h => SqL.of (h.1 _ _ hL)) ?_ ?_
          · rintro m x H12 hx12 ⟨s12, hD⟩
            rw [List.getElem?_map] at hx12
            cases ez : (N ++ A)[m]? with
            | none => rw [ez] at hx12; cases hx12
            | some z =>
              rw [ez] at hx12
              cases hx12
              refine ⟨rfl, _, rfl, _, rfl, _, rfl, (by show 2 ≤ sizeLine; decide), fun T2 nT2 => ?_⟩
              have sT := same_upd (o := .tup [V.int (u : Int), V.int (v : Int)]) nT2
              refine ⟨T2, [(u : Int), (v : Int)].map V.int, rfl, .inr (SqT.of upd_same), rfl, rfl, _, rfl, iteNIn (fun c => ?_) (fun c => ?_)⟩
              · refine ⟨_, rfl, _, sT _ _ hD, flt_few NAl (by omega), same_put (s12.trans sT) nD, ?_⟩
                rw [upd_same, flt_take ez, if_pos (decide_eq_true c), List.map_append]
                rfl
              · refine ⟨s12.trans sT, ?_⟩
                rw [flt_take ez, if_neg (fun h => (of_decide_eq_true h) c), List.append_nil]
                exact sT _ _ hD
          · rintro H12 ⟨s12, hD⟩
            rw [List.length_map, List.take_length] at hD
            generalize hX : ((N ++ A).filter fun w => decide (w ∉ [(u : Int), (v : Int)])) = X at hD
            have Xmem : ∀ w, w ∈ X ↔ relT es (ordF os) (i + 1) u w = true := fun w => by
              rw [← hX, List.mem_filter, decide_eq_true_eq, List.mem_append, eN, mem_nearR RI, Amem, frel, elim_iff]
              constructor
              · rintro ⟨h6, h7⟩
                have wu : w ≠ u := fun z => h7 (by rw [z]; simp)
                have wv : w ≠ v := fun z => h7 (by rw [z]; simp)
                exact ⟨fun z => uv (by omega), wv, fun z => wu z.symm, h6.imp id fun z => ⟨Rvu, z⟩⟩
              · rintro ⟨h6, h7, h8, h9⟩
                refine ⟨h9.imp id fun z => z.2, fun z => ?_⟩
                rcases List.mem_cons.mp z with y | y
                · exact h8 y.symm
                · exact h7 (List.mem_singleton.mp y)
            have Xl : X.length ≤ 120 := by rw [← hX]; exact Nat.le_trans (List.length_filter_le _ _) NAl
            refine ⟨D, X, rfl, SqL.of hD, fun ns2 l3 pn2 le2 nl3 => ?_⟩
            have ns2l : ns2.length ≤ 120 := by rw [pn2.length_eq]; exact Xl
            have x3 := same_upd (o := .lst (ns2.map V.int)) nl3
            have x4 := x1.trans (s12.trans x3)
            have B13 := B.same x4
            have hl3 : (upd H12 l3 (.lst (ns2.map V.int))) l3 = some (.lst (ns2.map V.int)) := upd_same
            have l3b : l3 ≠ b1 := fun z => by rw [z, (B.same (x1.trans s12)).hb] at nl3; cases nl3
            have l3p : l3 ≠ p1 := fun z => by rw [z, (B.same (x1.trans s12)).hp] at nl3; cases nl3
            have hav13 := x4 _ _ hav
            generalize (upd H12 l3 (.lst (ns2.map V.int))) = H13 at x4 B13 hl3 hav13 ⊢
            refine ⟨_, rfl, _, rfl, nd, _, rfl, DPut.k (k := Sum.inl (u : Int)) B13.hnd (small1000 (by omega)), ?_⟩
            have B14 := B13.put (p' := fun w N => (w = u → N = ns2) ∧ (w ≠ u → (Alv n os i w → w ≠ v → N = if (w : Int) ∈ A.take j then nearR n (relT es (ordF os) (i + 1)) w else nearR n (relT es (ordF os) i) w))) hu2 hl3 l3b l3p ⟨fun _ => rfl, fun z => absurd rfl z⟩ fun w N hw hp => ⟨fun z => absurd z hw, fun _ => hp⟩
            have sm14 : Same H (upd H13 nd (.dK (putK kvs (Sum.inl (u : Int)) (.ref l3)))) := same_put (sm10.trans x4) nnd
            have hl14 : (upd H13 nd (.dK (putK kvs (Sum.inl (u : Int)) (.ref l3)))) l3 = some (.lst (ns2.map V.int)) := by rw [upd_ne (fun z => by rw [z, B13.hnd] at hl3; cases hl3)]; exact hl3
            have hav14 : (upd H13 nd (.dK (putK kvs (Sum.inl (u : Int)) (.ref l3)))) av = some (.lst (A.map V.int)) := by rw [upd_ne (fun z => by rw [z, B13.hnd] at hav13; cases hav13)]; exact hav13
            have gv14 : valV (putK kvs (Sum.inl (u : Int) : Key) (.ref l3)) (Sum.inl (u : Int) : Key) = some (.ref l3) := by rw [valV_put, if_pos rfl]
            generalize (upd H13 nd (.dK (putK kvs (Sum.inl (u : Int)) (.ref l3)))) = H14 at B14 sm14 hl14 hav14 ⊢
            generalize (putK kvs (Sum.inl (u : Int)) (.ref l3)) = kvs3 at B14 gv14
            have kvl3 : kvs3.length = n := by
              have z := congrArg List.length B14.keys
              rw [List.length_map, List.length_map] at z
              unfold vxs at z
              rw [List.length_map, List.length_range] at z
              exact z
            have g14 : ∀ {H15 : Hp}, Same H14 H15 → DGet H15 nd (kV (Sum.inl (u : Int))) (some (.ref l3)) := fun s15 => by
              have z := DGet.k (k := Sum.inl (u : Int)) (s15 _ _ B14.hnd)
              rw [gv14] at z
              exact z
            refine ⟨_, rfl, _, rfl, nd, _, rfl, g14 (Same.refl H14), l3, _, rfl, .inl (SqL.of hl14), _, rfl, by omega, by rw [List.length_map]; omega, fun D2 nD2 => ?_⟩
            have tn : (((ns2.map V.int).length : Nat) : Int).toNat = ns2.length := by rw [List.length_map]; omega
            rw [tn]
            refine lc_range (lo := 0) (n := ns2.length) (fun m H15 => Same H14 H15 ∧ ∃ res : List Int, H15 D2 = some (.lst (res.map V.int)) ∧ res.length ≤ m ∧ Dd ns2 m res) ⟨same_upd nD2, [], upd_same, Nat.le_refl _, ⟨List.Pairwise.nil, fun y => by rw [List.take_zero]⟩⟩ ?_ ?_
            · rintro m H15 hm ⟨s15, res, hD2, rl, dd⟩
              have e1 : (0 : Int) + (m : Int) = (m : Int) := by omega
              rw [e1]
              have hl15 := s15 _ _ hl14
              have ex : ns2[m]? = some ns2[m] := List.getElem?_eq_getElem hm
              generalize ns2[m] = x at ex
              have gx : (ns2.map V.int)[m]? = some (.int x) := by rw [List.getElem?_map, ex]; rfl
              have app : (m = 0 ∨ ∃ y, ns2[m - 1]? = some y ∧ x ≠ y) → Same H14 (upd H15 D2 (.lst (res.map V.int ++ [V.int x]))) ∧ ∃ res : List Int, (upd H15 D2 (.lst (res.map V.int ++ [V.int x]))) D2 = (upd H15 D2 (.lst (res.map V.int ++ [V.int x]))) D2 ∧ True := fun _ => ⟨same_put s15 nD2, res, rfl, trivial⟩
              refine ⟨rfl, _, rfl, rfl, _, rfl, ?_⟩
              have take_it : (m = 0 ∨ ∃ y, ns2[m - 1]? = some y ∧ x ≠ y) → tOp (rIxL K) (tDGet (tVar 3) (tVar 4)) (tVar 13) [some (.int n), some (.ref e), some (.ref t), some (.ref nd), some (.int (u : Int)), some (.int (v : Int)), some (.ref b1), some (.ref p1), some (.ref nb), some (.int (i : Int)), some (.ref av), none, none, some (.int (m : Int)), none] H15 fun y H4 => ∃ acc, H4 D2 = some (.lst acc) ∧ acc.length < sizeLine ∧ (Same H14 (upd H4 D2 (.lst (acc ++ [y]))) ∧ ∃ res : List Int, (upd H4 D2 (.lst (acc ++ [y]))) D2 = some (.lst (res.map V.int)) ∧ res.length ≤ m + 1 ∧ Dd ns2 (m + 1) res) := fun hx => by
                refine ⟨_, rfl, _, rfl, nd, _, rfl, g14 s15, _, rfl, l3, _, m, _, rfl, rfl, SqL.of hl15, at_nat gx, _, hD2, ?_, same_put s15 nD2, res ++ [x], ?_, ?_, dd.more le2 ex hx⟩
                · rw [List.length_map]
                  exact small1000 (by omega)
                · rw [upd_same, List.map_append]
                  rfl
                · rw [List.length_append, List.length_singleton]
                  omega
              by_cases c0 : m = 0
              · rw [decide_eq_true (by rw [c0]; rfl)]
                exact iteT (iteT (take_it (.inl c0)))
              · rw [decide_eq_false (fun z => c0 (by have := V.int.inj z; omega))]
                refine iteF ?_
                have ey : ns2[m - 1]? = some ns2[m - 1] := List.getElem?_eq_getElem (by omega)
                generalize ns2[m - 1] = y at ey
                have gy : (ns2.map V.int)[m - 1]? = some (.int y) := by rw [List.getElem?_map, ey]; rfl
                have em1 : (m : Int) - 1 = ((m - 1 : Nat) : Int) := by omega
                refine ⟨_, rfl, _, rfl, nd, _, rfl, g14 s15, _, rfl, l3, _, m, _, rfl, rfl, SqL.of hl15, at_nat gx, _, rfl, _, rfl, nd, _, rfl, g14 s15, _, rfl, _, _, rfl, rfl, l3, _, (m : Int) - 1, _, rfl, rfl, SqL.of hl15, by rw [em1]; exact at_nat gy, rfl, _, rfl, ?_⟩
                by_cases c1 : x = y
                · refine iteNS (by rw [c1]) ⟨s15, res, hD2, by omega, dd.skip ex (by omega) (by rw [c1]; exact ey)⟩
                · exact iteN (fun z => c1 (V.int.inj z)) (take_it (.inr ⟨y, ey, c1⟩))
            · rintro H15 ⟨s15, res, hD2, rl, dd⟩
              have eres : res = nearR n (relT es (ordF os) (i + 1)) u := lt_ext dd.srt (nearR_lt n _ _) fun w => by
                rw [dd.mem, List.take_length, pn2.mem_iff, Xmem, mem_nearR (relOk ok (ordF os) (i + 1))]
              have B15 := B14.same s15
              have D2b : D2 ≠ b1 := fun z => by rw [z, B14.hb] at nD2; cases nD2
              have D2p : D2 ≠ p1 := fun z => by rw [z, B14.hp] at nD2; cases nD2
              have hav15 := s15 _ _ hav14
              refine ⟨_, rfl, _, rfl, nd, _, rfl, DPut.k (k := Sum.inl (u : Int)) B15.hnd (small1000 (by omega)), ?_⟩
              refine ⟨_, _, rfl, same_put (sm14.trans s15) nnd, by rw [upd_ne (fun z => by rw [z, B15.hnd] at hav15; cases hav15)]; exact hav15, B15.put hu2 hD2 D2b D2p (fun _ _ => ?_) fun w N hw hp aw wv => ?_⟩
              · rw [if_pos (by rw [L2.take_next eu]; simp)]
                exact eres
              · have z := hp.2 hw aw wv
                rw [z, L2.take_next eu]
                have e3 : ((w : Int) ∈ A.take j ++ [(u : Int)]) ↔ (w : Int) ∈ A.take j := by
                  rw [List.mem_append, List.mem_singleton]
                  exact ⟨fun h => h.elim id fun z => by omega, .inl⟩
                by_cases c2 : (w : Int) ∈ A.take j
                · rw [if_pos c2, if_pos (e3.mpr c2)]
                · rw [if_neg c2, if_neg (fun z => c2 (e3.mp z))]
      · rintro σ H10 ⟨y4, kvs, rfl, sm10, hav, B⟩
        rw [List.length_map, List.take_length] at B
        refine ⟨_, rfl, .inl ⟨rfl, _, SqL.of B.hp⟩, _, rfl, av, rfl, ⟨_, SqL.of hav⟩, fun D nD => ?_⟩
        refine lc_list (K := K) (a := av) (xs := A.map V.int) (fun m H11 => Same H10 H11 ∧ H11 D = some (.lst (((A.take m).map (plF os)).map V.int))) ⟨same_upd nD, upd_same⟩ (fun m H11 _ h => SqL.of (h.1 _ _ hav)) ?_ ?_
        · rintro m x H11 hx11 ⟨s11, hD⟩
          rw [List.getElem?_map] at hx11
          cases ez : A[m]? with
          | none => rw [ez] at hx11; cases hx11
          | some z =>
            rw [ez] at hx11
            cases hx11
            have zo : z ∈ os := pm.mem_iff.mpr (mem_vxs.mpr (RI.vx _ _ ((Amem z).mp (List.mem_of_getElem? ez))).2)
            obtain ⟨jj, e1, e2, e3⟩ := pl_index zo
            have sT := (sm10.trans s11).seq hT
            refine ⟨rfl, _, rfl, .inl ⟨rfl, _, sT⟩, _, rfl, t, os.map V.int, .int z, jj, .int z, rfl, rfl, sT, rfl, flat_ints _, e2, (by show (z == z) = true; simp), e3, _, hD, ?_, same_put s11 nD, ?_⟩
            · rw [List.length_map, List.length_map, List.length_take]
              exact small1000 (by omega)
            · rw [upd_same, L2.take_next ez, List.map_append, List.map_append, ← e1]
              rfl
        · rintro H11 ⟨s11, hD⟩
          rw [List.length_map, List.take_length] at hD
          have B11 := B.same s11
          refine ⟨_, rfl, _, _, rfl, rfl, D, _, _, rfl, rfl, SqL.of hD, p1, _, _, rfl, rfl, B11.hp, ?_, ?_⟩
          · rw [List.length_map, List.length_map, List.length_range]
            exact small1000 (by omega)
          · refine ⟨_, _, _, _, kvs, bas ++ [T], rfl, same_put (sm10.trans s11) np1H, ?_⟩
            have z := B11.par (minOr ((n : Int) - 1) (A.map (plF os)))
            have em : minOr ((n : Int) - 1) (A.map (plF os)) = minT n es (ordF os) (plF os) i := by rw [eAT]; rfl
            have e8 : ((List.range (i + 1)).map fun t => minT n es (ordF os) (plF os) t) = ((List.range i).map fun t => minT n es (ordF os) (plF os) t) ++ [minOr ((n : Int) - 1) (A.map (plF os))] := by
              rw [List.range_succ, List.map_append, em]
              rfl
            rw [e8]
            refine BoS.imp z fun u N hu5 (h : Alv n os i u → u ≠ v → N = if (u : Int) ∈ A then nearR n (relT es (ordF os) (i + 1)) u else nearR n (relT es (ordF os) i) u) au => ?_
            · obtain ⟨au1, uv⟩ := (alS _).mp au
              have uv' : u ≠ v := fun z => uv (by rw [z])
              have y := h au1 uv'
              by_cases c : (u : Int) ∈ A
              · rw [if_pos c] at y
                exact y
              · rw [if_neg c] at y
                rw [y, frel]
                unfold nearR
                refine List.filter_congr fun w hw => ?_
                have vw := mem_vxs.mp hw
                have nR : relT es (ordF os) i v u = false := by
                  cases e9 : relT es (ordF os) i v u with
                  | false => rfl
                  | true => exact absurd ((Amem _).mpr e9) c
                obtain ⟨w, rfl⟩ : ∃ k : Nat, w = k := ⟨w.toNat, by unfold Vx at vw; omega⟩
                exact elim_keep RI uv' nR w
    · rintro σ H4 ⟨y4, y5, y9, y10, kvs, bas, rfl, sm4, B⟩
      have lb : bas.length = n := by rw [B.pb.length, List.length_map, List.length_range]
      refine ⟨_, rfl, rfl, _, rfl, ?_⟩
      by_cases c0 : n = 0
      · subst c0
        have eo : os = [] := List.eq_nil_of_length_eq_zero lo
        subst eo
        refine iteY rfl ⟨Nat.zero_le _, fun t1 n1 => ⟨(by show 1 ≤ sizeLine; decide), fun t2 n2 => ⟨1, rfl, (by show 1 ≤ sizeLine; decide), fun t3 n3 => ⟨(by show 2 ≤ sizeLine; decide), fun t4 n4 => ?_⟩⟩⟩⟩
        have u1 := same_upd (o := .tup []) n1
        have u2 := same_upd (o := .tup [V.ref t1]) n2
        have u3 := same_upd (o := .tup [V.int (-1)]) n3
        have u4 := same_upd (o := .tup [V.ref t2, V.ref t3]) n4
        exact q _ t4 t2 t3 [t1] (sm4.trans (u1.trans (u2.trans (u3.trans u4)))) upd_same (SqT.of (u4 _ _ (u3 _ _ upd_same))) (.cons (SqT.of (u4 _ _ (u3 _ _ (u2 _ _ upd_same)))) .nil) (SqT.of (u4 _ _ upd_same))
      · have c1 : os ≠ [] := fun z => c0 (by rw [← lo, z]; rfl)
        rw [decide_eq_false (fun z => c0 (by have := V.int.inj z; omega))]
        refine iteF ?_
        refine ⟨_, rfl, p1, _, rfl, SqL.of B.hp, fun L nL => ⟨L, rfl, ⟨_, SqL.of upd_same⟩, fun D nD => ?_⟩⟩
        have x1 := same_upd (o := .lst (((((List.range n).map fun t => minT n es (ordF os) (plF os) t).map V.int)).reverse)) nL
        have hL : (upd H4 L (.lst (((((List.range n).map fun t => minT n es (ordF os) (plF os) t).map V.int)).reverse))) L = some (.lst (((List.range n).map fun i => minT n es (ordF os) (plF os) (n - 1 - i)).map V.int)) := by
          rw [upd_same, ← List.map_reverse, rev_map]
        generalize (upd H4 L (.lst (((((List.range n).map fun t => minT n es (ordF os) (plF os) t).map V.int)).reverse))) = H5 at x1 hL nD ⊢
        refine lc_list (K := K) (a := L) (xs := ((List.range n).map fun i => minT n es (ordF os) (plF os) (n - 1 - i)).map V.int) (fun m H6 => Same H5 H6 ∧ H6 D = some (.lst ((((List.range n).take m).map fun i => (n : Int) - 1 - minT n es (ordF os) (plF os) (n - 1 - i)).map V.int))) ⟨same_upd nD, upd_same⟩ (fun m H6 _ h => SqL.of (h.1 _ _ hL)) ?_ ?_
        · rintro m x H6 hx6 ⟨s6, hD⟩
          rw [List.getElem?_map, List.getElem?_map] at hx6
          cases ez : (List.range n)[m]? with
          | none => rw [ez] at hx6; cases hx6
          | some z =>
            rw [ez] at hx6
            cases hx6
            refine ⟨rfl, _, rfl, _, _, rfl, rfl, _, rfl, _, _, rfl, rfl, _, hD, ?_, same_put s6 nD, ?_⟩
            · rw [List.length_map, List.length_map, List.length_take, List.length_range]
              exact small1000 (by omega)
            · rw [upd_same, L2.take_next ez, List.map_append, List.map_append]
              rfl
        · rintro H6 ⟨s6, hD⟩
          have tl : (List.range n).take ((((List.range n).map fun i => minT n es (ordF os) (plF os) (n - 1 - i)).map V.int).length) = List.range n := by
            rw [List.length_map, List.length_map, List.take_length]
          rw [tl] at hD
          refine ⟨D, _, rfl, .inl ⟨SqL.of hD, fun T nT => ?_⟩⟩
          have x7 := same_upd (o := .tup (((List.range n).map fun i => (n : Int) - 1 - minT n es (ordF os) (plF os) (n - 1 - i)).map V.int)) nT
          have hT7 : (upd H6 T (.tup (((List.range n).map fun i => (n : Int) - 1 - minT n es (ordF os) (plF os) (n - 1 - i)).map V.int))) T = some (.tup (((List.range n).map fun i => (n : Int) - 1 - minT n es (ordF os) (plF os) (n - 1 - i)).map V.int)) := upd_same
          have x8 := x1.trans (s6.trans x7)
          generalize (upd H6 T (.tup (((List.range n).map fun i => (n : Int) - 1 - minT n es (ordF os) (plF os) (n - 1 - i)).map V.int))) = H7 at x8 hT7 ⊢
          have B7 := B.same x8
          refine ⟨_, rfl, b1, _, rfl, SqL.of B7.hb, fun L2a nL2 => ⟨L2a, _, rfl, .inl ⟨SqL.of upd_same, fun tb ntb => ?_⟩⟩⟩
          have y1 := same_upd (o := .lst ((bas.map V.ref).reverse)) nL2
          have y2 := same_upd (o := .tup ((bas.map V.ref).reverse)) ntb
          have htb : (upd (upd H7 L2a (.lst ((bas.map V.ref).reverse))) tb (.tup ((bas.map V.ref).reverse))) tb = some (.tup (bas.reverse.map V.ref)) := by rw [upd_same, List.map_reverse]
          have y3 := y1.trans y2
          have pb8 : TupsAt K (upd (upd H7 L2a (.lst ((bas.map V.ref).reverse))) tb (.tup ((bas.map V.ref).reverse))) bas.reverse (bagsO es os) := by
            have z := B7.pb.same y3
            have e1 : bagsO es os = ((List.range n).map fun t => bagT n es (ordF os) t).reverse := by
              unfold bagsO
              rw [if_neg c1, rev_map, lo]
              rfl
            rw [e1]
            exact tups_rev z
          have hT8 := y3 _ _ hT7
          have sm8 : Same H (upd (upd H7 L2a (.lst ((bas.map V.ref).reverse))) tb (.tup ((bas.map V.ref).reverse))) := sm4.trans (x8.trans y3)
          generalize (upd (upd H7 L2a (.lst ((bas.map V.ref).reverse))) tb (.tup ((bas.map V.ref).reverse))) = H8 at htb pb8 hT8 sm8 ⊢
          refine ⟨1, rfl, (by show 1 ≤ sizeLine; decide), fun T1 nT1 => ?_⟩
          have z1 := same_upd (o := .tup [V.int (-1)]) nT1
          have hT1 : (upd H8 T1 (.tup [V.int (-1)])) T1 = some (.tup [V.int (-1)]) := upd_same
          generalize (upd H8 T1 (.tup [V.int (-1)])) = H9 at z1 hT1 ⊢
          have ll : ((((List.range n).map fun i => (n : Int) - 1 - minT n es (ordF os) (plF os) (n - 1 - i)).map V.int)).length = n := by rw [List.length_map, List.length_map, List.length_range]
          have eP : (parsO es os).map V.int = V.int (-1) :: (((List.range n).map fun i => (n : Int) - 1 - minT n es (ordF os) (plF os) (n - 1 - i)).map V.int).drop 1 := by
            have e2 : parsO es os = ((List.range n).map fun i => (n : Int) - 1 - minT n es (ordF os) (plF os) (n - 1 - i)).set 0 (-1) := by
              unfold parsO
              rw [if_neg c1, set0_map, lo]
              rfl
            rw [e2, ← List.map_drop]
            have ne : ((List.range n).map fun i => (n : Int) - 1 - minT n es (ordF os) (plF os) (n - 1 - i)) ≠ [] := fun z => by
              have := congrArg List.length z
              rw [List.length_map, List.length_range] at this
              exact c0 this
            cases hc : ((List.range n).map fun i => (n : Int) - 1 - minT n es (ordF os) (plF os) (n - 1 - i)) with
            | nil => exact absurd hc ne
            | cons a b => rfl
          have fin : ∀ (Hz : Hp) (tp : Addr), Same H9 Hz → SqT K Hz tp ((parsO es os).map V.int) → 2 ≤ sizeLine ∧ ∀ r, Hz r = none → Q (.ref r) (upd Hz r (.tup [.ref tb, .ref tp])) := fun Hz tp sz hz => by
            refine ⟨by decide, fun r nr => ?_⟩
            have w1 := same_upd (o := .tup [V.ref tb, V.ref tp]) nr
            exact q _ r tb tp bas.reverse (sm8.trans (z1.trans (sz.trans w1))) upd_same (SqT.of (w1 _ _ (sz _ _ (z1 _ _ htb)))) (((pb8.same z1).same sz).same w1) (same_sqT w1 hz)
          refine ⟨_, rfl, 1, rfl, T, _, rfl, SqT.of (z1 _ _ hT8), fun wh => ?_, fun _ T2 nT2 => ?_⟩
          · have w2 : HT.sIx _ 0 (some ((1 : Nat) : Int)) = 0 := wh.1
            rw [HT.sIx_nat, ll] at w2
            omega
          rw [cut_drop1]
          have z2 := same_upd (o := .tup ((((List.range n).map fun i => (n : Int) - 1 - minT n es (ordF os) (plF os) (n - 1 - i)).map V.int).drop 1)) nT2
          have hT2 : (upd H9 T2 (.tup ((((List.range n).map fun i => (n : Int) - 1 - minT n es (ordF os) (plF os) (n - 1 - i)).map V.int).drop 1))) T2 = some (.tup ((((List.range n).map fun i => (n : Int) - 1 - minT n es (ordF os) (plF os) (n - 1 - i)).map V.int).drop 1)) := upd_same
          generalize (upd H9 T2 (.tup ((((List.range n).map fun i => (n : Int) - 1 - minT n es (ordF os) (plF os) (n - 1 - i)).map V.int).drop 1))) = Ha at z2 hT2 ⊢
          refine ⟨T1, T2, [V.int (-1)], _, rfl, rfl, SqT.of (z2 _ _ hT1), SqT.of hT2, ?_, fun z => (by cases z), fun _ ye => ?_, fun _ _ T3 nT3 => ?_⟩
          · rw [List.length_drop, ll, List.length_singleton, sizeLine_eq]
            omega
          · refine fin Ha T1 z2 ?_
            rw [eP, ye]
            exact SqT.of (z2 _ _ hT1)
          · refine fin _ T3 (z2.trans (same_upd nT3)) ?_
            rw [eP]
            exact SqT.of upd_same
end
end Sm

set_option Elab.async false
set_option linter.all false
set_option maxRecDepth 100000
set_option maxHeartbeats 8000000
namespace Sm
open PySem PySem.Spec PyProof.Rows L2
/-! ### values that may be bags -/
inductive BV where
  | tup (l : List (Option Int))
  | lst (l : List Int)
def ovV : Option Int → V
  | some i => .int i
  | none => .bl true
theorem ov_ib : ∀ o : Option Int, IB (ovV o) o
  | some i => .int i
  | none => .bl true
inductive BagV (K : PySem.W.Frag) (H : Hp) : V → BV → Prop where
  | tup {a : Addr} {l : List (Option Int)} (h : SqT K H a (l.map ovV)) : BagV K H (.ref a) (.tup l)
  | lst {a : Addr} {l : List Int} (h : H a = some (.lst (l.map V.int))) : BagV K H (.ref a) (.lst l)
theorem BagV.same {K : PySem.W.Frag} {H H' : Hp} {v : V} {b : BV} (s : Same H H') (h : BagV K H v b) : BagV K H' v b := by
  cases h with
  | tup h => exact .tup (same_sqT s h)
  | lst h => exact .lst (s _ _ h)
inductive Bags where
  | non
  | lst (cs : List (List Int))
  | tup (bs : List BV)
inductive BagsV (K : PySem.W.Frag) (H : Hp) : V → Bags → Prop where
  | non : BagsV K H .non .non
  | lst {a : Addr} {ps : List Addr} {cs : List (List Int)} (h : H a = some (.lst (ps.map V.ref))) (ht : TupsAt K H ps cs) : BagsV K H (.ref a) (.lst cs)
  | tup {a : Addr} {vs : List V} {bs : List BV} (h : SqT K H a vs) (hb : Paired (BagV K H) vs bs) : BagsV K H (.ref a) (.tup bs)
theorem bags_same {K : PySem.W.Frag} {H H' : Hp} (s : Same H H') : ∀ {vs : List V} {bs : List BV}, Paired (BagV K H) vs bs → Paired (BagV K H') vs bs
  | _, _, .nil => .nil
  | _, _, .cons h t => .cons (h.same s) (bags_same s t)
theorem BagsV.same {K : PySem.W.Frag} {H H' : Hp} {v : V} {b : Bags} (s : Same H H') (h : BagsV K H v b) : BagsV K H' v b := by
  cases h with
  | non => exact .non
  | lst h ht => exact .lst (s _ _ h) (ht.same s)
  | tup h hb => exact .tup (same_sqT s h) (bags_same s hb)
inductive Pars where
  | tup (ps : List Int)
  | lst (ps : List Int)
inductive ParsV (K : PySem.W.Frag) (H : Hp) : V → Pars → Prop where
  | tup {a : Addr} {ps : List Int} (h : SqT K H a (ps.map V.int)) : ParsV K H (.ref a) (.tup ps)
  | lst {a : Addr} {ps : List Int} (h : H a = some (.lst (ps.map V.int))) : ParsV K H (.ref a) (.lst ps)
theorem ParsV.same {K : PySem.W.Frag} {H H' : Hp} {v : V} {b : Pars} (s : Same H H') (h : ParsV K H v b) : ParsV K H' v b := by
  cases h with
  | tup h => exact .tup (same_sqT s h)
  | lst h => exact .lst (s _ _ h)
def ascB (n : Int) : List (Option Int) → Int → Bool
  | [], _ => true
  | none :: _, _ => false
  | some k :: l, L => decide (0 ≤ k ∧ k < n) && decide (L ≤ k) && ascB n l (k + 1)
def BV.ok (n : Nat) : BV → Bool
  | .tup l => ascB n l 0
  | .lst _ => false
def BV.ints : BV → List Int
  | .tup l => l.filterMap id
  | .lst l => l
def okAt (n : Nat) (bs : List BV) (ps : List Int) (i : Nat) : Bool :=
  ((bs[i]?).map (BV.ok n)).getD false && (decide (i = 0) || ((ps[i]?).map fun p => decide (0 ≤ p ∧ p < (i : Int))).getD false)
def formB (n : Nat) : Bags → Pars → Bool
  | .tup bs, .tup ps => decide (bs.length ≠ 0) && decide (bs.length = ps.length) && decide (ps[0]? = some (-1)) && (List.range bs.length).all (okAt n bs ps)
  | _, _ => false
theorem ascB_ok {n : Int} : ∀ {l : List (Option Int)} {L : Int}, ascB n l L = true → ∃ c : List Int, l = c.map some ∧ c.Pairwise (· < ·) ∧ (∀ k ∈ c, 0 ≤ k ∧ k < n) ∧ ∀ k ∈ c, L ≤ k
  | [], _, _ => ⟨[], rfl, .nil, (fun k hk => by cases hk), fun k hk => by cases hk⟩
  | none :: _, _, h => by cases h
  | some k :: l, L, h => by
    unfold ascB at h
    rw [Bool.and_eq_true, Bool.and_eq_true, decide_eq_true_eq, decide_eq_true_eq] at h
    obtain ⟨⟨h1, h2⟩, h3⟩ := h
    obtain ⟨c, rfl, p1, p2, p3⟩ := ascB_ok h3
    refine ⟨k :: c, rfl, List.pairwise_cons.mpr ⟨fun a ha => by have := p3 a ha; omega, p1⟩, fun x hx => ?_, fun x hx => ?_⟩
    · rcases List.mem_cons.mp hx with z | z
      · rw [z]; exact h1
      · exact p2 x z
    · rcases List.mem_cons.mp hx with z | z
      · rw [z]; exact h2
      · have := p3 x z
        omega
theorem ascB_of {n : Int} : ∀ {c : List Int} {L : Int}, c.Pairwise (· < ·) → (∀ k ∈ c, 0 ≤ k ∧ k < n) → (∀ k ∈ c, L ≤ k) → ascB n (c.map some) L = true
  | [], _, _, _, _ => rfl
  | k :: c, L, h1, h2, h3 => by
    obtain ⟨p1, p2⟩ := List.pairwise_cons.mp h1
    show (decide (0 ≤ k ∧ k < n) && decide (L ≤ k) && ascB n (c.map some) (k + 1)) = true
    rw [decide_eq_true (h2 k List.mem_cons_self), decide_eq_true (h3 k List.mem_cons_self), ascB_of p2 (fun x hx => h2 x (List.mem_cons_of_mem _ hx)) fun x hx => by have := p1 x hx; omega]
    rfl
theorem fm_some (c : List Int) : (c.map some).filterMap id = c := by
  induction c with
  | nil => rfl
  | cons a c ih => rw [List.map_cons, List.filterMap_cons]; exact congrArg (a :: ·) ih
/-- what a right form says -/
structure FormOk (n : Nat) (bs : List BV) (ps : List Int) (cs : List (List Int)) : Prop where
  eqi : cs = bs.map BV.ints
  tups : bs = cs.map fun c => .tup (c.map some)
  len : cs.length = ps.length
  pos : 0 < cs.length
  root : ps[0]? = some (-1)
  bag : ∀ b ∈ cs, b.Pairwise (· < ·) ∧ ∀ k ∈ b, Vx n k
  par : ∀ (i : Nat) (p : Int), 0 < i → ps[i]? = some p → 0 ≤ p ∧ p < i
theorem form_ok {n : Nat} {bs : List BV} {ps : List Int} (h : formB n (.tup bs) (.tup ps) = true) : FormOk n bs ps (bs.map BV.ints) := by
  unfold formB at h
  simp only [Bool.and_eq_true, decide_eq_true_eq] at h
  obtain ⟨⟨⟨h1, h2⟩, h3⟩, h4⟩ := h
  have each : ∀ i, i < bs.length → okAt n bs ps i = true := fun i hi => List.all_eq_true.mp h4 i (List.mem_range.mpr hi)
  have bok : ∀ b ∈ bs, b.ok n = true := fun b hb => by
    obtain ⟨i, hi, e⟩ := List.getElem_of_mem hb
    have z := each i hi
    unfold okAt at z
    rw [Bool.and_eq_true] at z
    have y := z.1
    rw [List.getElem?_eq_getElem hi, e] at y
    exact y
  have shape : ∀ b ∈ bs, b = .tup (b.ints.map some) ∧ b.ints.Pairwise (· < ·) ∧ ∀ k ∈ b.ints, Vx n k := fun b hb => by
    have z := bok b hb
    cases b with
    | lst l => cases z
    | tup l =>
      obtain ⟨c, rfl, p1, p2, _⟩ := ascB_ok (show ascB n l 0 = true from z)
      have e : (BV.tup (c.map some)).ints = c := fm_some c
      rw [e]
      exact ⟨rfl, p1, p2⟩
  refine ⟨rfl, ?_, by rw [List.length_map]; exact h2, by rw [List.length_map]; omega, h3, fun b hb => ?_, fun i p hi hp => ?_⟩
  · rw [List.map_map]
    refine (List.map_id bs).symm.trans (List.map_congr_left fun b hb => ?_)
    exact (shape b hb).1
  · obtain ⟨b', hb', rfl⟩ := List.mem_map.mp hb
    exact (shape b' hb').2
  · have hil := (List.getElem?_eq_some_iff.mp hp).1
    have z := each i (by omega)
    unfold okAt at z
    rw [Bool.and_eq_true, hp, decide_eq_false (by omega : ¬ i = 0)] at z
    exact of_decide_eq_true z.2
theorem tups_of {K : PySem.W.Frag} {H : Hp} : ∀ {vs : List V} {cs : List (List Int)}, Paired (BagV K H) vs (cs.map fun c => .tup (c.map some)) → ∃ ps : List Addr, vs = ps.map V.ref ∧ TupsAt K H ps cs
  | [], [], _ => ⟨[], rfl, .nil⟩
  | [], c :: cs, h => by cases h
  | v :: vs, [], h => by cases h
  | v :: vs, c :: cs, h => by
    cases h with
    | cons h t =>
      obtain ⟨ps, rfl, ht⟩ := tups_of t
      cases h with
      | @tup a _ h =>
        refine ⟨a :: ps, rfl, .cons ?_ ht⟩
        have e : (c.map some).map ovV = c.map V.int := by rw [List.map_map]; rfl
        rw [e] at h
        exact h
theorem bags_of_tups {K : PySem.W.Frag} {H : Hp} : ∀ {ps : List Addr} {cs : List (List Int)}, TupsAt K H ps cs → Paired (BagV K H) (ps.map V.ref) (cs.map fun c => .tup (c.map some))
  | _, _, .nil => .nil
  | _, _, .cons (b := c) h t => .cons (.tup (by
      have e : (c.map some).map ovV = c.map V.int := by rw [List.map_map]; rfl
      rw [e]
      exact h)) (bags_of_tups t)
/-! ### the first fault -/
inductive FR where
  | form
  | vert (v : Nat)
  | edge (u v : Int)
  | apart (v : Nat)
  | ok
def frD : FR → PyData
  | .form => .tuple [.str "form"]
  | .vert v => .tuple [.str "vertex", .int v]
  | .edge u v => .tuple [.str "edge", .int u, .int v]
  | .apart v => .tuple [.str "apart", .int v]
  | .ok => .none
def firstN (n : Nat) (p : Nat → Bool) : Option Nat := (List.range n).find? p
theorem firstN_some {n i : Nat} {p : Nat → Bool} (hi : i < n) (h : p i = true) (hn : ∀ j, j < i → p j = false) : firstN n p = some i := by
  unfold firstN
  rw [List.find?_range_eq_some]
  exact ⟨h, List.mem_range.mpr hi, fun j hj => by rw [hn j hj]; rfl⟩
theorem firstN_none {n : Nat} {p : Nat → Bool} (hn : ∀ j, j < n → p j = false) : firstN n p = none := by
  unfold firstN
  rw [List.find?_eq_none]
  intro x hx
  rw [hn x (List.mem_range.mp hx)]
  decide
theorem find_some {α : Type} {l : List α} {p : α → Bool} {i : Nat} {a : α} (hi : l[i]? = some a) (h : p a = true) (hn : ∀ x ∈ l.take i, p x = false) : l.find? p = some a := by
  have e : l = l.take i ++ a :: l.drop (i + 1) := split_at hi
  rw [e, List.find?_append]
  have z : (l.take i).find? p = none := List.find?_eq_none.mpr fun x hx => by rw [hn x hx]; decide
  rw [z, List.find?_cons_of_pos h]
  rfl
theorem find_none {α : Type} {l : List α} {p : α → Bool} (hn : ∀ x ∈ l, p x = false) : l.find? p = none := List.find?_eq_none.mpr fun x hx => by rw [hn x hx]; decide
def noBag (cs : List (List Int)) (v : Nat) : Bool := decide (lyn cs v = [])
def noCom (cs : List (List Int)) (q : Pr) : Bool := !((lyn cs q.1).any fun x => decide (x ∈ lyn cs q.2))
def topsL (cs : List (List Int)) (ps : List Int) (v : Nat) : List Int := (lyn cs v).filter fun x => decide (ps.getD x.toNat 0 ∉ lyn cs v)
def parted (cs : List (List Int)) (ps : List Int) (v : Nat) : Bool := decide ((topsL cs ps v).length ≠ 1)
def faultL (n : Nat) (es : List Pr) (cs : List (List Int)) (ps : List Int) : FR :=
  match firstN n (noBag cs) with
  | some v => .vert v
  | none => match es.find? (noCom cs) with
    | some q => .edge q.1 q.2
    | none => match firstN n (parted cs ps) with
      | some v => .apart v
      | none => .ok
def faultF (n : Nat) (es : List Pr) (B : Bags) (Pa : Pars) : FR :=
  match B, Pa with
  | .tup bs, .tup ps => if formB n (.tup bs) (.tup ps) = true then faultL n es (bs.map BV.ints) ps else .form
  | _, _ => .form
end Sm

set_option Elab.async false
set_option linter.all false
set_option maxRecDepth 100000
set_option maxHeartbeats 8000000
namespace Sm
open PySem PySem.Spec PyProof.Rows L2
theorem form_eq {n : Nat} {bs : List BV} {ps : List Int} : formB n (.tup bs) (.tup ps) = (decide (bs.length ≠ 0) && decide (bs.length = ps.length) && decide (ps[0]? = some (-1)) && (List.range bs.length).all (okAt n bs ps)) := rfl
theorem form_no {n : Nat} {bs : List BV} {ps : List Int} {t : Nat} (ht : t < bs.length) (h : okAt n bs ps t = false) : formB n (.tup bs) (.tup ps) = false := by
  have z : (List.range bs.length).all (okAt n bs ps) = false := by
    cases e : (List.range bs.length).all (okAt n bs ps) with
    | false => rfl
    | true =>
      rw [List.all_eq_true.mp e t (List.mem_range.mpr ht)] at h
      cases h
  rw [form_eq]
  rw [z, Bool.and_false]
theorem form_yes {n : Nat} {bs : List BV} {ps : List Int} (h0 : bs.length ≠ 0) (h1 : bs.length = ps.length) (h2 : ps[0]? = some (-1)) (h : ∀ i, i < bs.length → okAt n bs ps i = true) : formB n (.tup bs) (.tup ps) = true := by
  rw [form_eq]
  rw [decide_eq_true h0, decide_eq_true h1, decide_eq_true h2, List.all_eq_true.mpr fun i hi => h i (List.mem_range.mp hi)]
  rfl
theorem form_len {n : Nat} {bs : List BV} {ps : List Int} (h1 : ¬ bs.length = ps.length) : formB n (.tup bs) (.tup ps) = false := by
  rw [form_eq]
  rw [decide_eq_false h1, Bool.and_false, Bool.false_and, Bool.false_and]
theorem form_nil {n : Nat} {bs : List BV} {ps : List Int} (h1 : bs.length = 0) : formB n (.tup bs) (.tup ps) = false := by
  rw [form_eq]
  rw [decide_eq_false (fun z => z h1), Bool.false_and, Bool.false_and, Bool.false_and]
theorem form_root {n : Nat} {bs : List BV} {ps : List Int} (h1 : ¬ ps[0]? = some (-1)) : formB n (.tup bs) (.tup ps) = false := by
  rw [form_eq]
  rw [decide_eq_false h1, Bool.and_false, Bool.false_and]
abbrev sAsc : Stmt := topS 9
abbrev sHf : Stmt := topS 14
def spAsc (K : PySem.W.Frag) : Sp := fun vs H Q _ => ∃ (v : V) (n : Nat) (b : BV), vs = [v, .int n] ∧ BagV K H v b ∧ Q (.bl (b.ok n)) H
def spHf (K : PySem.W.Frag) (C : Addr) : Sp := fun vs H Q _ => ∃ (g : Addr) (vb vp : V) (n : Nat) (qs : List Pr) (B : Bags) (Pa : Pars), vs = [.ref g, vb, vp] ∧ GraphAt K C H g n qs ∧ BagsV K H vb B ∧ ParsV K H vp Pa ∧
  ∀ H', Same H H' → Q (.bl (formB n B Pa)) H'
section
variable {P : Program} {w : World} {K : PySem.W.Frag} {mg : Str → Option Value} {base : Heap}
theorem scAsc : FnScope ["value", "size", "least", "vertex"] ["value", "size"] (defScope sAsc) := ⟨rfl, rfl, rfl, by decide +kernel, rfl, by decide +kernel, by decide +kernel⟩
theorem ok_asc {f fV : Addr} {fd fdV : FuncData} (F : Fun K "is_ascending" "is_ascending" sAsc f fd) (TX : TxA mg)
    (GV : FnOk P w K mg base CX0 2 fV fdV ["value", "size"] spVtx) (kV : PySem.W.keepIn K (.ref fV) = true) (bV : Binds K fdV ["value", "size"] []) (gV : mg "is_vertex" = some (.ref fV)) :
    FnOk P w K mg base CX0 3 f fd ["value", "size"] (spAsc K) := by
  refine F.ok scAsc (fun vs H Q E h => ?_) (fun cdv A outer s H vs Q E hr h => ?_)
  · obtain ⟨v, n, b, rfl, _⟩ := h
    rfl
  · obtain ⟨v, n, b, rfl, hB, q⟩ := h
    have hr2 : Room 2 _ := hr.mono (by decide)
    refine ⟨_, pss_cons (ps_if (pt_not (pt_val (pe_callB call_isi (by rfl) TX.isi (by decide +kernel) (pa_cons (pv 0) (pa_cons (pe_bltn (v := .ty "tuple") (by rfl) TX.tuple (by decide +kernel) rfl) pa_nil))))) (pss_one (ps_ret pe_bl)) pss_nil)
      (pss_cons (ps_set (i := 2) scAsc.nd rfl (.inl rfl) pe_int)
      (pss_cons (ps_for PassesOwn.never rfl (pi_tup (pv 0)) (pg_name (i := 3) scAsc.nd rfl (.inl rfl))
        (pss_cons (ps_if (PW.pt (pw_or (pt_not (pt_val (pe_call GV hr2 (by rfl) gV kV bV .nil pass0 (pa_cons (pv 3) (pa_cons (pv 1) pa_nil))))) (pw_or1 (pt_cmpR op_lt (pv 3) (pv 2) (nomark _))))) (pss_one (ps_ret pe_bl)) pss_nil)
        (pss_one (ps_set (i := 2) scAsc.nd rfl (.inl rfl) (pe_op op_add (pv 3) pe_int)))))
      (pss_one (ps_ret pe_bl)))), ?_⟩
    cases hB with
    | @lst a l hL =>
      refine ⟨_, rfl, _, .ty "tuple", .type "list", .type "tuple", false, rfl, .ty "tuple", .base (.lst hL), kit_ty (by decide +kernel), false, rfl, iteT ?_⟩
      exact q
    | @tup t l hT =>
      refine ⟨_, rfl, _, .ty "tuple", .type "tuple", .type "tuple", true, rfl, .ty "tuple", tyx_T hT, kit_ty (by decide +kernel), true, rfl, iteF ?_⟩
      refine ⟨_, rfl, t, rfl, ⟨_, hT⟩, for_it (walk_tup (K := K) (a := t) (xs := l.map ovV)) (fun i σ H' => ∃ (L : Int) (y3 : Option V), σ = [some (.ref t), some (.int n), some (.int L), y3] ∧ H' = H ∧ ascB n l 0 = ascB n (l.drop i) L)
        ⟨0, none, rfl, rfl, by rw [List.drop_zero]⟩ (fun i σ H' _ ⟨_, _, _, e, _⟩ => by rw [e]; exact hT) ?_ ?_⟩
      · rintro i x σ H1 H' hi ⟨L, y3, rfl, rfl, hL⟩ ⟨rfl, hx⟩
        have hx : (l.map ovV)[i]? = some x := hx
        rw [List.getElem?_map] at hx
        cases ek : l[i]? with
        | none => rw [ek] at hx; cases hx
        | some o =>
          rw [ek] at hx
          cases hx
          have dr : l.drop i = o :: l.drop (i + 1) := by
            rw [List.drop_eq_getElem_cons (List.getElem?_eq_some_iff.mp ek).1, (List.getElem?_eq_some_iff.mp ek).2]
          rw [dr] at hL
          refine ⟨_, rfl, _, rfl, ovV o, o, n, rfl, ov_ib o, vtxB n o, rfl, ?_⟩
          cases o with
          | none => exact iteT (by rw [show BV.ok n (.tup l) = false from hL] at q; exact q)
          | some k =>
            have vt : vtxB n (some k) = decide (0 ≤ k ∧ k < (n : Int)) := by simp [vtxB, Bool.decide_and]
            rw [vt]
            have hL : ascB n l 0 = (decide (0 ≤ k ∧ k < (n : Int)) && decide (L ≤ k) && ascB n (l.drop (i + 1)) (k + 1)) := hL
            by_cases c : 0 ≤ k ∧ k < (n : Int)
            · rw [decide_eq_true c] at hL ⊢
              refine iteF ⟨_, rfl, _, rfl, _, _, rfl, rfl, _, rfl, ?_⟩
              by_cases d : L ≤ k
              · rw [decide_eq_true d] at hL
                rw [decide_eq_false (by omega : ¬ k < L)]
                exact iteF ⟨_, rfl, _, _, rfl, rfl, _, _, rfl, rfl, hL⟩
              · rw [decide_eq_false d] at hL
                rw [decide_eq_true (by omega : k < L)]
                exact iteT (by rw [show BV.ok n (.tup l) = false from hL] at q; exact q)
            · rw [decide_eq_false c] at hL ⊢
              exact iteT (by rw [show BV.ok n (.tup l) = false from hL] at q; exact q)
      · rintro σ H' ⟨L, y3, rfl, rfl, hL⟩
        rw [List.length_map, List.drop_length] at hL
        rw [show BV.ok n (.tup l) = true from hL] at q
        exact q
theorem scHf : FnScope ["graph", "bags", "parents", "number", "bag"] ["graph", "bags", "parents"] (defScope sHf) := ⟨rfl, rfl, rfl, by decide +kernel, rfl, by decide +kernel, by decide +kernel⟩
theorem ok_hf {f C fN fV fA : Addr} {fd fdN fdV fdA : FuncData} (F : Fun K "have_form" "have_form" sHf f fd) (T : TxG K mg C) (TX : TxA mg) (me : mg "enumerate" = none)
    (GN : FnOk P w K mg base CX0 1 fN fdN ["value"] spNum) (kN : PySem.W.keepIn K (.ref fN) = true) (bN : Binds K fdN ["value"] []) (gN : mg "is_number" = some (.ref fN))
    (GV : FnOk P w K mg base CX0 2 fV fdV ["value", "size"] spVtx) (kV : PySem.W.keepIn K (.ref fV) = true) (bV : Binds K fdV ["value", "size"] []) (gV : mg "is_vertex" = some (.ref fV))
    (GA : FnOk P w K mg base CX0 3 fA fdA ["value", "size"] (spAsc K)) (kA : PySem.W.keepIn K (.ref fA) = true) (bA : Binds K fdA ["value", "size"] []) (gA : mg "is_ascending" = some (.ref fA)) :
    FnOk P w K mg base CX0 4 f fd ["graph", "bags", "parents"] (spHf K C) := by
  refine F.ok scHf (fun vs H Q E h => ?_) (fun cdv A outer s H vs Q E hr h => ?_)
  · obtain ⟨g, vb, vp, n, qs, B, Pa, rfl, _⟩ := h
    rfl
  · obtain ⟨g, vb, vp, n, qs, B, Pa, rfl, G, hB, hP, q⟩ := h
    have hr1 : Room 1 _ := hr.mono (by decide)
    have hr2 : Room 2 _ := hr.mono (by decide)
    have hr3 : Room 3 _ := hr.mono (by decide)
    have ⟨dx, et, nt, hg, _⟩ := G.ob
    refine ⟨_, pss_cons (ps_if (PW.pt (pw_or (pt_not (pt_val (pe_callB call_isi (by rfl) TX.isi (by decide +kernel) (pa_cons (pv 1) (pa_cons (pe_bltn (v := .ty "tuple") (by rfl) TX.tuple (by decide +kernel) rfl) pa_nil)))))
          (pw_or1 (pt_not (pt_val (pe_callB call_isi (by rfl) TX.isi (by decide +kernel) (pa_cons (pv 2) (pa_cons (pe_bltn (v := .ty "tuple") (by rfl) TX.tuple (by decide +kernel) rfl) pa_nil)))))))) (pss_one (ps_ret pe_bl)) pss_nil)
      (pss_cons (ps_if (PW.pt (pw_or (pt_cmpR op_eq (pe_callB call_len_seq (by rfl) TX.len PySem.boot_len (pa_cons (pv 1) pa_nil)) pe_int (nomark _))
          (pw_or1 (pt_cmpR op_ne (pe_callB call_len_seq (by rfl) TX.len PySem.boot_len (pa_cons (pv 1) pa_nil)) (pe_callB call_len_seq (by rfl) TX.len PySem.boot_len (pa_cons (pv 2) pa_nil)) (nomark _))))) (pss_one (ps_ret pe_bl)) pss_nil)
      (pss_cons (ps_if (PW.pt (pw_or (pt_not (pt_val (pe_call GN hr1 (by rfl) gN kN bN .nil pass0 (pa_cons (pe_ix ix_tup (pv 2) pe_int (fun _ _ => rfl)) pa_nil))))
          (pw_or1 (pt_cmpR op_ne (pe_ix ix_tup (pv 2) pe_int (fun _ _ => rfl)) (pe_un un_neg pe_int) (by rfl))))) (pss_one (ps_ret pe_bl)) pss_nil)
      (pss_cons (ps_for PassesOwn.never rfl (pi_enT (by rfl) me (pa_cons (pv 1) pa_nil)) (pg_tup rfl (pgs_cons (pg_name (i := 3) scHf.nd rfl (.inl rfl)) (pgs_cons (pg_name (i := 4) scHf.nd rfl (.inl rfl)) pgs_nil)))
        (pss_cons (ps_if (pt_not (pt_val (pe_call GA hr3 (by rfl) gA kA bA .nil pass0 (pa_cons (pv 4) (pa_cons (pe_fld (pv 0) rfl) pa_nil))))) (pss_one (ps_ret pe_bl)) pss_nil)
        (pss_one (ps_if (PW.pt (pw_and (pt_cmpR op_gt (pv 3) pe_int (nomark _)) (pw_and1 (pt_not (pt_val (pe_call GV hr2 (by rfl) gV kV bV .nil pass0 (pa_cons (pe_ix ix_tup (pv 2) (pv 3) (fun _ _ => rfl)) (pa_cons (pv 3) pa_nil)))))))) (pss_one (ps_ret pe_bl)) pss_nil))))
      (pss_one (ps_ret pe_bl))))), ?_⟩
    cases hB with
    | non =>
      refine ⟨_, rfl, .non, .ty "tuple", .type "NoneType", .type "tuple", false, rfl, .ty "tuple", .base .non, kit_ty (by decide +kernel), false, rfl, iteT ?_⟩
      exact iteT (q H (Same.refl H))
    | lst h ht =>
      refine ⟨_, rfl, _, .ty "tuple", .type "list", .type "tuple", false, rfl, .ty "tuple", .base (.lst h), kit_ty (by decide +kernel), false, rfl, iteT ?_⟩
      exact iteT (q H (Same.refl H))
    | @tup b xs bs hB pl =>
    refine ⟨_, rfl, _, .ty "tuple", .type "tuple", .type "tuple", true, rfl, .ty "tuple", tyx_T hB, kit_ty (by decide +kernel), true, rfl, iteF ?_⟩
    cases hP with
    | lst h =>
      refine ⟨_, rfl, _, .ty "tuple", .type "list", .type "tuple", false, rfl, .ty "tuple", .base (.lst h), kit_ty (by decide +kernel), false, rfl, iteT ?_⟩
      exact q H (Same.refl H)
    | @tup p pars hP =>
    have lp := pl.length
    refine ⟨_, rfl, _, .ty "tuple", .type "tuple", .type "tuple", true, rfl, .ty "tuple", tyx_T hP, kit_ty (by decide +kernel), true, rfl, iteF ?_⟩
    refine ⟨_, rfl, b, _, rfl, .inr hB, rfl, _, rfl, ?_⟩
    by_cases c0 : bs.length = 0
    · refine iteY (by rw [lp, c0]; rfl) ?_
      have z := q H (Same.refl H)
      rw [form_nil c0] at z
      exact z
    refine iteD (fun e => c0 (by have z := V.int.inj e; omega)) ?_
    refine ⟨_, rfl, b, _, rfl, .inr hB, _, rfl, p, _, rfl, .inr hP, rfl, _, rfl, ?_⟩
    by_cases c1 : bs.length = pars.length
    rotate_left
    · refine iteN (fun e => c1 (by have z := V.int.inj e; rw [List.length_map] at z; omega)) ?_
      have z := q H (Same.refl H)
      rw [form_len c1] at z
      exact z
    refine iteNS (by rw [List.length_map, lp, c1]) ?_
    obtain ⟨r, hr0⟩ : ∃ r, pars[0]? = some r := ⟨_, List.getElem?_eq_getElem (by omega)⟩
    have p0 : (pars.map V.int)[0]? = some (.int r) := by rw [List.getElem?_map, hr0]; rfl
    refine ⟨_, rfl, p, _, 0, _, rfl, rfl, hP, at_nat (k := 0) p0, .int r, some r, rfl, .int r, true, rfl, iteF ?_⟩
    refine ⟨_, rfl, p, _, 0, _, rfl, rfl, hP, at_nat (k := 0) p0, 1, rfl, rfl, _, rfl, ?_⟩
    by_cases c2 : r = -1
    rotate_left
    · refine iteN (fun e => c2 (V.int.inj e)) ?_
      have z := q H (Same.refl H)
      rw [form_root (fun e => c2 (by rw [hr0] at e; exact Option.some.inj e))] at z
      exact z
    subst c2
    refine iteNS rfl ?_
    refine ⟨_, rfl, b, _, rfl, hB, for_it (walk_enT (K := K) (a := b) (xs := xs)) (fun t σ H' => ∃ (y3 y4 : Option V), σ = [some (.ref g), some (.ref b), some (.ref p), y3, y4] ∧ Same H H' ∧ ∀ i, i < t → okAt n bs pars i = true)
      ⟨none, none, rfl, Same.refl H, fun i hi => absurd hi (Nat.not_lt_zero _)⟩ (fun t σ H' _ ⟨_, _, _, s', _⟩ => same_sqT s' hB) ?_ ?_⟩
    · rintro t x σ H1 H' ht ⟨y3, y4, rfl, sm, hok⟩ ⟨T1, v1, v2, rfl, nT, rfl, e1, e2⟩
      cases e1
      have e2 : xs[t]? = some v2 := e2
      obtain ⟨c, hc, hca⟩ := paired_get pl e2
      have htb : t < bs.length := (List.getElem?_eq_some_iff.mp hc).1
      have hT1 : (upd H1 T1 (.tup [.int (t : Nat), v2])) T1 = some (.tup [.int (t : Nat), v2]) := upd_same
      have sm' : Same H (upd H1 T1 (.tup [.int (t : Nat), v2])) := same_put sm (sm.free nT)
      generalize (upd H1 T1 (.tup [.int (t : Nat), v2])) = H2 at hT1 sm' ⊢
      have no : okAt n bs pars t = false → okAt n bs pars t = false ∧ formB n (.tup bs) (.tup pars) = false := fun h => ⟨h, form_no htb h⟩
      refine ⟨T1, _, rfl, SqT.of hT1, rfl, _, _, rfl, _, _, rfl, rfl, ?_⟩
      refine ⟨_, rfl, _, rfl, g, C, dx, _, .int n, rfl, sm' _ _ hg, T.cl, T.nS, gf_size _ _ _, v2, n, c, rfl, hca.same sm', c.ok n, rfl, ?_⟩
      have oa : okAt n bs pars t = (c.ok n && (decide (t = 0) || ((pars[t]?).map fun p => decide (0 ≤ p ∧ p < (t : Int))).getD false)) := by
        unfold okAt
        rw [hc]
        rfl
      cases cb : c.ok n with
      | false =>
        refine iteT ?_
        have z := q H2 sm'
        rw [(no (by rw [oa, cb]; rfl)).2] at z
        exact z
      | true =>
      refine iteF ?_
      refine ⟨_, rfl, _, _, rfl, rfl, _, rfl, ?_⟩
      by_cases c0 : 0 < t
      · refine iteY (by omega) ?_
        have gp : ∃ z, pars[t]? = some z := ⟨_, List.getElem?_eq_getElem (by omega)⟩
        obtain ⟨z, hz⟩ := gp
        have hz2 : (pars.map V.int)[t]? = some (.int z) := by rw [List.getElem?_map, hz]; rfl
        refine ⟨_, rfl, _, rfl, p, _, t, _, rfl, rfl, same_sqT sm' hP, at_nat hz2, _, rfl, .int z, some z, t, rfl, .int z, vtxB t (some z), rfl, ?_⟩
        have vt : vtxB t (some z) = decide (0 ≤ z ∧ z < (t : Int)) := by simp [vtxB, Bool.decide_and]
        rw [vt]
        have oz : okAt n bs pars t = decide (0 ≤ z ∧ z < (t : Int)) := by
          rw [oa, cb, decide_eq_false (by omega : ¬ t = 0), hz]
          rfl
        by_cases c3 : 0 ≤ z ∧ z < (t : Int)
        · rw [decide_eq_true c3] at oz ⊢
          refine iteF ⟨_, _, rfl, sm', fun i hi => ?_⟩
          rcases Nat.lt_succ_iff_lt_or_eq.mp hi with h | h
          · exact hok i h
          · rw [h]; exact oz
        · rw [decide_eq_false c3] at oz ⊢
          refine iteT ?_
          have z := q H2 sm'
          rw [(no oz).2] at z
          exact z
      · refine iteD (by omega) ?_
        refine iteF ⟨_, _, rfl, sm', fun i hi => ?_⟩
        have i0 : i = 0 := by omega
        have t0 : t = 0 := by omega
        rw [i0, ← t0, oa, cb, decide_eq_true t0]
        rfl
    · rintro σ H' ⟨y3, y4, rfl, sm, hok⟩
      have z := q H' sm
      rw [form_yes c0 c1 hr0 (fun i hi => hok i (by omega))] at z
      exact z
end
end Sm

set_option Elab.async false
set_option linter.all false
set_option maxRecDepth 100000
set_option maxHeartbeats 8000000
namespace Sm
open PySem PySem.Spec PyProof.Rows L2
abbrev sFb : Stmt := topS 16
abbrev sIop : Stmt := topS 17
def optV : Option Int → V
  | some k => .int k
  | none => .non
def spFb (K : PySem.W.Frag) : Sp := fun vs H Q _ => ∃ (l : Addr) (ds : List Addr) (bs : List (List Int)) (u v : Nat), vs = [.ref l, .int u, .int v] ∧ H l = some (.lst (ds.map V.ref)) ∧ ds.Nodup ∧ DLists H ds (fun i => lyn bs i) ∧ u < ds.length ∧ v < ds.length ∧ u ≠ v ∧
  ∀ (H' : Hp), Same H H' → Q (optV ((lyn bs u).find? fun x => decide (x ∈ lyn bs v))) H'
def spIop (K : PySem.W.Frag) : Sp := fun vs H Q _ => ∃ (d p : Addr) (kvs : List (Key × V)) (ks pars : List Int), vs = [.ref d, .ref p] ∧ H d = some (.dK kvs) ∧ kvs.map (·.1) = ks.map Sum.inl ∧ SqT K H p (pars.map V.int) ∧ (∀ k ∈ ks, 0 ≤ k ∧ k < pars.length) ∧ ks.length ≤ 60 ∧
  ∀ H', Same H H' → Q (.bl (decide ((ks.filter fun x => decide (pars.getD x.toNat 0 ∉ ks)).length = 1))) H'
section
variable {P : Program} {w : World} {K : PySem.W.Frag} {mg : Str → Option Value} {base : Heap}
theorem scFb : FnScope ["lying", "u", "v", "number"] ["lying", "u", "v"] (defScope sFb) := ⟨rfl, rfl, rfl, by decide +kernel, rfl, by decide +kernel, by decide +kernel⟩
theorem ok_fb {f : Addr} {fd : FuncData} (F : Fun K "first_bag" "first_bag" sFb f fd) : FnOk P w K mg base CX0 1 f fd ["lying", "u", "v"] (spFb K) := by
  refine F.ok scFb (fun vs H Q E h => ?_) (fun cdv A outer s H vs Q E hr h => ?_)
  · obtain ⟨l, ds, bs, u, v, rfl, _⟩ := h
    rfl
  · obtain ⟨l, ds, bs, u, v, rfl, hl, nd, dl, hu1, hv1, huv, q⟩ := h
    have hu := hu_of hr
    obtain ⟨du, hdu⟩ : ∃ d, ds[u]? = some d := ⟨_, List.getElem?_eq_getElem hu1⟩
    obtain ⟨dv, hdv⟩ : ∃ d, ds[v]? = some d := ⟨_, List.getElem?_eq_getElem hv1⟩
    have gu : (ds.map V.ref)[u]? = some (.ref du) := by rw [List.getElem?_map, hdu]; rfl
    have gv : (ds.map V.ref)[v]? = some (.ref dv) := by rw [List.getElem?_map, hdv]; rfl
    obtain ⟨ku, hk1, hk2⟩ := dl u du hdu
    obtain ⟨kv, hk3, hk4⟩ := dl v dv hdv
    have ne : dv ≠ du := fun z => huv (nodup_at nd hdu (by rw [← z]; exact hdv))
    have ldu : l ≠ du := fun z => by rw [z, hk1] at hl; cases hl
    have lenk : ku.length = (lyn bs u).length := by have := congrArg List.length hk2; rwa [List.length_map, List.length_map] at this
    refine ⟨_, pss_cons (ps_lock (ps_for PassesOwn.never rfl (pi_keys (pe_ix ix_list (pv 0) (pv 1) (fun _ _ => rfl))) (pg_name (i := 3) scFb.nd rfl (.inl rfl))
        (pss_one (ps_if (pt_cmp (pc_din hu (pv 3) (pe_ix ix_list (pv 0) (pv 2) (fun _ _ => rfl)))) (pss_one (ps_ret (pv 3))) pss_nil))))
      (pss_one (ps_ret pe_non)), ?_⟩
    refine ⟨du, .dK ku, hk1, trivial, fun od => ?_⟩
    have hl' : (upd H du (.frz od (.dK ku))) l = some (.lst (ds.map V.ref)) := by rw [upd_ne ldu]; exact hl
    have hv' : (upd H du (.frz od (.dK ku))) dv = some (.dK kv) := by rw [upd_ne ne]; exact hk3
    refine ⟨_, rfl, _, rfl, l, _, u, _, rfl, rfl, SqL.of hl', at_nat gu, du, od, rfl, .inl ⟨ku, upd_same, for_it walk_keys (fun i σ H' => ∃ (y3 : Option V), σ = [some (.ref l), some (.int u), some (.int v), y3] ∧ H' = upd H du (.frz od (.dK ku)) ∧ ∀ x ∈ (lyn bs u).take i, x ∉ lyn bs v)
      ⟨none, rfl, rfl, fun x hx => by rw [List.take_zero] at hx; cases hx⟩ (fun i σ H' _ ⟨_, _, e, _⟩ => by rw [e]; exact upd_same) ?_ ?_⟩⟩
    · rintro i x σ H1 H' hi ⟨y3, rfl, rfl, hno⟩ ⟨rfl, k, v0, hkv, rfl⟩
      have ek : (ku.map (·.1))[i]? = some k := by rw [List.getElem?_map, hkv]; rfl
      rw [hk2, List.getElem?_map] at ek
      cases ey : (lyn bs u)[i]? with
      | none => rw [ey] at ek; cases ek
      | some y =>
        rw [ey] at ek
        cases ek
        refine ⟨_, rfl, _, rfl, _, rfl, l, _, v, _, rfl, rfl, SqL.of hl', at_nat gv, dv, _, rfl, DGet.k (k := Sum.inl y) hv', _, rfl, ?_⟩
        rw [valV_keys hk4]
        by_cases c : y ∈ lyn bs v
        · rw [decide_eq_true c]
          have z := q _ (same_lock (o := .frz od (.dK ku)) hk1)
          rw [find_some ey (decide_eq_true c) fun x hx => decide_eq_false (hno x hx)] at z
          exact iteT ⟨_, rfl, upd_same, z⟩
        · rw [decide_eq_false c]
          refine iteF ⟨_, rfl, rfl, fun z hz => ?_⟩
          rw [L2.take_next ey] at hz
          rcases List.mem_append.mp hz with h | h
          · exact hno z h
          · rw [List.mem_singleton.mp h]
            exact c
    · rintro σ H' ⟨y3, rfl, rfl, hno⟩
      rw [lenk, List.take_length] at hno
      have z := q _ (same_lock (o := .frz od (.dK ku)) hk1)
      rw [find_none fun x hx => decide_eq_false (hno x hx)] at z
      exact ⟨upd_same, z⟩
theorem scIop : FnScope ["numbers", "parents", "tops", "number"] ["numbers", "parents"] (defScope sIop) := ⟨rfl, rfl, rfl, by decide +kernel, rfl, by decide +kernel, by decide +kernel⟩
theorem ok_iop {f : Addr} {fd : FuncData} (F : Fun K "is_one_part" "is_one_part" sIop f fd) (ml : mg "len" = none) : FnOk P w K mg base CX0 1 f fd ["numbers", "parents"] (spIop K) := by
  refine F.ok scIop (fun vs H Q E h => ?_) (fun cdv A outer s H vs Q E hr h => ?_)
  · obtain ⟨d, p, kvs, ks, pars, rfl, _⟩ := h
    rfl
  · obtain ⟨d, p, kvs, ks, pars, rfl, hd, hk, hP, hks, few, q⟩ := h
    have hu := hu_of hr
    have lenk : kvs.length = ks.length := by have := congrArg List.length hk; rwa [List.length_map, List.length_map] at this
    refine ⟨_, pss_cons (ps_lock (ps_setLc (i := 2) (own := [("number", 3)]) (g := gName 3) (by rfl) scIop.nd rfl rfl (sw_true rfl rfl rfl (by decide +kernel)) (pi_keys (pv 0))
        (blkOk_by (own := [("number", 3)]) (N := ["numbers", "parents", "tops", "number"]) (sc := defScope sIop) (by decide +kernel)) (fun _ _ _ _ _ => pg_name (i := 3) scIop.nd rfl (Or.inl rfl))
        (fun _ _ _ _ _ => pts_one (pt_cmp (pc_dnotin hu (pe_ix (ixT_at (K := K) rfl) (pv 1) (pv 3) (fun _ _ => rfl)) (pv 0)))) (fun _ _ _ _ _ => pv 3)))
      (pss_one (ps_ret (pe_cmpR op_eq (pe_callB call_len_seq (by rfl) ml PySem.boot_len (pa_cons (pv 2) pa_nil)) pe_int (nomark _)))), ?_⟩
    refine ⟨d, .dK kvs, hd, trivial, fun od => ?_⟩
    have dT : SqT K (upd H d (.frz od (.dK kvs))) p (pars.map V.int) := by
      rcases hP with (h | ⟨o, h⟩) | h
      · exact .inl (.inl (by rw [upd_ne (fun z => by rw [z, hd] at h; cases h)]; exact h))
      · exact .inl (.inr ⟨o, by rw [upd_ne (fun z => by rw [z, hd] at h; cases h)]; exact h⟩)
      · exact .inr h
    refine ⟨_, rfl, d, od, rfl, .inl ⟨kvs, upd_same, fun D nD => ?_⟩⟩
    have Dd : D ≠ d := fun z => by rw [z, upd_same] at nD; cases nD
    have nDH : H D = none := by rw [upd_ne Dd] at nD; exact nD
    refine lc_it walk_keys (fun i H' => Same (upd H d (.frz od (.dK kvs))) H' ∧ H' D = some (.lst (((ks.take i).filter fun x => decide (pars.getD x.toNat 0 ∉ ks)).map V.int))) ⟨same_upd nD, upd_same⟩ (fun i H' _ h => h.1 _ _ upd_same) ?_ ?_
    · rintro i x H1 H' hi ⟨sm, hD⟩ ⟨rfl, k, v0, hkv, rfl⟩
      have ek : (kvs.map (·.1))[i]? = some k := by rw [List.getElem?_map, hkv]; rfl
      rw [hk, List.getElem?_map] at ek
      cases ey : ks[i]? with
      | none => rw [ey] at ek; cases ek
      | some y =>
        rw [ey] at ek
        cases ek
        have yb := hks y (List.mem_of_getElem? ey)
        obtain ⟨j, rfl⟩ : ∃ j : Nat, y = j := ⟨y.toNat, by omega⟩
        obtain ⟨z, hz⟩ : ∃ z, pars[j]? = some z := ⟨_, List.getElem?_eq_getElem (by omega)⟩
        have hz2 : (pars.map V.int)[j]? = some (.int z) := by rw [List.getElem?_map, hz]; rfl
        have gz : pars.getD ((j : Int)).toNat 0 = z := by rw [Int.toNat_natCast, List.getD_eq_getElem?_getD, hz]; rfl
        refine ⟨rfl, _, rfl, _, rfl, p, _, j, _, rfl, rfl, same_sqT sm dT, at_nat hz2, _, rfl, d, _, rfl, .inl ⟨kvs, Sum.inl z, .inr ⟨od, sm _ _ upd_same⟩, rfl, rfl⟩, _, rfl, ?_⟩
        rw [valV_keys hk, L2.take_next ey, List.filter_append]
        have small : ((((ks.take i).filter fun x => decide (pars.getD x.toNat 0 ∉ ks)).map V.int)).length < sizeLine := by
          rw [List.length_map]
          refine small1000 ?_
          have := List.length_filter_le (fun x => decide (pars.getD x.toNat 0 ∉ ks)) (ks.take i)
          rw [List.length_take] at this
          omega
        by_cases c : z ∈ ks
        · rw [decide_eq_true c]
          refine iteF ⟨sm, ?_⟩
          rw [flt0 (by rw [gz]; simp [c]), List.append_nil]
          exact hD
        · rw [decide_eq_false c]
          refine iteT ⟨_, rfl, _, hD, small, same_put sm nD, ?_⟩
          rw [upd_same, flt1 (by rw [gz]; simp [c]), List.map_append]
          rfl
    · rintro H' ⟨sm, hD⟩
      rw [lenk, List.take_length] at hD
      refine ⟨sm _ _ upd_same, _, rfl, D, _, rfl, .inl (SqL.of (by rw [upd_ne Dd]; exact hD)), rfl, ?_⟩
      have z := q _ (fun b x e => ?_ : Same H (upd H' d (.dK kvs)))
      · have e : ∀ m : Nat, decide (V.int (m : Int) = V.int 1) = decide (m = 1) := fun m => by
          rw [decide_eq_decide]
          exact ⟨fun h => by have := V.int.inj h; omega, fun h => by rw [h]; rfl⟩
        rw [← e] at z
        rw [List.length_map]
        exact z
      · by_cases c : b = d
        · subst c
          rw [upd_same, ← e, hd]
        · rw [upd_ne c]
          exact sm _ _ (by rw [upd_ne c]; exact e)
end
end Sm

set_option Elab.async false
set_option linter.all false
set_option maxRecDepth 100000
set_option maxHeartbeats 8000000
namespace Sm
open PySem PySem.Spec PyProof.Rows L2
theorem faultF_no {n : Nat} {es : List Pr} : ∀ {B : Bags} {Pa : Pars}, formB n B Pa = false → faultF n es B Pa = .form
  | .non, _, _ => rfl
  | .lst _, _, _ => rfl
  | .tup _, .lst _, _ => rfl
  | .tup bs, .tup ps, h => by
    show (if formB n (.tup bs) (.tup ps) = true then _ else FR.form) = .form
    rw [if_neg (by rw [h]; decide)]
theorem faultF_yes {n : Nat} {es : List Pr} {bs : List BV} {ps : List Int} (h : formB n (.tup bs) (.tup ps) = true) : faultF n es (.tup bs) (.tup ps) = faultL n es (bs.map BV.ints) ps := if_pos h
theorem form_tup {n : Nat} : ∀ {B : Bags} {Pa : Pars}, formB n B Pa = true → ∃ bs ps, B = .tup bs ∧ Pa = .tup ps
  | .non, _, h => by cases h
  | .lst _, _, h => by cases h
  | .tup _, .lst _, h => by cases h
  | .tup bs, .tup ps, _ => ⟨bs, ps, rfl, rfl⟩
theorem fl_vert {n i : Nat} {es : List Pr} {cs : List (List Int)} {ps : List Int} (hi : i < n) (h : noBag cs i = true) (hn : ∀ j, j < i → noBag cs j = false) : faultL n es cs ps = .vert i := by
  unfold faultL
  rw [firstN_some hi h hn]
theorem fl_edge {n i : Nat} {es : List Pr} {cs : List (List Int)} {ps : List Int} {q : Pr} (h0 : ∀ j, j < n → noBag cs j = false) (hi : es[i]? = some q) (h : noCom cs q = true) (hn : ∀ x ∈ es.take i, noCom cs x = false) : faultL n es cs ps = .edge q.1 q.2 := by
  unfold faultL
  rw [firstN_none h0, find_some hi h hn]
theorem fl_apart {n i : Nat} {es : List Pr} {cs : List (List Int)} {ps : List Int} (h0 : ∀ j, j < n → noBag cs j = false) (h1 : ∀ x ∈ es, noCom cs x = false) (hi : i < n) (h : parted cs ps i = true) (hn : ∀ j, j < i → parted cs ps j = false) : faultL n es cs ps = .apart i := by
  unfold faultL
  rw [firstN_none h0, find_none h1, firstN_some hi h hn]
theorem fl_ok {n : Nat} {es : List Pr} {cs : List (List Int)} {ps : List Int} (h0 : ∀ j, j < n → noBag cs j = false) (h1 : ∀ x ∈ es, noCom cs x = false) (h2 : ∀ j, j < n → parted cs ps j = false) : faultL n es cs ps = .ok := by
  unfold faultL
  rw [firstN_none h0, find_none h1, firstN_none h2]
theorem noCom_find {cs : List (List Int)} {q : Pr} : noCom cs q = ((lyn cs q.1).find? fun x => decide (x ∈ lyn cs q.2)).isNone := by
  unfold noCom
  cases fd : (lyn cs q.1).find? fun x => decide (x ∈ lyn cs q.2) with
  | some k =>
    have e : ((lyn cs q.1).any fun x => decide (x ∈ lyn cs q.2)) = true := List.any_eq_true.mpr ⟨k, List.mem_of_find?_eq_some fd, by have z := List.find?_some fd; exact z⟩
    rw [e]
    rfl
  | none =>
    have e : ((lyn cs q.1).any fun x => decide (x ∈ lyn cs q.2)) = false := List.any_eq_false.mpr fun x hx => List.find?_eq_none.mp fd x hx
    rw [e]
    rfl
theorem dp1 {K : PySem.W.Frag} {H : Hp} {a : Addr} {x : Str} (h : H a = some (.tup [.str x])) : Dp K H (.ref a) (.tuple [.str x]) := .tup (SqT.of h) (.cons (.str x) .nil)
theorem dp2 {K : PySem.W.Frag} {H : Hp} {a : Addr} {x : Str} {i : Int} (h : H a = some (.tup [.str x, .int i])) : Dp K H (.ref a) (.tuple [.str x, .int i]) := .tup (SqT.of h) (.cons (.str x) (.cons (.int i) .nil))
theorem dp3 {K : PySem.W.Frag} {H : Hp} {a : Addr} {x : Str} {i j : Int} (h : H a = some (.tup [.str x, .int i, .int j])) : Dp K H (.ref a) (.tuple [.str x, .int i, .int j]) := .tup (SqT.of h) (.cons (.str x) (.cons (.int i) (.cons (.int j) .nil)))
abbrev sFt : Stmt := topS 13
def spFt (K : PySem.W.Frag) (C : Addr) : Sp := fun vs H Q _ => ∃ (g : Addr) (vb vp : V) (n : Nat) (qs : List Pr) (B : Bags) (Pa : Pars), vs = [.ref g, vb, vp] ∧ GraphAt K C H g n qs ∧ BagsV K H vb B ∧ ParsV K H vp Pa ∧ (∀ bs, B = .tup bs → bs.length ≤ 60) ∧
  ∀ H' v, Same H H' → Dp K H' v (frD (faultF n qs B Pa)) → Q v H'
section
variable {P : Program} {w : World} {K : PySem.W.Frag} {mg : Str → Option Value} {base : Heap}
abbrev ftN : List Str := ["graph", "bags", "parents", "lying", "vertex", "u", "v"]
theorem scFt : FnScope ftN ["graph", "bags", "parents"] (defScope sFt) := ⟨rfl, rfl, rfl, by decide +kernel, rfl, by decide +kernel, by decide +kernel⟩
theorem ok_ft {f C fH fB fF fI : Addr} {fd fdH fdB fdF fdI : FuncData} (F : Fun K "fault" "fault" sFt f fd) (T : TxG K mg C) (mr : mg "range" = none)
    (GH : FnOk P w K mg base CX0 4 fH fdH ["graph", "bags", "parents"] (spHf K C)) (kH : PySem.W.keepIn K (.ref fH) = true) (bH : Binds K fdH ["graph", "bags", "parents"] []) (gH : mg "have_form" = some (.ref fH))
    (GB : FnOk P w K mg base CX0 1 fB fdB ["graph", "bags"] (spBw K C)) (kB : PySem.W.keepIn K (.ref fB) = true) (bB : Binds K fdB ["graph", "bags"] []) (gB : mg "bags_with" = some (.ref fB))
    (GF : FnOk P w K mg base CX0 1 fF fdF ["lying", "u", "v"] (spFb K)) (kF : PySem.W.keepIn K (.ref fF) = true) (bF : Binds K fdF ["lying", "u", "v"] []) (gF : mg "first_bag" = some (.ref fF))
    (GI : FnOk P w K mg base CX0 1 fI fdI ["numbers", "parents"] (spIop K)) (kI : PySem.W.keepIn K (.ref fI) = true) (bI : Binds K fdI ["numbers", "parents"] []) (gI : mg "is_one_part" = some (.ref fI)) :
    FnOk P w K mg base CX0 5 f fd ["graph", "bags", "parents"] (spFt K C) := by
  refine F.ok scFt (fun vs H Q E h => ?_) (fun cdv A outer s H vs Q E hr h => ?_)
  · obtain ⟨g, vb, vp, n, qs, B, Pa, rfl, _⟩ := h
    rfl
  · obtain ⟨g, vb, vp, n, qs, B, Pa, rfl, G, hB, hP, few, q⟩ := h
    have hr4 : Room 4 _ := hr.mono (by decide)
    have hr1 : Room 1 _ := hr.mono (by decide)
    have lim := G.lim
    have ⟨dx, et, nt, hg, ⟨ets, hE, hEP⟩, _⟩ := G.ob
    refine ⟨_, pss_cons (ps_if (pt_not (pt_val (pe_call GH hr4 (by rfl) gH kH bH .nil pass0 (pa_cons (pv 0) (pa_cons (pv 1) (pa_cons (pv 2) pa_nil)))))) (pss_one (ps_ret (pe_tup (pa_cons pe_str pa_nil)))) pss_nil)
      (pss_cons (ps_set (i := 3) scFt.nd rfl (.inl rfl) (pe_call GB hr1 (by rfl) gB kB bB .nil pass0 (pa_cons (pv 0) (pa_cons (pv 1) pa_nil))))
      (pss_cons (ps_for PassesOwn.never rfl (pi_range1 rfl mr (pa_cons (pe_fld (pv 0) rfl) pa_nil)) (pg_name (i := 4) scFt.nd rfl (.inl rfl))
        (pss_one (ps_if (pt_not (truth_at (K := K) rfl (pe_ix ix_list (pv 3) (pv 4) (fun _ _ => rfl)) (by intro _; rfl))) (pss_one (ps_ret (pe_tup (pa_cons pe_str (pa_cons (pv 4) pa_nil))))) pss_nil)))
      (pss_cons (ps_for PassesOwn.never rfl (pi_tup (pe_fld (pv 0) rfl)) (pg_tup rfl (pgs_cons (pg_name (i := 5) scFt.nd rfl (.inl rfl)) (pgs_cons (pg_name (i := 6) scFt.nd rfl (.inl rfl)) pgs_nil)))
        (pss_one (ps_if (pt_cmp (pc_isN (pe_call GF hr1 (by rfl) gF kF bF .nil pass0 (pa_cons (pv 3) (pa_cons (pv 5) (pa_cons (pv 6) pa_nil)))))) (pss_one (ps_ret (pe_tup (pa_cons pe_str (pa_cons (pv 5) (pa_cons (pv 6) pa_nil)))))) pss_nil)))
      (pss_cons (ps_for PassesOwn.never rfl (pi_range1 rfl mr (pa_cons (pe_fld (pv 0) rfl) pa_nil)) (pg_name (i := 4) scFt.nd rfl (.inl rfl))
        (pss_one (ps_if (pt_not (pt_val (pe_call GI hr1 (by rfl) gI kI bI .nil pass0 (pa_cons (pe_ix ix_list (pv 3) (pv 4) (fun _ _ => rfl)) (pa_cons (pv 2) pa_nil))))) (pss_one (ps_ret (pe_tup (pa_cons pe_str (pa_cons (pv 4) pa_nil))))) pss_nil)))
      (pss_one (ps_ret pe_non)))))), ?_⟩
    refine ⟨_, rfl, _, rfl, _, rfl, g, vb, vp, n, qs, B, Pa, rfl, G, hB, hP, fun H1 s1 => ⟨formB n B Pa, rfl, ?_⟩⟩
    cases fB : formB n B Pa with
    | false =>
      refine iteT ⟨(by show 1 ≤ sizeLine; decide), fun a na => ?_⟩
      refine q _ _ (s1.trans (same_upd na)) ?_
      rw [faultF_no fB]
      exact dp1 upd_same
    | true =>
    refine iteF ?_
    obtain ⟨bvs, pars, rfl, rfl⟩ := form_tup fB
    have OK := form_ok fB
    rw [faultF_yes fB] at q
    have few := few bvs rfl
    generalize hbs : bvs.map BV.ints = bs at OK q
    have few : bs.length ≤ 60 := by rw [← hbs, List.length_map]; exact few
    cases hB with
    | @tup b xs _ hB pl =>
    cases hP with
    | @tup p _ hP =>
    rw [OK.tups] at pl
    obtain ⟨ps, rfl, pt⟩ := tups_of pl
    refine ⟨_, rfl, _, rfl, g, b, n, qs, ps, bs, rfl, G.same s1, same_sqT s1 hB, pt.same s1, OK.bag, few, fun H2 l ds s2 nl hl hlen nd dl => ?_⟩
    have s2' := s1.trans s2
    have toNat : ((n : Nat) : Int).toNat = n := by omega
    have gat : ∀ u, u < n → ∃ d, ds[u]? = some d ∧ (ds.map V.ref)[u]? = some (.ref d) := fun u hu => by
      have e : ds[u]? = some (ds[u]'(by omega)) := List.getElem?_eq_getElem (by omega)
      exact ⟨_, e, by rw [List.getElem?_map, e]; rfl⟩
    refine ⟨_, rfl, g, C, dx, _, .int n, rfl, s2' _ _ hg, T.cl, T.nS, gf_size _ _ _, n, rfl, by omega, by omega, ?_⟩
    rw [toNat]
    refine for_range (lo := 0) (n := n) (fun i σ H' => ∃ (y4 : Option V), σ = [some (.ref g), some (.ref b), some (.ref p), some (.ref l), y4, none, none] ∧ Same H2 H' ∧ ∀ j, j < i → noBag bs j = false)
      ⟨none, rfl, Same.refl H2, fun j hj => absurd hj (Nat.not_lt_zero _)⟩ ?_ ?_
    · rintro i σ H' hi ⟨y4, rfl, sm, hno⟩
      have e0 : (0 : Int) + (i : Int) = (i : Int) := by omega
      rw [e0]
      obtain ⟨d, hd, gd⟩ := gat i hi
      obtain ⟨kvs, h1, h2⟩ := dl i d hd
      refine ⟨_, rfl, _, rfl, l, _, i, _, rfl, rfl, SqL.of (sm _ _ hl), at_nat gd, !kvs.isEmpty, .inr (.inr ⟨kvs, sm _ _ h1, rfl⟩), ?_⟩
      have em : (!kvs.isEmpty) = !noBag bs i := by
        unfold noBag
        cases kvs with
        | nil => rw [decide_eq_true (List.map_eq_nil_iff.mp h2.symm)]; rfl
        | cons a r =>
          rw [decide_eq_false (fun z => by
            have h2 : _ = (lyn bs i).map Sum.inl := h2
            rw [z] at h2
            cases h2)]
          rfl
      rw [em]
      cases nb : noBag bs i with
      | true =>
        refine iteT ⟨_, rfl, (by show 2 ≤ sizeLine; decide), fun a na => ?_⟩
        refine q _ _ (s2'.trans (sm.trans (same_upd na))) ?_
        rw [fl_vert hi nb hno]
        exact dp2 upd_same
      | false =>
        refine iteF ⟨_, rfl, sm, fun j hj => ?_⟩
        rcases Nat.lt_succ_iff_lt_or_eq.mp hj with h | h
        · exact hno j h
        · rw [h]; exact nb
    · rintro σ H3 ⟨y4, rfl, s3, nov⟩
      have s3' := s2'.trans s3
      refine ⟨_, rfl, g, C, dx, _, .ref et, rfl, s3' _ _ hg, T.cl, T.nE, gf_edges _ _ _, et, rfl, ⟨_, same_sqT s3' hE⟩, for_it (walk_tup (K := K) (a := et) (xs := ets.map V.ref)) (fun i σ H' => ∃ (y5 y6 : Option V), σ = [some (.ref g), some (.ref b), some (.ref p), some (.ref l), y4, y5, y6] ∧ Same H3 H' ∧ ∀ x ∈ qs.take i, noCom bs x = false)
        ⟨none, none, rfl, Same.refl H3, fun x hx => by rw [List.take_zero] at hx; cases hx⟩ (fun i σ H' _ ⟨_, _, _, s', _⟩ => same_sqT (s3'.trans s') hE) ?_ ?_⟩
      · rintro i x σ H' H'' hi ⟨y5, y6, rfl, sm, hno⟩ ⟨rfl, hx⟩
        have hx : (ets.map V.ref)[i]? = some x := hx
        rw [List.getElem?_map] at hx
        cases ea : ets[i]? with
        | none => rw [ea] at hx; cases hx
        | some a =>
          rw [ea] at hx
          cases hx
          obtain ⟨⟨u, v⟩, hq, hs⟩ := (hEP.same (s3'.trans sm)).get ea
          have mq := List.mem_of_getElem? hq
          have ok := G.ok _ mq
          have ⟨o1, o2, o3⟩ := ok
          dsimp only at o1 o2 o3 hs
          obtain ⟨u, rfl⟩ : ∃ k : Nat, u = k := ⟨u.toNat, by omega⟩
          obtain ⟨v, rfl⟩ : ∃ k : Nat, v = k := ⟨v.toNat, by omega⟩
          have sg := s3.trans sm
          have nc : noCom bs ((u : Int), (v : Int)) = ((lyn bs u).find? fun x => decide (x ∈ lyn bs v)).isNone := noCom_find
          refine ⟨a, _, rfl, hs, rfl, _, _, rfl, _, _, rfl, rfl, ?_⟩
          refine ⟨_, rfl, _, rfl, _, rfl, l, ds, bs, u, v, rfl, sg _ _ hl, nd, fun i d hd => ?_, by omega, by omega, by omega, fun H5 s5 => ?_⟩
          · obtain ⟨kvs, h1, h2⟩ := dl i d hd
            exact ⟨kvs, sg _ _ h1, h2⟩
          · cases fd : (lyn bs u).find? fun x => decide (x ∈ lyn bs v) with
            | some k =>
              rw [fd] at nc
              refine ⟨_, rfl, iteF ⟨_, _, rfl, sm.trans s5, fun x hx => ?_⟩⟩
              rw [L2.take_next hq] at hx
              rcases List.mem_append.mp hx with h | h
              · exact hno x h
              · rw [List.mem_singleton.mp h]; exact nc
            | none =>
              rw [fd] at nc
              refine ⟨_, rfl, iteT ⟨_, rfl, _, rfl, (by show 3 ≤ sizeLine; decide), fun a na => ?_⟩⟩
              refine q _ _ (s3'.trans (sm.trans (s5.trans (same_upd na)))) ?_
              rw [fl_edge nov hq nc hno]
              exact dp3 upd_same
      · rintro σ H4 ⟨y5, y6, rfl, s4, hno⟩
        have le : (ets.map V.ref).length = qs.length := by rw [List.length_map, hEP.length]
        rw [le, List.take_length] at hno
        have s4' := s3'.trans s4
        refine ⟨_, rfl, g, C, dx, _, .int n, rfl, s4' _ _ hg, T.cl, T.nS, gf_size _ _ _, n, rfl, by omega, by omega, ?_⟩
        rw [toNat]
        refine for_range (lo := 0) (n := n) (fun i σ H' => ∃ (y4 : Option V), σ = [some (.ref g), some (.ref b), some (.ref p), some (.ref l), y4, y5, y6] ∧ Same H4 H' ∧ ∀ j, j < i → parted bs pars j = false)
          ⟨_, rfl, Same.refl H4, fun j hj => absurd hj (Nat.not_lt_zero _)⟩ ?_ ?_
        · rintro i σ H' hi ⟨y4, rfl, sm, hap⟩
          have e0 : (0 : Int) + (i : Int) = (i : Int) := by omega
          rw [e0]
          obtain ⟨d, hd, gd⟩ := gat i hi
          obtain ⟨kvs, h1, h2⟩ := dl i d hd
          have sg := s3.trans (s4.trans sm)
          have ln := lyn_len bs i
          have pe : decide (((lyn bs i).filter fun x => decide (pars.getD x.toNat 0 ∉ lyn bs i)).length = 1) = !parted bs pars i := by
            unfold parted topsL
            by_cases c : ((lyn bs i).filter fun x => decide (pars.getD x.toNat 0 ∉ lyn bs i)).length = 1
            · rw [decide_eq_true c, decide_eq_false (fun z => z c)]; rfl
            · rw [decide_eq_false c, decide_eq_true c]; rfl
          refine ⟨_, rfl, _, rfl, l, _, i, _, rfl, rfl, SqL.of (sg _ _ hl), at_nat gd, _, rfl, d, p, kvs, lyn bs i, pars, rfl, sg _ _ h1, h2, same_sqT (s2'.trans sg) hP, fun k hk => ?_, by omega, fun H5 s5 => ⟨_, rfl, ?_⟩⟩
          · rw [← OK.len]
            exact lyn_lt hk
          · rw [pe]
            cases pb : parted bs pars i with
            | true =>
              refine iteT ⟨_, rfl, (by show 2 ≤ sizeLine; decide), fun a na => ?_⟩
              refine q _ _ (s4'.trans (sm.trans (s5.trans (same_upd na)))) ?_
              rw [fl_apart nov hno hi pb hap]
              exact dp2 upd_same
            | false =>
              refine iteF ⟨_, rfl, sm.trans s5, fun j hj => ?_⟩
              rcases Nat.lt_succ_iff_lt_or_eq.mp hj with h | h
              · exact hap j h
              · rw [h]; exact pb
        · rintro σ H5 ⟨y4, rfl, s5, hap⟩
          refine q H5 _ (s4'.trans s5) ?_
          rw [fl_ok nov hno hap]
          exact .non
end
end Sm

set_option Elab.async false
set_option linter.all false
set_option maxRecDepth 100000
set_option maxHeartbeats 8000000
namespace Sm
open PySem PySem.Spec PyProof.Rows L2
/-! ### all of a list of booleans -/
inductive BoolsAre : List Value → List Bool → Prop where
  | nil : BoolsAre [] []
  | cons (b : Bool) {vs : List Value} {bs : List Bool} (t : BoolsAre vs bs) : BoolsAre (.bool b :: vs) (b :: bs)
theorem bools_of : ∀ {us : List Value} {bs : List Bool}, Vals (bs.map V.bl) us → BoolsAre us bs
  | _, [], h => by cases h; exact .nil
  | _, b :: bs, h => by
    cases h with
    | cons r t =>
      cases r
      exact .cons b (bools_of t)
theorem reads_bools {h : Heap} : ∀ {its : List Value} {bs : List Bool}, BoolsAre its bs → ReadsAll h its (bs.map PyData.bool) []
  | _, _, .nil => .nil
  | _, _, .cons b r => .cons (.bool b) (reads_bools r)
theorem plain_bools : ∀ bs : List Bool, PyData.plainAll (bs.map PyData.bool) = true
  | [] => rfl
  | b :: bs => by
    rw [List.map_cons, PyData.plainAll, plain_bools bs]
    rfl
theorem all_bools (bs : List Bool) : (bs.map PyData.bool).all PyData.truthy = bs.all id := by
  rw [List.all_map]
  rfl
def rAllB (K : PySem.W.Frag) : List V → Hp → VK → Prop := fun vs H Q => ∃ (a : Addr) (bs : List Bool), vs = [V.ref a] ∧ SqL K H a (bs.map V.bl) ∧ Q (.bl (bs.all id)) H
theorem cr_allB {X : Cx} (hc : X.calm = true) : CallR X (.builtin "all") (rAllB X.K) := by
  intro pins s σ H vs us Q I r h
  obtain ⟨a, bs, rfl, hs, q⟩ := h
  obtain ⟨its, rv, hl, _⟩ := I.list hs
  rw [Vals.ref1 r]
  refine PySem.W.all_list_data (I.ok.hd hc) hl.isList (reads_bools (bools_of rv)) (plain_bools bs) (fun x hx => ?_) fun h' tk hk => ?_
  · obtain ⟨b, _, rfl⟩ := List.mem_map.mp hx
    trivial
  · rw [all_bools]
    exact ⟨.bl _, H, I.kept hk, rfl, q⟩
end Sm

set_option Elab.async false
set_option linter.all false
set_option maxRecDepth 100000
set_option maxHeartbeats 8000000
/-! ### sorted of a tuple of integers -/
namespace SmSo
open PySem PyProof.Rows Srt SrtO
section
variable {prog : Program} {w : World} {A : Around} {E : Value → Shared → Prop} {s : Shared}
theorem coll_tup {l : Addr} {vs : List Value} {Q : List Value → Shared → Prop} (hl : s.heap.IsTuple l vs.toArray)
    (h : Q vs { s with heap := (s.heap.push (seqObj "list" #[] 0)).update s.heap.objs.size (Obj.mapSeq (· ++ vs.toArray)) }) (hsz : vs.length ≤ sizeLine) :
    wpAny (model prog w) A (collect (.ref l)) Q E s := by
  obtain ⟨o, ho, hc, n, hd⟩ := id hl
  unfold collect
  refine wpAny_bind (wpAny_runValue (codeAny_builtin entry_proto_collect' ?_))
  show wpAny _ _ (do again (.builtin "list.__iadd__" ⟨[← newList [], .ref l], []⟩)) _ _ s
  refine wpAny_bind (wpAny_newList (wpAny_pure ⟨Code.quiet_builtin _ (by decide +kernel), codeAny_builtin entry_list_iadd' ?_⟩))
  show wpAny _ _ (Builtin.List.listExtendWith (.ref s.heap.objs.size) (.ref l) (.ref s.heap.objs.size)) _ _ { s with heap := s.heap.push (seqObj "list" #[] 0) }
  unfold Builtin.List.listExtendWith
  have ho' : (s.heap.push (seqObj "list" #[] 0)).get? l = some o := Heap.get?_push_of_some _ ho
  refine wpAny_bind (wpAny_typeOf (T := "tuple") ⟨o, ho', hc⟩ ?_)
  have ht : (Value.type "tuple" == Value.type "tuple") = true := by rfl
  rw [if_pos (by rw [ht]; simp)]
  refine wpAny_bind (listItems_at ho' hd ?_)
  refine wpAny_bind (listItems_at (xs := #[]) (n := 0) (Heap.get?_push_size _ rfl) rfl ?_)
  rw [if_neg (by simp)]
  refine wpAny_bind (listUpdate_at (xs := #[]) (n := 0) (Heap.get?_push_size _ rfl) rfl ?_ (Nat.zero_le _) (by show (#[] ++ vs.toArray).size ≤ sizeLine + 1; simp only [Array.size_append, List.size_toArray, List.length_nil]; omega))
  refine wpAny_pure ?_
  show wpAny (model prog w) A (do
      let o ← load s.heap.objs.size
      match o.data with
      | .seq xs _ => pure xs.toList
      | _ => unsupported "internal:collect") Q E { s with heap := (s.heap.push (seqObj "list" #[] 0)).update s.heap.objs.size (Obj.mapSeq (· ++ vs.toArray)) }
  refine wpAny_bind (wpAny_load (get?_update_seq (Heap.get?_push_size _ rfl) _) ?_)
  show wpAny _ _ (pure ((#[] : Array Value) ++ vs.toArray).toList) Q E _
  rw [show ((#[] : Array Value) ++ vs.toArray).toList = vs by simp]
  exact wpAny_pure h
theorem sort_tup {l : Addr} {vs : List Value} {ltv : Value → Value → Bool} {Q : Value → Shared → Prop} (O : Swo ltv) (hl : s.heap.IsTuple l vs.toArray) (hz : vs.length ≤ sizeLine)
    (hS : 2 ≤ vs.length → ∀ (h₁ : Heap) (a : Addr), h₁.get? a = some (seqObj "list" vs.toArray 0) → (∀ b o, s.heap.get? b = some o → b ≠ a ∧ h₁.get? b = some o) → SortableO prog w A.in1.in1 { s with heap := h₁ } a vs ltv)
    (h : ∀ out : List Value, Srtd ltv out → Stb ltv out vs → Q (.ref (s.heap.objs.size + 1)) { s with heap := sortedAll s.heap vs out.toArray }) :
    wpAny (model prog w) A (call (.builtin "sorted") [.ref l]) Q E s := by
  refine Calls.call_function_entry kind_sorted plain_sorted entry_sorted (args_sorted1 _) ?_
  unfold Builtin.«sorted»
  refine wpAny_bind (m := checkCount "sorted" 1 1 _) (wpAny_pure ?_)
  refine wpAny_bind (coll_tup hl ?_ hz)
  refine wpAny_bind (wpAny_newList ?_ hz)
  have hsz : ((s.heap.push (seqObj "list" #[] 0)).update s.heap.objs.size (Obj.mapSeq (· ++ vs.toArray))).objs.size = s.heap.objs.size + 1 := by
    rw [Heap.size_update, size_push']
  have hoL : (((s.heap.push (seqObj "list" #[] 0)).update s.heap.objs.size (Obj.mapSeq (· ++ vs.toArray))).push (seqObj "list" vs.toArray 0)).get? (s.heap.objs.size + 1) = some (seqObj "list" vs.toArray 0) := by
    rw [← hsz]; exact Heap.get?_push_size _ rfl
  have keep : ∀ b o, s.heap.get? b = some o → b ≠ s.heap.objs.size + 1 ∧ (((s.heap.push (seqObj "list" #[] 0)).update s.heap.objs.size (Obj.mapSeq (· ++ vs.toArray))).push (seqObj "list" vs.toArray 0)).get? b = some o := fun b o q => by
    have hlt : b < s.heap.objs.size := Heap.lt_size q
    refine ⟨Nat.ne_of_lt (Nat.lt_succ_of_lt hlt), Heap.get?_push_of_some _ ?_⟩
    rw [Heap.get?_update_ne _ _ _ _ (Nat.ne_of_lt hlt)]
    exact Heap.get?_push_of_some _ q
  show wpAny _ _ _ _ _ { s with heap := ((s.heap.push (seqObj "list" #[] 0)).update s.heap.objs.size (Obj.mapSeq (· ++ vs.toArray))).push (seqObj "list" vs.toArray 0) }
  rw [hsz]
  refine wpAny_bind (wpAny_holding (wpAny_call_entry slot_list_sort ⟨_, hoL, rfl⟩ entry_list_sort (list_sort_ord O hoL hz (fun h2 => hS h2 _ _ hoL keep) fun out hs hb => ⟨_, rfl, ?_⟩) (args_list_sort _)))
  exact wpAny_pure ⟨_, rfl, h out hs hb⟩
end
end SmSo
namespace Sm
open PySem PySem.Spec PyProof.Rows L2
def rSortTI (K : PySem.W.Frag) : List V → Hp → VK → Prop := fun vs H Q => ∃ (a : Addr) (ns : List Int), vs = [V.ref a] ∧ SqT K H a (ns.map V.int) ∧
  ∀ (ns' : List Int) (p : Addr), ns'.Perm ns → ns'.Pairwise (· ≤ ·) → H p = none → Q (.ref p) (upd H p (.lst (ns'.map V.int)))
theorem cr_sortTI {X : Cx} : CallR X (.builtin "sorted") (rSortTI X.K) := by
  intro pins s σ H vs us Q I r h
  obtain ⟨a, ns, rfl, hs, q⟩ := h
  obtain ⟨its, rv, hl, hz⟩ := I.tuple hs
  rw [Vals.ref1 r]
  have hi := rv.ints
  refine SmSo.sort_tup SrtO.swo_int (show s.heap.IsTuple a its.toArray from hl) (by rw [← rv.length]; exact hz) (fun h2 h₁ a' _ _ => SrtO.ints_sortable hi h2) fun out h1 h2 => ?_
  obtain ⟨k1, k2, k3⟩ := SrtO.ints_out hi h1 h2
  obtain ⟨ep, he'⟩ := PyProof.Rows.sortedAll_at s.heap its out.toArray
  have hlen : ((out.map SrtO.iv).map V.int).length ≤ sizeLine := by
    rw [List.length_map, k2.length_eq]
    rw [List.length_map] at hz
    exact hz
  exact ⟨.ref _, upd H (s.heap.objs.size + 1) (.lst ((out.map SrtO.iv).map V.int)), I.laid (t' := s.toks) (fun _ _ => PyProof.Rows.sortedAll_old) (Nat.le_succ _) ⟨hlen, out, ep, vals_of_ints k1, he'⟩, rfl, q _ _ k2 k3 (I.hok.fresh (Nat.le_succ _))⟩
end Sm

set_option Elab.async false
set_option linter.all false
set_option maxRecDepth 100000
set_option maxHeartbeats 8000000
namespace Sm
open PySem PySem.Spec PyProof.Rows L2
/-! ### the law's look at the form -/
theorem sub_perm : ∀ {F c : List Int}, F.Nodup → (∀ x ∈ F, x ∈ c) → ∃ d, c.Perm (F ++ d)
  | [], c, _, _ => ⟨c, .refl _⟩
  | x :: F, c, nd, h => by
    obtain ⟨n1, n2⟩ := List.nodup_cons.mp nd
    have p := List.perm_cons_erase (h x List.mem_cons_self)
    obtain ⟨d, hd⟩ := sub_perm (F := F) (c := c.erase x) n2 fun y hy => (List.mem_erase_of_ne (fun z : y = x => n1 (z ▸ hy))).mpr (h y (List.mem_cons_of_mem _ hy))
    exact ⟨d, p.trans (hd.cons x)⟩
def inL (n : Nat) (c : List Int) : List Int := (vxs n).filter fun v => decide (v ∈ c)
theorem inL_lt (n : Nat) (c : List Int) : (inL n c).Pairwise (· < ·) := (vxs_lt n).filter _
theorem inL_mem {n : Nat} {c : List Int} (h : ∀ k ∈ c, Vx n k) (v : Int) : v ∈ inL n c ↔ v ∈ c := by
  unfold inL
  rw [List.mem_filter, mem_vxs, decide_eq_true_eq]
  exact ⟨fun z => z.2, fun z => ⟨h v z, z⟩⟩
theorem inL_self {n : Nat} {c : List Int} (h : ∀ k ∈ c, Vx n k) (lt : c.Pairwise (· < ·)) : inL n c = c := lt_ext (inL_lt n c) lt (inL_mem h)
theorem inL_nd {n : Nat} {c : List Int} (h : ∀ k ∈ c, Vx n k) (e : (inL n c).length = c.length) : c.Nodup := by
  have nd : (inL n c).Nodup := List.Pairwise.imp (fun {a b} h e => by omega) (inL_lt n c)
  obtain ⟨d, hd⟩ := sub_perm nd fun x hx => (inL_mem h x).mp hx
  have l := hd.length_eq
  rw [List.length_append] at l
  have d0 : d = [] := List.eq_nil_of_length_eq_zero (by omega)
  subst d0
  rw [List.append_nil] at hd
  exact hd.nodup_iff.mpr nd
theorem sorted_self {c c' : List Int} (lt : c.Pairwise (· < ·)) (p : c'.Perm c) (le : c'.Pairwise (· ≤ ·)) : c = c' := by
  have nd : c.Nodup := List.Pairwise.imp (fun {a b} h e => by omega) lt
  exact lt_ext lt (lt_of_le le (p.nodup_iff.mpr nd)) fun k => p.mem_iff.symm
theorem ints_eqv2 : ∀ a b : List Int, PyData.eqvAll (a.map PyData.int) (b.map PyData.int) = decide (a = b)
  | [], [] => by simp [PyData.eqvAll]
  | [], b :: bs => by simp [PyData.eqvAll]
  | a :: as, [] => by simp [PyData.eqvAll]
  | a :: as, b :: bs => by
    simp only [List.map_cons, PyData.eqvAll, PyData.eqv, ints_eqv2 as bs]
    by_cases c : a = b
    · subst c; simp
    · simp [c]
def inB (n : Nat) (l : List (Option Int)) : Bool := (l.map (vtxB n)).all id
theorem vtx_iff {n : Nat} {k : Int} : vtxB n (some k) = true ↔ Vx n k := by
  unfold Vx
  simp only [vtxB, Bool.and_eq_true, decide_eq_true_eq]
theorem inB_some {n : Nat} : ∀ {l : List (Option Int)}, inB n l = true → ∃ c : List Int, l = c.map some ∧ ∀ k ∈ c, Vx n k
  | [], _ => ⟨[], rfl, fun k hk => by cases hk⟩
  | none :: l, h => by cases h
  | some k :: l, h => by
    have h : (vtxB n (some k) && inB n l) = true := h
    rw [Bool.and_eq_true] at h
    obtain ⟨c, rfl, hc⟩ := inB_some h.2
    refine ⟨k :: c, rfl, fun x hx => ?_⟩
    rcases List.mem_cons.mp hx with z | z
    · rw [z]; exact vtx_iff.mp h.1
    · exact hc x z
theorem inB_of {n : Nat} : ∀ {c : List Int}, (∀ k ∈ c, Vx n k) → inB n (c.map some) = true
  | [], _ => rfl
  | k :: c, h => by
    show (vtxB n (some k) && inB n (c.map some)) = true
    rw [vtx_iff.mpr (h k List.mem_cons_self), inB_of fun x hx => h x (List.mem_cons_of_mem _ hx)]
    rfl
theorem asc_inB {n : Nat} {l : List (Option Int)} (h : ascB n l 0 = true) : inB n l = true := by
  obtain ⟨c, rfl, _, hv, _⟩ := ascB_ok h
  exact inB_of hv
theorem map_some_inj {a b : List Int} (h : a.map some = b.map some) : a = b := by
  have := congrArg (fun l => l.filterMap id) h
  simpa only [fm_some] using this
theorem asc_lt {n : Nat} {c : List Int} (h : ascB n (c.map some) 0 = true) : c.Pairwise (· < ·) := by
  obtain ⟨c', e, p, _, _⟩ := ascB_ok h
  rw [map_some_inj e]
  exact p
theorem asc_of {n : Nat} {c : List Int} (lt : c.Pairwise (· < ·)) (h : ∀ k ∈ c, Vx n k) : ascB n (c.map some) 0 = true := ascB_of lt h fun k hk => (h k hk).1
def BV.len : BV → Nat
  | .tup l => l.length
  | .lst l => l.length
theorem intsL_shaped (l : List Int) : SeqAt.shaped (.list (l.map PyData.int)) = true := by
  have h1 := ints_depth l
  have h2 := ints_lay l
  unfold SeqAt.shaped
  rw [Bool.and_eq_true]
  refine ⟨by simp only [PyData.canLay0]; exact h2, decide_eq_true ?_⟩
  simp only [PyData.depth]
  omega
abbrev sLhf : Stmt := topS 27
def spIsG : Sp := fun vs H Q _ => ∃ v i, vs = [v] ∧ IB v i ∧ Q (.bl i.isSome) H
def spLhf (K : PySem.W.Frag) : Sp := fun vs H Q _ => ∃ (vb vp : V) (n : Nat) (B : Bags) (Pa : Pars), vs = [.int n, vb, vp] ∧ n ≤ 60 ∧ BagsV K H vb B ∧ ParsV K H vp Pa ∧ (∀ bs, B = .tup bs → bs.length ≤ 60 ∧ ∀ b ∈ bs, b.len ≤ 100) ∧
  ∀ H', Same H H' → Q (.bl (formB n B Pa)) H'
section
variable {P : Program} {w : World} {K : PySem.W.Frag} {mg : Str → Option Value} {base : Heap}
theorem ok_isg {f : Addr} {fd : FuncData} (F : Fun K "_law_is_integer" "_law_is_integer" sIsi f fd) (T : TxA mg) : FnOk P w K mg base CX0 1 f fd ["actual"] spIsG := by
  refine F.ok scIsi (fun vs H Q E h => ?_) (fun cdv A outer s H vs Q E hr h => ?_)
  · obtain ⟨v, i, rfl, _⟩ := h
    rfl
  · obtain ⟨v, i, rfl, hv, q⟩ := h
    refine ⟨_, pss_one (ps_ret (pe_and (pe_callB call_isi (by rfl) T.isi (by decide +kernel) (pa_cons (pv 0) (pa_cons (pe_bltn (v := .ty "int") (by rfl) T.int (by decide +kernel) rfl) pa_nil)))
      (pe_one (pe_not (pe_callB call_isi (by rfl) T.isi (by decide +kernel) (pa_cons (pv 0) (pa_cons (pe_bltn (v := .ty "bool") (by rfl) T.bool (by decide +kernel) rfl) pa_nil))))))), ?_⟩
    cases hv with
    | int i =>
      refine ⟨_, rfl, .int i, .ty "int", .type "int", .type "int", true, rfl, .ty "int", .base (.int i), kit_ty (by decide +kernel), true, rfl, iteT ?_⟩
      exact ⟨_, rfl, .int i, .ty "bool", .type "int", .type "bool", false, rfl, .ty "bool", .base (.int i), kit_ty (by decide +kernel), false, rfl, q⟩
    | bl b =>
      refine ⟨_, rfl, .bl b, .ty "int", .type "bool", .type "int", true, rfl, .ty "int", .base (.bl b), kit_ty (by decide +kernel), true, rfl, iteT ?_⟩
      exact ⟨_, rfl, .bl b, .ty "bool", .type "bool", .type "bool", true, rfl, .ty "bool", .base (.bl b), kit_ty (by decide +kernel), true, rfl, q⟩
abbrev hfN : List Str := ["size", "bags", "parents", "k", "v"]
theorem scLhf : FnScope hfN ["size", "bags", "parents"] (defScope sLhf) := ⟨rfl, rfl, rfl, by decide +kernel, rfl, by decide +kernel, by decide +kernel⟩
theorem ok_lhf {f fI : Addr} {fd fdI : FuncData} (F : Fun K "_law_has_form" "_law_has_form" sLhf f fd) (TX : TxA mg)
    (GI : FnOk P w K mg base CX0 1 fI fdI ["actual"] spIsG) (kI : PySem.W.keepIn K (.ref fI) = true) (bI : Binds K fdI ["actual"] []) (gI : mg "_law_is_integer" = some (.ref fI))
    (mr : mg "range" = none) (ma : mg "all" = none) (mli : mg "list" = none) (ms : mg "sorted" = none) (mx : mg "max" = none) :
    FnOk P w K mg base CX0 2 f fd ["size", "bags", "parents"] (spLhf K) := by
  refine F.ok scLhf (fun vs H Q E h => ?_) (fun cdv A outer s H vs Q E hr h => ?_)
  · obtain ⟨vb, vp, n, B, Pa, rfl, _⟩ := h
    rfl
  · obtain ⟨vb, vp, n, B, Pa, rfl, hn, hB, hP, few, q⟩ := h
    have hu := Nat.lt_of_le_of_lt (Nat.add_le_add_left (by decide : 64 ≤ 65) _) (u65 hr)
    have hr1 : Room 1 _ := hr.mono (by decide)
    refine ⟨_, pss_cons (ps_if (PW.pt (pw_or (pt_not (pt_val (pe_callB call_isi (by rfl) TX.isi (by decide +kernel) (pa_cons (pv 1) (pa_cons (pe_bltn (v := .ty "tuple") (by rfl) TX.tuple (by decide +kernel) rfl) pa_nil)))))
          (pw_or (pt_not (pt_val (pe_callB call_isi (by rfl) TX.isi (by decide +kernel) (pa_cons (pv 2) (pa_cons (pe_bltn (v := .ty "tuple") (by rfl) TX.tuple (by decide +kernel) rfl) pa_nil)))))
          (pw_or (pt_cmpR op_ne (pe_callB call_len_seq (by rfl) TX.len PySem.boot_len (pa_cons (pv 1) pa_nil)) (pe_callB call_len_seq (by rfl) TX.len PySem.boot_len (pa_cons (pv 2) pa_nil)) (nomark _))
          (pw_or1 (pt_cmpR op_eq (pe_callB call_len_seq (by rfl) TX.len PySem.boot_len (pa_cons (pv 1) pa_nil)) pe_int (nomark _))))))) (pss_one (ps_ret pe_bl)) pss_nil)
      (pss_cons (ps_for PassesOwn.never rfl (pi_range1 rfl mr (pa_cons (pe_callB call_len_seq (by rfl) TX.len PySem.boot_len (pa_cons (pv 1) pa_nil)) pa_nil)) (pg_name (i := 3) scLhf.nd rfl (.inr rfl))
        (pss_cons (ps_if (PW.pt (pw_or (pt_not (pt_val (pe_callB call_isi (by rfl) TX.isi (by decide +kernel) (pa_cons (pe_ix ix_tup (pv 1) (pv 3) (fun _ _ => rfl)) (pa_cons (pe_bltn (v := .ty "tuple") (by rfl) TX.tuple (by decide +kernel) rfl) pa_nil)))))
            (pw_or1 (pt_not (pt_val (pe_callB (cr_allB rfl) (by rfl) ma (by decide +kernel) (pa_cons (pe_lc (own := [("v", 4)]) (g := gName 4) (by rfl) scLhf.nd (pi_tup (pe_ix ix_tup (pv 1) (pv 3) (fun _ _ => rfl))) (blkOk_by (own := [("v", 4)]) (N := hfN) (sc := defScope sLhf) (by decide +kernel)) (fun _ _ _ _ _ => pg_name (i := 4) scLhf.nd rfl (Or.inl rfl))
              (fun _ _ _ _ _ => pts_nil) (fun _ _ _ _ _ => pe_and (pe_call GI hr1 (by rfl) gI kI bI .nil pass0 (pa_cons (pv 4) pa_nil)) (pe_and (pe_cmpR op_le pe_int (pv 4) (nomark _)) (pe_one (pe_cmpR op_lt (pv 4) (pv 0) (nomark _)))))) pa_nil))))))) (pss_one (ps_ret pe_bl)) pss_nil)
        (pss_cons (ps_if (PW.pt (pw_or (pt_cmpR (op_neD hu) (pe_callTy call_list_of (by rfl) mli (by decide +kernel) (pa_cons (pe_ix ix_tup (pv 1) (pv 3) (fun _ _ => rfl)) pa_nil)) (pe_callB cr_sortTI (by rfl) ms (by decide +kernel) (pa_cons (pe_ix ix_tup (pv 1) (pv 3) (fun _ _ => rfl)) pa_nil)) (nomark _))
            (pw_or1 (pt_cmpR op_ne (pe_callB call_len_seq (by rfl) TX.len PySem.boot_len (pa_cons (pe_lc (own := [("v", 4)]) (g := gName 4) (by rfl) scLhf.nd (pi_range1 rfl mr (pa_cons (pv 0) pa_nil)) (blkOk_by (own := [("v", 4)]) (N := hfN) (sc := defScope sLhf) (by decide +kernel)) (fun _ _ _ _ _ => pg_name (i := 4) scLhf.nd rfl (Or.inl rfl))
              (fun _ _ _ _ _ => pts_one (pt_cmpR (inS_at rfl) (pv 4) (pe_ix (ixT_at (K := K) rfl) (pv 1) (pv 3) (fun _ _ => rfl)) (by rfl))) (fun _ _ _ _ _ => pv 4)) pa_nil)) (pe_callB call_len_seq (by rfl) TX.len PySem.boot_len (pa_cons (pe_ix ix_tup (pv 1) (pv 3) (fun _ _ => rfl)) pa_nil)) (nomark _))))) (pss_one (ps_ret pe_bl)) pss_nil)
        (pss_one (ps_if (PW.pt (pw_or (pt_not (pt_val (pe_call GI hr1 (by rfl) gI kI bI .nil pass0 (pa_cons (pe_ix ix_tup (pv 2) (pv 3) (fun _ _ => rfl)) pa_nil))))
            (pw_or (pt_cmpR op_ge (pe_ix ix_tup (pv 2) (pv 3) (fun _ _ => rfl)) (pe_callB (call_max2 rfl) (by rfl) mx (by decide +kernel) (pa_cons (pv 3) (pa_cons pe_int pa_nil))) (nomark _))
            (pw_or1 (pt_cmpR op_lt (pe_ix ix_tup (pv 2) (pv 3) (fun _ _ => rfl)) (pe_ix ix_list (pe_lst (pa_cons pe_int (pa_cons (pe_un un_neg pe_int) pa_nil))) (pe_callTy call_int1 (by rfl) TX.int (by decide +kernel) (pa_cons (pe_cmpR op_eq (pv 3) pe_int (nomark _)) pa_nil)) (fun _ _ => rfl)) (nomark _)))))) (pss_one (ps_ret pe_bl)) pss_nil)))))
      (pss_one (ps_ret pe_bl))), ?_⟩
    cases hB with
    | non =>
      refine ⟨_, rfl, .non, .ty "tuple", .type "NoneType", .type "tuple", false, rfl, .ty "tuple", .base .non, kit_ty (by decide +kernel), false, rfl, iteT ?_⟩
      exact iteT (q H (Same.refl H))
    | lst h ht =>
      refine ⟨_, rfl, _, .ty "tuple", .type "list", .type "tuple", false, rfl, .ty "tuple", .base (.lst h), kit_ty (by decide +kernel), false, rfl, iteT ?_⟩
      exact iteT (q H (Same.refl H))
    | @tup b xs bs hB pl =>
    refine ⟨_, rfl, _, .ty "tuple", .type "tuple", .type "tuple", true, rfl, .ty "tuple", tyx_T hB, kit_ty (by decide +kernel), true, rfl, iteF ?_⟩
    cases hP with
    | lst h =>
      refine ⟨_, rfl, _, .ty "tuple", .type "list", .type "tuple", false, rfl, .ty "tuple", .base (.lst h), kit_ty (by decide +kernel), false, rfl, iteT ?_⟩
      exact iteT (q H (Same.refl H))
    | @tup p pars hP =>
    have lp := pl.length
    have ⟨few1, few2⟩ := few bs rfl
    refine ⟨_, rfl, _, .ty "tuple", .type "tuple", .type "tuple", true, rfl, .ty "tuple", tyx_T hP, kit_ty (by decide +kernel), true, rfl, iteF ?_⟩
    refine ⟨_, rfl, b, _, rfl, .inr hB, _, rfl, p, _, rfl, .inr hP, rfl, _, rfl, ?_⟩
    by_cases c1 : bs.length = pars.length
    rotate_left
    · refine iteN (fun e => c1 (by have z := V.int.inj e; rw [List.length_map] at z; omega)) ?_
      have z := q H (Same.refl H)
      rw [form_len c1] at z
      exact iteT z
    refine iteNS (by rw [List.length_map, lp, c1]) ?_
    refine ⟨_, rfl, b, _, rfl, .inr hB, rfl, _, rfl, ?_⟩
    by_cases c0 : bs.length = 0
    · refine iteY (by rw [lp, c0]; rfl) ?_
      have z := q H (Same.refl H)
      rw [form_nil c0] at z
      exact z
    refine iteD (fun e => c0 (by have z := V.int.inj e; omega)) ?_
    obtain ⟨r, hr0⟩ : ∃ r, pars[0]? = some r := ⟨_, List.getElem?_eq_getElem (by omega)⟩
    have toNat : ∀ m : Nat, ((m : Nat) : Int).toNat = m := fun m => by omega
    refine ⟨_, rfl, b, _, rfl, .inr hB, xs.length, rfl, by omega, by omega, ?_⟩
    rw [toNat]
    refine for_range (lo := 0) (n := xs.length) (fun t σ H' => ∃ (y3 : Option V), σ = [some (.int n), some (.ref b), some (.ref p), y3, none] ∧ Same H H' ∧ (∀ i, i < t → okAt n bs pars i = true) ∧ (0 < t → r = -1))
      ⟨none, rfl, Same.refl H, fun i hi => absurd hi (Nat.not_lt_zero _), fun h => absurd h (Nat.lt_irrefl _)⟩ ?_ ?_
    · rintro t σ H' ht ⟨y3, rfl, sm, hok, hroot⟩
      have e0 : (0 : Int) + (t : Int) = (t : Int) := by omega
      rw [e0]
      obtain ⟨v, hv⟩ : ∃ v, xs[t]? = some v := ⟨_, List.getElem?_eq_getElem ht⟩
      obtain ⟨bv, hbv, hvb⟩ := paired_get pl hv
      have htb : t < bs.length := (List.getElem?_eq_some_iff.mp hbv).1
      have mbv := few2 bv (List.mem_of_getElem? hbv)
      have oa : okAt n bs pars t = (bv.ok n && (decide (t = 0) || ((pars[t]?).map fun p => decide (0 ≤ p ∧ p < (t : Int))).getD false)) := by
        unfold okAt
        rw [hbv]
        rfl
      have bad : ∀ {H8 : Hp}, Same H H8 → bv.ok n = false → Q (.bl false) H8 := fun {H8} s8 h => by
        have z := q H8 s8
        rw [form_no htb (by rw [oa, h]; rfl)] at z
        exact z
      refine ⟨_, rfl, _, rfl, b, _, t, _, rfl, rfl, same_sqT sm hB, at_nat hv, ?_⟩
      cases hvb with
      | @lst a l hL =>
        refine ⟨_, .ty "tuple", .type "list", .type "tuple", false, rfl, .ty "tuple", .base (.lst (sm _ _ hL)), kit_ty (by decide +kernel), false, rfl, iteT ?_⟩
        exact iteT (bad sm rfl)
      | @tup T l hT =>
      refine ⟨_, .ty "tuple", .type "tuple", .type "tuple", true, rfl, .ty "tuple", tyx_T (same_sqT sm hT), kit_ty (by decide +kernel), true, rfl, iteF ?_⟩
      refine ⟨_, rfl, _, rfl, b, _, t, _, rfl, rfl, same_sqT sm hB, at_nat hv, T, rfl, ⟨_, same_sqT sm hT⟩, fun D nD => ?_⟩
      have ll : l.length ≤ 100 := mbv
      refine lc_tup (K := K) (a := T) (xs := l.map ovV) (fun m H7 => Same H' H7 ∧ H7 D = some (.lst (((l.map (vtxB n)).take m).map V.bl))) ⟨same_upd nD, upd_same⟩ (fun m H7 _ h => same_sqT (sm.trans h.1) hT) ?_ ?_
      · rintro m x H7 hx7 ⟨s7, hD⟩
        rw [List.getElem?_map] at hx7
        cases eo : l[m]? with
        | none => rw [eo] at hx7; cases hx7
        | some o =>
          rw [eo] at hx7
          cases hx7
          have em : (l.map (vtxB n))[m]? = some (vtxB n o) := by rw [List.getElem?_map, eo]; rfl
          have small : (((l.map (vtxB n)).take m).map V.bl).length < sizeLine := by
            rw [List.length_map, List.length_take, List.length_map]
            exact small1000 (by omega)
          have fin : ∀ {y : Bool}, y = vtxB n o → Same H' (upd H7 D (.lst (((l.map (vtxB n)).take m).map V.bl ++ [V.bl y]))) ∧ (upd H7 D (.lst (((l.map (vtxB n)).take m).map V.bl ++ [V.bl y]))) D = some (.lst (((l.map (vtxB n)).take (m + 1)).map V.bl)) := fun {y} e => by
            refine ⟨same_put s7 nD, ?_⟩
            rw [upd_same, L2.take_next em, List.map_append, e]
            rfl
          refine ⟨rfl, _, rfl, ovV o, o, rfl, ov_ib o, o.isSome, rfl, ?_⟩
          cases o with
          | none => exact iteF ⟨_, hD, small, fin rfl⟩
          | some k =>
            refine iteT ⟨_, rfl, _, _, rfl, rfl, _, rfl, ?_⟩
            by_cases c2 : 0 ≤ k
            · refine iteY c2 ⟨_, rfl, _, rfl, _, _, rfl, rfl, _, hD, small, fin ?_⟩
              simp [vtxB, c2]
            · refine iteD c2 ⟨_, hD, small, fin ?_⟩
              simp [vtxB, c2]
      · rintro H7 ⟨s7, hD⟩
        rw [List.length_map, List.take_of_length_le (by rw [List.length_map]; exact Nat.le_refl _)] at hD
        have sH7 := sm.trans s7
        refine ⟨D, _, rfl, SqL.of hD, _, rfl, ?_⟩
        cases ib : (l.map (vtxB n)).all id with
        | false =>
          refine iteT (bad sH7 ?_)
          cases z : BV.ok n (.tup l) with
          | false => rfl
          | true =>
            have y := asc_inB (show ascB n l 0 = true from z)
            rw [show inB n l = false from ib] at y
            cases y
        | true =>
        obtain ⟨c, rfl, hc⟩ := inB_some (show inB n l = true from ib)
        have em : (c.map some).map ovV = c.map V.int := by rw [List.map_map]; rfl
        rw [em] at hT
        rw [List.length_map] at ll
        refine iteF ?_
        refine ⟨_, rfl, _, rfl, b, _, t, _, rfl, rfl, same_sqT sH7 hB, at_nat hv, T, _, rfl, .inr (same_sqT sH7 hT), fun l8 nl8 => ?_⟩
        have s8 := same_upd (o := .lst (c.map V.int)) nl8
        have hl8 : (upd H7 l8 (.lst (c.map V.int))) l8 = some (.lst (c.map V.int)) := upd_same
        generalize (upd H7 l8 (.lst (c.map V.int))) = H8 at s8 hl8 ⊢
        have sH8 := sH7.trans s8
        refine ⟨_, rfl, _, rfl, b, _, t, _, rfl, rfl, same_sqT sH8 hB, at_nat hv, T, c, rfl, same_sqT sH8 hT, fun ns' p9 pm le np9 => ?_⟩
        have s9 := same_upd (o := .lst (ns'.map V.int)) np9
        have hp9 : (upd H8 p9 (.lst (ns'.map V.int))) p9 = some (.lst (ns'.map V.int)) := upd_same
        generalize (upd H8 p9 (.lst (ns'.map V.int))) = H9 at s9 hp9 ⊢
        have sH9 := sH8.trans s9
        refine ⟨.list (c.map PyData.int), .list (ns'.map PyData.int), .lst (SqL.of (s9 _ _ hl8)) (dp_ints _), .lst (SqL.of hp9) (dp_ints _), intsL_shaped _, intsL_shaped _, _, rfl, ?_⟩
        have ee : PyData.eqv (.list (c.map PyData.int)) (.list (ns'.map PyData.int)) = decide (c = ns') := by
          simp only [PyData.eqv]
          exact ints_eqv2 _ _
        rw [ee]
        by_cases cc : c = ns'
        rotate_left
        · rw [decide_eq_false cc]
          refine iteT (iteT (bad sH9 ?_))
          cases z : BV.ok n (.tup (c.map some)) with
          | false => rfl
          | true => exact absurd (sorted_self (asc_lt (show ascB n (c.map some) 0 = true from z)) pm le) cc
        rw [decide_eq_true cc]
        refine iteF ?_
        rw [← cc] at le
        refine ⟨_, rfl, n, rfl, by omega, by omega, fun D2 nD2 => ?_⟩
        rw [toNat]
        have vl : (vxs n).length = n := by unfold vxs; rw [List.length_map, List.length_range]
        refine lc_range (lo := 0) (n := n) (fun m H7 => Same H9 H7 ∧ H7 D2 = some (.lst ((((vxs n).take m).filter fun v => decide (v ∈ c)).map V.int))) ⟨same_upd nD2, upd_same⟩ ?_ ?_
        · rintro m H10 hm ⟨s10, hD2⟩
          have e1 : (0 : Int) + (m : Int) = (m : Int) := by omega
          rw [e1]
          have ek : (vxs n)[m]? = some (m : Int) := by
            unfold vxs
            rw [List.getElem?_map, List.getElem?_range hm]
            rfl
          have sH10 := sH9.trans s10
          refine ⟨rfl, _, rfl, _, rfl, _, rfl, b, _, t, _, rfl, rfl, same_sqT sH10 hB, at_nat hv, T, c.map V.int, rfl, .inr (same_sqT sH10 hT), rfl, flat_ints _, _, rfl, iteIn (fun c2 => ?_) (fun c2 => ?_)⟩
          · refine ⟨_, rfl, _, hD2, flt_few (m := n) (by omega) (by omega), same_put s10 nD2, ?_⟩
            rw [upd_same, flt_take ek, if_pos (by simp [c2]), List.map_append]
            rfl
          · refine ⟨s10, ?_⟩
            rw [flt_take ek, if_neg (by simp [c2]), List.append_nil]
            exact hD2
        rintro H10 ⟨s10, hD2⟩
        have sH10 := sH9.trans s10
        rw [List.take_of_length_le (by omega)] at hD2
        refine ⟨D2, _, rfl, .inl (SqL.of hD2), _, rfl, _, rfl, b, _, t, _, rfl, rfl, same_sqT sH10 hB, at_nat hv, T, _, rfl, .inr (same_sqT sH10 hT), rfl, _, rfl, ?_⟩
        by_cases cl : (inL n c).length = c.length
        rotate_left
        · refine iteN (fun e => cl ?_) (bad sH10 ?_)
          · have e := V.int.inj e
            rw [List.length_map, List.length_map] at e
            exact Int.ofNat.inj e
          · cases z : BV.ok n (.tup (c.map some)) with
            | false => rfl
            | true => exact absurd (congrArg List.length (inL_self hc (asc_lt (show ascB n (c.map some) 0 = true from z)))) cl
        refine iteNS (by
          rw [List.length_map, List.length_map]
          exact congrArg (fun k : Nat => V.int (k : Int)) cl) ?_
        have lt := lt_of_le le (inL_nd hc cl)
        have okb : BV.ok n (.tup (c.map some)) = true := asc_of lt hc
        obtain ⟨z, hz⟩ : ∃ z, pars[t]? = some z := ⟨_, List.getElem?_eq_getElem (by omega)⟩
        have hz2 : (pars.map V.int)[t]? = some (.int z) := by rw [List.getElem?_map, hz]; rfl
        rw [okb, hz] at oa
        have oa : okAt n bs pars t = (decide (t = 0) || decide (0 ≤ z ∧ z < (t : Int))) := oa
        have bad3 : ∀ {H8 : Hp}, Same H H8 → ¬ ((t = 0 → z = -1) ∧ (0 < t → 0 ≤ z ∧ z < (t : Int))) → Q (.bl false) H8 := fun {H8} s8 h => by
          have y := q H8 s8
          by_cases t0 : t = 0
          · subst t0
            rw [form_root (fun e => h ⟨fun _ => by rw [hz] at e; exact Option.some.inj e, fun z => absurd z (Nat.lt_irrefl _)⟩)] at y
            exact y
          · have w0 : ¬ (0 ≤ z ∧ z < (t : Int)) := fun w1 => h ⟨fun z => absurd z t0, fun _ => w1⟩
            rw [decide_eq_false t0, decide_eq_false w0] at oa
            rw [form_no htb oa] at y
            exact y
        refine ⟨_, rfl, _, rfl, p, _, t, _, rfl, rfl, same_sqT sH10 hP, at_nat hz2, .int z, some z, rfl, .int z, true, rfl, iteF ?_⟩
        refine ⟨_, rfl, _, rfl, p, _, t, _, rfl, rfl, same_sqT sH10 hP, at_nat hz2, _, rfl, _, _, rfl, ?_⟩
        refine ⟨_, _, rfl, rfl, _, rfl, ?_⟩
        have em2 : (if (0 : Int) > (t : Int) then (0 : Int) else (t : Int)) = t := if_neg (by omega)
        rw [em2]
        by_cases c3 : (t : Int) ≤ z
        · refine iteY c3 (iteT (bad3 sH10 fun h => ?_))
          by_cases t0 : t = 0
          · have := h.1 t0
            omega
          · have := h.2 (by omega)
            omega
        refine iteD c3 ?_
        refine ⟨_, rfl, _, rfl, p, _, t, _, rfl, rfl, same_sqT sH10 hP, at_nat hz2, ?_⟩
        refine ⟨1, rfl, (by show 2 ≤ sizeLine; decide), fun p5 np5 => ?_⟩
        have s5 := same_upd (o := .lst [V.int 0, V.int (-1)]) np5
        have hp5 : (upd H10 p5 (.lst [V.int 0, V.int (-1)])) p5 = some (.lst [V.int 0, V.int (-1)]) := upd_same
        have sH5 := sH10.trans s5
        refine ⟨_, rfl, rfl, .inr ⟨decide (V.int (t : Int) = V.int 0), rfl, ?_⟩⟩
        have hk : (if decide (V.int (t : Int) = V.int 0) = true then (1 : Int) else 0) = if t = 0 then 1 else 0 := by
          by_cases t0 : t = 0
          · subst t0; rfl
          · rw [decide_eq_false (fun e => t0 (by have := V.int.inj e; omega)), if_neg t0]; rfl
        rw [hk]
        refine ⟨p5, [V.int 0, V.int (-1)], _, V.int (if t = 0 then -1 else 0), rfl, rfl, SqL.of hp5, ?_, z, _, rfl, rfl, _, rfl, ?_⟩
        · by_cases t0 : t = 0
          · rw [if_pos t0, if_pos t0]; rfl
          · rw [if_neg t0, if_neg t0]; rfl
        by_cases c4 : z < (if t = 0 then (-1 : Int) else 0)
        · refine iteY c4 (bad3 sH5 fun h => ?_)
          by_cases t0 : t = 0
          · have := h.1 t0
            rw [if_pos t0] at c4
            omega
          · have := h.2 (by omega)
            rw [if_neg t0] at c4
            omega
        refine iteD c4 ⟨_, rfl, sH5, fun i hi => ?_, fun _ => ?_⟩
        · rcases Nat.lt_succ_iff_lt_or_eq.mp hi with h | h
          · exact hok i h
          · rw [h, oa]
            by_cases t0 : t = 0
            · rw [decide_eq_true t0]; rfl
            · rw [if_neg t0] at c4
              rw [decide_eq_true (by omega : 0 ≤ z ∧ z < (t : Int)), Bool.or_true]
        · by_cases t0 : t = 0
          · rw [if_pos t0] at c4
            subst t0
            rw [hz] at hr0
            have := Option.some.inj hr0
            omega
          · exact hroot (by omega)
    · rintro σ H' ⟨y3, rfl, sm, hok, hroot⟩
      have z := q H' sm
      have r1 : r = -1 := hroot (by omega)
      subst r1
      rw [form_yes c0 c1 hr0 (fun i hi => hok i (by omega))] at z
      exact z
end
end Sm

set_option Elab.async false
set_option linter.all false
set_option maxRecDepth 100000
set_option maxHeartbeats 8000000
namespace Sm
open PySem PySem.Spec PyProof.Rows L2
/-! ### the law's look at the faults -/
theorem noBag_iff {bs : List (List Int)} {v : Nat} : noBag bs v = decide (bs.countP (fun b => decide ((v : Int) ∈ b)) = 0) := by
  unfold noBag
  rw [decide_eq_decide]
  constructor
  · intro h
    rw [List.countP_eq_zero]
    intro b hb z
    obtain ⟨i, hi, e⟩ := List.getElem_of_mem hb
    have m : (i : Int) ∈ lyn bs v := mem_lyn.mpr ⟨i, hi, by rw [List.getD_eq_getElem?_getD, List.getElem?_eq_getElem hi, e]; exact of_decide_eq_true z, rfl⟩
    rw [h] at m
    cases m
  · intro h
    rw [List.countP_eq_zero] at h
    cases e : lyn bs v with
    | nil => rfl
    | cons x r =>
      have m : x ∈ lyn bs v := by rw [e]; exact List.mem_cons_self
      obtain ⟨i, hi, hv, _⟩ := mem_lyn.mp m
      rw [List.getD_eq_getElem?_getD, List.getElem?_eq_getElem hi] at hv
      exact absurd (decide_eq_true hv) (h _ (List.getElem_mem hi))
theorem noCom_iff {bs : List (List Int)} {q : Pr} : noCom bs q = decide (bs.countP (fun b => decide (q.1 ∈ b) && decide (q.2 ∈ b)) = 0) := by
  unfold noCom
  by_cases h : bs.countP (fun b => decide (q.1 ∈ b) && decide (q.2 ∈ b)) = 0
  · rw [decide_eq_true h]
    rw [List.countP_eq_zero] at h
    have e : ((lyn bs q.1).any fun x => decide (x ∈ lyn bs q.2)) = false := List.any_eq_false.mpr fun x hx z => by
      obtain ⟨i, hi, h1, rfl⟩ := mem_lyn.mp hx
      obtain ⟨j, hj, h2, e⟩ := mem_lyn.mp (of_decide_eq_true z)
      have ij : i = j := by omega
      subst ij
      rw [List.getD_eq_getElem?_getD, List.getElem?_eq_getElem hi] at h1 h2
      exact h _ (List.getElem_mem hi) (by rw [Bool.and_eq_true]; exact ⟨decide_eq_true h1, decide_eq_true h2⟩)
    rw [e]
    rfl
  · rw [decide_eq_false h]
    have p := Nat.pos_of_ne_zero h
    obtain ⟨b, hb, z⟩ := List.countP_pos_iff.mp p
    rw [Bool.and_eq_true, decide_eq_true_eq, decide_eq_true_eq] at z
    obtain ⟨i, hi, e⟩ := List.getElem_of_mem hb
    have g : bs.getD i [] = b := by rw [List.getD_eq_getElem?_getD, List.getElem?_eq_getElem hi, e]; rfl
    have e : ((lyn bs q.1).any fun x => decide (x ∈ lyn bs q.2)) = true := List.any_eq_true.mpr ⟨(i : Int), mem_lyn.mpr ⟨i, hi, by rw [g]; exact z.1, rfl⟩, decide_eq_true (mem_lyn.mpr ⟨i, hi, by rw [g]; exact z.2, rfl⟩)⟩
    rw [e]
    rfl
theorem part_len (l : List Int) (p : Int → Bool) : (l.filter p).length + (l.filter fun x => !p x).length = l.length := by
  induction l with
  | nil => rfl
  | cons a l ih =>
    rw [List.filter_cons, List.filter_cons]
    cases p a with
    | true => simp only [if_true, Bool.not_true, List.length_cons]; simp; omega
    | false => simp only [Bool.not_false, if_true, List.length_cons]; simp; omega
def linksL (cs : List (List Int)) (ps : List Int) (v : Nat) : List Int := (lyn cs v).filter fun x => decide (ps.getD x.toNat 0 ∈ lyn cs v)
theorem links_iff {cs : List (List Int)} {ps : List Int} {v : Nat} : parted cs ps v = !decide (((linksL cs ps v).length : Int) = ((lyn cs v).length : Int) - 1) := by
  have z := part_len (lyn cs v) fun x => decide (ps.getD x.toNat 0 ∈ lyn cs v)
  have e : (lyn cs v).filter (fun x => !decide (ps.getD x.toNat 0 ∈ lyn cs v)) = topsL cs ps v := by
    unfold topsL
    refine List.filter_congr fun x _ => ?_
    by_cases c : ps.getD x.toNat 0 ∈ lyn cs v
    · simp [c]
    · simp [c]
  rw [e] at z
  have z : (linksL cs ps v).length + (topsL cs ps v).length = (lyn cs v).length := z
  unfold parted
  by_cases c : (topsL cs ps v).length = 1
  · rw [decide_eq_false (fun y => y c), decide_eq_true (by omega)]; rfl
  · rw [decide_eq_true c, decide_eq_false (by omega)]; rfl
abbrev sLft : Stmt := topS 28
def spLft (K : PySem.W.Frag) : Sp := fun vs H Q _ => ∃ (e : Addr) (as : List Addr) (es : List Pr) (vb vp : V) (n : Nat) (B : Bags) (Pa : Pars), vs = [.int n, .ref e, vb, vp] ∧ n ≤ 60 ∧ SqL K H e (as.map V.ref) ∧ PairsAt K H as es ∧ (∀ q ∈ es, Okp n q) ∧ BagsV K H vb B ∧ ParsV K H vp Pa ∧ (∀ bs, B = .tup bs → bs.length ≤ 60 ∧ ∀ b ∈ bs, b.len ≤ 100) ∧
  ∀ H' v, Same H H' → Dp K H' v (frD (faultF n es B Pa)) → Q v H'
section
variable {P : Program} {w : World} {K : PySem.W.Frag} {mg : Str → Option Value} {base : Heap}
abbrev lfN : List Str := ["size", "edges", "bags", "parents", "v", "u", "holding", "links", "bag", "k"]
theorem scLft : FnScope lfN ["size", "edges", "bags", "parents"] (defScope sLft) := ⟨rfl, rfl, rfl, by decide +kernel, rfl, by decide +kernel, by decide +kernel⟩
theorem ok_lft {f fH : Addr} {fd fdH : FuncData} (F : Fun K "_law_fault" "_law_fault" sLft f fd)
    (GH : FnOk P w K mg base CX0 2 fH fdH ["size", "bags", "parents"] (spLhf K)) (kH : PySem.W.keepIn K (.ref fH) = true) (bH : Binds K fdH ["size", "bags", "parents"] []) (gH : mg "_law_has_form" = some (.ref fH))
    (mr : mg "range" = none) (ml : mg "len" = none) :
    FnOk P w K mg base CX0 3 f fd ["size", "edges", "bags", "parents"] (spLft K) := by
  refine F.ok scLft (fun vs H Q E h => ?_) (fun cdv A outer s H vs Q E hr h => ?_)
  · obtain ⟨e, as, es, vb, vp, n, B, Pa, rfl, _⟩ := h
    rfl
  · obtain ⟨e, as, es, vb, vp, n, B, Pa, rfl, hn, hE, hEP, ok, hB, hP, few, q⟩ := h
    have hr2 : Room 2 _ := hr.mono (by decide)
    refine ⟨_, pss_cons (ps_if (pt_not (pt_val (pe_call GH hr2 (by rfl) gH kH bH .nil pass0 (pa_cons (pv 0) (pa_cons (pv 2) (pa_cons (pv 3) pa_nil)))))) (pss_one (ps_ret (pe_tup (pa_cons pe_str pa_nil)))) pss_nil)
      (pss_cons (ps_for PassesOwn.never rfl (pi_range1 rfl mr (pa_cons (pv 0) pa_nil)) (pg_name (i := 4) scLft.nd rfl (.inr rfl))
        (pss_one (ps_if (pt_cmpR op_eq (pe_callB call_len_seq (by rfl) ml PySem.boot_len (pa_cons (pe_lc (own := [("bag", 8)]) (g := gName 8) (by rfl) scLft.nd (pi_tup (pv 2)) (blkOk_by (own := [("bag", 8)]) (N := lfN) (sc := defScope sLft) (by decide +kernel)) (fun _ _ _ _ _ => pg_name (i := 8) scLft.nd rfl (Or.inl rfl))
            (fun _ _ _ _ _ => pts_one (pt_cmpR (inS_at rfl) (pv 4) (pv 8) (by rfl))) (fun _ _ _ _ _ => pv 8)) pa_nil)) pe_int (nomark _)) (pss_one (ps_ret (pe_tup (pa_cons pe_str (pa_cons (pv 4) pa_nil))))) pss_nil)))
      (pss_cons (ps_for PassesOwn.never rfl (pi_list (pv 1)) (pg_tup rfl (pgs_cons (pg_name (i := 5) scLft.nd rfl (.inr rfl)) (pgs_cons (pg_name (i := 4) scLft.nd rfl (.inr rfl)) pgs_nil)))
        (pss_one (ps_if (pt_cmpR op_eq (pe_callB call_len_seq (by rfl) ml PySem.boot_len (pa_cons (pe_lc (own := [("bag", 8)]) (g := gName 8) (by rfl) scLft.nd (pi_tup (pv 2)) (blkOk_by (own := [("bag", 8)]) (N := lfN) (sc := defScope sLft) (by decide +kernel)) (fun _ _ _ _ _ => pg_name (i := 8) scLft.nd rfl (Or.inl rfl))
            (fun _ _ _ _ _ => pts_one (PW.pt (pw_and (pt_cmpR (inS_at rfl) (pv 5) (pv 8) (by rfl)) (pw_and1 (pt_cmpR (inS_at rfl) (pv 4) (pv 8) (by rfl)))))) (fun _ _ _ _ _ => pv 8)) pa_nil)) pe_int (nomark _)) (pss_one (ps_ret (pe_tup (pa_cons pe_str (pa_cons (pv 5) (pa_cons (pv 4) pa_nil)))))) pss_nil)))
      (pss_cons (ps_for PassesOwn.never rfl (pi_range1 rfl mr (pa_cons (pv 0) pa_nil)) (pg_name (i := 4) scLft.nd rfl (.inr rfl))
        (pss_cons (ps_set (i := 6) scLft.nd rfl (.inr rfl) (pe_lc (own := [("k", 9)]) (g := gName 9) (by rfl) scLft.nd (pi_range1 rfl mr (pa_cons (pe_callB call_len_seq (by rfl) ml PySem.boot_len (pa_cons (pv 2) pa_nil)) pa_nil)) (blkOk_by (own := [("k", 9)]) (N := lfN) (sc := defScope sLft) (by decide +kernel)) (fun _ _ _ _ _ => pg_name (i := 9) scLft.nd rfl (Or.inl rfl))
            (fun _ _ _ _ _ => pts_one (pt_cmpR (inS_at rfl) (pv 4) (pe_ix (ixT_at (K := K) rfl) (pv 2) (pv 9) (fun _ _ => rfl)) (by rfl))) (fun _ _ _ _ _ => pv 9)))
        (pss_cons (ps_setLc (i := 7) (own := [("k", 9)]) (g := gName 9) (by rfl) scLft.nd rfl rfl (sw_true rfl rfl rfl (by decide +kernel)) (pi_list (pv 6)) (blkOk_by (own := [("k", 9)]) (N := lfN) (sc := defScope sLft) (by decide +kernel)) (fun _ _ _ _ _ => pg_name (i := 9) scLft.nd rfl (Or.inl rfl))
            (fun _ _ _ _ _ => pts_one (pt_cmpR (inS_at rfl) (pe_ix (ixT_at (K := K) rfl) (pv 3) (pv 9) (fun _ _ => rfl)) (pv 6) (by rfl))) (fun _ _ _ _ _ => pv 9))
        (pss_one (ps_if (pt_cmpR op_ne (pe_callB call_len_seq (by rfl) ml PySem.boot_len (pa_cons (pv 7) pa_nil)) (pe_op op_sub (pe_callB call_len_seq (by rfl) ml PySem.boot_len (pa_cons (pv 6) pa_nil)) pe_int) (nomark _)) (pss_one (ps_ret (pe_tup (pa_cons pe_str (pa_cons (pv 4) pa_nil))))) pss_nil)))))
      (pss_one (ps_ret pe_non))))), ?_⟩
    refine ⟨_, rfl, _, rfl, _, rfl, vb, vp, n, B, Pa, rfl, hn, hB, hP, few, fun H1 s1 => ⟨formB n B Pa, rfl, ?_⟩⟩
    cases fB : formB n B Pa with
    | false =>
      refine iteT ⟨(by show 1 ≤ sizeLine; decide), fun a na => ?_⟩
      refine q _ _ (s1.trans (same_upd na)) ?_
      rw [faultF_no fB]
      exact dp1 upd_same
    | true =>
    refine iteF ?_
    obtain ⟨bvs, pars, rfl, rfl⟩ := form_tup fB
    have OK := form_ok fB
    rw [faultF_yes fB] at q
    have few := (few bvs rfl).1
    generalize hbs : bvs.map BV.ints = bs at OK q
    have few : bs.length ≤ 60 := by rw [← hbs, List.length_map]; exact few
    cases hB with
    | @tup b xs _ hB pl =>
    cases hP with
    | @tup p _ hP =>
    rw [OK.tups] at pl
    obtain ⟨ps, rfl, pt⟩ := tups_of pl
    have lpt := pt.length
    have toNat : ∀ m : Nat, ((m : Nat) : Int).toNat = m := fun m => by omega
    have bget : ∀ {i : Nat} {a : Addr}, ps[i]? = some a → ∃ c, bs[i]? = some c ∧ SqT K H a (c.map V.int) := fun {i a} h => paired_get pt h
    refine ⟨_, rfl, n, rfl, by omega, by omega, ?_⟩
    rw [toNat]
    refine for_range (lo := 0) (n := n) (fun i σ H' => ∃ (y4 : Option V), σ = [some (.int n), some (.ref e), some (.ref b), some (.ref p), y4, none, none, none, none, none] ∧ Same H H' ∧ ∀ j, j < i → noBag bs j = false)
      ⟨none, rfl, s1, fun j hj => absurd hj (Nat.not_lt_zero _)⟩ ?_ ?_
    · rintro i σ H' hi ⟨y4, rfl, sm, hno⟩
      have e0 : (0 : Int) + (i : Int) = (i : Int) := by omega
      rw [e0]
      refine ⟨_, rfl, b, rfl, ⟨_, same_sqT sm hB⟩, fun D nD => ?_⟩
      refine lc_tup (K := K) (a := b) (xs := ps.map V.ref) (fun m H7 => Same H' H7 ∧ ∃ ys : List V, H7 D = some (.lst ys) ∧ ys.length = (bs.take m).countP fun c => decide ((i : Int) ∈ c)) ⟨same_upd nD, [], upd_same, rfl⟩ (fun m H7 _ h => same_sqT (sm.trans h.1) hB) ?_ ?_
      · rintro m x H7 hx ⟨s7, ys, hD, hl⟩
        rw [List.getElem?_map] at hx
        cases ea : ps[m]? with
        | none => rw [ea] at hx; cases hx
        | some a =>
          rw [ea] at hx
          cases hx
          obtain ⟨c, hc, hca⟩ := bget ea
          have mlt := (List.getElem?_eq_some_iff.mp hc).1
          have cle := List.countP_le_length (p := fun c => decide ((i : Int) ∈ c)) (l := bs.take m)
          rw [List.length_take] at cle
          refine ⟨rfl, _, rfl, _, rfl, a, c.map V.int, rfl, .inr (same_sqT (sm.trans s7) hca), rfl, flat_ints _, _, rfl, iteIn (fun c2 => ?_) (fun c2 => ?_)⟩
          · refine ⟨_, rfl, _, hD, small1000 (by omega), same_put s7 nD, _, upd_same, ?_⟩
            rw [L2.take_next hc, List.countP_append, List.length_append, hl]
            simp [c2]
          · refine ⟨s7, ys, hD, ?_⟩
            rw [L2.take_next hc, List.countP_append, hl]
            simp [c2]
      · rintro H7 ⟨s7, ys, hD, hl⟩
        rw [List.length_map, lpt, List.take_length] at hl
        have sH7 := sm.trans s7
        refine ⟨D, _, rfl, .inl (SqL.of hD), rfl, _, rfl, ?_⟩
        have nb : noBag bs i = decide (ys.length = 0) := by rw [noBag_iff, hl]
        by_cases c : ys.length = 0
        · rw [decide_eq_true c] at nb
          refine iteY (by rw [c]; rfl) ⟨_, rfl, (by show 2 ≤ sizeLine; decide), fun a na => ?_⟩
          refine q _ _ (sH7.trans (same_upd na)) ?_
          rw [fl_vert hi nb hno]
          exact dp2 upd_same
        · rw [decide_eq_false c] at nb
          refine iteD (fun z => c (by have := V.int.inj z; omega)) ⟨_, rfl, sH7, fun j hj => ?_⟩
          rcases Nat.lt_succ_iff_lt_or_eq.mp hj with h | h
          · exact hno j h
          · rw [h]; exact nb
    · rintro σ H3 ⟨y4, rfl, s3, nov⟩
      refine ⟨_, rfl, e, rfl, ⟨_, s3.seq hE⟩, for_list (K := K) (a := e) (xs := as.map V.ref) (fun i σ H' => ∃ (y4 y5 : Option V), σ = [some (.int n), some (.ref e), some (.ref b), some (.ref p), y4, y5, none, none, none, none] ∧ Same H H' ∧ ∀ x ∈ es.take i, noCom bs x = false)
        ⟨y4, none, rfl, s3, fun x hx => by rw [List.take_zero] at hx; cases hx⟩ (fun i σ H' _ ⟨_, _, _, s', _⟩ => s'.seq hE) ?_ ?_⟩
      · rintro i x σ H' hx ⟨y4, y5, rfl, sm, hno⟩
        rw [List.getElem?_map] at hx
        cases ea : as[i]? with
        | none => rw [ea] at hx; cases hx
        | some a =>
          rw [ea] at hx
          cases hx
          obtain ⟨⟨u, v⟩, hq, hs⟩ := (hEP.same sm).get ea
          dsimp only at hs
          refine ⟨a, _, rfl, hs, rfl, _, _, rfl, _, _, rfl, rfl, ?_⟩
          refine ⟨_, rfl, b, rfl, ⟨_, same_sqT sm hB⟩, fun D nD => ?_⟩
          refine lc_tup (K := K) (a := b) (xs := ps.map V.ref) (fun m H7 => Same H' H7 ∧ ∃ ys : List V, H7 D = some (.lst ys) ∧ ys.length = (bs.take m).countP fun c => decide (u ∈ c) && decide (v ∈ c)) ⟨same_upd nD, [], upd_same, rfl⟩ (fun m H7 _ h => same_sqT (sm.trans h.1) hB) ?_ ?_
          · rintro m x H7 hx ⟨s7, ys, hD, hl⟩
            rw [List.getElem?_map] at hx
            cases ea : ps[m]? with
            | none => rw [ea] at hx; cases hx
            | some a =>
              rw [ea] at hx
              cases hx
              obtain ⟨c, hc, hca⟩ := bget ea
              have mlt := (List.getElem?_eq_some_iff.mp hc).1
              have cle := List.countP_le_length (p := fun c => decide (u ∈ c) && decide (v ∈ c)) (l := bs.take m)
              rw [List.length_take] at cle
              have no : (decide (u ∈ c) && decide (v ∈ c)) = false → Same H' H7 ∧ ∃ ys : List V, H7 D = some (.lst ys) ∧ ys.length = (bs.take (m + 1)).countP fun c => decide (u ∈ c) && decide (v ∈ c) := fun h => by
                refine ⟨s7, ys, hD, ?_⟩
                rw [L2.take_next hc, List.countP_append, hl, List.countP_cons, h]
                simp
              refine ⟨rfl, _, rfl, _, rfl, a, c.map V.int, rfl, .inr (same_sqT (sm.trans s7) hca), rfl, flat_ints _, _, rfl, iteIn (fun c2 => ?_) (fun c2 => iteF (no (by simp [c2])))⟩
              refine ⟨_, rfl, _, rfl, a, c.map V.int, rfl, .inr (same_sqT (sm.trans s7) hca), rfl, flat_ints _, _, rfl, iteIn (fun c3 => ?_) (fun c3 => no (by simp [c3]))⟩
              refine ⟨_, rfl, _, hD, small1000 (by omega), same_put s7 nD, _, upd_same, ?_⟩
              rw [L2.take_next hc, List.countP_append, List.length_append, hl]
              simp [c2, c3]
          · rintro H7 ⟨s7, ys, hD, hl⟩
            rw [List.length_map, lpt, List.take_length] at hl
            have sH7 := sm.trans s7
            refine ⟨D, _, rfl, .inl (SqL.of hD), rfl, _, rfl, ?_⟩
            have nc : noCom bs (u, v) = decide (ys.length = 0) := by rw [noCom_iff, hl]
            by_cases c : ys.length = 0
            · rw [decide_eq_true c] at nc
              refine iteY (by rw [c]; rfl) ⟨_, rfl, _, rfl, (by show 3 ≤ sizeLine; decide), fun a na => ?_⟩
              refine q _ _ (sH7.trans (same_upd na)) ?_
              rw [fl_edge nov hq nc hno]
              exact dp3 upd_same
            · rw [decide_eq_false c] at nc
              refine iteD (fun z => c (by have := V.int.inj z; omega)) ⟨_, _, rfl, sH7, fun x hx => ?_⟩
              rw [L2.take_next hq] at hx
              rcases List.mem_append.mp hx with h | h
              · exact hno x h
              · rw [List.mem_singleton.mp h]; exact nc
      · rintro σ H4 ⟨y4, y5, rfl, s4, hno⟩
        have le : (as.map V.ref).length = es.length := by rw [List.length_map, hEP.length]
        rw [le, List.take_length] at hno
        refine ⟨_, rfl, n, rfl, by omega, by omega, ?_⟩
        rw [toNat]
        refine for_range (lo := 0) (n := n) (fun i σ H' => ∃ (y4 y6 y7 : Option V), σ = [some (.int n), some (.ref e), some (.ref b), some (.ref p), y4, y5, y6, y7, none, none] ∧ Same H H' ∧ ∀ j, j < i → parted bs pars j = false)
          ⟨y4, none, none, rfl, s4, fun j hj => absurd hj (Nat.not_lt_zero _)⟩ ?_ ?_
        · rintro i σ H' hi ⟨y4, y6, y7, rfl, sm, hap⟩
          have e0 : (0 : Int) + (i : Int) = (i : Int) := by omega
          rw [e0]
          refine ⟨_, rfl, b, _, rfl, .inr (same_sqT sm hB), ps.length, by rw [List.length_map], by omega, by omega, fun D nD => ?_⟩
          rw [toNat]
          refine lc_range (lo := 0) (n := ps.length) (fun m H7 => Same H' H7 ∧ H7 D = some (.lst ((lyn (bs.take m) i).map V.int))) ⟨same_upd nD, upd_same⟩ ?_ ?_
          · rintro m H7 hm ⟨s7, hD⟩
            have e1 : (0 : Int) + (m : Int) = (m : Int) := by omega
            rw [e1]
            have ea : ps[m]? = some ps[m] := List.getElem?_eq_getElem hm
            have ga : (ps.map V.ref)[m]? = some (.ref ps[m]) := by rw [List.getElem?_map, ea]; rfl
            obtain ⟨c, hc, hca⟩ := bget ea
            have ltk : (bs.take m).length = m := by rw [List.length_take]; omega
            have ln := lyn_len (bs.take m) i
            have sm7 := sm.trans s7
            refine ⟨rfl, _, rfl, _, rfl, _, rfl, b, _, m, _, rfl, rfl, same_sqT sm7 hB, at_nat ga, ps[m], c.map V.int, rfl, .inr (same_sqT sm7 hca), rfl, flat_ints _, _, rfl, iteIn (fun c2 => ?_) (fun c2 => ?_)⟩
            · refine ⟨_, rfl, _, hD, by rw [List.length_map]; exact small1000 (by omega), same_put s7 nD, ?_⟩
              rw [upd_same, L2.take_next hc, lyn_snoc, if_pos c2, ltk, List.map_append]
              rfl
            · refine ⟨s7, ?_⟩
              rw [L2.take_next hc, lyn_snoc, if_neg c2, List.append_nil]
              exact hD
          · rintro H7 ⟨s7, hD⟩
            rw [lpt, List.take_length] at hD
            have sm7 := sm.trans s7
            have ln := lyn_len bs i
            refine ⟨_, rfl, D, rfl, ⟨_, SqL.of hD⟩, fun D2 nD2 => ?_⟩
            refine lc_list (K := K) (a := D) (xs := (lyn bs i).map V.int) (fun m H9 => Same H7 H9 ∧ H9 D2 = some (.lst ((((lyn bs i).take m).filter fun x => decide (pars.getD x.toNat 0 ∈ lyn bs i)).map V.int))) ⟨same_upd nD2, upd_same⟩ (fun m H9 _ h => SqL.of (h.1 _ _ hD)) ?_ ?_
            · rintro m x H9 hx ⟨s9, hD2⟩
              rw [List.getElem?_map] at hx
              cases ey : (lyn bs i)[m]? with
              | none => rw [ey] at hx; cases hx
              | some y =>
                rw [ey] at hx
                cases hx
                have yb := lyn_lt (List.mem_of_getElem? ey)
                obtain ⟨j, rfl⟩ : ∃ j : Nat, y = j := ⟨y.toNat, by omega⟩
                obtain ⟨z, hz⟩ : ∃ z, pars[j]? = some z := ⟨_, List.getElem?_eq_getElem (by have := OK.len; omega)⟩
                have hz2 : (pars.map V.int)[j]? = some (.int z) := by rw [List.getElem?_map, hz]; rfl
                have gz : pars.getD ((j : Int)).toNat 0 = z := by rw [Int.toNat_natCast, List.getD_eq_getElem?_getD, hz]; rfl
                refine ⟨rfl, _, rfl, _, rfl, p, _, j, _, rfl, rfl, same_sqT (sm7.trans s9) hP, at_nat hz2, _, rfl, D, (lyn bs i).map V.int, rfl, .inl (SqL.of (s9 _ _ hD)), rfl, flat_ints _, _, rfl, iteIn (fun c2 => ?_) (fun c2 => ?_)⟩
                · refine ⟨_, rfl, _, hD2, flt_few (m := 60) (by omega) (by omega), same_put s9 nD2, ?_⟩
                  rw [upd_same, flt_take ey, if_pos (by rw [gz]; simp [c2]), List.map_append]
                  rfl
                · refine ⟨s9, ?_⟩
                  rw [flt_take ey, if_neg (by rw [gz]; simp [c2]), List.append_nil]
                  exact hD2
            · rintro H9 ⟨s9, hD2⟩
              rw [List.length_map, List.take_length] at hD2
              have sm9 := sm7.trans s9
              refine ⟨_, rfl, D2, _, rfl, .inl (SqL.of hD2), _, rfl, D, _, rfl, .inl (SqL.of (s9 _ _ hD)), _, _, rfl, rfl, rfl, _, rfl, ?_⟩
              have pp := links_iff (cs := bs) (ps := pars) (v := i)
              rw [List.length_map, List.length_map]
              by_cases c : ((linksL bs pars i).length : Int) = ((lyn bs i).length : Int) - 1
              · rw [decide_eq_true c] at pp
                refine iteNS (congrArg V.int c) ⟨_, _, _, rfl, sm9, fun j hj => ?_⟩
                rcases Nat.lt_succ_iff_lt_or_eq.mp hj with h | h
                · exact hap j h
                · rw [h]; exact pp
              · rw [decide_eq_false c] at pp
                refine iteN (fun z => c (V.int.inj z)) ⟨_, rfl, (by show 2 ≤ sizeLine; decide), fun a na => ?_⟩
                refine q _ _ (sm9.trans (same_upd na)) ?_
                rw [fl_apart nov hno hi pp hap]
                exact dp2 upd_same
        · rintro σ H5 ⟨y4, y6, y7, rfl, s5, hap⟩
          refine q H5 _ s5 ?_
          rw [fl_ok nov hno hap]
          exact .non
end
end Sm

set_option Elab.async false
set_option linter.all false
set_option maxRecDepth 100000
set_option maxHeartbeats 8000000
/-! ### a tuple turned round -/
namespace SmRv
open PySem PyProof.Rows HT
section
variable {prog : Program} {w : World} {A : Around} {E : Value → Shared → Prop} {s : Shared}
theorem adj_rev (n : Nat) : Builtin.Slice.sliceAdjust none none (-1) (n : Int) = ((n : Int) - 1, -1) := by
  unfold Builtin.Slice.sliceAdjust
  simp
theorem plc_rev (n : Nat) : Builtin.Slice.slicePlaces ((n : Int) - 1) (-1) (-1) = n := by
  unfold Builtin.Slice.slicePlaces
  have h1 : ¬ ((-1 : Int) > 0) := by decide
  simp only [h1, if_false]
  split
  · rw [show (- -1 : Int) = 1 by decide, Int.ediv_one]
    omega
  · omega
theorem app_rev {sl : Addr} {vs : Value} {n : Nat} {Q : Int × Int × Nat → Shared → Prop} (hs : s.heap.IsSliceOf sl .none .none vs) (ps : IsPart vs (some (-1)))
    (h : Q ((n : Int) - 1, -1, n) s) : wpAny (model prog w) A (Builtin.Slice.sliceApplied (.ref sl) (pure (n : Int))) Q E s := by
  obtain ⟨os, hos, hcs, hds⟩ := id hs
  unfold Builtin.Slice.sliceApplied Builtin.Slice.sliceFields
  refine wpAny_bind (wpAny_bind (wpAny_field hos hds (x := .none) rfl (wpAny_bind (wpAny_field hos hds (x := .none) rfl (wpAny_bind (wpAny_field hos hds (x := vs) rfl (wpAny_pure ?_)))))))
  refine wpAny_bind (slicePart_ ps ?_)
  show wpAny _ _ (if ((-1 : Int) == 0) = true then _ else _) _ _ s
  rw [if_neg (by decide)]
  refine wpAny_bind (slicePart_ .none (wpAny_bind (slicePart_ .none (wpAny_bind (wpAny_pure ?_)))))
  show wpAny _ _ (match Builtin.Slice.sliceAdjust none none (-1) (n : Int) with | (lo, hi) => pure (lo, (-1 : Int), Builtin.Slice.slicePlaces lo hi (-1))) _ _ s
  rw [adj_rev n]
  show wpAny _ _ (pure ((n : Int) - 1, (-1 : Int), Builtin.Slice.slicePlaces ((n : Int) - 1) (-1) (-1))) _ _ s
  rw [plc_rev]
  exact wpAny_pure h
theorem pick_rev (xs : Array Value) : ((List.range xs.size).filterMap fun (m : Nat) => xs[(((xs.size : Int) - 1) + (m : Int) * (-1)).toNat]?).toArray = xs.toList.reverse.toArray := by
  have e : (fun (m : Nat) => xs[(((xs.size : Int) - 1) + (m : Int) * (-1)).toNat]?) = fun m => xs[xs.size - 1 - m]? := by
    funext m
    have : (((xs.size : Int) - 1) + (m : Int) * (-1)).toNat = xs.size - 1 - m := by omega
    rw [this]
  rw [e]
  have h2 : (List.range xs.size).filterMap (fun m => xs[xs.size - 1 - m]?) = ((List.range xs.size).map fun k => xs.size - 1 - k).filterMap (xs[·]?) := by rw [List.filterMap_map]; rfl
  rw [h2, PySem.W.krv_range, List.filterMap_reverse, PySem.W.krv_all]
theorem get_rev {t sl : Addr} {items : Array Value} {vs : Value} {Q : Value → Shared → Prop} (ht : IsTup s.heap t items) (hs : s.heap.IsSliceOf sl .none .none vs) (ps : IsPart vs (some (-1)))
    (h : Q (.ref s.heap.objs.size) { s with heap := s.heap.push { cls := .type "tuple", data := .seq items.toList.reverse.toArray } })
    (hsz : items.size ≤ sizeLine) : wpAny (model prog w) A (getItem (.ref t) (.ref sl)) Q E s := by
  have htake : sizeOk (.seq items.toList.reverse.toArray) := by
    show items.toList.reverse.toArray.size ≤ sizeLine
    rw [List.size_toArray, List.length_reverse, Array.length_toList]
    exact hsz
  obtain ⟨os, hos, hcs, hds⟩ := id hs
  have hTs : s.TypeIs (.ref sl) "slice" := ⟨os, hos, hcs⟩
  unfold getItem
  try with_reducible refine wpAny_holding ?_
  first | refine wpAny_bind (wpAny_pure ?_) | skip
  refine wpAny_bind (wpAny_sequenceKey ht.typeIs (by decide) ?_)
  refine wpAny_bind (wpAny_callSpecial?_slot (name := Str.ofString "__getitem__") ht.typeIs PyProof.Rows.slot_tuple_getitem
    (wpAny_call_entry PyProof.Rows.slot_tuple_getitem ht.typeIs entry_tuple_getitem ?_ (args_tuple_getitem _ _)))
  show wpAny _ _ (Builtin.Tuple.tupleItemsOf (.ref t) >>= _) _ _ s
  refine wpAny_bind (tupleItemsOf_ ht ?_)
  refine wpAny_bind (wpAny_typeOf hTs ?_)
  rw [if_pos (by decide)]
  refine wpAny_bind (app_rev hs ps ?_)
  have hno : ¬ ((((items.size : Int) - 1) == 0 && (-1 : Int) == 1 && items.size == items.size) = true) := by
    intro q
    rw [Bool.and_eq_true, Bool.and_eq_true] at q
    exact absurd q.1.2 (by decide)
  show wpAny _ _ (if ((((items.size : Int) - 1) == 0 && (-1 : Int) == 1 && items.size == items.size) = true) then _ else _) _ _ s
  rw [if_neg hno, pick_rev]
  first
    | exact wpAny_bind (m := Builtin.Tuple.tupleExact _) (wpAny_newObj_type (wpAny_pure ⟨_, rfl, wpAny_pure h⟩) htake)
    | exact wpAny_bind (m := Builtin.Tuple.tupleExact _) (wpAny_newObj_type (wpAny_bind (wpAny_pure (wpAny_pure ⟨_, rfl, wpAny_pure h⟩))) htake)
    | exact wpAny_bind (wpAny_bind (m := Builtin.Tuple.tupleExact _) (wpAny_newObj_type (wpAny_pure (wpAny_pure ⟨_, rfl, wpAny_pure h⟩)) htake))
    | exact wpAny_bind (wpAny_bind (m := Builtin.Tuple.tupleExact _) (wpAny_newObj_type (wpAny_pure ⟨_, rfl, wpAny_pure h⟩) htake))
end
end SmRv
namespace Sm
open PySem PySem.Spec PyProof.Rows L2
def tRevT (K : PySem.W.Frag) (te : TE) : TE := fun σ H Q => te σ H fun x H1 => ∃ a xs, x = .ref a ∧ SqT K H1 a xs ∧ ∀ p, H1 p = none → Q (.ref p) (upd H1 p (.tup xs.reverse))
theorem pe_revT {X : Cx} {e : Expr} {te : TE} {k : Nat} {p1 p2 p3 pos : Pos} (he : PE X e te) : PE X (.Subscript e (.Slice none none (some (.UnaryOp .USub (.Constant (.int 1) k p1) p2)) p3) pos) (tRevT X.K te) := by
  refine ⟨fun pins s σ H Q I h => ?_⟩
  refine Subscript_ (thn (he.run pins s σ H _ I h) fun v s1 ⟨x, H1, I1, r1, q1⟩ => ?_)
  obtain ⟨a, xs, ex, hx, q⟩ := q1
  subst ex
  cases r1
  have hst : PO X (some (.UnaryOp .USub (.Constant (.int 1) k p1) p2)) (tPart (tUn (rU fun i => .int (-i)) (tC (.int 1)))) := po_some (pe_un un_neg pe_int)
  refine wpAny_Slice (thn (po_none.run pins s1 σ H1 (fun o H2 => o = none ∧ H2 = H1) I1 ⟨rfl, rfl⟩) fun vl s2 ⟨l, H2, I2, pl, el, e2⟩ => ?_)
  subst el e2
  refine thn (po_none.run pins s2 σ H2 (fun o H3 => o = none ∧ H3 = H2) I2 ⟨rfl, rfl⟩) fun vu s3 ⟨u, H3, I3, pu, eu, e3⟩ => ?_
  subst eu e3
  refine thn (hst.run pins s3 σ H3 (fun o H4 => o = some (-1) ∧ H4 = H3) I3 ⟨1, rfl, -1, rfl, rfl, rfl⟩) fun vs s4 ⟨o, H4, I4, ps, eo, e4⟩ => ?_
  subst eo e4
  cases pl
  cases pu
  have I5 : Inv X pins σ H4 { s4 with heap := s4.heap.push { cls := .type "slice", data := .fields #[.none, .none, vs] } } := I4.kept (t' := s4.toks) fun b ob q => Heap.get?_push_of_some _ q
  obtain ⟨its, r, ht, hz⟩ := I5.tuple hx
  have hlen := r.length
  show wpAny (model X.prog X.w) X.A (subscriptTail e (.Slice none none (some (.UnaryOp .USub (.Constant (.int 1) k p1) p2)) p3) (.ref a) (.ref s4.heap.objs.size)) (EP X pins σ Q) X.xe { s4 with heap := s4.heap.push { cls := .type "slice", data := .fields #[.none, .none, vs] } }
  refine tail_any (ops := [.ref a, .ref s4.heap.objs.size]) ht.typeIs (PyProof.Rows.slot_tuple_getitem.lookup) ?_ (by with_unfolding_all rfl)
  refine SmRv.get_rev ht (Heap.IsSliceOf.new _ .none .none vs) ps ?_ (by rw [List.size_toArray]; omega)
  refine ⟨.ref _, _, I5.laid (t' := s4.toks) (o := .tup xs.reverse) (fun b ob q => Heap.get?_push_of_some _ q) (Nat.le_refl _) ?_, rfl, q _ (I5.hok.fresh (Nat.le_refl _))⟩
  exact ⟨by rw [List.length_reverse]; exact hz, _, r.reverse, IsTup.new _ _⟩
end Sm

set_option Elab.async false
set_option linter.all false
set_option maxRecDepth 100000
set_option maxHeartbeats 8000000
namespace Sm
open PySem PySem.Spec PyProof.Rows L2
/-! ### tuples of what is known of each member -/
def Tp (K : PySem.W.Frag) (P : Hp → V → Prop) (m : Nat) (H : Hp) (v : V) : Prop := ∃ a xs, v = .ref a ∧ SqT K H a xs ∧ (∀ x ∈ xs, P H x) ∧ xs.length = m
def Mono (P : Hp → V → Prop) : Prop := ∀ (H H' : Hp) (x : V), Same H H' → P H x → P H' x
theorem Mono.go {P : Hp → V → Prop} (mo : Mono P) {H H' : Hp} {x : V} (s : Same H H') (h : P H x) : P H' x := mo H H' x s h
theorem Tp.same {K : PySem.W.Frag} {P : Hp → V → Prop} (mo : Mono P) {m : Nat} {H H' : Hp} {v : V} (s : Same H H') (h : Tp K P m H v) : Tp K P m H' v := by
  obtain ⟨a, xs, rfl, h1, h2, h3⟩ := h
  exact ⟨a, xs, rfl, same_sqT s h1, fun x hx => mo.go s (h2 x hx), h3⟩
theorem cut_len (xs : List V) (lo hi : Option Int) : (cutV xs lo hi).length = HT.sIx xs.length xs.length hi - HT.sIx xs.length 0 lo := by
  unfold cutV
  rw [List.length_take, List.length_drop]
  have := HT.sIx_le xs.length xs.length (Nat.le_refl _) hi
  omega
theorem cut_mem {xs : List V} {lo hi : Option Int} {x : V} (h : x ∈ cutV xs lo hi) : x ∈ xs := List.mem_of_mem_drop (List.mem_of_mem_take h)
theorem sl_T {K : PySem.W.Frag} {P : Hp → V → Prop} (mo : Mono P) {m : Nat} {H : Hp} {x : V} {lo hi : Option Int} {Q : VK} (h : Tp K P m H x)
    (q : ∀ H' v, Same H H' → Tp K P (HT.sIx m m hi - HT.sIx m 0 lo) H' v → Q v H') : rSlA K x lo hi H Q := by
  obtain ⟨a, xs, rfl, h1, h2, rfl⟩ := h
  refine ⟨a, xs, rfl, h1, fun w => q H _ (Same.refl H) ⟨a, xs, rfl, h1, h2, by rw [w.1, w.2, Nat.sub_zero]⟩, fun _ p np => ?_⟩
  have s := same_upd (o := .tup (cutV xs lo hi)) np
  exact q _ _ s ⟨p, _, rfl, SqT.of upd_same, fun x hx => mo.go s (h2 x (cut_mem hx)), cut_len xs lo hi⟩
theorem cat_T {K : PySem.W.Frag} {P : Hp → V → Prop} (mo : Mono P) {m k : Nat} {H : Hp} {x y : V} {Q : VK} (h : Tp K P m H x) (h' : Tp K P k H y) (few : m + k ≤ 1000)
    (q : ∀ H' v, Same H H' → Tp K P (m + k) H' v → Q v H') : rCatA K x y H Q := by
  obtain ⟨a, xs, rfl, h1, h2, rfl⟩ := h
  obtain ⟨b, ys, rfl, h3, h4, rfl⟩ := h'
  refine ⟨a, b, xs, ys, rfl, rfl, h1, h3, by rw [sizeLine_eq]; omega, fun e => ?_, fun _ e => ?_, fun _ _ p np => ?_⟩
  · subst e
    exact q H _ (Same.refl H) ⟨b, ys, rfl, h3, h4, by simp⟩
  · subst e
    exact q H _ (Same.refl H) ⟨a, xs, rfl, h1, h2, by simp⟩
  · have s := same_upd (o := .tup (xs ++ ys)) np
    refine q _ _ s ⟨p, _, rfl, SqT.of upd_same, fun x hx => ?_, List.length_append⟩
    rcases List.mem_append.mp hx with z | z
    · exact mo.go s (h2 x z)
    · exact mo.go s (h4 x z)
def PI : Hp → V → Prop := fun _ x => ∃ i : Int, x = .int i
def PO : Hp → V → Prop := fun _ x => ∃ o, x = ovV o
def PB (K : PySem.W.Frag) : Hp → V → Prop := fun H x => ∃ b, BagV K H x b ∧ b.len ≤ 81
theorem mo_I : Mono PI := fun _ _ _ _ h => h
theorem mo_O : Mono PO := fun _ _ _ _ h => h
theorem mo_B {K : PySem.W.Frag} : Mono (PB K) := fun _ _ _ s ⟨b, h, l⟩ => ⟨b, h.same s, l⟩
theorem ints_ex {H : Hp} : ∀ {xs : List V}, (∀ x ∈ xs, PI H x) → ∃ ns : List Int, xs = ns.map V.int
  | [], _ => ⟨[], rfl⟩
  | x :: xs, h => by
    obtain ⟨i, rfl⟩ := h x List.mem_cons_self
    obtain ⟨ns, rfl⟩ := ints_ex fun y hy => h y (List.mem_cons_of_mem _ hy)
    exact ⟨i :: ns, rfl⟩
theorem ovs_ex {H : Hp} : ∀ {xs : List V}, (∀ x ∈ xs, PO H x) → ∃ l : List (Option Int), xs = l.map ovV
  | [], _ => ⟨[], rfl⟩
  | x :: xs, h => by
    obtain ⟨o, rfl⟩ := h x List.mem_cons_self
    obtain ⟨l, rfl⟩ := ovs_ex fun y hy => h y (List.mem_cons_of_mem _ hy)
    exact ⟨o :: l, rfl⟩
theorem bags_ex {K : PySem.W.Frag} {H : Hp} : ∀ {xs : List V}, (∀ x ∈ xs, PB K H x) → ∃ bs, Paired (BagV K H) xs bs ∧ ∀ b ∈ bs, b.len ≤ 81
  | [], _ => ⟨[], .nil, fun b hb => by cases hb⟩
  | x :: xs, h => by
    obtain ⟨b, h1, h2⟩ := h x List.mem_cons_self
    obtain ⟨bs, h3, h4⟩ := bags_ex fun y hy => h y (List.mem_cons_of_mem _ hy)
    refine ⟨b :: bs, .cons h1 h3, fun y hy => ?_⟩
    rcases List.mem_cons.mp hy with z | z
    · rw [z]; exact h2
    · exact h4 y z
theorem Tp.bag {K : PySem.W.Frag} {m : Nat} {H : Hp} {v : V} (h : Tp K PO m H v) (hm : m ≤ 81) : PB K H v := by
  obtain ⟨a, xs, rfl, h1, h2, h3⟩ := h
  obtain ⟨l, rfl⟩ := ovs_ex h2
  rw [List.length_map] at h3
  exact ⟨.tup l, .tup h1, by show l.length ≤ 81; omega⟩
theorem Tp.io {K : PySem.W.Frag} {m : Nat} {H : Hp} {v : V} (h : Tp K PI m H v) : Tp K PO m H v := by
  obtain ⟨a, xs, rfl, h1, h2, h3⟩ := h
  exact ⟨a, xs, rfl, h1, fun x hx => by obtain ⟨i, rfl⟩ := h2 x hx; exact ⟨some i, rfl⟩, h3⟩
theorem Tp.one {K : PySem.W.Frag} {P : Hp → V → Prop} {H : Hp} {a : Addr} {x : V} (h : H a = some (.tup [x])) (hp : P H x) : Tp K P 1 H (.ref a) := ⟨a, [x], rfl, SqT.of h, fun y hy => by rw [List.mem_singleton.mp hy]; exact hp, rfl⟩
def BgAny (K : PySem.W.Frag) (M : Nat) : Hp → V → Prop := fun H v => ∃ B, BagsV K H v B ∧ ∀ bs, B = .tup bs → bs.length ≤ M + 1 ∧ ∀ b ∈ bs, b.len ≤ 81
def PaAny (K : PySem.W.Frag) : Hp → V → Prop := fun H v => ∃ Pa, ParsV K H v Pa
theorem mo_BA {K : PySem.W.Frag} {M : Nat} : Mono (BgAny K M) := fun _ _ _ s ⟨B, h, l⟩ => ⟨B, h.same s, l⟩
theorem mo_PA {K : PySem.W.Frag} : Mono (PaAny K) := fun _ _ _ s ⟨B, h⟩ => ⟨B, h.same s⟩
theorem Tp.ba {K : PySem.W.Frag} {M m : Nat} {H : Hp} {v : V} (h : Tp K (PB K) m H v) (hm : m ≤ M + 1) : BgAny K M H v := by
  obtain ⟨b, xs, rfl, h1, h2, h3⟩ := h
  obtain ⟨bs, h4, h5⟩ := bags_ex h2
  refine ⟨.tup bs, .tup h1 h4, fun bs' e => ?_⟩
  cases e
  have := h4.length
  exact ⟨by omega, h5⟩
theorem Tp.pa {K : PySem.W.Frag} {m : Nat} {H : Hp} {v : V} (h : Tp K PI m H v) : PaAny K H v := by
  obtain ⟨p, ys, rfl, h6, h7, h8⟩ := h
  obtain ⟨ns, rfl⟩ := ints_ex h7
  exact ⟨.tup ns, .tup h6⟩
def KindOk (K : PySem.W.Frag) (M : Nat) (H : Hp) (r : V) : Prop := ∃ (a : Addr) (vb vp : V), r = .ref a ∧ SqT K H a [vb, vp] ∧ BgAny K M H vb ∧ PaAny K H vp
theorem mo_K {K : PySem.W.Frag} {M : Nat} : Mono (KindOk K M) := fun _ _ _ s ⟨a, vb, vp, e, h1, h2, h3⟩ => ⟨a, vb, vp, e, same_sqT s h1, mo_BA.go s h2, mo_PA.go s h3⟩
def LstOk (R : Hp → V → Prop) (m : Nat) : Hp → V → Prop := fun H v => ∃ p xs, v = .ref p ∧ H p = some (.lst xs) ∧ (∀ x ∈ xs, R H x) ∧ xs.length = m
theorem mo_L {R : Hp → V → Prop} (mo : Mono R) {m : Nat} : Mono (LstOk R m) := fun _ _ _ s ⟨p, xs, e, h1, h2, h3⟩ => ⟨p, xs, e, s _ _ h1, fun x hx => mo.go s (h2 x hx), h3⟩
/-! ### what an expression gives, whatever is laid meanwhile -/
def Yl (te : TE) (σ : L2.St) (H : Hp) (R : Hp → V → Prop) : Prop := ∀ H1, Same H H1 → ∀ Q : VK, (∀ H2 x, Same H1 H2 → R H2 x → Q x H2) → te σ H1 Q
def YA (ta : TA) (σ : L2.St) (H : Hp) (R : Hp → V → Prop) (m : Nat) : Prop := ∀ H1, Same H H1 → ∀ Q : List V → Hp → Prop, (∀ H2 xs, Same H1 H2 → (∀ x ∈ xs, R H2 x) → xs.length = m → Q xs H2) → ta σ H1 Q
def YE (te : TE) (σ : L2.St) (v : V) : Prop := ∀ (H : Hp) (Q : VK), Q v H → te σ H Q
def YO (to : TO) (σ : L2.St) (o : Option Int) : Prop := ∀ (H : Hp) (Q : Option Int → Hp → Prop), Q o H → to σ H Q
section
variable {K : PySem.W.Frag} {σ : L2.St} {H : Hp} {P R : Hp → V → Prop}
theorem Yl.mp {te : TE} {R' : Hp → V → Prop} (h : Yl te σ H R) (w : ∀ H v, R H v → R' H v) : Yl te σ H R' := fun H1 s Q q => h H1 s Q fun H2 x s2 hx => q H2 x s2 (w H2 x hx)
theorem y_var {i : Nat} {v : V} (mo : Mono R) (hσ : σ[i]? = some (some v)) (h : R H v) : Yl (tVar i) σ H R := fun H1 s Q q => ⟨v, hσ, q H1 v (Same.refl _) (mo.go s h)⟩
theorem y_e {te : TE} {v : V} (h : YE te σ v) (hr : ∀ H, R H v) : Yl te σ H R := fun H1 s Q q => h H1 _ (q H1 v (Same.refl _) (hr H1))
theorem y_tup0 : Yl (tTup tNil) σ H (Tp K P 0) := fun H1 s Q q => ⟨Nat.zero_le _, fun p np => q _ _ (same_upd np) ⟨p, [], rfl, SqT.of upd_same, (fun x hx => by cases hx), rfl⟩⟩
theorem y_tup1 {te : TE} (mo : Mono P) (h : Yl te σ H P) : Yl (tTup (tCons te tNil)) σ H (Tp K P 1) := fun H1 s Q q => h H1 s _ fun H2 x s2 hx =>
  ⟨(by show 1 ≤ sizeLine; decide), fun p np => q _ _ (s2.trans (same_upd np)) (Tp.one upd_same (mo.go (same_upd np) hx))⟩
theorem y_cat {a b : TE} {m k : Nat} (mo : Mono P) (ha : Yl a σ H (Tp K P m)) (hb : Yl b σ H (Tp K P k)) (few : m + k ≤ 1000) : Yl (tOp (rCatA K) a b) σ H (Tp K P (m + k)) := fun H1 s Q q =>
  ha H1 s _ fun H2 x s2 hx => hb H2 (s.trans s2) _ fun H3 y s3 hy => cat_T mo (hx.same mo s3) hy few fun H' v s4 h => q H' v (s2.trans (s3.trans s4)) h
theorem o_none : YO tNoPart σ none := fun H Q q => q
theorem o_some {te : TE} {i : Int} (h : YE te σ (.int i)) : YO (tPart te) σ (some i) := fun H Q q => h H _ ⟨i, rfl, q⟩
theorem y_sl {a : TE} {tl th : TO} {lo hi : Option Int} {m : Nat} (mo : Mono P) (ha : Yl a σ H (Tp K P m)) (hl : YO tl σ lo) (hh : YO th σ hi) : Yl (tSl (rSlA K) a tl th) σ H (Tp K P (HT.sIx m m hi - HT.sIx m 0 lo)) := fun H1 s Q q =>
  ha H1 s _ fun H2 x s2 hx => hl H2 _ (hh H2 _ (sl_T mo hx fun H' v s3 h => q H' v (s2.trans s3) h))
theorem y_rev {a : TE} {m : Nat} (mo : Mono P) (ha : Yl a σ H (Tp K P m)) : Yl (tRevT K a) σ H (Tp K P m) := fun H1 s Q q =>
  ha H1 s _ fun H2 x s2 ⟨t, xs, e, h1, h2, h3⟩ => ⟨t, xs, e, h1, fun p np => q _ _ (s2.trans (same_upd np)) ⟨p, _, rfl, SqT.of upd_same, fun x hx => mo.go (same_upd np) (h2 x (List.mem_reverse.mp hx)), by rw [List.length_reverse]; exact h3⟩⟩
theorem y_kind {a b : TE} {M : Nat} (ha : Yl a σ H (BgAny K M)) (hb : Yl b σ H (PaAny K)) : Yl (tTup (tCons a (tCons b tNil))) σ H (KindOk K M) := fun H1 s Q q =>
  ha H1 s _ fun H2 x s2 hx => hb H2 (s.trans s2) _ fun H3 y s3 hy => ⟨(by show 2 ≤ sizeLine; decide), fun p np => q _ _ (s2.trans (s3.trans (same_upd np))) ⟨p, x, y, rfl, SqT.of upd_same, mo_BA.go (s3.trans (same_upd np)) hx, mo_PA.go (same_upd np) hy⟩⟩
theorem a_nil : YA tNil σ H R 0 := fun H1 s Q q => q H1 [] (Same.refl _) (fun x hx => by cases hx) rfl
theorem a_cons {a : TE} {ta : TA} {m : Nat} (mo : Mono R) (ha : Yl a σ H R) (hb : YA ta σ H R m) : YA (tCons a ta) σ H R (m + 1) := fun H1 s Q q =>
  ha H1 s _ fun H2 x s2 hx => hb H2 (s.trans s2) _ fun H3 xs s3 hxs hm => q H3 _ (s2.trans s3) (fun y hy => by
    rcases List.mem_cons.mp hy with z | z
    · rw [z]; exact mo.go s3 hx
    · exact hxs y z) (by rw [List.length_cons, hm])
theorem y_lst {ta : TA} {m : Nat} (mo : Mono R) (ha : YA ta σ H R m) (few : m ≤ 1000) : Yl (tLst ta) σ H (LstOk R m) := fun H1 s Q q =>
  ha H1 s _ fun H2 xs s2 hxs hm => ⟨by rw [hm, sizeLine_eq]; omega, fun p np => q _ _ (s2.trans (same_upd np)) ⟨p, xs, rfl, upd_same, fun x hx => mo.go (same_upd np) (hxs x hx), hm⟩⟩
theorem y_catL {a b : TE} {m k : Nat} (mo : Mono R) (ha : Yl a σ H (LstOk R m)) (hb : Yl b σ H (LstOk R k)) (few : m + k ≤ 1000) : Yl (tOp rCat a b) σ H (LstOk R (m + k)) := fun H1 s Q q =>
  ha H1 s _ fun H2 x s2 hx => hb H2 (s.trans s2) _ fun H3 y s3 ⟨b, ys, e2, g1, g2, g3⟩ => by
    obtain ⟨a, xs, e1, h1, h2, h3⟩ := (mo_L mo).go s3 hx
    exact ⟨a, b, xs, ys, e1, e2, h1, g1, by rw [sizeLine_eq]; omega, fun p np => q _ _ (s2.trans (s3.trans (same_upd np))) ⟨p, _, rfl, upd_same, fun z hz => by
      rcases List.mem_append.mp hz with w | w
      · exact mo.go (same_upd np) (h2 z w)
      · exact mo.go (same_upd np) (g2 z w), by rw [List.length_append]; omega⟩⟩
end
abbrev sLch : Stmt := topS 29
def spLch (K : PySem.W.Frag) : Sp := fun vs H Q _ => ∃ (b p d : Addr) (n : Nat) (ps : List Addr) (cs : List (List Int)) (pars ds : List Int), vs = [.ref b, .ref p, .ref d, .int n] ∧ SqT K H b (ps.map V.ref) ∧ TupsAt K H ps cs ∧ SqT K H p (pars.map V.int) ∧ cs.length = pars.length ∧ 0 < cs.length ∧ cs.length ≤ 50 ∧ (∀ c ∈ cs, c.length ≤ 40) ∧
  SqL K H d (ds.map V.int) ∧ ds.length = 4 ∧ (∀ k ∈ ds, 0 ≤ k ∧ k < 720) ∧
  ∀ H' r, Same H H' → KindOk K cs.length H' r → Q r H'
section
variable {P : Program} {w : World} {K : PySem.W.Frag} {mg : Str → Option Value} {base : Heap}
abbrev chN : List Str := ["bags", "parents", "digits", "size", "at", "v", "bag", "less", "more", "other", "kinds", "u"]
theorem scLch : FnScope chN ["bags", "parents", "digits", "size"] (defScope sLch) := ⟨rfl, rfl, rfl, by decide +kernel, rfl, by decide +kernel, by decide +kernel⟩
end
end Sm

set_option Elab.async false
set_option linter.all false
set_option maxRecDepth 100000
set_option maxHeartbeats 8000000
namespace Sm
open PySem PySem.Spec PyProof.Rows L2
section
variable {K : PySem.W.Frag} {σ : L2.St} {H : Hp} {P R : Hp → V → Prop}
theorem mo_T {m : Nat} (mo : Mono P) : Mono (Tp K P m) := fun _ _ _ s h => h.same mo s
theorem y_take {a te : TE} {m k : Nat} (mo : Mono P) (ha : Yl a σ H (Tp K P m)) (he : YE te σ (.int (k : Int))) (hk : k ≤ m) : Yl (tSl (rSlA K) a tNoPart (tPart te)) σ H (Tp K P k) := by
  have z := y_sl mo ha o_none (o_some he)
  rw [HT.sIx_nat, HT.sIx_none, Nat.min_eq_left hk] at z
  exact z
theorem y_drop {a te : TE} {m k : Nat} (mo : Mono P) (ha : Yl a σ H (Tp K P m)) (he : YE te σ (.int (k : Int))) (hk : k ≤ m) : Yl (tSl (rSlA K) a (tPart te) tNoPart) σ H (Tp K P (m - k)) := by
  have z := y_sl mo ha (o_some he) o_none
  rw [HT.sIx_nat, HT.sIx_none, Nat.min_eq_left hk] at z
  exact z
theorem sIx_m1 (n d : Nat) : HT.sIx n d (some (-1)) = n - 1 := by
  show (if (-1 : Int) < 0 then ((-1 : Int) + (n : Int)).toNat else min (-1 : Int).toNat n) = n - 1
  rw [if_pos (by decide)]
  omega
theorem y_init {a te : TE} {m : Nat} (mo : Mono P) (ha : Yl a σ H (Tp K P m)) (he : YE te σ (.int (-1))) : Yl (tSl (rSlA K) a tNoPart (tPart te)) σ H (Tp K P (m - 1)) := by
  have z := y_sl mo ha o_none (o_some he)
  rw [sIx_m1, HT.sIx_none] at z
  exact z
theorem y_last {a te : TE} {m : Nat} (mo : Mono P) (ha : Yl a σ H (Tp K P m)) (he : YE te σ (.int (-1))) : Yl (tSl (rSlA K) a (tPart te) tNoPart) σ H (Tp K P (m - (m - 1))) := by
  have z := y_sl mo ha (o_some he) o_none
  rw [sIx_m1, HT.sIx_none] at z
  exact z
theorem y_mid {a a2 x te te1 : TE} {m k : Nat} (mo : Mono P) (ha : Yl a σ H (Tp K P m)) (hx : Yl x σ H P) (ha2 : Yl a2 σ H (Tp K P m)) (he : YE te σ (.int (k : Int))) (he1 : YE te1 σ (.int ((k + 1 : Nat) : Int))) (hk : k < m) (few : m ≤ 300) :
    Yl (tOp (rCatA K) (tOp (rCatA K) (tSl (rSlA K) a tNoPart (tPart te)) (tTup (tCons x tNil))) (tSl (rSlA K) a2 (tPart te1) tNoPart)) σ H (Tp K P m) := by
  have z := y_cat mo (y_cat mo (y_take mo ha he (by omega)) (y_tup1 mo hx) (by omega)) (y_drop mo ha2 he1 (by omega)) (by omega)
  rw [show k + 1 + (m - (k + 1)) = m by omega] at z
  exact z
def P2 (K : PySem.W.Frag) : Hp → V → Prop := fun H x => ∃ m, Tp K PO m H x ∧ m ≤ 81
theorem mo_2 : Mono (P2 K) := fun _ _ _ s ⟨m, h, l⟩ => ⟨m, h.same mo_O s, l⟩
theorem Tp.up {P' : Hp → V → Prop} {m : Nat} {v : V} (h : Tp K P m H v) (w : ∀ x, P H x → P' H x) : Tp K P' m H v := by
  obtain ⟨a, xs, e, h1, h2, h3⟩ := h
  exact ⟨a, xs, e, h1, fun x hx => w x (h2 x hx), h3⟩
theorem p2_b {x : V} (h : P2 K H x) : PB K H x := by
  obtain ⟨m, h1, h2⟩ := h
  exact h1.bag h2
def K2 (K : PySem.W.Frag) (M : Nat) : Hp → V → Prop := fun H v => ∃ a vb vp, v = .ref a ∧ SqT K H a [vb, vp] ∧ (∃ m, Tp K (P2 K) m H vb ∧ m ≤ M + 1) ∧ ∃ k, Tp K PI k H vp
theorem y_kind2 {a b : TE} {M m k : Nat} (ha : Yl a σ H (Tp K (P2 K) m)) (hm : m ≤ M + 1) (hb : Yl b σ H (Tp K PI k)) : Yl (tTup (tCons a (tCons b tNil))) σ H (K2 K M) := fun H1 s Q q =>
  ha H1 s _ fun H2 x s2 hx => hb H2 (s.trans s2) _ fun H3 y s3 hy => ⟨(by show 2 ≤ sizeLine; decide), fun p np => q _ _ (s2.trans (s3.trans (same_upd np))) ⟨p, x, y, rfl, SqT.of upd_same, ⟨m, hx.same mo_2 (s3.trans (same_upd np)), hm⟩, k, hy.same mo_I (same_upd np)⟩⟩
theorem but_k {M : Nat} {f : Addr} {H' : Hp} {ys : List V} {v : V} (bt : But f H H') (hf : H f = some (.lst ys)) (h : K2 K M H v) : KindOk K M H' v := by
  obtain ⟨a, vb, vp, rfl, h1, ⟨m, ⟨b, xs, rfl, g1, g2, g3⟩, hm⟩, k, ⟨p, zs, rfl, g4, g5, g6⟩⟩ := h
  refine ⟨a, _, _, rfl, bt.sqTl hf h1, ?_, ?_⟩
  · have z : Tp K (P2 K) m H' (.ref b) := ⟨b, xs, rfl, bt.sqTl hf g1, fun x hx => by
      obtain ⟨m', ⟨c, ws, rfl, e1, e2, e3⟩, hm'⟩ := g2 x hx
      exact ⟨m', ⟨c, ws, rfl, bt.sqTl hf e1, e2, e3⟩, hm'⟩, g3⟩
    exact (z.up fun x hx => p2_b hx).ba hm
  · have z : Tp K PI k H' (.ref p) := ⟨p, zs, rfl, bt.sqTl hf g4, g5, g6⟩
    exact z.pa
theorem e_neg : YE (tUn (rU fun i => V.int (-i)) (tC (V.int 1))) σ (.int (-1)) := fun H Q q => ⟨1, rfl, q⟩
theorem y_weak {te : TE} {H H' : Hp} (s : Same H H') (h : Yl te σ H R) : Yl te σ H' R := fun H1 s1 Q q => h H1 (s.trans s1) Q q
end
/-- what the names of the law's changes hold -/
structure Cx8 (K : PySem.W.Frag) (σ : L2.St) (H : Hp) (M k n : Nat) (cl ll ml : Nat) : Prop where
  bags : ∃ v, σ[0]? = some (some v) ∧ Tp K (PB K) M H v
  bag2 : ∃ v, σ[0]? = some (some v) ∧ Tp K (P2 K) M H v
  pars : ∃ v, σ[1]? = some (some v) ∧ Tp K PI M H v
  size : σ[3]? = some (some (.int n))
  at_ : σ[4]? = some (some (.int (k : Int)))
  bag : ∃ v, σ[6]? = some (some v) ∧ Tp K PI cl H v
  less : ∃ v, σ[7]? = some (some v) ∧ Tp K PI ll H v
  more : ∃ v, σ[8]? = some (some v) ∧ Tp K PI ml H v
  other : ∃ v, σ[9]? = some (some v) ∧ Tp K PI M H v
  kM : k < M
  Mf : M ≤ 50
  cf : cl ≤ 40
  lf : ll ≤ 40
  mf : ml ≤ 41
abbrev tA1 : TE := tOp (rI0 fun i j => V.int (i + j)) (tVar 4) (tC (V.int 1))
abbrev tN1 : TE := tUn (rU fun i => V.int (-i)) (tC (V.int 1))
abbrev t1 (x : TE) : TE := tTup (tCons x tNil)
abbrev t2 (x y : TE) : TE := tTup (tCons x (tCons y tNil))
abbrev tMid (K : PySem.W.Frag) (x : TE) : TE := tOp (rCatA K) (tOp (rCatA K) (tSl (rSlA K) (tVar 0) tNoPart (tPart (tVar 4))) (t1 x)) (tSl (rSlA K) (tVar 0) (tPart tA1) tNoPart)
abbrev tLof (K : PySem.W.Frag) (x : TE) : TE := tCB (fun xs H Q => ∃ p ys, xs = [V.ref p] ∧ (SqL K H p ys ∨ SqT K H p ys) ∧ ∀ l, H l = none → Q (V.ref l) (upd H l (HO.lst ys))) (tCons x tNil)
section
variable {K : PySem.W.Frag} {σ : L2.St} {H : Hp} {M k n cl ll ml : Nat}
theorem Cx8.vB (C : Cx8 K σ H M k n cl ll ml) : Yl (tVar 0) σ H (Tp K (PB K) M) := by
  obtain ⟨v, e, h⟩ := C.bags
  exact y_var (mo_T mo_B) e h
theorem Cx8.vB2 (C : Cx8 K σ H M k n cl ll ml) : Yl (tVar 0) σ H (Tp K (P2 K) M) := by
  obtain ⟨v, e, h⟩ := C.bag2
  exact y_var (mo_T mo_2) e h
theorem Cx8.vP (C : Cx8 K σ H M k n cl ll ml) : Yl (tVar 1) σ H (Tp K PI M) := by
  obtain ⟨v, e, h⟩ := C.pars
  exact y_var (mo_T mo_I) e h
theorem Cx8.vG (C : Cx8 K σ H M k n cl ll ml) : Yl (tVar 6) σ H (Tp K PI cl) := by
  obtain ⟨v, e, h⟩ := C.bag
  exact y_var (mo_T mo_I) e h
theorem Cx8.vL (C : Cx8 K σ H M k n cl ll ml) : Yl (tVar 7) σ H (Tp K PI ll) := by
  obtain ⟨v, e, h⟩ := C.less
  exact y_var (mo_T mo_I) e h
theorem Cx8.vM (C : Cx8 K σ H M k n cl ll ml) : Yl (tVar 8) σ H (Tp K PI ml) := by
  obtain ⟨v, e, h⟩ := C.more
  exact y_var (mo_T mo_I) e h
theorem Cx8.vO (C : Cx8 K σ H M k n cl ll ml) : Yl (tVar 9) σ H (Tp K PI M) := by
  obtain ⟨v, e, h⟩ := C.other
  exact y_var (mo_T mo_I) e h
theorem Cx8.ik (C : Cx8 K σ H M k n cl ll ml) : YE (tVar 4) σ (.int (k : Int)) := fun H Q q => ⟨_, C.at_, q⟩
theorem Cx8.ik1 (C : Cx8 K σ H M k n cl ll ml) : YE tA1 σ (.int ((k + 1 : Nat) : Int)) := fun H Q q => ⟨_, C.at_, _, _, rfl, rfl, q⟩
theorem Cx8.mid (C : Cx8 K σ H M k n cl ll ml) {x : TE} (hx : Yl x σ H (PB K)) : Yl (tMid K x) σ H (BgAny K M) :=
  (y_mid mo_B C.vB hx C.vB C.ik C.ik1 C.kM (by have := C.Mf; omega)).mp fun _ _ z => z.ba (Nat.le_succ _)
theorem Cx8.mid2 (C : Cx8 K σ H M k n cl ll ml) {x : TE} (hx : Yl x σ H (P2 K)) : Yl (tMid K x) σ H (Tp K (P2 K) M) :=
  y_mid mo_2 C.vB2 hx C.vB2 C.ik C.ik1 C.kM (by have := C.Mf; omega)
theorem Cx8.wB (C : Cx8 K σ H M k n cl ll ml) : Yl (tVar 0) σ H (BgAny K M) := C.vB.mp fun _ _ z => z.ba (Nat.le_succ _)
theorem Cx8.wP (C : Cx8 K σ H M k n cl ll ml) : Yl (tVar 1) σ H (PaAny K) := C.vP.mp fun _ _ z => z.pa
theorem i_b {te : TE} {m : Nat} (h : Yl te σ H (Tp K PI m)) (hm : m ≤ 81) : Yl te σ H (PB K) := h.mp fun _ _ z => z.io.bag hm
theorem o_b {te : TE} {m : Nat} (h : Yl te σ H (Tp K PO m)) (hm : m ≤ 81) : Yl te σ H (PB K) := h.mp fun _ _ z => z.bag hm
theorem row1 (C : Cx8 K σ H M k n cl ll ml) : Yl (t2 (tMid K (tVar 7)) (tVar 1)) σ H (KindOk K M) := y_kind (C.mid (i_b C.vL (by have := C.lf; omega))) C.wP
theorem row2 (C : Cx8 K σ H M k n cl ll ml) : Yl (t2 (tMid K (tVar 8)) (tVar 1)) σ H (KindOk K M) := y_kind (C.mid (i_b C.vM (by have := C.mf; omega))) C.wP
theorem row3 (C : Cx8 K σ H M k n cl ll ml) : Yl (t2 (tVar 0) (tVar 9)) σ H (KindOk K M) := y_kind C.wB (C.vO.mp fun _ _ z => z.pa)
theorem row4 (C : Cx8 K σ H M k n cl ll ml) : Yl (t2 (tOp (rCatA K) (tVar 0) (t1 (tVar 6))) (tOp (rCatA K) (tVar 1) (t1 (tVar 4)))) σ H (KindOk K M) :=
  y_kind ((y_cat mo_B C.vB (y_tup1 mo_B (i_b C.vG (by have := C.cf; omega))) (by have := C.Mf; omega)).mp fun _ _ z => z.ba (Nat.le_refl _))
    ((y_cat mo_I C.vP (y_tup1 mo_I (y_e C.ik fun _ => ⟨_, rfl⟩)) (by have := C.Mf; omega)).mp fun _ _ z => z.pa)
theorem row5 (C : Cx8 K σ H M k n cl ll ml) : Yl (t2 (tSl (rSlA K) (tVar 0) tNoPart (tPart tN1)) (tSl (rSlA K) (tVar 1) tNoPart (tPart tN1))) σ H (KindOk K M) :=
  y_kind ((y_init mo_B C.vB e_neg).mp fun _ _ z => z.ba (by omega)) ((y_init mo_I C.vP e_neg).mp fun _ _ z => z.pa)
theorem row6 (C : Cx8 K σ H M k n cl ll ml) : Yl (t2 (tMid K (tRevT K (tVar 6))) (tVar 1)) σ H (KindOk K M) := y_kind (C.mid (i_b (y_rev mo_I C.vG) (by have := C.cf; omega))) C.wP
theorem l_bags (C : Cx8 K σ H M k n cl ll ml) {cs : List (List Int)} {ps : List Addr} {b : Addr} (e : σ[0]? = some (some (.ref b))) (hB : SqT K H b (ps.map V.ref)) (hT : TupsAt K H ps cs) : Yl (tLof K (tVar 0)) σ H (BgAny K M) := fun H1 s Q q =>
  ⟨_, e, b, _, rfl, .inr (same_sqT s hB), fun l nl => q _ _ (same_upd nl) ⟨.lst cs, .lst upd_same (hT.same (s.trans (same_upd nl))), fun bs z => by cases z⟩⟩
theorem row7 (C : Cx8 K σ H M k n cl ll ml) {cs : List (List Int)} {ps : List Addr} {b : Addr} (e : σ[0]? = some (some (.ref b))) (hB : SqT K H b (ps.map V.ref)) (hT : TupsAt K H ps cs) : Yl (t2 (tLof K (tVar 0)) (tVar 1)) σ H (KindOk K M) := y_kind (l_bags C e hB hT) C.wP
theorem row8 (C : Cx8 K σ H M k n cl ll ml) : Yl (t2 (tVar 0) (tLof K (tVar 1))) σ H (KindOk K M) := by
  obtain ⟨v, e, p, xs, rfl, h1, h2, h3⟩ := C.pars
  obtain ⟨ns, rfl⟩ := ints_ex h2
  exact y_kind C.wB fun H1 s Q q => ⟨_, e, p, _, rfl, .inr (same_sqT s h1), fun l nl => q _ _ (same_upd nl) ⟨.lst ns, .lst upd_same⟩⟩
theorem c_zero : Yl (tC (V.int 0)) σ H PI := fun H1 s Q q => q H1 _ (Same.refl _) ⟨0, rfl⟩
theorem row9 (C : Cx8 K σ H M k n cl ll ml) : Yl (t2 (tVar 0) (tOp (rCatA K) (tVar 1) (t1 (tC (V.int 0))))) σ H (KindOk K M) :=
  y_kind C.wB ((y_cat mo_I C.vP (y_tup1 mo_I c_zero) (by have := C.Mf; omega)).mp fun _ _ z => z.pa)
theorem row10 (C : Cx8 K σ H M k n cl ll ml) : Yl (t2 (tMid K (tLof K (tVar 6))) (tVar 1)) σ H (KindOk K M) := by
  obtain ⟨v, e, p, xs, rfl, h1, h2, h3⟩ := C.bag
  obtain ⟨ns, rfl⟩ := ints_ex h2
  rw [List.length_map] at h3
  have cf := C.cf
  exact y_kind (C.mid fun H1 s Q q => ⟨_, e, p, _, rfl, .inr (same_sqT s h1), fun l nl => q _ _ (same_upd nl) ⟨.lst ns, .lst upd_same, by show ns.length ≤ 81; omega⟩⟩) C.wP
theorem row11 (C : Cx8 K σ H M k n cl ll ml) : Yl (t2 (tMid K (tOp (rCatA K) (tVar 6) (tSl (rSlA K) (tVar 6) (tPart tN1) tNoPart))) (tVar 1)) σ H (K2 K M) :=
  y_kind2 (C.mid2 ((y_cat mo_I C.vG (y_last mo_I C.vG e_neg) (by have := C.cf; omega)).mp fun _ _ z => ⟨_, z.io, by have := C.cf; omega⟩)) (Nat.le_succ _) C.vP
theorem row12 (C : Cx8 K σ H M k n cl ll ml) : Yl (t2 (tMid K (tOp (rCatA K) (tVar 6) (t1 (tC (V.bl true))))) (tVar 1)) σ H (KindOk K M) :=
  y_kind (C.mid (o_b (y_cat mo_O (C.vG.mp fun _ _ z => z.io) (y_tup1 mo_O fun H1 s Q q => q H1 _ (Same.refl _) ⟨none, rfl⟩) (by have := C.cf; omega)) (by have := C.cf; omega))) C.wP
theorem row13 (C : Cx8 K σ H M k n cl ll ml) : Yl (t2 (tVar 0) (tOp (rCatA K) (t1 (tC (V.int 0))) (tSl (rSlA K) (tVar 1) (tPart (tC (V.int 1))) tNoPart))) σ H (KindOk K M) :=
  y_kind C.wB ((y_cat mo_I (y_tup1 mo_I c_zero) (y_drop (k := 1) mo_I C.vP (fun H Q q => q) (by have := C.kM; omega)) (by have := C.Mf; omega)).mp fun _ _ z => z.pa)
theorem row14 (C : Cx8 K σ H M k n cl ll ml) : Yl (t2 (tC V.non) (tVar 1)) σ H (KindOk K M) := y_kind (fun H1 s Q q => q H1 _ (Same.refl _) ⟨.non, .non, fun bs z => by cases z⟩) C.wP
theorem row15 (C : Cx8 K σ H M k n cl ll ml) : Yl (t2 (tOp (rCatA K) (tVar 0) (t1 (t1 (tVar 3)))) (tOp (rCatA K) (tVar 1) (t1 (tC (V.int 0))))) σ H (KindOk K M) :=
  y_kind ((y_cat mo_B C.vB (y_tup1 mo_B (i_b (y_tup1 mo_I (y_e (te := tVar 3) (fun H Q q => ⟨_, C.size, q⟩) fun _ => ⟨_, rfl⟩)) (by omega))) (by have := C.Mf; omega)).mp fun _ _ z => z.ba (Nat.le_refl _))
    ((y_cat mo_I C.vP (y_tup1 mo_I c_zero) (by have := C.Mf; omega)).mp fun _ _ z => z.pa)
theorem row16 : Yl (t2 (tTup tNil) (tTup tNil)) σ H (KindOk K M) := y_kind ((y_tup0 (P := PB K)).mp fun _ _ z => z.ba (Nat.zero_le _)) ((y_tup0 (P := PI)).mp fun _ _ z => z.pa)
end
end Sm

set_option Elab.async false
set_option linter.all false
set_option maxRecDepth 100000
set_option maxHeartbeats 1500000
namespace Sm
open PySem PySem.Spec PyProof.Rows L2
theorem st_g {i : Nat} {x : V} {σ : L2.St} {H : Hp} {Q : L2.St → Hp → Prop} (h : Q (σ.set i (some x)) H) : gName i x σ H Q := h
theorem st_asg {i : Nat} {te : TE} {u : TS} {D : Ends} {σ : L2.St} {H : Hp} {R : Hp → V → Prop} (h : Yl te σ H R) (q : ∀ H2 x, Same H H2 → R H2 x → u D (σ.set i (some x)) H2) : tSeq (tAsg te (gName i)) u D σ H := h H (Same.refl H) _ q
theorem st_catF {K : PySem.W.Frag} {i m k : Nat} {a b : TE} {u : TS} {D : Ends} {σ : L2.St} {H : Hp} {R : Hp → V → Prop} (mo : Mono R) (ha : Yl a σ H (LstOk R m)) (hb : Yl b σ H (LstOk R k)) (few : m + k ≤ 1000)
    (q : ∀ H2 p xs, Same H H2 → H2 p = none → (∀ x ∈ xs, R H2 x) → xs.length = m + k → u D (σ.set i (some (.ref p))) (upd H2 p (.lst xs))) : tSeq (tAsg (tOp rCat a b) (gName i)) u D σ H :=
  ha H (Same.refl H) _ fun H2 x s2 hx => hb H2 s2 _ fun H3 y s3 ⟨b, ys, e2, g1, g2, g3⟩ => by
    obtain ⟨a, xs, e1, h1, h2, h3⟩ := (mo_L mo).go s3 hx
    exact ⟨a, b, xs, ys, e1, e2, h1, g1, by rw [sizeLine_eq]; omega, fun p np => q H3 p _ (s2.trans s3) np (fun z hz => by
      rcases List.mem_append.mp hz with w | w
      · exact h2 z w
      · exact g2 z w) (by rw [List.length_append]; omega)⟩
theorem st_arg {te : TE} {σ : L2.St} {H : Hp} {R : Hp → V → Prop} {Q : List V → Hp → Prop} (h : Yl te σ H R) (q : ∀ H2 x, Same H H2 → R H2 x → Q [x] H2) : tCons te tNil σ H Q := h H (Same.refl H) _ q
theorem Cx8.same {K : PySem.W.Frag} {σ : L2.St} {H H' : Hp} {M k n cl ll ml : Nat} (s : Same H H') (C : Cx8 K σ H M k n cl ll ml) : Cx8 K σ H' M k n cl ll ml := by
  obtain ⟨⟨v1, a1, b1⟩, ⟨v2, a2, b2⟩, ⟨v3, a3, b3⟩, a4, a5, ⟨v6, a6, b6⟩, ⟨v7, a7, b7⟩, ⟨v8, a8, b8⟩, ⟨v9, a9, b9⟩, c1, c2, c3, c4, c5⟩ := C
  exact ⟨⟨v1, a1, b1.same mo_B s⟩, ⟨v2, a2, b2.same mo_2 s⟩, ⟨v3, a3, b3.same mo_I s⟩, a4, a5, ⟨v6, a6, b6.same mo_I s⟩, ⟨v7, a7, b7.same mo_I s⟩, ⟨v8, a8, b8.same mo_I s⟩, ⟨v9, a9, b9.same mo_I s⟩, c1, c2, c3, c4, c5⟩
section
variable {P : Program} {w : World} {K : PySem.W.Frag} {mg : Str → Option Value} {base : Heap}
theorem ok_lch {f : Addr} {fd : FuncData} (F : Fun K "_law_changed" "_law_changed" sLch f fd) (mt : mg "tuple" = none) (ml : mg "len" = none) (ms : mg "sorted" = none) (mli : mg "list" = none) :
    FnOk P w K mg base CX0 1 f fd ["bags", "parents", "digits", "size"] (spLch K) := by
  refine F.ok scLch (fun vs H Q E h => ?_) (fun cdv A outer s H vs Q E hr h => ?_)
  · obtain ⟨b, p, d, n, ps, cs, pars, ds, rfl, _⟩ := h
    rfl
  · obtain ⟨b, p, d, n, ps, cs, pars, ds, rfl, hB, pt, hP, lpc, pos, few, cfew, hD, dl, dv, q⟩ := h
    refine ⟨_, pss_cons (ps_asg (pe_tup (pa_cons (pe_op op_mod (pe_ix ix_list (pv 2) pe_int (fun _ _ => rfl)) (pe_callB call_len_seq (by rfl) ml PySem.boot_len (pa_cons (pv 0) pa_nil))) (pa_cons (pe_op op_mod (pe_ix ix_list (pv 2) pe_int (fun _ _ => rfl)) (pe_op op_add (pv 3) pe_int)) pa_nil))) (pg_tup rfl (pgs_cons (pg_name (i := 4) scLch.nd rfl (.inl rfl)) (pgs_cons (pg_name (i := 5) scLch.nd rfl (.inr rfl)) pgs_nil))))
      (pss_cons (ps_set (i := 6) scLch.nd rfl (.inl rfl) (pe_ix ix_tup (pv 0) (pv 4) (fun _ _ => rfl)))
      (pss_cons (ps_set (i := 7) scLch.nd rfl (.inl rfl) (pe_callTy call_tuple_of (by rfl) mt (by decide +kernel) (pa_cons (pe_lc (own := [("u", 11)]) (g := gName 11) (by rfl) scLch.nd (pi_tup (pv 6)) (blkOk_by (own := [("u", 11)]) (N := chN) (sc := defScope sLch) (by decide +kernel)) (fun _ _ _ _ _ => pg_name (i := 11) scLch.nd rfl (Or.inl rfl)) (fun _ _ _ _ _ => pts_one (pt_cmpR op_ne (pv 11) (pv 5) (nomark _))) (fun _ _ _ _ _ => pv 11)) pa_nil)))
      (pss_cons (ps_set (i := 8) scLch.nd rfl (.inl rfl) (pe_callTy call_tuple_of (by rfl) mt (by decide +kernel) (pa_cons (pe_callB cr_sortTI (by rfl) ms (by decide +kernel) (pa_cons (pe_op op_catA (pv 7) (pe_tup (pa_cons (pv 5) pa_nil))) pa_nil)) pa_nil)))
      (pss_cons (ps_set (i := 9) scLch.nd rfl (.inl rfl) (pe_op op_catA (pe_op op_catA (pe_slice sl_tupA (pv 1) po_none (po_some (pv 4))) (pe_tup (pa_cons (pe_op op_sub (pe_op op_mod (pe_ix ix_list (pv 2) pe_int (fun _ _ => rfl)) (pe_callB call_len_seq (by rfl) ml PySem.boot_len (pa_cons (pv 0) pa_nil))) pe_int) pa_nil))) (pe_slice sl_tupA (pv 1) (po_some (pe_op op_add (pv 4) pe_int)) po_none)))
      (pss_cons (ps_set (i := 10) scLch.nd rfl (.inl rfl) (pe_lst (pa_cons (pe_tup (pa_cons (pe_op op_catA (pe_op op_catA (pe_slice sl_tupA (pv 0) po_none (po_some (pv 4))) (pe_tup (pa_cons (pv 7) pa_nil))) (pe_slice sl_tupA (pv 0) (po_some (pe_op op_add (pv 4) pe_int)) po_none)) (pa_cons (pv 1) pa_nil))) (pa_cons (pe_tup (pa_cons (pe_op op_catA (pe_op op_catA (pe_slice sl_tupA (pv 0) po_none (po_some (pv 4))) (pe_tup (pa_cons (pv 8) pa_nil))) (pe_slice sl_tupA (pv 0) (po_some (pe_op op_add (pv 4) pe_int)) po_none)) (pa_cons (pv 1) pa_nil))) (pa_cons (pe_tup (pa_cons (pv 0) (pa_cons (pv 9) pa_nil))) pa_nil)))))
      (pss_cons (ps_set (i := 10) scLch.nd rfl (.inl rfl) (pe_op op_cat (pv 10) (pe_lst (pa_cons (pe_tup (pa_cons (pe_op op_catA (pv 0) (pe_tup (pa_cons (pv 6) pa_nil))) (pa_cons (pe_op op_catA (pv 1) (pe_tup (pa_cons (pv 4) pa_nil))) pa_nil))) (pa_cons (pe_tup (pa_cons (pe_slice sl_tupA (pv 0) po_none (po_some (pe_un un_neg pe_int))) (pa_cons (pe_slice sl_tupA (pv 1) po_none (po_some (pe_un un_neg pe_int))) pa_nil))) (pa_cons (pe_tup (pa_cons (pe_op op_catA (pe_op op_catA (pe_slice sl_tupA (pv 0) po_none (po_some (pv 4))) (pe_tup (pa_cons (pe_revT (pv 6)) pa_nil))) (pe_slice sl_tupA (pv 0) (po_some (pe_op op_add (pv 4) pe_int)) po_none)) (pa_cons (pv 1) pa_nil))) pa_nil))))))
      (pss_cons (ps_set (i := 10) scLch.nd rfl (.inl rfl) (pe_op op_cat (pv 10) (pe_lst (pa_cons (pe_tup (pa_cons (pe_callTy call_list_of (by rfl) mli (by decide +kernel) (pa_cons (pv 0) pa_nil)) (pa_cons (pv 1) pa_nil))) (pa_cons (pe_tup (pa_cons (pv 0) (pa_cons (pe_callTy call_list_of (by rfl) mli (by decide +kernel) (pa_cons (pv 1) pa_nil)) pa_nil))) (pa_cons (pe_tup (pa_cons (pv 0) (pa_cons (pe_op op_catA (pv 1) (pe_tup (pa_cons pe_int pa_nil))) pa_nil))) (pa_cons (pe_tup (pa_cons (pe_op op_catA (pe_op op_catA (pe_slice sl_tupA (pv 0) po_none (po_some (pv 4))) (pe_tup (pa_cons (pe_callTy call_list_of (by rfl) mli (by decide +kernel) (pa_cons (pv 6) pa_nil)) pa_nil))) (pe_slice sl_tupA (pv 0) (po_some (pe_op op_add (pv 4) pe_int)) po_none)) (pa_cons (pv 1) pa_nil))) pa_nil)))))))
      (pss_cons (ps_expr (pe_bm PySem.F.plainAttrs_list PySem.F.slot_list_append PySem.F.type_list_append mt_append (pv 10) (pa_cons (pe_tup (pa_cons (pe_op op_catA (pe_op op_catA (pe_slice sl_tupA (pv 0) po_none (po_some (pv 4))) (pe_tup (pa_cons (pe_op op_catA (pv 6) (pe_slice sl_tupA (pv 6) (po_some (pe_un un_neg pe_int)) po_none)) pa_nil))) (pe_slice sl_tupA (pv 0) (po_some (pe_op op_add (pv 4) pe_int)) po_none)) (pa_cons (pv 1) pa_nil))) pa_nil)))
      (pss_cons (ps_set (i := 10) scLch.nd rfl (.inl rfl) (pe_op op_cat (pv 10) (pe_lst (pa_cons (pe_tup (pa_cons (pe_op op_catA (pe_op op_catA (pe_slice sl_tupA (pv 0) po_none (po_some (pv 4))) (pe_tup (pa_cons (pe_op op_catA (pv 6) (pe_tup (pa_cons pe_bl pa_nil))) pa_nil))) (pe_slice sl_tupA (pv 0) (po_some (pe_op op_add (pv 4) pe_int)) po_none)) (pa_cons (pv 1) pa_nil))) (pa_cons (pe_tup (pa_cons (pv 0) (pa_cons (pe_op op_catA (pe_tup (pa_cons pe_int pa_nil)) (pe_slice sl_tupA (pv 1) (po_some pe_int) po_none)) pa_nil))) (pa_cons (pe_tup (pa_cons pe_non (pa_cons (pv 1) pa_nil))) (pa_cons (pe_tup (pa_cons (pe_op op_catA (pv 0) (pe_tup (pa_cons (pe_tup (pa_cons (pv 3) pa_nil)) pa_nil))) (pa_cons (pe_op op_catA (pv 1) (pe_tup (pa_cons pe_int pa_nil))) pa_nil))) (pa_cons (pe_tup (pa_cons (pe_tup pa_nil) (pa_cons (pe_tup pa_nil) pa_nil))) pa_nil))))))))
      (pss_one (ps_ret (pe_ix ix_list (pv 10) (pe_op op_mod (pe_ix ix_list (pv 2) pe_int (fun _ _ => rfl)) (pe_callB call_len_seq (by rfl) ml PySem.boot_len (pa_cons (pv 10) pa_nil))) (fun _ _ => rfl))))))))))))), ?_⟩
    obtain ⟨d0, d1, d2, d3, rfl⟩ : ∃ d0 d1 d2 d3, ds = [d0, d1, d2, d3] := by
      match ds, dl with
      | [d0, d1, d2, d3], _ => exact ⟨d0, d1, d2, d3, rfl⟩
    have lpt := pt.length
    have lpos : (0 : Int) < (((ps.map V.ref).length : Nat) : Int) := by rw [List.length_map]; omega
    refine ⟨_, rfl, d, _, 0, _, rfl, rfl, hD, at_nat (k := 0) rfl, _, rfl, b, _, rfl, .inr hB, _, _, rfl, rfl, lpos, _, rfl, d, _, 1, _, rfl, rfl, hD, at_nat (k := 1) rfl, _, rfl, _, _, rfl, rfl, _, _, rfl, rfl, (by omega : (0 : Int) < (n : Int) + 1), (by show 2 ≤ sizeLine; decide), fun T1 nT1 => ?_⟩
    obtain ⟨k, hk, hkl⟩ : ∃ k : Nat, d0 % (((ps.map V.ref).length : Nat) : Int) = k ∧ k < cs.length := by
      have x := Int.emod_nonneg d0 (show (((ps.map V.ref).length : Nat) : Int) ≠ 0 by omega)
      have y := Int.emod_lt_of_pos d0 lpos
      rw [List.length_map] at x y ⊢
      exact ⟨(d0 % (ps.length : Int)).toNat, by omega, by omega⟩
    generalize hq0 : (fun i j : Int => V.int (i % j)) d0 (((ps.map V.ref).length : Nat) : Int) = w0
    have ew0 : w0 = V.int (k : Int) := by rw [← hq0]; exact congrArg V.int hk
    subst ew0
    generalize hq1 : (fun i j : Int => V.int (i % j)) d1 ((n : Int) + 1) = w1
    obtain ⟨v, ew1⟩ : ∃ v : Int, w1 = V.int v := ⟨_, hq1.symm⟩
    subst ew1
    have s1 := same_upd (o := .tup [V.int (k : Int), V.int v]) nT1
    have hT1 : (upd H T1 (.tup [V.int (k : Int), V.int v])) T1 = some (.tup [V.int (k : Int), V.int v]) := upd_same
    generalize (upd H T1 (.tup [V.int (k : Int), V.int v])) = H1 at s1 hT1 ⊢
    refine ⟨T1, _, rfl, SqT.of hT1, rfl, _, _, rfl, _, _, rfl, rfl, ?_⟩
    obtain ⟨ba, hba⟩ : ∃ a, ps[k]? = some a := ⟨_, List.getElem?_eq_getElem (by omega)⟩
    obtain ⟨c, hc, hca⟩ := paired_get pt hba
    have gba : (ps.map V.ref)[k]? = some (.ref ba) := by rw [List.getElem?_map, hba]; rfl
    have cl := cfew c (List.mem_of_getElem? hc)
    refine ⟨_, rfl, _, rfl, b, _, k, _, rfl, rfl, same_sqT s1 hB, at_nat gba, ?_⟩
    refine ⟨_, rfl, ba, rfl, ⟨_, same_sqT s1 hca⟩, fun D nD => ?_⟩
    refine lc_tup (K := K) (a := ba) (xs := c.map V.int) (fun m H7 => Same H1 H7 ∧ ∃ ns : List Int, H7 D = some (.lst (ns.map V.int)) ∧ ns.length ≤ m) ⟨same_upd nD, [], upd_same, Nat.le_refl _⟩ (fun m H7 _ h => same_sqT (s1.trans h.1) hca) ?_ ?_
    · rintro m x H7 hx ⟨s7, ns, hD7, hl⟩
      rw [List.getElem?_map] at hx
      cases ez : c[m]? with
      | none => rw [ez] at hx; cases hx
      | some z =>
        rw [ez] at hx
        cases hx
        have ml := (List.getElem?_eq_some_iff.mp ez).1
        refine ⟨rfl, _, rfl, _, rfl, rfl, _, rfl, ?_⟩
        by_cases c1 : z = v
        · exact iteNS (by rw [c1]) ⟨s7, ns, hD7, by omega⟩
        · refine iteN (fun y => c1 (V.int.inj y)) ⟨_, rfl, _, hD7, by rw [List.length_map]; exact small1000 (by omega), same_put s7 nD, ns ++ [z], by rw [upd_same, List.map_append]; rfl, by rw [List.length_append]; show ns.length + 1 ≤ m + 1; omega⟩
    rintro H7 ⟨s7, ns, hD7, hl⟩
    rw [List.length_map] at hl
    refine ⟨D, _, rfl, .inl ⟨SqL.of hD7, fun T2 nT2 => ?_⟩⟩
    have s8 := same_upd (o := .tup (ns.map V.int)) nT2
    have hT2 : (upd H7 T2 (.tup (ns.map V.int))) T2 = some (.tup (ns.map V.int)) := upd_same
    generalize (upd H7 T2 (.tup (ns.map V.int))) = H8 at s8 hT2 ⊢
    have S8 := s1.trans (s7.trans s8)
    have pless : Tp K PI ns.length H8 (.ref T2) := ⟨T2, _, rfl, SqT.of hT2, fun x hx => by
      obtain ⟨i, _, rfl⟩ := List.mem_map.mp hx
      exact ⟨i, rfl⟩, by rw [List.length_map]⟩
    refine (y_cat mo_I (y_var (mo_T mo_I) rfl pless) (y_tup1 mo_I (y_var mo_I rfl ⟨v, rfl⟩)) (by omega)) H8 (Same.refl H8) _ fun H9 x s9 ⟨a9, xs9, e9, h9, p9, l9⟩ => ?_
    subst e9
    obtain ⟨ns9, rfl⟩ := ints_ex p9
    rw [List.length_map] at l9
    refine ⟨a9, ns9, rfl, h9, fun ns' p10 pm _ np10 => ⟨p10, _, rfl, .inl ⟨SqL.of upd_same, fun T3 nT3 => ?_⟩⟩⟩
    have s10 := (same_upd (o := .lst (ns'.map V.int)) np10).trans (same_upd (o := .tup (ns'.map V.int)) nT3)
    have hT3 : (upd (upd H9 p10 (.lst (ns'.map V.int))) T3 (.tup (ns'.map V.int))) T3 = some (.tup (ns'.map V.int)) := upd_same
    generalize (upd (upd H9 p10 (.lst (ns'.map V.int))) T3 (.tup (ns'.map V.int))) = H10 at s10 hT3 ⊢
    have S10 := S8.trans (s9.trans s10)
    have pmore : Tp K PI ns'.length H10 (.ref T3) := ⟨T3, _, rfl, SqT.of hT3, fun x hx => by
      obtain ⟨i, _, rfl⟩ := List.mem_map.mp hx
      exact ⟨i, rfl⟩, by rw [List.length_map]⟩
    have lm : ns'.length = ns.length + 1 := by rw [pm.length_eq, l9]
    have pB : Tp K (PB K) cs.length H (.ref b) := ⟨b, _, rfl, hB, fun x hx => by
      obtain ⟨a, ha, rfl⟩ := List.mem_map.mp hx
      obtain ⟨i, hi, e⟩ := List.getElem_of_mem ha
      obtain ⟨c', hc', hca'⟩ := paired_get pt (show ps[i]? = some a by rw [List.getElem?_eq_getElem hi, e])
      have := cfew c' (List.mem_of_getElem? hc')
      refine ⟨.tup (c'.map some), .tup ?_, by show (c'.map some).length ≤ 81; rw [List.length_map]; omega⟩
      have em : (c'.map some).map ovV = c'.map V.int := by rw [List.map_map]; rfl
      rw [em]
      exact hca', by rw [List.length_map, lpt]⟩
    have pB2 : Tp K (P2 K) cs.length H (.ref b) := ⟨b, _, rfl, hB, fun x hx => by
      obtain ⟨a, ha, rfl⟩ := List.mem_map.mp hx
      obtain ⟨i, hi, e⟩ := List.getElem_of_mem ha
      obtain ⟨c', hc', hca'⟩ := paired_get pt (show ps[i]? = some a by rw [List.getElem?_eq_getElem hi, e])
      have := cfew c' (List.mem_of_getElem? hc')
      refine ⟨c'.length, ⟨a, (c'.map V.int), rfl, hca', fun y hy => ?_, by rw [List.length_map]⟩, by omega⟩
      obtain ⟨j, _, rfl⟩ := List.mem_map.mp hy
      exact ⟨some j, rfl⟩, by rw [List.length_map, lpt]⟩
    have pP : Tp K PI cs.length H (.ref p) := ⟨p, _, rfl, hP, fun x hx => by
      obtain ⟨i, _, rfl⟩ := List.mem_map.mp hx
      exact ⟨i, rfl⟩, by rw [List.length_map, lpc]⟩
    have pbag : Tp K PI c.length H (.ref ba) := ⟨ba, _, rfl, hca, fun x hx => by
      obtain ⟨i, _, rfl⟩ := List.mem_map.mp hx
      exact ⟨i, rfl⟩, by rw [List.length_map]⟩
    have lm2 : ns'.length ≤ 41 := by omega
    have ik : ∀ σ : L2.St, σ[4]? = some (some (.int (k : Int))) → YE (tVar 4) σ (.int (k : Int)) := fun σ e H Q q => ⟨_, e, q⟩
    have ik1 : ∀ σ : L2.St, σ[4]? = some (some (.int (k : Int))) → YE (tOp (rI0 fun i j => V.int (i + j)) (tVar 4) (tC (V.int 1))) σ (.int ((k + 1 : Nat) : Int)) := fun σ e H Q q => ⟨_, e, _, _, rfl, rfl, q⟩
    have vP : ∀ (σ : L2.St) (H9 : Hp), σ[1]? = some (some (.ref p)) → Same H H9 → Yl (tVar 1) σ H9 (Tp K PI cs.length) := fun σ H9 e s9 => y_var (mo_T mo_I) e (pP.same mo_I s9)
    have vB : ∀ (σ : L2.St) (H9 : Hp), σ[0]? = some (some (.ref b)) → Same H H9 → Yl (tVar 0) σ H9 (Tp K (PB K) cs.length) := fun σ H9 e s9 => y_var (mo_T mo_B) e (pB.same mo_B s9)
    have yd : ∀ (σ : L2.St) (H9 : Hp), σ[2]? = some (some (.ref d)) → σ[0]? = some (some (.ref b)) → Same H H9 → True := fun _ _ _ _ _ => trivial
    refine (y_mid (k := k) mo_I (vP _ _ rfl S10) (fun H1 s Q q' => ⟨_, rfl, d, _, 2, _, rfl, rfl, (S10.trans s).seq hD, at_nat (k := 2) rfl, _, rfl, b, _, rfl, .inr (same_sqT (S10.trans s) hB), _, _, rfl, rfl, lpos, _, _, rfl, rfl, q' H1 _ (Same.refl _) ⟨_, rfl⟩⟩) (vP _ _ rfl S10) (ik _ rfl) (ik1 _ rfl) hkl (by omega)) H10 (Same.refl H10) _ fun H11 o s11 po => ?_
    have S11 := S10.trans s11
    have CC : ∀ y : Option V, Cx8 K [some (.ref b), some (.ref p), some (.ref d), some (.int n), some (.int (k : Int)), some (.int v), some (.ref ba), some (.ref T2), some (.ref T3), some o, y, none] H11 cs.length k n c.length ns.length ns'.length := fun y =>
      ⟨⟨_, rfl, pB.same mo_B S11⟩, ⟨_, rfl, pB2.same mo_2 S11⟩, ⟨_, rfl, pP.same mo_I S11⟩, rfl, rfl, ⟨_, rfl, pbag.same mo_I S11⟩, ⟨_, rfl, pless.same mo_I (s9.trans (s10.trans s11))⟩, ⟨_, rfl, pmore.same mo_I s11⟩, ⟨_, rfl, po⟩, hkl, few, cl, by omega, by omega⟩
    have y6 := y_lst mo_K (a_cons mo_K (row1 (CC none)) (a_cons mo_K (row2 (CC none)) (a_cons mo_K (row3 (CC none)) a_nil))) (by omega)
    refine st_g ?_
    refine st_asg (R := LstOk (KindOk K cs.length) 3) y6 fun H12 k1 s12 pk1 => ?_
    have y7 := y_catL mo_K (y_var (i := 10) (mo_L mo_K) rfl pk1) (y_lst mo_K (a_cons mo_K (row4 ((CC (some k1)).same s12)) (a_cons mo_K (row5 ((CC (some k1)).same s12)) (a_cons mo_K (row6 ((CC (some k1)).same s12)) a_nil))) (by omega)) (by omega)
    refine st_asg (R := LstOk (KindOk K cs.length) 6) y7 fun H13 k2 s13 pk2 => ?_
    have S11' : Same H11 H13 := s12.trans s13
    have y8 := y_lst mo_K (a_cons mo_K (row7 ((CC (some k2)).same S11') rfl (same_sqT (S11.trans S11') hB) (pt.same (S11.trans S11'))) (a_cons mo_K (row8 ((CC (some k2)).same S11')) (a_cons mo_K (row9 ((CC (some k2)).same S11')) (a_cons mo_K (row10 ((CC (some k2)).same S11')) a_nil)))) (by omega)
    refine st_catF (K := K) (R := KindOk K cs.length) mo_K (y_var (i := 10) (mo_L mo_K) rfl pk2) y8 (by omega) fun H14 p3 xs s14 np3 hxs lxs => ?_
    have S14 : Same H11 H14 := S11'.trans s14
    have n11 : H11 p3 = none := S14.free np3
    have s14b := same_upd (o := .lst xs) np3
    have hp3 : (upd H14 p3 (.lst xs)) p3 = some (.lst xs) := upd_same
    refine ⟨_, rfl, .inl ⟨rfl, _, SqL.of hp3⟩, ?_⟩
    refine st_arg (row11 ((CC (some (.ref p3))).same (S14.trans s14b))) fun H15 x s15 hx => ?_
    have hp15 := s15 _ _ hp3
    refine ⟨p3, _, _, rfl, rfl, hp15, small1000 (by omega), ?_⟩
    have bt : But p3 H15 (upd H15 p3 (.lst (xs ++ [x]))) := (Same.but (Same.refl H15)).put
    have kx : KindOk K cs.length (upd H15 p3 (.lst (xs ++ [x]))) x := but_k bt hp15 hx
    have S16 : Same H14 (upd H15 p3 (.lst (xs ++ [x]))) := same_put (s14b.trans s15) np3
    have hp16 : (upd H15 p3 (.lst (xs ++ [x]))) p3 = some (.lst (xs ++ [x])) := upd_same
    generalize (upd H15 p3 (.lst (xs ++ [x]))) = H16 at kx S16 hp16 ⊢
    have pk3 : LstOk (KindOk K cs.length) 11 H16 (.ref p3) := ⟨p3, _, rfl, hp16, fun z hz => by
      rcases List.mem_append.mp hz with w | w
      · exact mo_K.go S16 (hxs z w)
      · rw [List.mem_singleton.mp w]; exact kx, by rw [List.length_append]; show xs.length + 1 = 11; omega⟩
    have C16 := (CC (some (.ref p3))).same (S14.trans S16)
    have y9 := y_catL mo_K (y_var (i := 10) (mo_L mo_K) rfl pk3) (y_lst mo_K (a_cons mo_K (row12 C16) (a_cons mo_K (row13 C16) (a_cons mo_K (row14 C16) (a_cons mo_K (row15 C16) (a_cons mo_K row16 a_nil))))) (by omega)) (by omega)
    refine st_asg (R := LstOk (KindOk K cs.length) 16) y9 fun H17 k4 s17 pk4 => ?_
    obtain ⟨p4, zs, rfl, hp4, hzs, lzs⟩ := pk4
    have S17 := S11.trans (S14.trans (S16.trans s17))
    obtain ⟨j, hj, hjl⟩ : ∃ j : Nat, d3 % ((zs.length : Nat) : Int) = j ∧ j < zs.length := by
      have x := Int.emod_nonneg d3 (show ((zs.length : Nat) : Int) ≠ 0 by omega)
      have y := Int.emod_lt_of_pos d3 (show (0 : Int) < ((zs.length : Nat) : Int) by omega)
      exact ⟨(d3 % (zs.length : Int)).toNat, by omega, by omega⟩
    have hz : zs[j]? = some zs[j] := List.getElem?_eq_getElem hjl
    refine ⟨_, rfl, _, rfl, d, _, 3, _, rfl, rfl, S17.seq hD, at_nat (k := 3) rfl, _, rfl, p4, _, rfl, .inl (SqL.of hp4), _, _, rfl, rfl, (by omega : (0 : Int) < ((zs.length : Nat) : Int)), p4, zs, _, zs[j], rfl, rfl, SqL.of hp4, (by rw [hj]; exact at_nat hz), ?_⟩
    exact q H17 _ S17 (hzs _ (List.getElem_mem hjl))
end
end Sm

set_option Elab.async false
set_option linter.all false
set_option maxRecDepth 100000
set_option maxHeartbeats 8000000
namespace Sm
open PySem PySem.Spec PyProof.Rows L2
/-! ### a decomposition has no fault -/
def tupB (cs : List (List Int)) : List BV := cs.map fun c => .tup (c.map some)
theorem tupB_ints (cs : List (List Int)) : (tupB cs).map BV.ints = cs := by
  unfold tupB
  rw [List.map_map]
  refine (List.map_congr_left fun c _ => ?_).trans (List.map_id cs)
  exact fm_some c
theorem good_form {n : Nat} {es : List Pr} {cs : List (List Int)} {ps : List Int} (G : Good n es cs ps) : formB n (.tup (tupB cs)) (.tup ps) = true := by
  have l : (tupB cs).length = cs.length := by unfold tupB; rw [List.length_map]
  have pos : 0 < ps.length := (List.getElem?_eq_some_iff.mp G.root).1
  refine form_yes (by rw [l, G.len]; omega) (by rw [l, G.len]) G.root fun i hi => ?_
  rw [l] at hi
  have e : (tupB cs)[i]? = some (.tup (cs[i].map some)) := by
    unfold tupB
    rw [List.getElem?_map, List.getElem?_eq_getElem hi]
    rfl
  have hp : ps[i]? = some (ps[i]'(by rw [← G.len]; exact hi)) := List.getElem?_eq_getElem (by rw [← G.len]; exact hi)
  obtain ⟨g1, g2⟩ := G.bag _ (List.getElem_mem hi)
  unfold okAt
  rw [e, hp]
  show (BV.ok n (.tup (cs[i].map some)) && (decide (i = 0) || decide (0 ≤ ps[i]'(by rw [← G.len]; exact hi) ∧ ps[i]'(by rw [← G.len]; exact hi) < (i : Int)))) = true
  rw [show BV.ok n (.tup (cs[i].map some)) = true from asc_of g1 g2]
  by_cases c : i = 0
  · rw [decide_eq_true c]; rfl
  · rw [decide_eq_true (G.par i _ (by omega) hp), Bool.or_true]; rfl
theorem good_fault {n : Nat} {es : List Pr} {cs : List (List Int)} {ps : List Int} (G : Good n es cs ps) : faultF n es (.tup (tupB cs)) (.tup ps) = .ok := by
  rw [faultF_yes (good_form G), tupB_ints]
  refine fl_ok (fun j hj => ?_) (fun q hq => ?_) fun j hj => ?_
  · exact decide_eq_false (G.vert j (by unfold Vx; omega))
  · obtain ⟨x, h1, h2⟩ := G.edge q hq
    unfold noCom
    rw [List.any_eq_true.mpr ⟨x, h1, decide_eq_true h2⟩]
    rfl
  · exact decide_eq_false fun z => z (G.one j (by unfold Vx; omega))
/-- what is no fault tells that the bags are right -/
theorem ok_form {n : Nat} {es : List Pr} {B : Bags} {Pa : Pars} (h : faultF n es B Pa = .ok) : formB n B Pa = true := by
  cases e : formB n B Pa with
  | true => rfl
  | false => rw [faultF_no e] at h; cases h
/-! ### stars and paths -/
def starC (m : Nat) : List (List Int) := (List.range (m - 1)).map fun (i : Nat) => [0, ((i + 1 : Nat) : Int)]
def starP (m : Nat) : List Int := -1 :: List.replicate (m - 2) 0
def starE (m : Nat) : List Pr := (List.range (m - 1)).map fun (i : Nat) => (0, ((i + 1 : Nat) : Int))
def pathC (m : Nat) : List (List Int) := (List.range (m - 1)).map fun (i : Nat) => [(i : Int), ((i + 1 : Nat) : Int)]
def pathP (m : Nat) : List Int := (List.range (m - 1)).map fun (i : Nat) => (i : Int) - 1
def pathE (m : Nat) : List Pr := (List.range (m - 1)).map fun (i : Nat) => ((i : Int), ((i + 1 : Nat) : Int))
def FR.isOk : FR → Bool
  | .ok => true
  | _ => false
theorem isOk_iff {r : FR} (h : r.isOk = true) : r = .ok := by
  cases r <;> first | rfl | cases h
theorem star_all : ((List.range 23).all fun i => (faultF (i + 8) (starE (i + 8)) (.tup (tupB (starC (i + 8)))) (.tup (starP (i + 8)))).isOk) = true := by decide +kernel
theorem path_all : ((List.range 23).all fun i => (faultF (i + 8) (pathE (i + 8)) (.tup (tupB (pathC (i + 8)))) (.tup (pathP (i + 8)))).isOk) = true := by decide +kernel
theorem star_ok {m : Nat} (h : 8 ≤ m) (h2 : m ≤ 30) : faultF m (starE m) (.tup (tupB (starC m))) (.tup (starP m)) = .ok := by
  have z := List.all_eq_true.mp star_all (m - 8) (List.mem_range.mpr (by omega))
  rw [show m - 8 + 8 = m by omega] at z
  exact isOk_iff z
theorem path_ok {m : Nat} (h : 8 ≤ m) (h2 : m ≤ 30) : faultF m (pathE m) (.tup (tupB (pathC m))) (.tup (pathP m)) = .ok := by
  have z := List.all_eq_true.mp path_all (m - 8) (List.mem_range.mpr (by omega))
  rw [show m - 8 + 8 = m by omega] at z
  exact isOk_iff z
end Sm

set_option Elab.async false
set_option linter.all false
set_option maxRecDepth 100000
set_option maxHeartbeats 3000000
namespace Sm
open PySem PySem.Spec PyProof.Rows L2
abbrev sLlg : Stmt := topS 30
/-- a list of pairs, made by a comprehension over a range -/
def spLlg (K : PySem.W.Frag) : Sp := fun vs H Q _ => ∃ N : Nat, vs = [.int N] ∧
  ∀ (H' : Hp) (r e tb tp : Addr) (m : Nat) (as ps : List Addr) (es : List Pr) (cs : List (List Int)) (pars : List Int), Same H H' → SqT K H' r [.int m, .ref e, .ref tb, .ref tp] → H' e = some (.lst (as.map V.ref)) → PairsAt K H' as es → SqT K H' tb (ps.map V.ref) → TupsAt K H' ps cs → SqT K H' tp (pars.map V.int) →
    8 ≤ m → m ≤ 30 → (es = starE m ∧ cs = starC m ∧ pars = starP m ∨ es = pathE m ∧ cs = pathC m ∧ pars = pathP m) → Q (.ref r) H'
theorem tups_pairs {K : PySem.W.Frag} {H : Hp} : ∀ {as : List Addr} {es : List Pr}, PairsAt K H as es → TupsAt K H as (es.map fun q => [q.1, q.2])
  | _, _, .nil => .nil
  | _, _, .cons h t => .cons h (tups_pairs t)
theorem starC_eq (m : Nat) : (starE m).map (fun q => [q.1, q.2]) = starC m := by
  unfold starE starC
  rw [List.map_map]
  rfl
theorem pathC_eq (m : Nat) : (pathE m).map (fun q => [q.1, q.2]) = pathC m := by
  unfold pathE pathC
  rw [List.map_map]
  rfl
theorem rep_zero : ∀ k : Nat, (List.replicate k [V.int 0]).flatten = (List.replicate k (0 : Int)).map V.int
  | 0 => rfl
  | k + 1 => by rw [List.replicate_succ, List.flatten_cons, rep_zero k, List.replicate_succ]; rfl
theorem rg_path {m : Nat} (h : 8 ≤ m) : rgV (-1) ((m : Int) - 2) = (pathP m).map V.int := by
  unfold rgV pathP
  rw [List.map_map, show ((m : Int) - 2 - -1).toNat = m - 1 by omega]
  refine List.map_congr_left fun i _ => ?_
  show V.int (-1 + (i : Int)) = V.int ((i : Int) - 1)
  rw [show (-1 : Int) + (i : Int) = (i : Int) - 1 by omega]
section
variable {P : Program} {w : World} {K : PySem.W.Frag} {mg : Str → Option Value} {base : Heap}
abbrev lgN : List Str := ["number", "size", "u"]
theorem scLlg : FnScope lgN ["number"] (defScope sLlg) := ⟨rfl, rfl, rfl, by decide +kernel, rfl, by decide +kernel, by decide +kernel⟩
theorem ok_llg {f : Addr} {fd : FuncData} (F : Fun K "_law_long" "_law_long" sLlg f fd) (mr : mg "range" = none) (mt : mg "tuple" = none) : FnOk P w K mg base CX0 1 f fd ["number"] (spLlg K) := by
  refine F.ok scLlg (fun vs H Q E h => ?_) (fun cdv A outer s H vs Q E hr h => ?_)
  · obtain ⟨N, rfl, _⟩ := h
    rfl
  · obtain ⟨N, rfl, q⟩ := h
    refine ⟨_, pss_cons (ps_set (i := 1) scLlg.nd rfl (.inl rfl) (pe_op op_add pe_int (pe_op op_mod (pv 0) pe_int)))
      (pss_cons (ps_if (pt_cmpR op_eq (pe_op op_mod (pe_op op_fdiv (pv 0) pe_int) pe_int) pe_int (nomark _))
        (pss_one (ps_ret (pe_tup (pa_cons (pv 1)
          (pa_cons (pe_lc (own := [("u", 2)]) (g := gName 2) (by rfl) scLlg.nd (pi_range2 (by rfl) mr (pa_cons pe_int (pa_cons (pv 1) pa_nil))) (blkOk_by (own := [("u", 2)]) (N := lgN) (sc := defScope sLlg) (by decide +kernel)) (fun _ _ _ _ _ => pg_name (i := 2) scLlg.nd rfl (Or.inl rfl)) (fun _ _ _ _ _ => pts_nil) (fun _ _ _ _ _ => pe_tup (pa_cons pe_int (pa_cons (pv 2) pa_nil))))
          (pa_cons (pe_callTy call_tuple_of (by rfl) mt (by decide +kernel) (pa_cons (pe_lc (own := [("u", 2)]) (g := gName 2) (by rfl) scLlg.nd (pi_range2 (by rfl) mr (pa_cons pe_int (pa_cons (pv 1) pa_nil))) (blkOk_by (own := [("u", 2)]) (N := lgN) (sc := defScope sLlg) (by decide +kernel)) (fun _ _ _ _ _ => pg_name (i := 2) scLlg.nd rfl (Or.inl rfl)) (fun _ _ _ _ _ => pts_nil) (fun _ _ _ _ _ => pe_tup (pa_cons pe_int (pa_cons (pv 2) pa_nil)))) pa_nil))
          (pa_cons (pe_op op_catA (pe_tup (pa_cons (pe_un un_neg pe_int) pa_nil)) (pe_op op_repT (pe_tup (pa_cons pe_int pa_nil)) (pe_op op_sub (pv 1) pe_int))) pa_nil))))))) pss_nil)
      (pss_one (ps_ret (pe_tup (pa_cons (pv 1)
          (pa_cons (pe_lc (own := [("u", 2)]) (g := gName 2) (by rfl) scLlg.nd (pi_range1 rfl mr (pa_cons (pe_op op_sub (pv 1) pe_int) pa_nil)) (blkOk_by (own := [("u", 2)]) (N := lgN) (sc := defScope sLlg) (by decide +kernel)) (fun _ _ _ _ _ => pg_name (i := 2) scLlg.nd rfl (Or.inl rfl)) (fun _ _ _ _ _ => pts_nil) (fun _ _ _ _ _ => pe_tup (pa_cons (pv 2) (pa_cons (pe_op op_add (pv 2) pe_int) pa_nil))))
          (pa_cons (pe_callTy call_tuple_of (by rfl) mt (by decide +kernel) (pa_cons (pe_lc (own := [("u", 2)]) (g := gName 2) (by rfl) scLlg.nd (pi_range1 rfl mr (pa_cons (pe_op op_sub (pv 1) pe_int) pa_nil)) (blkOk_by (own := [("u", 2)]) (N := lgN) (sc := defScope sLlg) (by decide +kernel)) (fun _ _ _ _ _ => pg_name (i := 2) scLlg.nd rfl (Or.inl rfl)) (fun _ _ _ _ _ => pts_nil) (fun _ _ _ _ _ => pe_tup (pa_cons (pv 2) (pa_cons (pe_op op_add (pv 2) pe_int) pa_nil)))) pa_nil))
          (pa_cons (pe_tupRg (by rfl) (by rfl) mt (prg_2 (by rfl) mr (pe_un un_neg pe_int) (pe_op op_sub (pv 1) pe_int))) pa_nil)))))))), ?_⟩
    obtain ⟨m, hm, hm8, hm30⟩ : ∃ m : Nat, (8 : Int) + (N : Int) % 23 = m ∧ 8 ≤ m ∧ m ≤ 30 := ⟨8 + N % 23, by omega, by omega, by omega⟩
    refine ⟨_, rfl, _, _, rfl, rfl, (by decide : (0 : Int) < 23), _, _, rfl, rfl, ?_⟩
    generalize hq0 : (fun i j : Int => V.int (i + j)) 8 ((N : Int) % 23) = w0
    have ew : w0 = V.int (m : Int) := by rw [← hq0]; exact congrArg V.int hm
    subst ew
    refine st_g ?_
    refine ⟨_, rfl, _, _, rfl, rfl, ?_, _, _, rfl, rfl, (by decide : (0 : Int) < 2), rfl, _, rfl, ?_⟩
    · exact ⟨by decide, by decide⟩
    refine ite2 (fun _ => ?_) (fun _ => ?_)
    · refine ⟨_, rfl, _, rfl, _, _, rfl, ⟨by omega, by omega, by omega, by omega⟩, fun D1 nD1 => ?_⟩
      rw [show ((m : Int) - 1).toNat = m - 1 by omega]
      refine lc_range (lo := 1) (n := m - 1) (fun i H7 => Same H H7 ∧ ∃ as : List Addr, H7 D1 = some (.lst (as.map V.ref)) ∧ PairsAt K H7 as ((starE m).take i) ∧ as.length = i) ⟨same_upd nD1, [], upd_same, .nil, rfl⟩ ?_ ?_
      · rintro i H7 hi ⟨s7, as, hD, pa, la⟩
        have ek : (starE m)[i]? = some ((0, ((i + 1 : Nat) : Int))) := by
          unfold starE
          rw [List.getElem?_map, List.getElem?_range hi]
          rfl
        rw [show (1 : Int) + (i : Int) = ((i + 1 : Nat) : Int) by omega]
        refine ⟨rfl, _, rfl, (by show 2 ≤ sizeLine; decide), fun t nt => ?_⟩
        have st := same_upd (o := .tup [V.int ((0, ((i + 1 : Nat) : Int)) : Pr).1, V.int ((0, ((i + 1 : Nat) : Int)) : Pr).2]) nt
        have ht : (upd H7 t (.tup [V.int ((0, ((i + 1 : Nat) : Int)) : Pr).1, V.int ((0, ((i + 1 : Nat) : Int)) : Pr).2])) t = some (.tup [V.int ((0, ((i + 1 : Nat) : Int)) : Pr).1, V.int ((0, ((i + 1 : Nat) : Int)) : Pr).2]) := upd_same
        have bt : But D1 (upd H7 t (.tup [V.int ((0, ((i + 1 : Nat) : Int)) : Pr).1, V.int ((0, ((i + 1 : Nat) : Int)) : Pr).2])) (upd (upd H7 t (.tup [V.int ((0, ((i + 1 : Nat) : Int)) : Pr).1, V.int ((0, ((i + 1 : Nat) : Int)) : Pr).2])) D1 (.lst (as.map V.ref ++ [.ref t]))) := (Same.but (Same.refl _)).put
        refine ⟨_, st _ _ hD, small1000 (by rw [List.length_map]; omega), same_put (s7.trans st) nD1, as ++ [t], by rw [upd_same, List.map_append]; rfl, ?_, by rw [List.length_append, la]; rfl⟩
        rw [L2.take_next ek]
        exact PairsAt.snoc (bt.sqTl (st _ _ hD) (SqT.of ht)) (bt.pairs (st _ _ hD) (pa.same st))
      rintro H1 ⟨s1, as1, hD1, pa1, la1⟩
      rw [List.take_of_length_le (by unfold starE; rw [List.length_map, List.length_range]; exact Nat.le_refl _)] at pa1
      refine ⟨_, rfl, _, _, rfl, ⟨by omega, by omega, by omega, by omega⟩, fun D2 nD2 => ?_⟩
      rw [show ((m : Int) - 1).toNat = m - 1 by omega]
      refine lc_range (lo := 1) (n := m - 1) (fun i H7 => Same H1 H7 ∧ ∃ as : List Addr, H7 D2 = some (.lst (as.map V.ref)) ∧ PairsAt K H7 as ((starE m).take i) ∧ as.length = i) ⟨same_upd nD2, [], upd_same, .nil, rfl⟩ ?_ ?_
      · rintro i H7 hi ⟨s7, as, hD, pa, la⟩
        have ek : (starE m)[i]? = some ((0, ((i + 1 : Nat) : Int))) := by
          unfold starE
          rw [List.getElem?_map, List.getElem?_range hi]
          rfl
        rw [show (1 : Int) + (i : Int) = ((i + 1 : Nat) : Int) by omega]
        refine ⟨rfl, _, rfl, (by show 2 ≤ sizeLine; decide), fun t nt => ?_⟩
        have st := same_upd (o := .tup [V.int ((0, ((i + 1 : Nat) : Int)) : Pr).1, V.int ((0, ((i + 1 : Nat) : Int)) : Pr).2]) nt
        have ht : (upd H7 t (.tup [V.int ((0, ((i + 1 : Nat) : Int)) : Pr).1, V.int ((0, ((i + 1 : Nat) : Int)) : Pr).2])) t = some (.tup [V.int ((0, ((i + 1 : Nat) : Int)) : Pr).1, V.int ((0, ((i + 1 : Nat) : Int)) : Pr).2]) := upd_same
        have bt : But D2 (upd H7 t (.tup [V.int ((0, ((i + 1 : Nat) : Int)) : Pr).1, V.int ((0, ((i + 1 : Nat) : Int)) : Pr).2])) (upd (upd H7 t (.tup [V.int ((0, ((i + 1 : Nat) : Int)) : Pr).1, V.int ((0, ((i + 1 : Nat) : Int)) : Pr).2])) D2 (.lst (as.map V.ref ++ [.ref t]))) := (Same.but (Same.refl _)).put
        refine ⟨_, st _ _ hD, small1000 (by rw [List.length_map]; omega), same_put (s7.trans st) nD2, as ++ [t], by rw [upd_same, List.map_append]; rfl, ?_, by rw [List.length_append, la]; rfl⟩
        rw [L2.take_next ek]
        exact PairsAt.snoc (bt.sqTl (st _ _ hD) (SqT.of ht)) (bt.pairs (st _ _ hD) (pa.same st))
      rintro H2 ⟨s2, as2, hD2, pa2, la2⟩
      rw [List.take_of_length_le (by unfold starE; rw [List.length_map, List.length_range]; exact Nat.le_refl _)] at pa2
      refine ⟨D2, _, rfl, .inl ⟨SqL.of hD2, fun T2 nT2 => ?_⟩⟩
      have sT := same_upd (o := .tup (as2.map V.ref)) nT2
      have hT2 : (upd H2 T2 (.tup (as2.map V.ref))) T2 = some (.tup (as2.map V.ref)) := upd_same
      generalize (upd H2 T2 (.tup (as2.map V.ref))) = H3 at sT hT2 ⊢
      refine ⟨1, rfl, (by show 1 ≤ sizeLine; decide), fun t3 nt3 => ?_⟩
      have s3 := same_upd (o := .tup [V.int (-1)]) nt3
      have ht3 : (upd H3 t3 (.tup [V.int (-1)])) t3 = some (.tup [V.int (-1)]) := upd_same
      refine ⟨(by show 1 ≤ sizeLine; decide), fun t4 nt4 => ?_⟩
      have s4 := same_upd (o := .tup [V.int 0]) nt4
      refine ⟨_, rfl, _, _, rfl, rfl, t4, (m : Int) - 2, [V.int 0], rfl, rfl, SqT.of upd_same, (fun z => by cases z), by omega, by omega, (by show 1 ≤ 1000; decide), fun t5 nt5 => ?_⟩
      rw [show ((m : Int) - 2).toNat = m - 2 by omega, rep_zero]
      have s5 := same_upd (o := .tup ((List.replicate (m - 2) (0 : Int)).map V.int)) nt5
      have ne : (List.replicate (m - 2) (0 : Int)).map V.int ≠ [] := fun z => by
        have := congrArg List.length z
        rw [List.length_map, List.length_replicate] at this
        simp at this
        omega
      refine ⟨t3, t5, [V.int (-1)], _, rfl, rfl, SqT.of (s5 _ _ (s4 _ _ ht3)), SqT.of upd_same, (by rw [List.length_map, List.length_replicate, sizeLine_eq]; show 1 + (m - 2) ≤ _; omega), (fun z => by cases z), (fun _ z => absurd z ne), fun _ _ t6 nt6 => ?_⟩
      refine ⟨(by show 4 ≤ sizeLine; decide), fun r nr => ?_⟩
      have s6 := same_upd (o := .tup ([V.int (-1)] ++ (List.replicate (m - 2) (0 : Int)).map V.int)) nt6
      have s7 := same_upd (o := .tup [V.int (m : Int), V.ref D1, V.ref T2, V.ref t6]) nr
      have s36 := sT.trans (s3.trans (s4.trans (s5.trans (s6.trans s7))))
      have c2 := tups_pairs (pa2.same s36)
      rw [starC_eq] at c2
      exact q _ r D1 T2 t6 m as1 as2 _ _ (starP m) (s1.trans (s2.trans s36)) (SqT.of upd_same) (s36 _ _ (s2 _ _ hD1)) (pa1.same (s2.trans s36)) (SqT.of ((s3.trans (s4.trans (s5.trans (s6.trans s7)))) _ _ hT2)) c2 (SqT.of (s7 _ _ upd_same)) hm8 hm30 (.inl ⟨rfl, rfl, rfl⟩)
    · refine ⟨_, rfl, _, rfl, _, _, rfl, rfl, (m : Int) - 1, rfl, by omega, by omega, fun D1 nD1 => ?_⟩
      rw [show ((m : Int) - 1).toNat = m - 1 by omega]
      refine lc_range (lo := 0) (n := m - 1) (fun i H7 => Same H H7 ∧ ∃ as : List Addr, H7 D1 = some (.lst (as.map V.ref)) ∧ PairsAt K H7 as ((pathE m).take i) ∧ as.length = i) ⟨same_upd nD1, [], upd_same, .nil, rfl⟩ ?_ ?_
      · rintro i H7 hi ⟨s7, as, hD, pa, la⟩
        have ek : (pathE m)[i]? = some (((i : Int), ((i + 1 : Nat) : Int))) := by
          unfold pathE
          rw [List.getElem?_map, List.getElem?_range hi]
          rfl
        rw [show (0 : Int) + (i : Int) = (i : Int) by omega]
        refine ⟨rfl, _, rfl, _, rfl, _, _, rfl, rfl, (by show 2 ≤ sizeLine; decide), fun t nt => ?_⟩
        have st := same_upd (o := .tup [V.int (((i : Int), ((i + 1 : Nat) : Int)) : Pr).1, V.int (((i : Int), ((i + 1 : Nat) : Int)) : Pr).2]) nt
        have ht : (upd H7 t (.tup [V.int (((i : Int), ((i + 1 : Nat) : Int)) : Pr).1, V.int (((i : Int), ((i + 1 : Nat) : Int)) : Pr).2])) t = some (.tup [V.int (((i : Int), ((i + 1 : Nat) : Int)) : Pr).1, V.int (((i : Int), ((i + 1 : Nat) : Int)) : Pr).2]) := upd_same
        have bt : But D1 (upd H7 t (.tup [V.int (((i : Int), ((i + 1 : Nat) : Int)) : Pr).1, V.int (((i : Int), ((i + 1 : Nat) : Int)) : Pr).2])) (upd (upd H7 t (.tup [V.int (((i : Int), ((i + 1 : Nat) : Int)) : Pr).1, V.int (((i : Int), ((i + 1 : Nat) : Int)) : Pr).2])) D1 (.lst (as.map V.ref ++ [.ref t]))) := (Same.but (Same.refl _)).put
        refine ⟨_, st _ _ hD, small1000 (by rw [List.length_map]; omega), same_put (s7.trans st) nD1, as ++ [t], by rw [upd_same, List.map_append]; rfl, ?_, by rw [List.length_append, la]; rfl⟩
        rw [L2.take_next ek]
        exact PairsAt.snoc (bt.sqTl (st _ _ hD) (SqT.of ht)) (bt.pairs (st _ _ hD) (pa.same st))
      rintro H1 ⟨s1, as1, hD1, pa1, la1⟩
      rw [List.take_of_length_le (by unfold pathE; rw [List.length_map, List.length_range]; exact Nat.le_refl _)] at pa1
      refine ⟨_, rfl, _, _, rfl, rfl, (m : Int) - 1, rfl, by omega, by omega, fun D2 nD2 => ?_⟩
      rw [show ((m : Int) - 1).toNat = m - 1 by omega]
      refine lc_range (lo := 0) (n := m - 1) (fun i H7 => Same H1 H7 ∧ ∃ as : List Addr, H7 D2 = some (.lst (as.map V.ref)) ∧ PairsAt K H7 as ((pathE m).take i) ∧ as.length = i) ⟨same_upd nD2, [], upd_same, .nil, rfl⟩ ?_ ?_
      · rintro i H7 hi ⟨s7, as, hD, pa, la⟩
        have ek : (pathE m)[i]? = some (((i : Int), ((i + 1 : Nat) : Int))) := by
          unfold pathE
          rw [List.getElem?_map, List.getElem?_range hi]
          rfl
        rw [show (0 : Int) + (i : Int) = (i : Int) by omega]
        refine ⟨rfl, _, rfl, _, rfl, _, _, rfl, rfl, (by show 2 ≤ sizeLine; decide), fun t nt => ?_⟩
        have st := same_upd (o := .tup [V.int (((i : Int), ((i + 1 : Nat) : Int)) : Pr).1, V.int (((i : Int), ((i + 1 : Nat) : Int)) : Pr).2]) nt
        have ht : (upd H7 t (.tup [V.int (((i : Int), ((i + 1 : Nat) : Int)) : Pr).1, V.int (((i : Int), ((i + 1 : Nat) : Int)) : Pr).2])) t = some (.tup [V.int (((i : Int), ((i + 1 : Nat) : Int)) : Pr).1, V.int (((i : Int), ((i + 1 : Nat) : Int)) : Pr).2]) := upd_same
        have bt : But D2 (upd H7 t (.tup [V.int (((i : Int), ((i + 1 : Nat) : Int)) : Pr).1, V.int (((i : Int), ((i + 1 : Nat) : Int)) : Pr).2])) (upd (upd H7 t (.tup [V.int (((i : Int), ((i + 1 : Nat) : Int)) : Pr).1, V.int (((i : Int), ((i + 1 : Nat) : Int)) : Pr).2])) D2 (.lst (as.map V.ref ++ [.ref t]))) := (Same.but (Same.refl _)).put
        refine ⟨_, st _ _ hD, small1000 (by rw [List.length_map]; omega), same_put (s7.trans st) nD2, as ++ [t], by rw [upd_same, List.map_append]; rfl, ?_, by rw [List.length_append, la]; rfl⟩
        rw [L2.take_next ek]
        exact PairsAt.snoc (bt.sqTl (st _ _ hD) (SqT.of ht)) (bt.pairs (st _ _ hD) (pa.same st))
      rintro H2 ⟨s2, as2, hD2, pa2, la2⟩
      rw [List.take_of_length_le (by unfold pathE; rw [List.length_map, List.length_range]; exact Nat.le_refl _)] at pa2
      refine ⟨D2, _, rfl, .inl ⟨SqL.of hD2, fun T2 nT2 => ?_⟩⟩
      have sT := same_upd (o := .tup (as2.map V.ref)) nT2
      have hT2 : (upd H2 T2 (.tup (as2.map V.ref))) T2 = some (.tup (as2.map V.ref)) := upd_same
      generalize (upd H2 T2 (.tup (as2.map V.ref))) = H3 at sT hT2 ⊢
      refine ⟨1, rfl, _, rfl, _, _, rfl, rfl, _, _, rfl, rfl, ⟨by omega, by omega, by omega, by omega, by omega⟩, fun t5 nt5 => ?_⟩
      rw [rg_path hm8]
      have s5 := same_upd (o := .tup ((pathP m).map V.int)) nt5
      have ht5 : (upd H3 t5 (.tup ((pathP m).map V.int))) t5 = some (.tup ((pathP m).map V.int)) := upd_same
      generalize (upd H3 t5 (.tup ((pathP m).map V.int))) = H5 at s5 ht5 ⊢
      refine ⟨(by show 4 ≤ sizeLine; decide), fun r nr => ?_⟩
      have s6 := same_upd (o := .tup [V.int (m : Int), V.ref D1, V.ref T2, V.ref t5]) nr
      have s36 := sT.trans (s5.trans s6)
      have c2 := tups_pairs (pa2.same s36)
      rw [pathC_eq] at c2
      exact q _ r D1 T2 t5 m as1 as2 _ _ _ (s1.trans (s2.trans s36)) (SqT.of upd_same) (s36 _ _ (s2 _ _ hD1)) (pa1.same (s2.trans s36)) (SqT.of (s6 _ _ (s5 _ _ hT2))) c2 (SqT.of (s6 _ _ ht5)) hm8 hm30 (.inr ⟨rfl, rfl, rfl⟩)
end
end Sm

set_option Elab.async false
set_option linter.all false
set_option maxRecDepth 100000
set_option maxHeartbeats 8000000
namespace Sm
open PySem PySem.Spec PyProof.Rows L2
theorem starE_ok {m : Nat} : ∀ q ∈ starE m, Okp m q := fun q hq => by
  unfold starE at hq
  obtain ⟨i, hi, rfl⟩ := List.mem_map.mp hq
  have := List.mem_range.mp hi
  exact ⟨by show (0 : Int) ≤ 0; omega, by show (0 : Int) < ((i + 1 : Nat) : Int); omega, by show ((i + 1 : Nat) : Int) < m; omega⟩
theorem pathE_ok {m : Nat} : ∀ q ∈ pathE m, Okp m q := fun q hq => by
  unfold pathE at hq
  obtain ⟨i, hi, rfl⟩ := List.mem_map.mp hq
  have := List.mem_range.mp hi
  exact ⟨by show (0 : Int) ≤ (i : Int); omega, by show (i : Int) < ((i + 1 : Nat) : Int); omega, by show ((i + 1 : Nat) : Int) < m; omega⟩
theorem starE_lt {m : Nat} : (starE m).Pairwise lexlt := by
  unfold starE
  refine List.pairwise_map.mpr (List.Pairwise.imp (R := (· < ·)) (fun {i j} h => ?_) List.pairwise_lt_range)
  exact SrtO.lexB_iff.mpr (.inr ⟨rfl, by show ((i + 1 : Nat) : Int) < ((j + 1 : Nat) : Int); omega⟩)
theorem pathE_lt {m : Nat} : (pathE m).Pairwise lexlt := by
  unfold pathE
  refine List.pairwise_map.mpr (List.Pairwise.imp (R := (· < ·)) (fun {i j} h => ?_) List.pairwise_lt_range)
  exact SrtO.lexB_iff.mpr (.inl (by show (i : Int) < (j : Int); omega))
theorem lex_nodup {es : List Pr} (h : es.Pairwise lexlt) : es.Nodup := List.Pairwise.imp (fun {p q} h e9 => by
  subst e9
  have z := h
  unfold lexlt at z
  unfold SrtO.lexB at z
  simp at z) h
theorem frD_shaped (r : FR) : SeqAt.shaped (frD r) = true := by
  cases r <;> simp [frD, SeqAt.shaped, PyData.canLay0, PyData.canLayAll0, PyData.depth, PyData.depthAll] <;> decide +kernel
theorem frD_eqv (r : FR) : PyData.eqv (frD r) (frD r) = true := SeqAt.eqv_refl _ (by cases r <;> simp [frD, PyData.canLay0, PyData.canLayAll0] <;> decide +kernel)
mutual
theorem dp_same {K : PySem.W.Frag} {H H' : Hp} (s : Same H H') : ∀ (d : PyData) (v : V), Dp K H v d → Dp K H' v d
  | .none, _, h => by cases h; exact .non
  | .bool _, _, h => by cases h; exact .bl _
  | .int _, _, h => by cases h; exact .int _
  | .str _, _, h => by cases h; exact .str _
  | .list ds, _, h => by cases h with | lst h t => exact .lst (s.seq h) (dpAll_same s ds _ t)
  | .tuple ds, _, h => by cases h with | tup h t => exact .tup (same_sqT s h) (dpAll_same s ds _ t)
  | .dict _, _, h => by cases h
theorem dpAll_same {K : PySem.W.Frag} {H H' : Hp} (s : Same H H') : ∀ (ds : List PyData) (vs : List V), DpAll K H vs ds → DpAll K H' vs ds
  | [], _, h => by cases h; exact .nil
  | d :: ds, _, h => by cases h with | cons h t => exact .cons (dp_same s d _ h) (dpAll_same s ds _ t)
end
/-- what the loop keeps -/
structure LK (K : PySem.W.Frag) (C : Addr) (a e g tb tp : Addr) (ns : List Int) (m : Nat) (as : List Addr) (qs : List Pr) (H : Hp) (ps : List Addr) (cs : List (List Int)) (pars : List Int) (L : Nat) : Prop where
  hS : SqL K H a (ns.map V.int)
  hm : m ≤ 30
  he : H e = some (.lst (as.map V.ref))
  pa : PairsAt K H as qs
  ok : ∀ q ∈ qs, Okp m q
  G : GraphAt K C H g m qs
  hb : SqT K H tb (ps.map V.ref)
  ht : TupsAt K H ps cs
  hp : SqT K H tp (pars.map V.int)
  fl : faultF m qs (.tup (tupB cs)) (.tup pars) = .ok
  len : cs.length ≤ L
theorem LK.same {K : PySem.W.Frag} {C : Addr} {a e g tb tp : Addr} {ns : List Int} {m : Nat} {as : List Addr} {qs : List Pr} {H H' : Hp} {ps : List Addr} {cs : List (List Int)} {pars : List Int} {L : Nat} (s : Same H H') (h : LK K C a e g tb tp ns m as qs H ps cs pars L) : LK K C a e g tb tp ns m as qs H' ps cs pars L :=
  ⟨s.seq h.hS, h.hm, s _ _ h.he, h.pa.same s, h.ok, h.G.same s, same_sqT s h.hb, h.ht.same s, same_sqT s h.hp, h.fl, h.len⟩
theorem pair_len {n : Nat} {c : List Int} (h1 : c.Pairwise (· < ·)) (h2 : ∀ k ∈ c, Vx n k) : c.length ≤ n := few_vx (List.Pairwise.imp (fun {a b} h e => by omega) h1) h2
theorem LK.form {K : PySem.W.Frag} {C : Addr} {a e g tb tp : Addr} {ns : List Int} {m : Nat} {as : List Addr} {qs : List Pr} {H : Hp} {ps : List Addr} {cs : List (List Int)} {pars : List Int} {L : Nat} (h : LK K C a e g tb tp ns m as qs H ps cs pars L) : FormOk m (tupB cs) pars cs := by
  have z := form_ok (ok_form h.fl)
  rw [tupB_ints] at z
  exact z
theorem tupB_len (cs : List (List Int)) : (tupB cs).length = cs.length := by unfold tupB; rw [List.length_map]
theorem LK.blen {K : PySem.W.Frag} {C : Addr} {a e g tb tp : Addr} {ns : List Int} {m : Nat} {as : List Addr} {qs : List Pr} {H : Hp} {ps : List Addr} {cs : List (List Int)} {pars : List Int} {L : Nat} (h : LK K C a e g tb tp ns m as qs H ps cs pars L) : ∀ c ∈ cs, c.length ≤ 30 := fun c hc => by
  have z := h.form.bag c hc
  exact Nat.le_trans (pair_len z.1 z.2) h.hm
theorem LK.bl {K : PySem.W.Frag} {C : Addr} {a e g tb tp : Addr} {ns : List Int} {m : Nat} {as : List Addr} {qs : List Pr} {H : Hp} {ps : List Addr} {cs : List (List Int)} {pars : List Int} {L : Nat} (h : LK K C a e g tb tp ns m as qs H ps cs pars L) (hL : L ≤ 60) : ∀ bs, Bags.tup (tupB cs) = .tup bs → bs.length ≤ 60 ∧ ∀ b ∈ bs, b.len ≤ 100 := fun bs z => by
  cases z
  refine ⟨by rw [tupB_len]; have := h.len; omega, fun b hb => ?_⟩
  unfold tupB at hb
  obtain ⟨c, hc, rfl⟩ := List.mem_map.mp hb
  have := h.blen c hc
  show (c.map some).length ≤ 100
  rw [List.length_map]
  omega
theorem LK.bv {K : PySem.W.Frag} {C : Addr} {a e g tb tp : Addr} {ns : List Int} {m : Nat} {as : List Addr} {qs : List Pr} {H : Hp} {ps : List Addr} {cs : List (List Int)} {pars : List Int} {L : Nat} (h : LK K C a e g tb tp ns m as qs H ps cs pars L) : BagsV K H (.ref tb) (.tup (tupB cs)) := .tup h.hb (bags_of_tups h.ht)
theorem LK.pv {K : PySem.W.Frag} {C : Addr} {a e g tb tp : Addr} {ns : List Int} {m : Nat} {as : List Addr} {qs : List Pr} {H : Hp} {ps : List Addr} {cs : List (List Int)} {pars : List Int} {L : Nat} (h : LK K C a e g tb tp ns m as qs H ps cs pars L) : ParsV K H (.ref tp) (.tup pars) := .tup h.hp
theorem dp_none {K : PySem.W.Frag} {H : Hp} {v : V} {r : FR} (h : Dp K H v (frD r)) : decide (v = .non) = r.isOk := by
  cases r <;> cases h <;> rfl
theorem bags_len7 {n : Nat} {es : List Pr} {os : List Int} (pm : os.Perm (vxs n)) (hn : n ≤ 7) : (bagsO es os).length ≤ 30 := by
  obtain ⟨_, _, lo⟩ := vx_perm pm
  unfold bagsO
  by_cases c : os = []
  · rw [if_pos c]; show 1 ≤ 30; omega
  · rw [if_neg c]
    unfold bagsL
    simp
    omega
end Sm

set_option Elab.async false
set_option linter.all false
set_option maxRecDepth 100000
set_option maxHeartbeats 8000000
namespace Sm
open PySem PySem.Spec PyProof.Rows L2
theorem cut_ex (ns : List Int) (lo hi : Nat) : ∃ cs : List Int, cutV (ns.map V.int) (some (lo : Int)) (some (hi : Int)) = cs.map V.int ∧ cs.length ≤ hi - lo := by
  refine ⟨(ns.drop (min lo ns.length)).take (min hi ns.length - min lo ns.length), ?_, ?_⟩
  · unfold cutV
    rw [HT.sIx_nat, HT.sIx_nat, List.length_map, List.map_take, List.map_drop]
  · rw [List.length_take, List.length_drop]
    omega
abbrev sLaw : Stmt := topS 31
abbrev lawN : List Str := ["script", "size", "edges", "graph", "bags", "parents", "number", "cell", "other", "above", "told", "bag"]
def spLaw (K : PySem.W.Frag) : Sp := fun vs H Q _ => ∃ (a : Addr) (ns : List Int), vs = [.ref a] ∧ SqL K H a (ns.map V.int) ∧ ns.length ≤ 63 ∧ ∀ H', Q (.bl true) H'
section
variable {P : Program} {w : World} {K : PySem.W.Frag} {mg : Str → Option Value} {base : Heap}
theorem scLaw : FnScope lawN ["script"] (defScope sLaw) := ⟨rfl, rfl, rfl, by decide +kernel, rfl, by decide +kernel, by decide +kernel⟩
theorem ok_law {f C CB fI fE fC fO fG fL fF fX fH fD fW fS : Addr} {fd fdI fdE fdC fdO fdG fdL fdF fdX fdH fdD fdW fdS : FuncData} (F : Fun K "law" "law" sLaw f fd) (T : TxG K mg C)
    (GI : FnOk P w K mg base (L2.CX P w) 4 fI fdI ["self", "size", "edges"] (spInit K C CB)) (M : Mk K C fI) (bI : Binds K fdI ["self", "size", "edges"] [])
    (GE : FnOk P w K mg base CX0 3 fE fdE ["cell", "most"] (spEds K)) (kE : PySem.W.keepIn K (.ref fE) = true) (bE : Binds K fdE ["cell", "most"] []) (gE : mg "_law_edges" = some (.ref fE))
    (GC : FnOk P w K mg base CX0 1 fC fdC ["script", "k"] (spCel K)) (kC : PySem.W.keepIn K (.ref fC) = true) (bC : Binds K fdC ["script", "k"] []) (gC : mg "_law_cell" = some (.ref fC))
    (GO : FnOk P w K mg base CX0 3 fO fdO ["cell", "size"] (spOrd K)) (kO : PySem.W.keepIn K (.ref fO) = true) (bO : Binds K fdO ["cell", "size"] []) (gO : mg "_law_order" = some (.ref fO))
    (GG : FnOk P w K mg base CX0 1 fG fdG ["size", "edges", "order"] (spBo K)) (kG : PySem.W.keepIn K (.ref fG) = true) (bG : Binds K fdG ["size", "edges", "order"] []) (gG : mg "_law_by_order" = some (.ref fG))
    (GL : FnOk P w K mg base CX0 1 fL fdL ["number"] (spLlg K)) (kL : PySem.W.keepIn K (.ref fL) = true) (bL : Binds K fdL ["number"] []) (gL : mg "_law_long" = some (.ref fL))
    (GF : FnOk P w K mg base CX0 5 fF fdF ["graph", "bags", "parents"] (spFt K C)) (kF : PySem.W.keepIn K (.ref fF) = true) (bF : Binds K fdF ["graph", "bags", "parents"] []) (gF : mg "fault" = some (.ref fF))
    (GX : FnOk P w K mg base CX0 3 fX fdX ["size", "edges", "bags", "parents"] (spLft K)) (kX : PySem.W.keepIn K (.ref fX) = true) (bX : Binds K fdX ["size", "edges", "bags", "parents"] []) (gX : mg "_law_fault" = some (.ref fX))
    (GH : FnOk P w K mg base CX0 1 fH fdH ["bags", "parents", "digits", "size"] (spLch K)) (kH : PySem.W.keepIn K (.ref fH) = true) (bH : Binds K fdH ["bags", "parents", "digits", "size"] []) (gH : mg "_law_changed" = some (.ref fH))
    (GD : FnOk P w K mg base CX0 2 fD fdD ["cell", "count", "many"] (spDig K)) (kD : PySem.W.keepIn K (.ref fD) = true) (bD : Binds K fdD ["cell", "count", "many"] []) (gD : mg "_law_digits" = some (.ref fD))
    (GW : FnOk P w K mg base CX0 1 fW fdW ["bags"] (spWof K)) (kW : PySem.W.keepIn K (.ref fW) = true) (bW : Binds K fdW ["bags"] []) (gW : mg "width_of" = some (.ref fW))
    (GS : FnOk P w K mg base CX0 1 fS fdS ["actual"] (spIsG)) (kS : PySem.W.keepIn K (.ref fS) = true) (bS : Binds K fdS ["actual"] []) (gS : mg "_law_is_integer" = some (.ref fS))
    (mi : mg "int" = none) (mab : mg "abs" = none) (ml : mg "len" = none) (mx : mg "max" = none) :
    FnOk P w K mg base CX0 6 f fd ["script"] (spLaw K) := by
  refine F.ok scLaw (fun vs H Q E h => ?_) (fun cdv A outer s H vs Q E hr h => ?_)
  · obtain ⟨a, ns, rfl, _⟩ := h
    rfl
  · obtain ⟨a, ns, rfl, hS, hlen, q⟩ := h
    have hr1 : Room 1 _ := hr.mono (by decide)
    have hr2 : Room 2 _ := hr.mono (by decide)
    have hr3 : Room 3 _ := hr.mono (by decide)
    have hr5 : Room 5 _ := hr.mono (by decide)
    have hu : _ + 64 < cLine := hr.units
    refine ⟨_, pss_cons (ps_asg (pe_call GE hr3 (by rfl) gE kE bE .nil pass0 (pa_cons (pe_call GC hr1 (by rfl) gC kC bC .nil pass0 (pa_cons (pv 0) (pa_cons pe_int pa_nil))) (pa_cons pe_int pa_nil))) (pg_tup (by rfl) (pgs_cons (pg_name (i := 1) scLaw.nd rfl (.inl rfl)) (pgs_cons (pg_name (i := 2) scLaw.nd rfl (.inl rfl)) pgs_nil))))
      (pss_cons (ps_set (i := 3) scLaw.nd rfl (.inl rfl) (pe_make M GI hr5 (by rfl) T.g bI .nil passL (pa_cons (pv 1) (pa_cons (pv 2) pa_nil))))
      (pss_cons (ps_asg (pe_call GG hr1 (by rfl) gG kG bG .nil pass0 (pa_cons (pv 1) (pa_cons (pv 2) (pa_cons (pe_call GO hr3 (by rfl) gO kO bO .nil pass0 (pa_cons (pe_call GC hr1 (by rfl) gC kC bC .nil pass0 (pa_cons (pv 0) (pa_cons pe_int pa_nil))) (pa_cons (pv 1) pa_nil))) pa_nil)))) (pg_tup (by rfl) (pgs_cons (pg_name (i := 4) scLaw.nd rfl (.inl rfl)) (pgs_cons (pg_name (i := 5) scLaw.nd rfl (.inl rfl)) pgs_nil))))
      (pss_cons (ps_set (i := 6) scLaw.nd rfl (.inl rfl) (pe_callB call_abs (by rfl) mab (by decide +kernel) (pa_cons (pe_callTy call_int1 (by rfl) mi (by decide +kernel) (pa_cons (pe_call GC hr1 (by rfl) gC kC bC .nil pass0 (pa_cons (pv 0) (pa_cons pe_int pa_nil))) pa_nil)) pa_nil)))
      (C8.pss_cut (ps_if (pt_cmpR op_eq (pe_op op_mod (pv 6) pe_int) pe_int (nomark _)) (pss_cons (ps_asg (pe_call GL hr1 (by rfl) gL kL bL .nil pass0 (pa_cons (pe_op op_mod (pe_op op_fdiv (pv 6) pe_int) pe_int) pa_nil)) (pg_tup (by rfl) (pgs_cons (pg_name (i := 1) scLaw.nd rfl (.inl rfl)) (pgs_cons (pg_name (i := 2) scLaw.nd rfl (.inl rfl)) (pgs_cons (pg_name (i := 4) scLaw.nd rfl (.inl rfl)) (pgs_cons (pg_name (i := 5) scLaw.nd rfl (.inl rfl)) pgs_nil))))))
      (pss_one (ps_set (i := 3) scLaw.nd rfl (.inl rfl) (pe_make M GI hr5 (by rfl) T.g bI .nil passL (pa_cons (pv 1) (pa_cons (pv 2) pa_nil)))))) pss_nil)
      (pss_cons (ps_if (PW.pt (pw_or (pt_cmp (pc_notN (pe_call GF hr5 (by rfl) gF kF bF .nil pass0 (pa_cons (pv 3) (pa_cons (pv 4) (pa_cons (pv 5) pa_nil)))))) (pw_or1 (pt_cmp (pc_notN (pe_call GX hr3 (by rfl) gX kX bX .nil pass0 (pa_cons (pv 1) (pa_cons (pv 2) (pa_cons (pv 4) (pa_cons (pv 5) pa_nil)))))))))) (pss_one (ps_ret pe_bl)) pss_nil)
      (pss_cons (ps_for PassesOwn.never rfl (pi_list (pe_slice sl_list (pv 0) (po_some pe_int) (po_some pe_int))) (pg_name (i := 7) scLaw.nd rfl (.inl rfl)) (pss_cons (ps_asg (pe_call GH hr1 (by rfl) gH kH bH .nil pass0 (pa_cons (pv 4) (pa_cons (pv 5) (pa_cons (pe_call GD hr2 (by rfl) gD kD bD .nil pass0 (pa_cons (pv 7) (pa_cons pe_int (pa_cons pe_int pa_nil)))) (pa_cons (pv 1) pa_nil))))) (pg_tup (by rfl) (pgs_cons (pg_name (i := 8) scLaw.nd rfl (.inl rfl)) (pgs_cons (pg_name (i := 9) scLaw.nd rfl (.inl rfl)) pgs_nil))))
      (pss_cons (ps_if (pt_cmpR (op_neD hu) (pe_call GF hr5 (by rfl) gF kF bF .nil pass0 (pa_cons (pv 3) (pa_cons (pv 8) (pa_cons (pv 9) pa_nil)))) (pe_call GX hr3 (by rfl) gX kX bX .nil pass0 (pa_cons (pv 1) (pa_cons (pv 2) (pa_cons (pv 8) (pa_cons (pv 9) pa_nil))))) (nomark _)) (pss_one (ps_ret pe_bl)) pss_nil)
      (pss_one (ps_if (pt_cmp (pc_isN (pe_call GX hr3 (by rfl) gX kX bX .nil pass0 (pa_cons (pv 1) (pa_cons (pv 2) (pa_cons (pv 8) (pa_cons (pv 9) pa_nil))))))) (pss_one (ps_par (i := 4) (j := 5) (by rfl) scLaw.nd rfl rfl (by decide) rfl rfl (pa_cons (pv 8) (pa_cons (pv 9) pa_nil)) (by rfl))) pss_nil)))))
      (pss_cons (ps_set (i := 10) scLaw.nd rfl (.inl rfl) (pe_call GW hr1 (by rfl) gW kW bW .nil pass0 (pa_cons (pv 4) pa_nil)))
      (pss_one (ps_ret (pe_and (pe_call GS hr1 (by rfl) gS kS bS .nil pass0 (pa_cons (pv 10) pa_nil)) (pe_and (pe_cmpR op_eq (pv 10) (pe_op op_sub (pe_callB (cr_max rfl) (by rfl) mx (by decide +kernel) (pa_cons (pe_lc (own := [("bag", 11)]) (g := gName 11) (by rfl) scLaw.nd (pi_tup (pv 4)) (blkOk_by (own := [("bag", 11)]) (N := lawN) (sc := defScope sLaw) (by decide +kernel)) (fun _ _ _ _ _ => pg_name (i := 11) scLaw.nd rfl (Or.inl rfl)) (fun _ _ _ _ _ => pts_nil) (fun _ _ _ _ _ => pe_callB (len_at (K := K) rfl) (by rfl) ml PySem.boot_len (pa_cons (pv 11) pa_nil))) pa_nil)) pe_int) (nomark _)) (pe_one (pe_cmp (pc_isN (pe_call GF hr5 (by rfl) gF kF bF .nil pass0 (pa_cons (pv 3) (pa_cons (pv 4) (pa_cons (pv 5) pa_nil)))))))))))))))))), ?_⟩
    refine ⟨_, rfl, a, ns, 0, rfl, hS, fun c0 => ⟨c0, 7, rfl, by decide, fun H1 r e n as es s1 hr1' he1 pa1 hn sub => ?_⟩⟩
    have okp : ∀ q ∈ es, Okp n q := fun q hq => mem_pairs (sub.subset hq)
    have lts : es.Pairwise lexlt := (pairsL_lt n).sublist sub
    have nds : es.Nodup := List.Pairwise.imp (fun {p q} h e9 => by
      subst e9
      have z := h
      unfold lexlt at z
      unfold SrtO.lexB at z
      simp at z) lts
    have few : es.length ≤ 36 := Nat.le_trans sub.length_le (pairs_few (by omega))
    refine ⟨r, _, rfl, SqT.of hr1', rfl, _, _, rfl, _, _, rfl, rfl, ?_⟩
    refine ⟨_, rfl, _, rfl, fun g dg ng ndg nedg => ?_⟩
    have sg : Same H1 (upd (upd H1 dg (.own g)) g (.ins C dg [])) := same_put (same_upd ndg) ng
    refine ⟨g, dg, (n : Int), e, _, evs es, rfl, upd_same, SqL.of (sg _ _ he1), ev_pairs (pa1.same sg), by rw [evs, List.length_map]; omega, fun hbad => ?_, fun ps hps H2 qs bt pm ga _ => ⟨rfl, ?_⟩⟩
    · rw [mk_evs (by omega) okp nds] at hbad
      cases hbad
    rw [mk_evs (by omega) okp nds] at hps
    cases hps
    have qe : qs = es := lex_eq ga.srt lts pm
    subst qe
    have s12 : Same H1 H2 := fun b o h => bt b o (sg b o h) (ne_of_none h ng)
    have ga : GraphAt K C H2 g n qs := ga
    have S2 := s1.trans s12
    refine ⟨_, rfl, _, rfl, _, rfl, a, ns, 1, rfl, S2.seq hS, fun c1 => ⟨_, rfl, c1, n, rfl, by omega, fun H3 po os s3 npo hpo pmo => ?_⟩⟩
    refine ⟨n, e, po, as, qs, os, rfl, by omega, SqL.of (s3 _ _ (s12 _ _ he1)), (pa1.same s12).same s3, okp, SqL.of hpo, pmo, fun H4 r4 tb tp ps s4 hr4 htb hpt htp => ?_⟩
    refine ⟨r4, _, rfl, SqT.of hr4, rfl, _, _, rfl, _, _, rfl, rfl, ?_⟩
    have S4 := S2.trans (s3.trans s4)
    refine ⟨_, rfl, a, ns, 1, rfl, S4.seq hS, fun c2 => .inl ⟨_, rfl, _, rfl, ?_⟩⟩
    refine ⟨fun σ H' => ∃ (m : Nat) (e g tb tp : Addr) (as ps : List Addr) (qs : List Pr) (cs : List (List Int)) (pars : List Int) (x : Int), σ = [some (.ref a), some (.int m), some (.ref e), some (.ref g), some (.ref tb), some (.ref tp), some (.int x), none, none, none, none, none] ∧ LK K C a e g tb tp ns m as qs H' ps cs pars 30, ?_, ?_⟩
    · have L0 : LK K C a e g tb tp ns n as qs H4 ps (bagsO qs os) (parsO qs os) 30 := ⟨S4.seq hS, by omega, s4 _ _ (s3 _ _ (s12 _ _ he1)), ((pa1.same s12).same s3).same s4, okp, (ga.same s3).same s4, htb, hpt, htp, good_fault (good_o okp pmo), bags_len7 pmo hn⟩
      refine ⟨_, rfl, _, _, rfl, rfl, (by decide : (0 : Int) < 10), rfl, _, rfl, ?_⟩
      refine ite2 (fun _ => ?_) (fun _ => ⟨n, e, g, _, _, as, ps, qs, _, _, _, rfl, L0⟩)
      obtain ⟨N, hN⟩ : ∃ N : Nat, (if c2 < 0 then -c2 else c2) / 10 % 9000 = N := ⟨((if c2 < 0 then -c2 else c2) / 10 % 9000).toNat, by have := Int.emod_nonneg ((if c2 < 0 then -c2 else c2) / 10) (show (9000 : Int) ≠ 0 by decide); omega⟩
      refine ⟨_, rfl, _, _, rfl, rfl, (⟨by decide, by decide⟩ : CDiv _ 10), _, _, rfl, rfl, (by decide : (0 : Int) < 9000), N, by show [V.int ((if c2 < 0 then -c2 else c2) / 10 % 9000)] = _; rw [hN], fun H6 r6 e6 tb6 tp6 m as6 ps6 es6 cs6 pars6 s6 hr6 he6 pa6 hb6 ht6 hp6 m8 m30 hcase => ?_⟩
      refine ⟨r6, _, rfl, hr6, rfl, _, _, rfl, _, _, rfl, _, _, rfl, _, _, rfl, rfl, ?_⟩
      have ok6 : ∀ q ∈ es6, Okp m q := by rcases hcase with ⟨rfl, _, _⟩ | ⟨rfl, _, _⟩ <;> first | exact starE_ok | exact pathE_ok
      have lt6 : es6.Pairwise lexlt := by rcases hcase with ⟨rfl, _, _⟩ | ⟨rfl, _, _⟩ <;> first | exact starE_lt | exact pathE_lt
      have nd6 := lex_nodup lt6
      have few6 : es6.length ≤ 36 := by
        rcases hcase with ⟨rfl, _, _⟩ | ⟨rfl, _, _⟩
        · unfold starE; rw [List.length_map, List.length_range]; omega
        · unfold pathE; rw [List.length_map, List.length_range]; omega
      have len6 : cs6.length ≤ 30 := by
        rcases hcase with ⟨_, rfl, _⟩ | ⟨_, rfl, _⟩
        · unfold starC; rw [List.length_map, List.length_range]; omega
        · unfold pathC; rw [List.length_map, List.length_range]; omega
      have fl6 : faultF m es6 (.tup (tupB cs6)) (.tup pars6) = .ok := by
        rcases hcase with ⟨rfl, rfl, rfl⟩ | ⟨rfl, rfl, rfl⟩
        · exact star_ok m8 m30
        · exact path_ok m8 m30
      refine ⟨_, rfl, _, rfl, fun g7 dg7 ng7 ndg7 nedg7 => ?_⟩
      have sg7 : Same H6 (upd (upd H6 dg7 (.own g7)) g7 (.ins C dg7 [])) := same_put (same_upd ndg7) ng7
      refine ⟨g7, dg7, (m : Int), e6, _, evs es6, rfl, upd_same, SqL.of (sg7 _ _ he6), ev_pairs (pa6.same sg7), by rw [evs, List.length_map]; omega, fun hbad => ?_, fun ps7 hps7 H7 qs7 bt7 pm7 ga7 _ => ⟨rfl, ?_⟩⟩
      · rw [mk_evs (by omega) ok6 nd6] at hbad
        cases hbad
      rw [mk_evs (by omega) ok6 nd6] at hps7
      cases hps7
      have qe7 : qs7 = es6 := lex_eq ga7.srt lt6 pm7
      subst qe7
      have s67 : Same H6 H7 := fun b o h => bt7 b o (sg7 b o h) (ne_of_none h ng7)
      exact ⟨m, e6, g7, tb6, tp6, as6, ps6, qs7, cs6, pars6, _, rfl, (S4.trans (s6.trans s67)).seq hS, m30, s67 _ _ he6, pa6.same s67, ok6, ga7, same_sqT s67 hb6, ht6.same s67, same_sqT s67 hp6, fl6, len6⟩
    · rintro σ H5 ⟨m, e, g, tb, tp, as, ps, qs, cs, pars, x, rfl, LK5⟩
      refine ⟨_, rfl, _, rfl, _, rfl, g, .ref tb, .ref tp, m, qs, .tup (tupB cs), .tup pars, rfl, LK5.G, LK5.bv, LK5.pv, fun bs z => ((LK5.bl (by decide)) bs z).1, fun H6 v6 s6 hv6 => ?_⟩
      rw [LK5.fl] at hv6
      cases hv6
      refine ⟨_, rfl, iteF ?_⟩
      have L6 := LK5.same s6
      refine ⟨_, rfl, _, rfl, _, rfl, _, rfl, e, as, qs, .ref tb, .ref tp, m, _, _, rfl, by have := L6.hm; omega, SqL.of L6.he, L6.pa, L6.ok, L6.bv, L6.pv, L6.bl (by decide), fun H7 v7 s7 hv7 => ?_⟩
      rw [L6.fl] at hv7
      cases hv7
      refine ⟨_, rfl, iteF ?_⟩
      have L7 := L6.same s7
      obtain ⟨cells, hcells, few⟩ : ∃ cs : List Int, cutV (ns.map V.int) (some 2) (some 10) = cs.map V.int ∧ cs.length ≤ 8 := cut_ex ns 2 10
      refine ⟨_, rfl, _, rfl, _, rfl, a, _, rfl, L7.hS, fun l nl => ⟨l, rfl, ⟨_, SqL.of upd_same⟩, ?_⟩⟩
      rw [hcells]
      have L8 := L7.same (same_upd (o := .lst (cells.map V.int)) nl)
      have hl8 : (upd H7 l (.lst (cells.map V.int))) l = some (.lst (cells.map V.int)) := upd_same
      generalize (upd H7 l (.lst (cells.map V.int))) = H8 at L8 hl8 ⊢
      refine for_list (K := K) (a := l) (xs := cells.map V.int) (fun t σ H' => ∃ (tb tp : Addr) (ps : List Addr) (cs : List (List Int)) (pars : List Int) (y7 y8 y9 : Option V), σ = [some (.ref a), some (.int m), some (.ref e), some (.ref g), some (.ref tb), some (.ref tp), some (.int x), y7, y8, y9, none, none] ∧ LK K C a e g tb tp ns m as qs H' ps cs pars (30 + t) ∧ H' l = some (.lst (cells.map V.int)))
        ⟨tb, tp, ps, cs, pars, none, none, none, rfl, L8, hl8⟩ (fun t σ H' _ h => ?_) ?_ ?_
      · obtain ⟨_, _, _, _, _, _, _, _, _, _, h⟩ := h
        exact SqL.of h
      · rintro t v σ H9 hv ⟨tb, tp, ps, cs, pars, y7, y8, y9, rfl, L9, hl9⟩
        rw [List.getElem?_map] at hv
        cases ek : cells[t]? with
        | none => rw [ek] at hv; cases hv
        | some c =>
          rw [ek] at hv
          cases hv
          have tl : t < cells.length := (List.getElem?_eq_some_iff.mp ek).1
          have F9 := L9.form
          have len9 := L9.len
          refine ⟨_, rfl, _, rfl, _, rfl, c, 4, 720, rfl, by decide, by decide, by decide, fun H10 d10 ds10 s10 nd10 hd10 ld10 rd10 => ?_⟩
          have L10 := L9.same s10
          refine ⟨_, rfl, tb, tp, d10, m, ps, cs, pars, ds10, rfl, L10.hb, L10.ht, L10.hp, F9.len, F9.pos, by omega, fun c hc => by have := L9.blen c hc; omega, SqL.of hd10, ld10, rd10, fun H11 r11 s11 hk => ?_⟩
          obtain ⟨a11, vb, vp, rfl, hr11, ⟨B, hB, lB⟩, ⟨Pa, hP⟩⟩ := hk
          have L11 := L10.same s11
          have hl11 := s11 _ _ (s10 _ _ hl9)
          refine ⟨a11, _, rfl, hr11, rfl, _, _, rfl, _, _, rfl, rfl, ?_⟩
          refine ⟨_, rfl, _, rfl, _, rfl, g, vb, vp, m, qs, B, Pa, rfl, L11.G, hB, hP, fun bs z => by have := (lB bs z).1; omega, fun H12 v12 s12 hv12 => ?_⟩
          have L12 := L11.same s12
          have hB12 := hB.same s12
          have hP12 := hP.same s12
          have fB : ∀ bs, B = .tup bs → bs.length ≤ 60 ∧ ∀ b ∈ bs, b.len ≤ 100 := fun bs z => ⟨by have := (lB bs z).1; omega, fun b hb => by have := (lB bs z).2 b hb; omega⟩
          refine ⟨_, rfl, _, rfl, _, rfl, _, rfl, e, as, qs, vb, vp, m, B, Pa, rfl, by have := L12.hm; omega, SqL.of L12.he, L12.pa, L12.ok, hB12, hP12, fB, fun H13 v13 s13 hv13 => ?_⟩
          refine ⟨_, _, dp_same s13 _ _ hv12, hv13, frD_shaped _, frD_shaped _, _, rfl, ?_⟩
          rw [frD_eqv]
          refine iteF ?_
          have L13 := L12.same s13
          have hB13 := hB12.same s13
          have hP13 := hP12.same s13
          refine ⟨_, rfl, _, rfl, _, rfl, _, rfl, e, as, qs, vb, vp, m, B, Pa, rfl, by have := L13.hm; omega, SqL.of L13.he, L13.pa, L13.ok, hB13, hP13, fB, fun H14 v14 s14 hv14 => ?_⟩
          have L14 := L13.same s14
          have hl14 := s14 _ _ (s13 _ _ (s12 _ _ hl11))
          refine ⟨_, rfl, ?_⟩
          rw [dp_none hv14]
          refine ite2 (fun hk => ?_) (fun hk => ?_)
          · have hk := isOk_iff hk
            have hB14 := hB13.same s14
            have hP14 := hP13.same s14
            have ff := ok_form hk
            cases hB14 with
            | non => cases ff
            | lst _ _ => cases ff
            | @tup tb' vs bs hb' hbs =>
              cases hP14 with
              | lst _ => cases ff
              | @tup tp' pars' hp' =>
                have F14 := form_ok ff
                rw [F14.tups] at hbs
                obtain ⟨ps', rfl, ht'⟩ := tups_of hbs
                refine ⟨_, rfl, _, rfl, _, _, rfl, ?_⟩
                have lb := (lB bs rfl).1
                refine ⟨tb', tp', ps', bs.map BV.ints, pars', _, _, _, rfl, ⟨L14.hS, L14.hm, L14.he, L14.pa, L14.ok, L14.G, hb', ht', hp', ?_, by rw [List.length_map]; omega⟩, hl14⟩
                have e : tupB (bs.map BV.ints) = bs := F14.tups.symm
                rw [e]
                exact hk
          · exact ⟨tb, tp, ps, cs, pars, _, _, _, rfl, { L14 with len := by have := L14.len; omega }, hl14⟩
      · rintro σ H9 ⟨tb, tp, ps, cs, pars, y7, y8, y9, rfl, L9, hl9⟩
        rw [List.length_map] at L9
        have F9 := L9.form
        have len9 := L9.len
        have nb : cs ≠ [] := fun z => by have := F9.pos; rw [z] at this; cases this
        refine ⟨_, rfl, tb, ps, cs, rfl, L9.hb, L9.ht, nb, by omega, fun H10 mm s10 hm1 hm2 => ?_⟩
        have L10 := L9.same s10
        refine ⟨_, rfl, _, _, rfl, .int _, true, rfl, ?_⟩
        refine iteT ?_
        refine ⟨_, rfl, _, rfl, tb, rfl, ⟨_, L10.hb⟩, fun D nD => ?_⟩
        refine lc_tup (K := K) (a := tb) (xs := ps.map V.ref) (fun t H' => Same H10 H' ∧ H' D = some (.lst (((cs.map fun b => (b.length : Int)).take t).map V.int))) ⟨same_upd nD, upd_same⟩ (fun t H' _ h => same_sqT h.1 L10.hb) ?_ ?_
        · rintro i x9 H' hx ⟨sm, hD⟩
          rw [List.getElem?_map] at hx
          cases ea : ps[i]? with
          | none => rw [ea] at hx; cases hx
          | some a9 =>
            rw [ea] at hx
            cases hx
            obtain ⟨c, hc, hca⟩ := paired_get L10.ht ea
            have dk : (cs.map fun b => (b.length : Int))[i]? = some (c.length : Int) := by rw [List.getElem?_map, hc]; rfl
            refine ⟨rfl, _, rfl, a9, _, rfl, .inr (same_sqT sm hca), _, hD, ?_, same_put sm nD, ?_⟩
            · rw [List.length_map, List.length_take, List.length_map]
              exact small1000 (by omega)
            · rw [upd_same, L2.take_next dk, List.map_append, List.length_map]
              rfl
        · rintro H11 ⟨s11, hD⟩
          have e : (ps.map V.ref).length = (cs.map fun b => (b.length : Int)).length := by rw [List.length_map, L10.ht.length, List.length_map]
          rw [e, List.take_length] at hD
          have L11 := L10.same s11
          refine ⟨D, _, rfl, SqL.of hD, by rw [List.length_map]; exact List.length_pos_iff.mpr nb, fun m2 h1 h2 => ?_⟩
          have em : mm = m2 := by
            have z1 := h2 mm hm1
            have z2 := hm2 m2 h1
            omega
          subst em
          refine ⟨_, _, rfl, rfl, rfl, _, rfl, ?_⟩
          rw [decide_eq_true rfl]
          refine iteT ?_
          refine ⟨_, rfl, _, rfl, _, rfl, g, .ref tb, .ref tp, m, qs, _, _, rfl, L11.G, L11.bv, L11.pv, fun bs z => ((L11.bl (by omega)) bs z).1, fun H12 v12 s12 hv12 => ?_⟩
          rw [L11.fl] at hv12
          cases hv12
          exact q H12
end
end Sm

set_option Elab.async false
set_option linter.all false
set_option maxRecDepth 100000
set_option maxHeartbeats 8000000
namespace Sm
open PySem PySem.Spec PyProof.Rows L2
theorem all_mk {l : PySem.W.OpenLaw} {w : World} {K : PySem.W.Frag} {h : Heap} {mg : Str → Option Value} {fa C CB : Addr} {t_MOST_VERTICES : Tok} (X : K.In h) (G : h.Ns mainGlobals mg) (hfa : mg "law" = some (.ref fa))
    {fNum : Addr} {odNum anNum : Option Addr} {slNum : Array (Option Value)} {ocNum kVNum dcNum pmNum cdNum ctNum : Value}
    {fVtx : Addr} {odVtx anVtx : Option Addr} {slVtx : Array (Option Value)} {ocVtx kVVtx dcVtx pmVtx cdVtx ctVtx : Value}
    {fEdg : Addr} {odEdg anEdg : Option Addr} {slEdg : Array (Option Value)} {ocEdg kVEdg dcEdg pmEdg cdEdg ctEdg : Value}
    {fNls : Addr} {odNls anNls : Option Addr} {slNls : Array (Option Value)} {ocNls kVNls dcNls pmNls cdNls ctNls : Value}
    {fMix : Addr} {odMix anMix : Option Addr} {slMix : Array (Option Value)} {ocMix kVMix dcMix pmMix cdMix ctMix : Value}
    {fDig : Addr} {odDig anDig : Option Addr} {slDig : Array (Option Value)} {ocDig kVDig dcDig pmDig cdDig ctDig : Value}
    {fEds : Addr} {odEds anEds : Option Addr} {slEds : Array (Option Value)} {ocEds kVEds dcEds pmEds cdEds ctEds : Value}
    {fCel : Addr} {odCel anCel : Option Addr} {slCel : Array (Option Value)} {ocCel kVCel dcCel pmCel cdCel ctCel : Value}
    {fOrd : Addr} {odOrd anOrd : Option Addr} {slOrd : Array (Option Value)} {ocOrd kVOrd dcOrd pmOrd cdOrd ctOrd : Value}
    {fBo : Addr} {odBo anBo : Option Addr} {slBo : Array (Option Value)} {ocBo kVBo dcBo pmBo cdBo ctBo : Value}
    {fLlg : Addr} {odLlg anLlg : Option Addr} {slLlg : Array (Option Value)} {ocLlg kVLlg dcLlg pmLlg cdLlg ctLlg : Value}
    {fAsc : Addr} {odAsc anAsc : Option Addr} {slAsc : Array (Option Value)} {ocAsc kVAsc dcAsc pmAsc cdAsc ctAsc : Value}
    {fHf : Addr} {odHf anHf : Option Addr} {slHf : Array (Option Value)} {ocHf kVHf dcHf pmHf cdHf ctHf : Value}
    {fBw : Addr} {odBw anBw : Option Addr} {slBw : Array (Option Value)} {ocBw kVBw dcBw pmBw cdBw ctBw : Value}
    {fFb : Addr} {odFb anFb : Option Addr} {slFb : Array (Option Value)} {ocFb kVFb dcFb pmFb cdFb ctFb : Value}
    {fIop : Addr} {odIop anIop : Option Addr} {slIop : Array (Option Value)} {ocIop kVIop dcIop pmIop cdIop ctIop : Value}
    {fFt : Addr} {odFt anFt : Option Addr} {slFt : Array (Option Value)} {ocFt kVFt dcFt pmFt cdFt ctFt : Value}
    {fIsi : Addr} {odIsi anIsi : Option Addr} {slIsi : Array (Option Value)} {ocIsi kVIsi dcIsi pmIsi cdIsi ctIsi : Value}
    {fLhf : Addr} {odLhf anLhf : Option Addr} {slLhf : Array (Option Value)} {ocLhf kVLhf dcLhf pmLhf cdLhf ctLhf : Value}
    {fLft : Addr} {odLft anLft : Option Addr} {slLft : Array (Option Value)} {ocLft kVLft dcLft pmLft cdLft ctLft : Value}
    {fLch : Addr} {odLch anLch : Option Addr} {slLch : Array (Option Value)} {ocLch kVLch dcLch pmLch cdLch ctLch : Value}
    {fWof : Addr} {odWof anWof : Option Addr} {slWof : Array (Option Value)} {ocWof kVWof dcWof pmWof cdWof ctWof : Value}
    {fLaw : Addr} {odLaw anLaw : Option Addr} {slLaw : Array (Option Value)} {ocLaw kVLaw dcLaw pmLaw cdLaw ctLaw : Value}
    {fInit : Addr} {odInit anInit : Option Addr} {slInit : Array (Option Value)} {ocInit kVInit dcInit pmInit cdInit ctInit : Value}
    (aC : PySem.W.nsIn K mainGlobals "Graph" = some (some (.ref C)))
    (aCB : PySem.W.nsIn K mainGlobals "BadGraph" = some (some (.ref CB)))
    (aNum : PySem.W.nsIn K mainGlobals "is_number" = some (some (.ref fNum)))
    (aVtx : PySem.W.nsIn K mainGlobals "is_vertex" = some (some (.ref fVtx)))
    (aEdg : PySem.W.nsIn K mainGlobals "is_edge" = some (some (.ref fEdg)))
    (aNls : PySem.W.nsIn K mainGlobals "near_lists" = some (some (.ref fNls)))
    (aMix : PySem.W.nsIn K mainGlobals "_law_mixed" = some (some (.ref fMix)))
    (aDig : PySem.W.nsIn K mainGlobals "_law_digits" = some (some (.ref fDig)))
    (aEds : PySem.W.nsIn K mainGlobals "_law_edges" = some (some (.ref fEds)))
    (aCel : PySem.W.nsIn K mainGlobals "_law_cell" = some (some (.ref fCel)))
    (aOrd : PySem.W.nsIn K mainGlobals "_law_order" = some (some (.ref fOrd)))
    (aBo : PySem.W.nsIn K mainGlobals "_law_by_order" = some (some (.ref fBo)))
    (aLlg : PySem.W.nsIn K mainGlobals "_law_long" = some (some (.ref fLlg)))
    (aAsc : PySem.W.nsIn K mainGlobals "is_ascending" = some (some (.ref fAsc)))
    (aHf : PySem.W.nsIn K mainGlobals "have_form" = some (some (.ref fHf)))
    (aBw : PySem.W.nsIn K mainGlobals "bags_with" = some (some (.ref fBw)))
    (aFb : PySem.W.nsIn K mainGlobals "first_bag" = some (some (.ref fFb)))
    (aIop : PySem.W.nsIn K mainGlobals "is_one_part" = some (some (.ref fIop)))
    (aFt : PySem.W.nsIn K mainGlobals "fault" = some (some (.ref fFt)))
    (aIsi : PySem.W.nsIn K mainGlobals "_law_is_integer" = some (some (.ref fIsi)))
    (aLhf : PySem.W.nsIn K mainGlobals "_law_has_form" = some (some (.ref fLhf)))
    (aLft : PySem.W.nsIn K mainGlobals "_law_fault" = some (some (.ref fLft)))
    (aLch : PySem.W.nsIn K mainGlobals "_law_changed" = some (some (.ref fLch)))
    (aWof : PySem.W.nsIn K mainGlobals "width_of" = some (some (.ref fWof)))
    (aLaw : PySem.W.nsIn K mainGlobals "law" = some (some (.ref fLaw)))
    (aInit : PySem.W.findIn K (.ref C) "__init__" = some (some (.ref fInit)))
    (iInit : PySem.W.isFn K (.ref fInit) = true)
    (lNum : K.lookup fNum = some ⟨ocNum, odNum, .func (PySem.W.fnOf "is_number" "is_number" (defArgs sNum) (defBody sNum) (defScope sNum) .none kVNum dcNum pmNum anNum cdNum ctNum), slNum⟩)
    (cNum : PySem.W.codeIn K cdNum "is_number" = true)
    (kNum : PySem.W.keepIn K (.ref fNum) = true)
    (lVtx : K.lookup fVtx = some ⟨ocVtx, odVtx, .func (PySem.W.fnOf "is_vertex" "is_vertex" (defArgs sVtx) (defBody sVtx) (defScope sVtx) .none kVVtx dcVtx pmVtx anVtx cdVtx ctVtx), slVtx⟩)
    (cVtx : PySem.W.codeIn K cdVtx "is_vertex" = true)
    (kVtx : PySem.W.keepIn K (.ref fVtx) = true)
    (lEdg : K.lookup fEdg = some ⟨ocEdg, odEdg, .func (PySem.W.fnOf "is_edge" "is_edge" (defArgs sEdg) (defBody sEdg) (defScope sEdg) .none kVEdg dcEdg pmEdg anEdg cdEdg ctEdg), slEdg⟩)
    (cEdg : PySem.W.codeIn K cdEdg "is_edge" = true)
    (kEdg : PySem.W.keepIn K (.ref fEdg) = true)
    (lNls : K.lookup fNls = some ⟨ocNls, odNls, .func (PySem.W.fnOf "near_lists" "near_lists" (defArgs sNls) (defBody sNls) (defScope sNls) .none kVNls dcNls pmNls anNls cdNls ctNls), slNls⟩)
    (cNls : PySem.W.codeIn K cdNls "near_lists" = true)
    (kNls : PySem.W.keepIn K (.ref fNls) = true)
    (lMix : K.lookup fMix = some ⟨ocMix, odMix, .func (PySem.W.fnOf "_law_mixed" "_law_mixed" (defArgs sMix) (defBody sMix) (defScope sMix) .none kVMix dcMix pmMix anMix cdMix ctMix), slMix⟩)
    (cMix : PySem.W.codeIn K cdMix "_law_mixed" = true)
    (kMix : PySem.W.keepIn K (.ref fMix) = true)
    (lDig : K.lookup fDig = some ⟨ocDig, odDig, .func (PySem.W.fnOf "_law_digits" "_law_digits" (defArgs sDig) (defBody sDig) (defScope sDig) .none kVDig dcDig pmDig anDig cdDig ctDig), slDig⟩)
    (cDig : PySem.W.codeIn K cdDig "_law_digits" = true)
    (kDig : PySem.W.keepIn K (.ref fDig) = true)
    (lEds : K.lookup fEds = some ⟨ocEds, odEds, .func (PySem.W.fnOf "_law_edges" "_law_edges" (defArgs sEds) (defBody sEds) (defScope sEds) .none kVEds dcEds pmEds anEds cdEds ctEds), slEds⟩)
    (cEds : PySem.W.codeIn K cdEds "_law_edges" = true)
    (kEds : PySem.W.keepIn K (.ref fEds) = true)
    (lCel : K.lookup fCel = some ⟨ocCel, odCel, .func (PySem.W.fnOf "_law_cell" "_law_cell" (defArgs sCel) (defBody sCel) (defScope sCel) .none kVCel dcCel pmCel anCel cdCel ctCel), slCel⟩)
    (cCel : PySem.W.codeIn K cdCel "_law_cell" = true)
    (kCel : PySem.W.keepIn K (.ref fCel) = true)
    (lOrd : K.lookup fOrd = some ⟨ocOrd, odOrd, .func (PySem.W.fnOf "_law_order" "_law_order" (defArgs sOrd) (defBody sOrd) (defScope sOrd) .none kVOrd dcOrd pmOrd anOrd cdOrd ctOrd), slOrd⟩)
    (cOrd : PySem.W.codeIn K cdOrd "_law_order" = true)
    (kOrd : PySem.W.keepIn K (.ref fOrd) = true)
    (lBo : K.lookup fBo = some ⟨ocBo, odBo, .func (PySem.W.fnOf "_law_by_order" "_law_by_order" (defArgs sBo) (defBody sBo) (defScope sBo) .none kVBo dcBo pmBo anBo cdBo ctBo), slBo⟩)
    (cBo : PySem.W.codeIn K cdBo "_law_by_order" = true)
    (kBo : PySem.W.keepIn K (.ref fBo) = true)
    (lLlg : K.lookup fLlg = some ⟨ocLlg, odLlg, .func (PySem.W.fnOf "_law_long" "_law_long" (defArgs sLlg) (defBody sLlg) (defScope sLlg) .none kVLlg dcLlg pmLlg anLlg cdLlg ctLlg), slLlg⟩)
    (cLlg : PySem.W.codeIn K cdLlg "_law_long" = true)
    (kLlg : PySem.W.keepIn K (.ref fLlg) = true)
    (lAsc : K.lookup fAsc = some ⟨ocAsc, odAsc, .func (PySem.W.fnOf "is_ascending" "is_ascending" (defArgs sAsc) (defBody sAsc) (defScope sAsc) .none kVAsc dcAsc pmAsc anAsc cdAsc ctAsc), slAsc⟩)
    (cAsc : PySem.W.codeIn K cdAsc "is_ascending" = true)
    (kAsc : PySem.W.keepIn K (.ref fAsc) = true)
    (lHf : K.lookup fHf = some ⟨ocHf, odHf, .func (PySem.W.fnOf "have_form" "have_form" (defArgs sHf) (defBody sHf) (defScope sHf) .none kVHf dcHf pmHf anHf cdHf ctHf), slHf⟩)
    (cHf : PySem.W.codeIn K cdHf "have_form" = true)
    (kHf : PySem.W.keepIn K (.ref fHf) = true)
    (lBw : K.lookup fBw = some ⟨ocBw, odBw, .func (PySem.W.fnOf "bags_with" "bags_with" (defArgs sBw) (defBody sBw) (defScope sBw) .none kVBw dcBw pmBw anBw cdBw ctBw), slBw⟩)
    (cBw : PySem.W.codeIn K cdBw "bags_with" = true)
    (kBw : PySem.W.keepIn K (.ref fBw) = true)
    (lFb : K.lookup fFb = some ⟨ocFb, odFb, .func (PySem.W.fnOf "first_bag" "first_bag" (defArgs sFb) (defBody sFb) (defScope sFb) .none kVFb dcFb pmFb anFb cdFb ctFb), slFb⟩)
    (cFb : PySem.W.codeIn K cdFb "first_bag" = true)
    (kFb : PySem.W.keepIn K (.ref fFb) = true)
    (lIop : K.lookup fIop = some ⟨ocIop, odIop, .func (PySem.W.fnOf "is_one_part" "is_one_part" (defArgs sIop) (defBody sIop) (defScope sIop) .none kVIop dcIop pmIop anIop cdIop ctIop), slIop⟩)
    (cIop : PySem.W.codeIn K cdIop "is_one_part" = true)
    (kIop : PySem.W.keepIn K (.ref fIop) = true)
    (lFt : K.lookup fFt = some ⟨ocFt, odFt, .func (PySem.W.fnOf "fault" "fault" (defArgs sFt) (defBody sFt) (defScope sFt) .none kVFt dcFt pmFt anFt cdFt ctFt), slFt⟩)
    (cFt : PySem.W.codeIn K cdFt "fault" = true)
    (kFt : PySem.W.keepIn K (.ref fFt) = true)
    (lIsi : K.lookup fIsi = some ⟨ocIsi, odIsi, .func (PySem.W.fnOf "_law_is_integer" "_law_is_integer" (defArgs sIsi) (defBody sIsi) (defScope sIsi) .none kVIsi dcIsi pmIsi anIsi cdIsi ctIsi), slIsi⟩)
    (cIsi : PySem.W.codeIn K cdIsi "_law_is_integer" = true)
    (kIsi : PySem.W.keepIn K (.ref fIsi) = true)
    (lLhf : K.lookup fLhf = some ⟨ocLhf, odLhf, .func (PySem.W.fnOf "_law_has_form" "_law_has_form" (defArgs sLhf) (defBody sLhf) (defScope sLhf) .none kVLhf dcLhf pmLhf anLhf cdLhf ctLhf), slLhf⟩)
    (cLhf : PySem.W.codeIn K cdLhf "_law_has_form" = true)
    (kLhf : PySem.W.keepIn K (.ref fLhf) = true)
    (lLft : K.lookup fLft = some ⟨ocLft, odLft, .func (PySem.W.fnOf "_law_fault" "_law_fault" (defArgs sLft) (defBody sLft) (defScope sLft) .none kVLft dcLft pmLft anLft cdLft ctLft), slLft⟩)
    (cLft : PySem.W.codeIn K cdLft "_law_fault" = true)
    (kLft : PySem.W.keepIn K (.ref fLft) = true)
    (lLch : K.lookup fLch = some ⟨ocLch, odLch, .func (PySem.W.fnOf "_law_changed" "_law_changed" (defArgs sLch) (defBody sLch) (defScope sLch) .none kVLch dcLch pmLch anLch cdLch ctLch), slLch⟩)
    (cLch : PySem.W.codeIn K cdLch "_law_changed" = true)
    (kLch : PySem.W.keepIn K (.ref fLch) = true)
    (lWof : K.lookup fWof = some ⟨ocWof, odWof, .func (PySem.W.fnOf "width_of" "width_of" (defArgs sWof) (defBody sWof) (defScope sWof) .none kVWof dcWof pmWof anWof cdWof ctWof), slWof⟩)
    (cWof : PySem.W.codeIn K cdWof "width_of" = true)
    (kWof : PySem.W.keepIn K (.ref fWof) = true)
    (lLaw : K.lookup fLaw = some ⟨ocLaw, odLaw, .func (PySem.W.fnOf "law" "law" (defArgs sLaw) (defBody sLaw) (defScope sLaw) .none kVLaw dcLaw pmLaw anLaw cdLaw ctLaw), slLaw⟩)
    (cLaw : PySem.W.codeIn K cdLaw "law" = true)
    (kLaw : PySem.W.keepIn K (.ref fLaw) = true)
    (lInit : K.lookup fInit = some ⟨ocInit, odInit, .func (PySem.W.fnOf "__init__" "Graph.__init__" (defArgs sInit) (defBody sInit) (defScope sInit) .none kVInit dcInit pmInit anInit cdInit ctInit), slInit⟩)
    (cInit : PySem.W.codeIn K cdInit "Graph.__init__" = true)
    (kInit : PySem.W.keepIn K (.ref fInit) = true)
    (pg : PySem.W.plainGet K C Str.empty = true)
    (hd : PySem.W.hasDictIn K C = true)
    (po : PySem.W.plainOver K C = true)
    (sa : PySem.W.findIn K (.ref C) "__setattr__" = some (some (.builtin "object.__setattr__")))
    (mk : PySem.W.makesIn K C = true)
    (kc : PySem.W.keepIn K (.ref C) = true)
    (nS : PySem.W.findIn K (.ref C) "size" = some none)
    (nE : PySem.W.findIn K (.ref C) "edges" = some none)
    (nN : PySem.W.findIn K (.ref C) "_near" = some none)
    (xCB : PySem.W.excIn K CB [.type "ValueError", .type "Exception", .type "BaseException", .type "object"] "ValueError.__new__" = true)
    (kkCB : PySem.W.keepIn K (.ref CB) = true)
    (bbCB : PySem.W.subIn K (.ref CB) (.type "BaseException") = some true)
    (ttCB : PySem.W.typeIn K (.ref CB) = some (.type "type"))
    (v_MOST_VERTICES : PySem.W.nsIn K mainGlobals "MOST_VERTICES" = some (some (.int 60 t_MOST_VERTICES)))
    (z_range : PySem.W.nsIn K mainGlobals "range" = some none)
    (z_set : PySem.W.nsIn K mainGlobals "set" = some none)
    (z_tuple : PySem.W.nsIn K mainGlobals "tuple" = some none)
    (z_sorted : PySem.W.nsIn K mainGlobals "sorted" = some none)
    (z_int : PySem.W.nsIn K mainGlobals "int" = some none)
    (z_len : PySem.W.nsIn K mainGlobals "len" = some none)
    (z_list : PySem.W.nsIn K mainGlobals "list" = some none)
    (z_min : PySem.W.nsIn K mainGlobals "min" = some none)
    (z_max : PySem.W.nsIn K mainGlobals "max" = some none)
    (z_enumerate : PySem.W.nsIn K mainGlobals "enumerate" = some none)
    (z_all : PySem.W.nsIn K mainGlobals "all" = some none)
    (z_abs : PySem.W.nsIn K mainGlobals "abs" = some none)
    (z_isinstance : PySem.W.nsIn K mainGlobals "isinstance" = some none)
    (z_bool : PySem.W.nsIn K mainGlobals "bool" = some none)
    : ∃ fd : FuncData, (∀ (s : Shared) (v : Value), BindsTo s fd ⟨[v], []⟩ [("script", v)]) ∧ ∀ base : Heap, K.In base → base.Ns mainGlobals mg → FnOk l.prog w K mg base CX0 6 fa fd ["script"] (spLaw K) := by
  have e := hfa.symm.trans (PySem.W.mg_of X G aLaw)
  cases e
  have m_range := PySem.W.mg_none_of X G z_range
  have m_set := PySem.W.mg_none_of X G z_set
  have m_tuple := PySem.W.mg_none_of X G z_tuple
  have m_sorted := PySem.W.mg_none_of X G z_sorted
  have m_int := PySem.W.mg_none_of X G z_int
  have m_len := PySem.W.mg_none_of X G z_len
  have m_list := PySem.W.mg_none_of X G z_list
  have m_min := PySem.W.mg_none_of X G z_min
  have m_max := PySem.W.mg_none_of X G z_max
  have m_enumerate := PySem.W.mg_none_of X G z_enumerate
  have m_all := PySem.W.mg_none_of X G z_all
  have m_abs := PySem.W.mg_none_of X G z_abs
  have m_isinstance := PySem.W.mg_none_of X G z_isinstance
  have m_bool := PySem.W.mg_none_of X G z_bool
  have FNum := fun_mk (st := sNum) lNum cNum kNum
  have bNum := FNum.binds (ps := ["value"]) fun _ _ _ _ _ _ us hl => match us, hl with | [_], _ => rfl
  have FVtx := fun_mk (st := sVtx) lVtx cVtx kVtx
  have bVtx := FVtx.binds (ps := ["value", "size"]) fun _ _ _ _ _ _ us hl => match us, hl with | [_, _], _ => rfl
  have FEdg := fun_mk (st := sEdg) lEdg cEdg kEdg
  have bEdg := FEdg.binds (ps := ["value", "size"]) fun _ _ _ _ _ _ us hl => match us, hl with | [_, _], _ => rfl
  have FNls := fun_mk (st := sNls) lNls cNls kNls
  have bNls := FNls.binds (ps := ["size", "edges"]) fun _ _ _ _ _ _ us hl => match us, hl with | [_, _], _ => rfl
  have FMix := fun_mk (st := sMix) lMix cMix kMix
  have bMix := FMix.binds (ps := ["cell", "k"]) fun _ _ _ _ _ _ us hl => match us, hl with | [_, _], _ => rfl
  have FDig := fun_mk (st := sDig) lDig cDig kDig
  have bDig := FDig.binds (ps := ["cell", "count", "many"]) fun _ _ _ _ _ _ us hl => match us, hl with | [_, _, _], _ => rfl
  have FEds := fun_mk (st := sEds) lEds cEds kEds
  have bEds := FEds.binds (ps := ["cell", "most"]) fun _ _ _ _ _ _ us hl => match us, hl with | [_, _], _ => rfl
  have FCel := fun_mk (st := sCel) lCel cCel kCel
  have bCel := FCel.binds (ps := ["script", "k"]) fun _ _ _ _ _ _ us hl => match us, hl with | [_, _], _ => rfl
  have FOrd := fun_mk (st := sOrd) lOrd cOrd kOrd
  have bOrd := FOrd.binds (ps := ["cell", "size"]) fun _ _ _ _ _ _ us hl => match us, hl with | [_, _], _ => rfl
  have FBo := fun_mk (st := sBo) lBo cBo kBo
  have bBo := FBo.binds (ps := ["size", "edges", "order"]) fun _ _ _ _ _ _ us hl => match us, hl with | [_, _, _], _ => rfl
  have FLlg := fun_mk (st := sLlg) lLlg cLlg kLlg
  have bLlg := FLlg.binds (ps := ["number"]) fun _ _ _ _ _ _ us hl => match us, hl with | [_], _ => rfl
  have FAsc := fun_mk (st := sAsc) lAsc cAsc kAsc
  have bAsc := FAsc.binds (ps := ["value", "size"]) fun _ _ _ _ _ _ us hl => match us, hl with | [_, _], _ => rfl
  have FHf := fun_mk (st := sHf) lHf cHf kHf
  have bHf := FHf.binds (ps := ["graph", "bags", "parents"]) fun _ _ _ _ _ _ us hl => match us, hl with | [_, _, _], _ => rfl
  have FBw := fun_mk (st := sBw) lBw cBw kBw
  have bBw := FBw.binds (ps := ["graph", "bags"]) fun _ _ _ _ _ _ us hl => match us, hl with | [_, _], _ => rfl
  have FFb := fun_mk (st := sFb) lFb cFb kFb
  have bFb := FFb.binds (ps := ["lying", "u", "v"]) fun _ _ _ _ _ _ us hl => match us, hl with | [_, _, _], _ => rfl
  have FIop := fun_mk (st := sIop) lIop cIop kIop
  have bIop := FIop.binds (ps := ["numbers", "parents"]) fun _ _ _ _ _ _ us hl => match us, hl with | [_, _], _ => rfl
  have FFt := fun_mk (st := sFt) lFt cFt kFt
  have bFt := FFt.binds (ps := ["graph", "bags", "parents"]) fun _ _ _ _ _ _ us hl => match us, hl with | [_, _, _], _ => rfl
  have FIsi := fun_mk (st := sIsi) lIsi cIsi kIsi
  have bIsi := FIsi.binds (ps := ["actual"]) fun _ _ _ _ _ _ us hl => match us, hl with | [_], _ => rfl
  have FLhf := fun_mk (st := sLhf) lLhf cLhf kLhf
  have bLhf := FLhf.binds (ps := ["size", "bags", "parents"]) fun _ _ _ _ _ _ us hl => match us, hl with | [_, _, _], _ => rfl
  have FLft := fun_mk (st := sLft) lLft cLft kLft
  have bLft := FLft.binds (ps := ["size", "edges", "bags", "parents"]) fun _ _ _ _ _ _ us hl => match us, hl with | [_, _, _, _], _ => rfl
  have FLch := fun_mk (st := sLch) lLch cLch kLch
  have bLch := FLch.binds (ps := ["bags", "parents", "digits", "size"]) fun _ _ _ _ _ _ us hl => match us, hl with | [_, _, _, _], _ => rfl
  have FWof := fun_mk (st := sWof) lWof cWof kWof
  have bWof := FWof.binds (ps := ["bags"]) fun _ _ _ _ _ _ us hl => match us, hl with | [_], _ => rfl
  have FLaw := fun_mk (st := sLaw) lLaw cLaw kLaw
  have bLaw := FLaw.binds (ps := ["script"]) fun _ _ _ _ _ _ us hl => match us, hl with | [_], _ => rfl
  have FInit := fun_mk (st := sInit) lInit cInit kInit
  have bInit := FInit.binds (ps := ["self", "size", "edges"]) fun _ _ _ _ _ _ us hl => match us, hl with | [_, _, _], _ => rfl
  have gNum := PySem.W.mg_of X G aNum
  have gVtx := PySem.W.mg_of X G aVtx
  have gEdg := PySem.W.mg_of X G aEdg
  have gNls := PySem.W.mg_of X G aNls
  have gMix := PySem.W.mg_of X G aMix
  have gDig := PySem.W.mg_of X G aDig
  have gEds := PySem.W.mg_of X G aEds
  have gCel := PySem.W.mg_of X G aCel
  have gOrd := PySem.W.mg_of X G aOrd
  have gBo := PySem.W.mg_of X G aBo
  have gLlg := PySem.W.mg_of X G aLlg
  have gAsc := PySem.W.mg_of X G aAsc
  have gHf := PySem.W.mg_of X G aHf
  have gBw := PySem.W.mg_of X G aBw
  have gFb := PySem.W.mg_of X G aFb
  have gIop := PySem.W.mg_of X G aIop
  have gFt := PySem.W.mg_of X G aFt
  have gIsi := PySem.W.mg_of X G aIsi
  have gLhf := PySem.W.mg_of X G aLhf
  have gLft := PySem.W.mg_of X G aLft
  have gLch := PySem.W.mg_of X G aLch
  have gWof := PySem.W.mg_of X G aWof
  have gLaw := PySem.W.mg_of X G aLaw
  have TA : TxA mg := ⟨m_isinstance, m_int, m_bool, m_tuple, m_len⟩
  have T : TxG K mg C := ⟨⟨pg, hd, po, sa⟩, nS, nE, nN, PySem.W.mg_of X G aC⟩
  have B_CB : TxE K mg "BadGraph" CB := ⟨PySem.W.mg_of X G aCB, xCB, kkCB, bbCB, ttCB⟩
  have M : Mk K C fInit := ⟨mk, aInit, iInit, kc⟩
  refine ⟨PySem.W.fnOf "law" "law" (defArgs sLaw) (defBody sLaw) (defScope sLaw) .none kVLaw dcLaw pmLaw anLaw cdLaw ctLaw, fun s v => .of_eq rfl, fun base _ _ => ?_⟩
  have GNum : FnOk l.prog w K mg base CX0 1 fNum _ ["value"] spNum := ok_num FNum TA
  have GVtx : FnOk l.prog w K mg base CX0 2 fVtx _ ["value", "size"] spVtx := ok_vtx FVtx FNum bNum gNum TA
  have GEdg : FnOk l.prog w K mg base CX0 3 fEdg _ ["value", "size"] (spEdg K) := ok_edg FEdg GVtx kVtx bVtx gVtx TA
  have GNls : FnOk l.prog w K mg base CX0 1 fNls _ ["size", "edges"] (spNls K) := ok_nls FNls m_range
  have GInit : FnOk l.prog w K mg base (L2.CX l.prog w) 4 fInit _ ["self", "size", "edges"] (spInit K C CB) := ok_init FInit T B_CB GNum gNum kNum bNum GEdg gEdg kEdg bEdg GNls gNls kNls bNls (PySem.W.mg_of X G v_MOST_VERTICES) m_set m_tuple m_sorted
  have GMix : FnOk l.prog w K mg base CX0 1 fMix _ ["cell", "k"] spMix := ok_mix FMix m_int
  have GDig : FnOk l.prog w K mg base CX0 2 fDig _ ["cell", "count", "many"] (spDig K) := ok_dig FDig m_range m_int GMix kMix bMix gMix
  have GEds : FnOk l.prog w K mg base CX0 3 fEds _ ["cell", "most"] (spEds K) := ok_eds FEds m_range GDig kDig bDig gDig
  have GCel : FnOk l.prog w K mg base CX0 1 fCel _ ["script", "k"] (spCel K) := ok_cel FCel m_len
  have GOrd : FnOk l.prog w K mg base CX0 3 fOrd _ ["cell", "size"] (spOrd K) := ok_ord FOrd GDig kDig bDig gDig m_list m_range m_len
  have GBo : FnOk l.prog w K mg base CX0 1 fBo _ ["size", "edges", "order"] (spBo K) := ok_bo FBo m_range m_min m_max m_tuple m_sorted m_len
  have GLlg : FnOk l.prog w K mg base CX0 1 fLlg _ ["number"] (spLlg K) := ok_llg FLlg m_range m_tuple
  have GAsc : FnOk l.prog w K mg base CX0 3 fAsc _ ["value", "size"] (spAsc K) := ok_asc FAsc TA GVtx kVtx bVtx gVtx
  have GHf : FnOk l.prog w K mg base CX0 4 fHf _ ["graph", "bags", "parents"] (spHf K C) := ok_hf FHf T TA m_enumerate GNum kNum bNum gNum GVtx kVtx bVtx gVtx GAsc kAsc bAsc gAsc
  have GBw : FnOk l.prog w K mg base CX0 1 fBw _ ["graph", "bags"] (spBw K C) := ok_bw FBw T m_enumerate m_range
  have GFb : FnOk l.prog w K mg base CX0 1 fFb _ ["lying", "u", "v"] (spFb K) := ok_fb FFb
  have GIop : FnOk l.prog w K mg base CX0 1 fIop _ ["numbers", "parents"] (spIop K) := ok_iop FIop m_len
  have GFt : FnOk l.prog w K mg base CX0 5 fFt _ ["graph", "bags", "parents"] (spFt K C) := ok_ft FFt T m_range GHf kHf bHf gHf GBw kBw bBw gBw GFb kFb bFb gFb GIop kIop bIop gIop
  have GIsi : FnOk l.prog w K mg base CX0 1 fIsi _ ["actual"] spIsG := ok_isg FIsi TA
  have GLhf : FnOk l.prog w K mg base CX0 2 fLhf _ ["size", "bags", "parents"] (spLhf K) := ok_lhf FLhf TA GIsi kIsi bIsi gIsi m_range m_all m_list m_sorted m_max
  have GLft : FnOk l.prog w K mg base CX0 3 fLft _ ["size", "edges", "bags", "parents"] (spLft K) := ok_lft FLft GLhf kLhf bLhf gLhf m_range m_len
  have GLch : FnOk l.prog w K mg base CX0 1 fLch _ ["bags", "parents", "digits", "size"] (spLch K) := ok_lch FLch m_tuple m_len m_sorted m_list
  have GWof : FnOk l.prog w K mg base CX0 1 fWof _ ["bags"] (spWof K) := ok_wof FWof m_len m_max
  exact ok_law FLaw T GInit M bInit GEds kEds bEds gEds GCel kCel bCel gCel GOrd kOrd bOrd gOrd GBo kBo bBo gBo GLlg kLlg bLlg gLlg GFt kFt bFt gFt GLft kLft bLft gLft GLch kLch bLch gLch GDig kDig bDig gDig GWof kWof bWof gWof GIsi kIsi bIsi gIsi m_int m_abs m_len m_max
end Sm

open PySem PySem.W PyProof.Rows
set_option Elab.async false
set_option maxRecDepth 100000 in
set_option maxHeartbeats 0 in
theorem PySem.Challenge.cw_smallwidth_k13_faults_of_decompositions_holds : PySem.Challenge.rw_smallwidth_k13_faults_of_decompositions.Holds := by
  w_on; o_law; k_head; (case hw => w_witness2)
  k_fill
  refine L2.walk_of (l := PySem.Challenge.rw_smallwidth_k13_faults_of_decompositions) (n := 63) (k := 6) (x := "script") (CX := fun _ => L2.CX0) (sp := fun w => Sm.spLaw _) rfl (by decide) rfl ⟨rfl, by decide, by decide⟩ (fun w h Y => PySem.W.kIn_of Y) ?F (fun _ _ a ns hl _ hS => ⟨a, ns, rfl, hS, hl, fun _ => rfl⟩) (fun _ _ _ _ _ h => h)
  case F =>
    intro w mg fa h KX G hmg
    refine' Sm.all_mk KX G hmg ?aC ?aCB ?aNum ?aVtx ?aEdg ?aNls ?aMix ?aDig ?aEds ?aCel ?aOrd ?aBo ?aLlg ?aAsc ?aHf ?aBw ?aFb ?aIop ?aFt ?aIsi ?aLhf ?aLft ?aLch ?aWof ?aLaw ?aInit ?iInit ?lNum ?cNum ?kNum ?lVtx ?cVtx ?kVtx ?lEdg ?cEdg ?kEdg ?lNls ?cNls ?kNls ?lMix ?cMix ?kMix ?lDig ?cDig ?kDig ?lEds ?cEds ?kEds ?lCel ?cCel ?kCel ?lOrd ?cOrd ?kOrd ?lBo ?cBo ?kBo ?lLlg ?cLlg ?kLlg ?lAsc ?cAsc ?kAsc ?lHf ?cHf ?kHf ?lBw ?cBw ?kBw ?lFb ?cFb ?kFb ?lIop ?cIop ?kIop ?lFt ?cFt ?kFt ?lIsi ?cIsi ?kIsi ?lLhf ?cLhf ?kLhf ?lLft ?cLft ?kLft ?lLch ?cLch ?kLch ?lWof ?cWof ?kWof ?lLaw ?cLaw ?kLaw ?lInit ?cInit ?kInit ?pg ?hd ?po ?sa ?mk ?kc ?nS ?nE ?nN ?xCB ?kkCB ?bbCB ?ttCB ?v_MOST_VERTICES ?z_range ?z_set ?z_tuple ?z_sorted ?z_int ?z_len ?z_list ?z_min ?z_max ?z_enumerate ?z_all ?z_abs ?z_isinstance ?z_bool
    (case aC => first | k_is | rfl)
    (case aCB => first | k_is | rfl)
    (case aNum => first | k_is | rfl)
    (case aVtx => first | k_is | rfl)
    (case aEdg => first | k_is | rfl)
    (case aNls => first | k_is | rfl)
    (case aMix => first | k_is | rfl)
    (case aDig => first | k_is | rfl)
    (case aEds => first | k_is | rfl)
    (case aCel => first | k_is | rfl)
    (case aOrd => first | k_is | rfl)
    (case aBo => first | k_is | rfl)
    (case aLlg => first | k_is | rfl)
    (case aAsc => first | k_is | rfl)
    (case aHf => first | k_is | rfl)
    (case aBw => first | k_is | rfl)
    (case aFb => first | k_is | rfl)
    (case aIop => first | k_is | rfl)
    (case aFt => first | k_is | rfl)
    (case aIsi => first | k_is | rfl)
    (case aLhf => first | k_is | rfl)
    (case aLft => first | k_is | rfl)
    (case aLch => first | k_is | rfl)
    (case aWof => first | k_is | rfl)
    (case aLaw => first | k_is | rfl)
    (case aInit => first | k_is | rfl)
    (case iInit => first | k_is | rfl)
    (case lNum => first | k_is | rfl)
    (case cNum => first | k_is | rfl)
    (case kNum => first | k_is | rfl)
    (case lVtx => first | k_is | rfl)
    (case cVtx => first | k_is | rfl)
    (case kVtx => first | k_is | rfl)
    (case lEdg => first | k_is | rfl)
    (case cEdg => first | k_is | rfl)
    (case kEdg => first | k_is | rfl)
    (case lNls => first | k_is | rfl)
    (case cNls => first | k_is | rfl)
    (case kNls => first | k_is | rfl)
    (case lMix => first | k_is | rfl)
    (case cMix => first | k_is | rfl)
    (case kMix => first | k_is | rfl)
    (case lDig => first | k_is | rfl)
    (case cDig => first | k_is | rfl)
    (case kDig => first | k_is | rfl)
    (case lEds => first | k_is | rfl)
    (case cEds => first | k_is | rfl)
    (case kEds => first | k_is | rfl)
    (case lCel => first | k_is | rfl)
    (case cCel => first | k_is | rfl)
    (case kCel => first | k_is | rfl)
    (case lOrd => first | k_is | rfl)
    (case cOrd => first | k_is | rfl)
    (case kOrd => first | k_is | rfl)
    (case lBo => first | k_is | rfl)
    (case cBo => first | k_is | rfl)
    (case kBo => first | k_is | rfl)
    (case lLlg => first | k_is | rfl)
    (case cLlg => first | k_is | rfl)
    (case kLlg => first | k_is | rfl)
    (case lAsc => first | k_is | rfl)
    (case cAsc => first | k_is | rfl)
    (case kAsc => first | k_is | rfl)
    (case lHf => first | k_is | rfl)
    (case cHf => first | k_is | rfl)
    (case kHf => first | k_is | rfl)
    (case lBw => first | k_is | rfl)
    (case cBw => first | k_is | rfl)
    (case kBw => first | k_is | rfl)
    (case lFb => first | k_is | rfl)
    (case cFb => first | k_is | rfl)
    (case kFb => first | k_is | rfl)
    (case lIop => first | k_is | rfl)
    (case cIop => first | k_is | rfl)
    (case kIop => first | k_is | rfl)
    (case lFt => first | k_is | rfl)
    (case cFt => first | k_is | rfl)
    (case kFt => first | k_is | rfl)
    (case lIsi => first | k_is | rfl)
    (case cIsi => first | k_is | rfl)
    (case kIsi => first | k_is | rfl)
    (case lLhf => first | k_is | rfl)
    (case cLhf => first | k_is | rfl)
    (case kLhf => first | k_is | rfl)
    (case lLft => first | k_is | rfl)
    (case cLft => first | k_is | rfl)
    (case kLft => first | k_is | rfl)
    (case lLch => first | k_is | rfl)
    (case cLch => first | k_is | rfl)
    (case kLch => first | k_is | rfl)
    (case lWof => first | k_is | rfl)
    (case cWof => first | k_is | rfl)
    (case kWof => first | k_is | rfl)
    (case lLaw => first | k_is | rfl)
    (case cLaw => first | k_is | rfl)
    (case kLaw => first | k_is | rfl)
    (case lInit => first | k_is | rfl)
    (case cInit => first | k_is | rfl)
    (case kInit => first | k_is | rfl)
    (case pg => first | k_is | rfl)
    (case hd => first | k_is | rfl)
    (case po => first | k_is | rfl)
    (case sa => first | k_is | rfl)
    (case mk => first | k_is | rfl)
    (case kc => first | k_is | rfl)
    (case nS => first | k_is | rfl)
    (case nE => first | k_is | rfl)
    (case nN => first | k_is | rfl)
    (case xCB => first | k_is | k_exc | decide +kernel)
    (case kkCB => first | k_is | rfl)
    (case bbCB => first | k_is | rfl)
    (case ttCB => first | k_is | rfl)
    (case v_MOST_VERTICES => first | k_is | rfl)
    (case z_range => first | k_is | rfl)
    (case z_set => first | k_is | rfl)
    (case z_tuple => first | k_is | rfl)
    (case z_sorted => first | k_is | rfl)
    (case z_int => first | k_is | rfl)
    (case z_len => first | k_is | rfl)
    (case z_list => first | k_is | rfl)
    (case z_min => first | k_is | rfl)
    (case z_max => first | k_is | rfl)
    (case z_enumerate => first | k_is | rfl)
    (case z_all => first | k_is | rfl)
    (case z_abs => first | k_is | rfl)
    (case z_isinstance => first | k_is | rfl)
    (case z_bool => first | k_is | rfl)

