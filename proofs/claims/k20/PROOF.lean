import PyProof.Rows.All
import Wide.All
import OpenK.AllK
import Wide.FinOn
import HandS.ForMost
import HandS.Set
import HandS.Strs
import HandS.TupSets
import HandS.SortRule
import HandS.SortInts
import HandS.ForExc
import KE.KSetDisp
import KE.GoesSet
import HandS.IsInst
import HandS.Deep
import HandS.Flow
import HandS.ExcIs
import HandS.Walk
import HandS.Conv
import HandS.TupLe
import HandS.Star
import HandS.DictComp
import KE.DataMinMax
import PyProof.Rows.CallKwBuiltin
import HandS.WideBits
import KE.OsArith
import KE.BitLaws
import KE.GoesMore
import KE.GoesEnum
import HandS.Iter
import HandS.RevRange
import HandS.TupAny
import HandS.Style
import PySem.Challenge.RW_smallwidth_k20_components_and_orders
set_option Elab.async false
set_option linter.all false
set_option maxRecDepth 100000
set_option maxHeartbeats 2000000
/-! Sets of tuples of ints that grow by add, asked by in, sorted; up to 75 members. -/
namespace Sm
open PySem PySem.Spec PyProof.Rows L2
section
variable {P : Program} {w : World} {A : Around} {E : Value → Shared → Prop} {s : Shared}
/-- where the search for a hash begins -/
abbrev walk0 (m : Nat) (h : Int) : SetTable.Probe := runAt m (SetTable.bits h % (m + 1)) (SetTable.bits h)
/-- at a stands a set whose members are the tuples of L (its address, its ints) -/
structure TW (P : Program) (w : World) (h : Heap) (a : Addr) (L : List (Addr × List Int)) (es : Array (Int × Value)) (ep : Nat) (t : SetTable) : Prop where
  obj : ∃ o, h.get? a = some o ∧ o.ExactSet ∧ o.data = .set es ep t
  rws : es.toList = rowsOf P w L
  tbl : TabOk t (L.map fun p => thash P w p.2)
  dif : (L.map (·.2)).Nodup
  mem : ∀ p ∈ L, IsT P w h p.2 p.1
  pln : t.plain = true
  ld : w.params.followText "set-order" = true ∨ t.led = true
  fit : L.length * 5 < t.mask * 3
variable {a : Addr} {L : List (Addr × List Int)} {es : Array (Int × Value)} {ep : Nat} {t : SetTable}
theorem TW.len (R : TW P w s.heap a L es ep t) : es.size = L.length := by
  have q : es.toList.length = (rowsOf P w L).length := by rw [R.rws]
  rw [Array.length_toList, rowsOf, List.length_map] at q
  exact q
theorem TW.few (R : TW P w s.heap a L es ep t) : L.length ≤ 76 := by
  have q := R.fit
  rcases R.tbl.mok with e | e | e <;> omega
theorem TW.holds (R : TW P w s.heap a L es ep t) : t.fits es.size = true := by
  have q1 := R.tbl.sz
  rw [List.length_map] at q1
  have q2 := R.len
  have q3 := R.fit
  simp only [SetTable.fits, SetTable.fill, R.tbl.dm, Bool.and_eq_true, beq_iff_eq, decide_eq_true_eq]
  refine ⟨by omega, ?_⟩
  show t.place.size + 0 ≤ t.mask
  omega
theorem TW.at (R : TW P w s.heap a L es ep t) {i : Nat} {p : Addr × List Int} (h : L[i]? = some p) : es[i]? = some (thash P w p.2, Value.ref p.1) := by
  have q : es.toList[i]? = (rowsOf P w L)[i]? := by rw [R.rws]
  rw [Array.getElem?_toList] at q
  rw [q, rowsOf, List.getElem?_map, h]
  rfl
theorem nth_clean (m : Nat) : ∀ (n : Nat) (p : SetTable.Probe), p.dummy = none → (nth m p n).dummy = none
  | 0, _, h => h
  | n + 1, p, h => nth_clean m n (adv m p) (by unfold adv; split <;> exact h)
/-- the search from the c-th place of its way on, whether one adds or asks -/
theorem tw_from (R : TW P w s.heap a L es ep t) {x : Addr} {k : List Int} (hx : IsT P w s.heap k x) (hu : A.units < cLine) (adding : Bool) {K : Nat} (hKf : K < 10 * SetTable.turns t.mask)
    (hK : way t.mask (thash P w k) K ∉ t.place.toList) (hKb : ∀ c, c < K → way t.mask (thash P w k) c ∈ t.place.toList) {Q : SetFound → Shared → Prop}
    (hin : k ∈ L.map (·.2) → ∀ r : Option Nat, (adding = false → r.isSome = true) → Q (.there r) s)
    (hout : k ∉ L.map (·.2) → Q (.free (way t.mask (thash P w k) K) false) s) (f : Nat) :
    ∀ (c : Nat) (stand : Option SetTable.Probe), stand.getD (t.probeStart (thash P w k)) = nth t.mask (walk0 t.mask (thash P w k)) c → c ≤ K → K < c + f →
      (∀ (i : Nat) p, L[i]? = some p → p.2 = k → ∃ c', c ≤ c' ∧ c' < K ∧ t.place.toList[i]? = some (way t.mask (thash P w k) c')) →
      wpAny (model P w) A (setSearchFrom a (.ref x) (thash P w k) adding f stand) Q E s := by
  induction f with
  | zero => intro c _ _ h1 h2 _; omega
  | succ f ih =>
    intro c stand hst hc hf hre
    have ⟨o, ho, hex, hd⟩ := R.obj
    have hashes : ∀ (i : Nat) p, L[i]? = some p → (es[i]?.map (·.1)).getD 0 = thash P w p.2 := fun i p hp => by rw [R.at hp]; rfl
    have later : ∀ q, nth t.mask (nth t.mask (walk0 t.mask (thash P w k)) c) q = nth t.mask (walk0 t.mask (thash P w k)) (c + q) := fun q => (nth_add t.mask c _ q).symm
    have lj : ∀ q, (nth t.mask (nth t.mask (walk0 t.mask (thash P w k)) c) q).j = way t.mask (thash P w k) (c + q) := fun q => congrArg SetTable.Probe.j (later q)
    have met := go_spec t R.tbl.ris R.tbl.dm (fun i => (es[i]?.map (·.1)).getD 0) (thash P w k) (10 * SetTable.turns t.mask) (K - c) (nth t.mask (walk0 t.mask (thash P w k)) c)
      (nth_clean _ _ _ rfl) (by omega) (fun q hq => by rw [lj]; exact hKb (c + q) (by omega)) (by rw [lj, show c + (K - c) = K from by omega]; exact hK)
    rw [setSearchFrom_succ]
    refine wpAny_bind (wpAny_setState_of ho hd R.holds ?_)
    dsimp only
    have ngw : ¬ t.gaveWay = true := by
      unfold SetTable.gaveWay
      rw [mask_odd R.tbl.mok]
      decide
    refine wp_if_neg ngw ?_
    try refine wpAny_bind (wpAny_pure ?_)
    rcases met with ⟨q, i, hq, hi, hh, hno, hpr⟩ | ⟨hno, hpr⟩
    · rw [lj] at hi
      have pr : t.probe (fun i => (es[i]?.map (·.1)).getD 0) (thash P w k) (stand.getD (t.probeStart (thash P w k))) =
          some (.candidate (way t.mask (thash P w k) (c + q)) i (nth t.mask (walk0 t.mask (thash P w k)) (c + (q + 1)))) := by
        rw [hst, ← lj, ← later]
        exact hpr
      rw [pr]
      dsimp only
      have il : i < L.length := by
        have z1 : i < t.place.toList.length := (List.getElem?_eq_some_iff.mp hi).1
        have z2 := R.tbl.sz
        rw [List.length_map] at z2
        rw [Array.length_toList] at z1
        omega
      obtain ⟨p, hp⟩ : ∃ p, L[i]? = some p := ⟨_, List.getElem?_eq_getElem il⟩
      have pm : p ∈ L := List.mem_of_getElem? hp
      have tail : wpAny (model P w) A (searchRest a (.ref x) (thash P w k) adding f es t (way t.mask (thash P w k) (c + q)) i (nth t.mask (walk0 t.mask (thash P w k)) (c + (q + 1)))) Q E s := by
        unfold searchRest
        rw [R.at hp]
        dsimp only
        refine wpAny_bind (wpAny_holding (wpAny_eqBool_tuple hu (R.mem p pm) hx ?_))
        refine wpAny_bind (wpAny_setState_of ho hd R.holds ?_)
        dsimp only
        have sl : t.slot (way t.mask (thash P w k) (c + q)) = .live i := slot_live R.tbl.ris hi
        by_cases same : p.2 = k
        · have there : k ∈ L.map (·.2) := List.mem_map.mpr ⟨p, pm, same⟩
          cases adding with
          | true =>
            refine wp_if_pos (by simp [same]) ?_
            exact wpAny_pure (hin there none (fun z => by cases z))
          | false =>
            refine wp_if_neg (by simp) ?_
            try refine wpAny_bind (wpAny_pure ?_)
            rw [sameMem]
            dsimp only
            simp only [if_true, sl, R.at hp]
            refine wpAny_bind (wpAny_isSame_ref_self (wpAny_bind (wpAny_pure ?_)))
            simp only [if_true]
            refine wp_if_pos (by simp [same]) ?_
            exact wpAny_pure (hin there (some i) (fun _ => rfl))
        · refine wp_if_neg (by simp [same]) ?_
          try refine wpAny_bind (wpAny_pure ?_)
          rw [sameMem]
          dsimp only
          simp only [if_true, sl, R.at hp]
          refine wpAny_bind (wpAny_isSame_ref_self (wpAny_bind (wpAny_pure ?_)))
          simp only [if_true]
          refine wp_if_neg (by simp [same]) ?_
          refine ih (c + (q + 1)) _ rfl (by omega) (by omega) fun i0 p0 h0 k0 => ?_
          obtain ⟨c', a1, a2, a3⟩ := hre i0 p0 h0 k0
          refine ⟨c', ?_, a2, a3⟩
          have ne1 : ¬ c' < c + q := fun z => by
            refine hno (c' - c) i0 (by omega) (by rw [lj, show c + (c' - c) = c' from by omega]; exact a3) ?_
            exact (hashes i0 p0 h0).trans (congrArg (thash P w) k0)
          have ne2 : c' ≠ c + q := fun z => by
            rw [z] at a3
            have s0 := slot_live R.tbl.ris a3
            rw [sl] at s0
            cases s0
            rw [hp] at h0
            exact same ((congrArg Prod.snd (Option.some.inj h0)).trans k0)
          omega
      by_cases hl : t.led = true
      · refine wp_if_neg (by simp [hl]) ?_
        try refine wpAny_bind (wpAny_pure ?_)
        exact tail
      · refine wp_if_pos (by simp [hl]) ?_
        refine wpAny_bind (seen_tup hx (fun y hy => ?_) ?_)
        · obtain ⟨e, he, ee⟩ := List.mem_map.mp hy
          have he1 : e ∈ es ∧ e.1 = thash P w k := by simpa using he
          have he2 : e ∈ es.toList := by simpa using he1.1
          rw [R.rws] at he2
          obtain ⟨p2, hp2, e2⟩ := List.mem_map.mp he2
          exact ⟨p2.2, p2.1, by rw [← ee, ← e2], R.mem p2 hp2⟩
        · refine wp_if_neg (by decide) ?_
          try refine wpAny_bind (wpAny_pure ?_)
          exact tail
    · have pr : t.probe (fun i => (es[i]?.map (·.1)).getD 0) (thash P w k) (stand.getD (t.probeStart (thash P w k))) = some (.empty (way t.mask (thash P w k) K) none) := by
        have z := hpr
        rw [lj, show c + (K - c) = K from by omega] at z
        rw [hst]
        exact z
      rw [pr]
      dsimp only
      refine wpAny_pure (hout fun hm => ?_)
      obtain ⟨p0, h0, k0⟩ := List.mem_map.mp hm
      obtain ⟨i0, hi0, e0⟩ := List.getElem_of_mem h0
      have h00 : L[i0]? = some p0 := by rw [List.getElem?_eq_getElem hi0, e0]
      obtain ⟨c', a1, a2, a3⟩ := hre i0 p0 h00 k0
      refine hno (c' - c) i0 (by omega) (by rw [lj, show c + (c' - c) = c' from by omega]; exact a3) ?_
      exact (hashes i0 p0 h00).trans (congrArg (thash P w) k0)
theorem tw_search (R : TW P w s.heap a L es ep t) {x : Addr} {k : List Int} (hx : IsT P w s.heap k x) (hu : A.units < cLine) (adding : Bool) {Q : SetFound → Shared → Prop}
    (hin : k ∈ L.map (·.2) → ∀ r : Option Nat, (adding = false → r.isSome = true) → Q (.there r) s)
    (hout : ∀ K, k ∉ L.map (·.2) → way t.mask (thash P w k) K ∉ t.place.toList → (∀ c, c < K → way t.mask (thash P w k) c ∈ t.place.toList) → Q (.free (way t.mask (thash P w k) K) false) s) :
    wpAny (model P w) A (setSearch a (.ref x) (thash P w k) adding) Q E s := by
  have fit := R.fit
  obtain ⟨K, h1, h2, h3⟩ := R.tbl.first (by rw [List.length_map]; omega) (thash P w k)
  have small : K < 100000 := by
    have z : 10 * SetTable.turns t.mask ≤ 1420 := by
      unfold SetTable.turns
      rcases R.tbl.mok with e | e | e <;> omega
    omega
  unfold setSearch
  refine tw_from R hx hu adding h1 h2 h3 hin (fun hn => hout K hn h2 h3) 100000 0 none rfl (Nat.zero_le _) (by omega) fun i p hp hk => ?_
  have hi : (L.map fun p => thash P w p.2)[i]? = some (thash P w k) := by rw [List.getElem?_map, hp, ← hk]; rfl
  have il : i < t.place.toList.length := by
    have z1 : i < L.length := (List.getElem?_eq_some_iff.mp hp).1
    have z2 := R.tbl.sz
    rw [List.length_map] at z2
    rw [Array.length_toList]
    omega
  obtain ⟨c, hc, e⟩ := R.tbl.before h2 hi (List.getElem?_eq_getElem il)
  exact ⟨c, Nat.zero_le _, hc, by rw [List.getElem?_eq_getElem il, e]⟩
end
end Sm

set_option Elab.async false
set_option linter.all false
set_option maxRecDepth 100000
set_option maxHeartbeats 2000000
namespace Sm
open PySem PySem.Spec PyProof.Rows L2
section
variable {P : Program} {w : World} {A : Around} {E : Value → Shared → Prop} {s : Shared} {a : Addr} {L : List (Addr × List Int)} {es : Array (Int × Value)} {ep : Nat} {t : SetTable}
theorem TW.of (R : SetTR P w s.heap a L es ep t) : TW P w s.heap a L es ep t := ⟨R.ob, R.rows, R.tab, R.nd, R.tup, R.plain, R.led, R.room⟩
/-- one more tuple put in -/
theorem tw_add (R : TW P w s.heap a L es ep t) {x : Addr} {k : List Int} (hx : IsT P w s.heap k x) (hu : A.units < cLine) (room : L.length < 75) (hno : k ∉ L.map (·.2)) {Q : Bool → Shared → Prop}
    (hQ : ∀ h' L' es' ep' t', Heap.SameBut a s.heap h' → TW P w h' a L' es' ep' t' → L'.Perm ((x, k) :: L) → Q true { s with heap := h' }) :
    wpAny (model P w) A (setAddHashed a (.ref x) (thash P w k)) Q E s := by
  have ⟨o, ho, hex, hd⟩ := R.obj
  have len := R.len
  have fit := R.fit
  unfold setAddHashed
  refine wpAny_holding ?_
  rw [show (100000 : Nat) = 99999 + 1 from rfl, setAddHashedIn_succ]
  refine wpAny_bind (wpAny_setState_of ho hd R.holds ?_)
  dsimp only
  refine wp_if_neg (by simp [byScan, Value.scannable]) ?_
  try refine wpAny_bind (wpAny_pure ?_)
  refine wpAny_bind (tw_search R hx hu true (fun hm => absurd hm hno) fun K _ hK hb => ?_)
  dsimp only
  refine wpAny_bind (wpAny_setState_of ho hd R.holds ?_)
  dsimp only
  obtain ⟨q1, q2, q3, q4, q5, q6, q7, q8, q9⟩ := R.tbl.put hK hb
  have pl1 : (t.put (way t.mask (thash P w k) K)).1.plain = true := by rw [q6]; exact R.pln
  generalize hpt : t.put (way t.mask (thash P w k) K) = pt at q1 q3 q4 q5 q6 q7 q8 q9 pl1 ⊢
  obtain ⟨t1, j⟩ := pt
  dsimp only at q1 q3 q4 q5 q6 q7 q8 q9 pl1 ⊢
  subst q1
  first
    | (refine wpAny_bind ?_; refine wp_if_pos pl1 ?_; refine hashBy_tup hx ?_)
    | refine wp_if_pos pl1 (wpAny_bind (hashBy_tup hx ?_))
  simp only [if_true]
  have rows1 : (SetTable.insertAt es (SetTable.below t.place (way t.mask (thash P w k) K)) (thash P w k, Value.ref x)).toList =
      rowsOf P w (L.take (SetTable.below t.place (way t.mask (thash P w k) K)) ++ (x, k) :: L.drop (SetTable.below t.place (way t.mask (thash P w k) K))) := by
    rw [SetTable.toList_insertAt, rows_put, R.rws]
  generalize hpp : SetTable.below t.place (way t.mask (thash P w k) K) = j at q2 q3 rows1 ⊢
  have pm := put_perm L j (x, k)
  have n1 : (L.take j ++ (x, k) :: L.drop j).length = L.length + 1 := pm.length_eq
  have hash1 : (L.take j ++ (x, k) :: L.drop j).map (fun p => thash P w p.2) = (L.map fun p => thash P w p.2).take j ++ thash P w k :: (L.map fun p => thash P w p.2).drop j := by
    rw [List.map_append, List.map_cons, List.map_take, List.map_drop]
  rw [← hash1] at q3
  have dif1 : ((L.take j ++ (x, k) :: L.drop j).map (·.2)).Nodup := by
    refine (pm.map (·.2)).nodup_iff.mpr ?_
    rw [List.map_cons]
    exact List.nodup_cons.mpr ⟨hno, R.dif⟩
  have z1 : (SetTable.insertAt es j (thash P w k, Value.ref x)).size = L.length + 1 := by
    have q := congrArg List.length rows1
    rw [rowsOf, Array.length_toList, List.length_map, n1] at q
    exact q
  generalize SetTable.insertAt es j (thash P w k, Value.ref x) = es1 at rows1 z1 ⊢
  generalize L.take j ++ (x, k) :: L.drop j = L1 at pm n1 q3 dif1 rows1
  refine wpAny_bind (wpAny_storeSet_of ho hd ?_ (by rw [z1, sizeLine_eq]; omega))
  have but : Heap.SameBut a s.heap (s.heap.update a (Obj.putSet es1 t1)) := Heap.SameBut.update ..
  have ho1 := store_at (es' := es1) (t' := t1) ho hd
  generalize s.heap.update a (Obj.putSet es1 t1) = h1 at but ho1 ⊢
  have mem1 : ∀ p ∈ L1, IsT P w h1 p.2 p.1 := fun p hp => by
    rcases List.mem_cons.mp (pm.mem_iff.mp hp) with e | hp
    · rw [e]; exact isT_same hx ho hd but
    · exact isT_same (R.mem p hp) ho hd but
  have ld1 : w.params.followText "set-order" = true ∨ t1.led = true := by rw [q5]; exact R.ld
  have fill1 : t1.fill = L.length + 1 := by rw [q9, List.length_map]
  by_cases full : t1.tooFull = true
  · first
      | (refine wpAny_bind ?_; refine wp_if_pos (by simp [full]) ?_)
      | (refine wp_if_pos (by simp [full]) ?_; refine wpAny_bind ?_)
    have over : (L.length + 1) * 5 ≥ t1.mask * 3 := by
      have q := full
      simp only [SetTable.tooFull, decide_eq_true_eq, fill1] at q
      exact q
    rw [len]
    have place1 : t1.place.size = es1.size := by rw [q3.sz, List.length_map, n1, z1]
    have which : (t.mask = 7 ∧ L.length = 4) ∨ (t.mask = 31 ∧ L.length = 18) := by
      rcases R.tbl.mok with e | e | e
      · rw [q4, e] at over; rw [e] at fit; exact .inl ⟨e, by omega⟩
      · rw [q4, e] at over; rw [e] at fit; exact .inr ⟨e, by omega⟩
      · exfalso; rw [q4, e] at over; omega
    have grow : ∀ M, SetTable.sizeAbove (SetTable.grown (L.length + 1)) - 1 = M → MaskOk M → SetTable.sizeAbove (SetTable.grown (L.length + 1)) ≤ 128 → (L.length + 1) * 5 < M * 3 →
        wpAny (model P w) A (setRelay a (SetTable.grown (L.length + 1))) (fun _ s' => wpAny (model P w) A (pure true) Q E s') E { s with heap := h1 } := fun M m1 m2 m3 m4 => by
      refine relay_at (s := { s with heap := h1 }) ho1 ⟨hex.1, hex.2.1, hex.2.2⟩ rfl rows1 place1 q3.dm (by rw [z1, q4]; rcases which with ⟨e, e2⟩ | ⟨e, e2⟩ <;> omega) dif1 mem1 pl1 ld1 (by omega) m1 m2 m3 (by rw [n1]; exact m4) ?_
      intro h2 L2 es2 ep2 t2 but2 R2 pm2
      exact wpAny_pure (hQ h2 L2 es2 ep2 t2 (but.trans but2) ⟨R2.ob, R2.rows, R2.tab, R2.nd, R2.tup, R2.plain, R2.led, R2.room⟩ (pm2.trans pm))
    rcases which with ⟨_, e2⟩ | ⟨_, e2⟩
    · exact grow 31 (by rw [e2, size_20]) (.inr (.inl rfl)) (by rw [e2, size_20]; decide) (by omega)
    · exact grow 127 (by rw [e2, size_76]) (.inr (.inr rfl)) (by rw [e2, size_76]; decide) (by omega)
  · first
      | refine wp_if_neg (by simp [full]) ?_
      | (refine wpAny_bind ?_; refine wp_if_neg (by simp [full]) ?_; refine wpAny_pure ?_)
    refine wpAny_pure (hQ h1 L1 es1 (ep + 1) t1 but ⟨⟨_, ho1, ⟨hex.1, hex.2.1, hex.2.2⟩, rfl⟩, rows1, q3, dif1, mem1, pl1, ld1, ?_⟩ pm)
    have q := full
    simp only [SetTable.tooFull, decide_eq_true_eq, fill1] at q
    rw [n1]
    omega
/-- set.add(t), t not yet in -/
theorem tw_call_add (R : TW P w s.heap a L es ep t) {x : Addr} {k : List Int} (hx : IsT P w s.heap k x) (hu : A.units + 8 < cLine) (room : L.length < 75) (hno : k ∉ L.map (·.2)) {Q : Value → Shared → Prop}
    (hQ : ∀ h' tk L' es' ep' t', Heap.SameBut a s.heap h' → TW P w h' a L' es' ep' t' → L'.Perm ((x, k) :: L) → Q .none { s with heap := h', toks := tk }) :
    wpAny (model P w) A (call (.builtin "set.add") [.ref a, .ref x]) Q E s := by
  have ⟨o, ho, hex, hd⟩ := R.obj
  have ty : s.TypeIs (.ref a) "set" := ⟨o, ho, hex.1⟩
  refine wpAny_call_entry F.slot_set_add ty F.entry_set_add ?_ (F.args_set_add_2 _ _)
  unfold Builtin.«set.add» Builtin.Frozenset.oneOther
  simp only [List.isEmpty_nil, bind_assoc]
  unfold Builtin.Frozenset.addrOf setAdd
  refine wpAny_bind (wpAny_pure ?_)
  try dsimp only
  refine wpAny_bind (wpAny_pure ?_)
  try dsimp only
  refine wpAny_bind ?_
  refine wpAny_holding ?_
  refine wpAny_bind (wpAny_pyHash_tuple (knd := intKind P w) (by show A.units + _ < cLine; omega) hx ?_)
  refine tw_add (s := { s with toks := s.toks + (k.length + 1) }) ⟨R.obj, R.rws, R.tbl, R.dif, R.mem, R.pln, R.ld, R.fit⟩ hx (by show A.units + _ < cLine; omega) room hno fun h' L' es' ep' t' b1 b2 b3 => ?_
  show wpAny _ _ (ret Value.none) _ _ _
  exact wpAny_pure ⟨_, rfl, hQ h' (s.toks + (k.length + 1)) L' es' ep' t' b1 b2 b3⟩
/-- t in set -/
theorem tw_in (R : TW P w s.heap a L es ep t) {x : Addr} {k : List Int} (hx : IsT P w s.heap k x) (hu : A.units + 8 < cLine) {Q : Value → Shared → Prop}
    (hQ : ∀ tk, Q (.bool (decide (k ∈ L.map (·.2)))) { s with toks := tk }) :
    wpAny (model P w) A (compareOp .In (.ref x) (.ref a)) Q E s := by
  have ⟨o, ho, hex, hd⟩ := R.obj
  have ty : s.TypeIs (.ref a) "set" := ⟨o, ho, hex.1⟩
  show wpAny _ _ (do return .bool (← contains (.ref a) (.ref x))) Q E s
  refine wpAny_bind ?_
  unfold contains
  try with_reducible refine wpAny_holding ?_
  refine wpAny_bind (wpAny_specialOf ty F.slot_set_contains.lookup ?_)
  show wpAny _ _ (if (some (Value.builtin "set.__contains__") == some Value.none) = true then _ else _) _ E s
  rw [if_neg (by rw [beq_builtin_none]; exact Bool.false_ne_true)]
  refine wpAny_bind (wpAny_callSpecialUnlessNone?_slot (name := Str.ofString "__contains__") ty F.slot_set_contains
    (wpAny_call_entry F.slot_set_contains ty entry_set_contains ?_ (F.args_set_contains_2 _ _)))
  unfold Builtin.«frozenset.__contains__» Builtin.Frozenset.oneOther
  simp only [List.isEmpty_nil, bind_assoc]
  unfold Builtin.Frozenset.addrOf Builtin.Frozenset.withSetAsKey setContains
  refine wpAny_bind (wpAny_pure ?_)
  try dsimp only
  refine wpAny_bind (wpAny_pure ?_)
  try dsimp only
  refine wpAny_bind (wpAny_tryCatch ?_)
  refine wpAny_holding ?_
  refine wpAny_bind (wpAny_pyHash_tuple (knd := intKind P w) (by show A.units + _ < cLine; omega) hx ?_)
  have R1 : TW P w ({ s with toks := s.toks + (k.length + 1) } : Shared).heap a L es ep t := ⟨R.obj, R.rws, R.tbl, R.dif, R.mem, R.pln, R.ld, R.fit⟩
  have fin : ∀ r : Option Nat, r.isSome = decide (k ∈ L.map (·.2)) → ∀ (E' : Value → Shared → Prop) (A' : Around) (Q' : Value → Shared → Prop), (∀ tk, Q' (.bool (decide (k ∈ L.map (·.2)))) { s with toks := tk }) → Q' (.bool r.isSome) { s with toks := s.toks + (k.length + 1) } := fun r e _ _ _ q => by
    rw [e]; exact q _
  unfold setFind
  rw [show (100000 : Nat) = 99999 + 1 from rfl]
  unfold setFindIn
  refine wpAny_bind (wpAny_bind (wpAny_setState_of ho hd R1.holds ?_))
  dsimp only
  refine wp_if_neg (by simp [byScan, Value.scannable]) ?_
  try refine wpAny_bind (wpAny_pure ?_)
  refine wpAny_bind (tw_search R1 hx (by show A.units + _ < cLine; omega) false (fun hm r hr => ?_) fun K hm _ _ => ?_)
  · dsimp only
    refine wpAny_pure (wpAny_pure ?_)
    show wpAny _ _ (ret (Value.bool r.isSome)) _ _ _
    rw [hr rfl, show true = decide (k ∈ L.map (·.2)) from (decide_eq_true hm).symm]
    exact wpAny_pure ⟨_, rfl, wpAny_truthy_bool (wpAny_pure (hQ _))⟩
  · dsimp only
    refine wpAny_pure (wpAny_pure ?_)
    show wpAny _ _ (ret (Value.bool false)) _ _ _
    rw [show false = decide (k ∈ L.map (·.2)) from (decide_eq_false hm).symm]
    exact wpAny_pure ⟨_, rfl, wpAny_truthy_bool (wpAny_pure (hQ _))⟩
end
end Sm

set_option Elab.async false
set_option linter.all false
set_option maxRecDepth 100000
set_option maxHeartbeats 2000000
namespace Sm
open PySem PySem.Spec PyProof.Rows L2
/-- the set without its members' own objects -/
structure TW0 (P : Program) (w : World) (h : Heap) (a : Addr) (L : List (Addr × List Int)) : Prop where
  ex : ∃ (es : Array (Int × Value)) (ep : Nat) (t : SetTable), (∃ o, h.get? a = some o ∧ o.ExactSet ∧ o.data = .set es ep t) ∧ es.toList = rowsOf P w L ∧ TabOk t (L.map fun p => thash P w p.2) ∧
    (L.map (·.2)).Nodup ∧ t.plain = true ∧ (w.params.followText "set-order" = true ∨ t.led = true) ∧ L.length * 5 < t.mask * 3
def TSet (P : Program) (w : World) (a : Addr) (L : List (Addr × List Int)) : HO := .ext fun h => TW0 P w h a L
theorem TW.bare {P : Program} {w : World} {h : Heap} {a : Addr} {L : List (Addr × List Int)} {es : Array (Int × Value)} {ep : Nat} {t : SetTable} (R : TW P w h a L es ep t) : TW0 P w h a L :=
  ⟨es, ep, t, R.obj, R.rws, R.tbl, R.dif, R.pln, R.ld, R.fit⟩
theorem TW0.with {P : Program} {w : World} {h : Heap} {a : Addr} {L : List (Addr × List Int)} (R : TW0 P w h a L) (hm : ∀ p ∈ L, IsT P w h p.2 p.1) : ∃ es ep t, TW P w h a L es ep t := by
  obtain ⟨es, ep, t, h1, h2, h3, h4, h5, h6, h7⟩ := R.ex
  exact ⟨es, ep, t, h1, h2, h3, h4, hm, h5, h6, h7⟩
theorem tset_ok {P : Program} {w : World} {H : Hp} {h : Heap} {a : Addr} {L : List (Addr × List Int)} (R : TW0 P w h a L) : ObjOk P w H h a (TSet P w a L) := by
  have ⟨es, ep, t, ⟨o, ho, r⟩, q⟩ := R.ex
  refine ⟨R, ⟨o, ho⟩, fun h1 h2 p k => ?_⟩
  have ⟨es', ep', t', ⟨o', ho', r'⟩, q'⟩ := TW0.ex p
  exact ⟨es', ep', t', ⟨o', k o' ho', r'⟩, q'⟩
section
variable {X : Cx} {pins : List (Addr × Obj)} {σ : L2.St} {H : Hp} {s : Shared}
theorem tset_get {a : Addr} {L : List (Addr × List Int)} (I : Inv X pins σ H s) (ha : H a = some (TSet X.prog X.w a L)) (hm : ∀ p ∈ L, SqT X.K H p.1 (p.2.map V.int)) : ∃ es ep t, TW X.prog X.w s.heap a L es ep t :=
  TW0.with (I.hok a _ ha).1 fun p hp => I.isT (hm p hp)
/-- set() -/
def rSet0T (P : Program) (w : World) : List V → Hp → VK → Prop := fun xs H Q => xs = [] ∧ ∀ p, H p = none → Q (.ref p) (upd H p (TSet P w p []))
theorem cr_set0T : CallR X (.type "set") (rSet0T X.prog X.w) := by
  intro pins s σ H xs us Q I r h
  obtain ⟨rfl, q⟩ := h
  cases r
  refine setR_new fun _ => ?_
  have R : TW X.prog X.w (s.heap.push { cls := .type "set", dict := none, data := .set #[] 0 (.fresh 0 0 (!X.w.params.followText "set-order")) }) s.heap.objs.size [] #[] 0 (.fresh 0 0 (!X.w.params.followText "set-order")) := by
    have S := setTR_fresh (P := X.prog) (w := X.w) (Heap.get?_push_size s.heap (o := { cls := .type "set", dict := none, data := .set #[] 0 (.fresh 0 0 (!X.w.params.followText "set-order")) }) rfl)
    exact ⟨S.ob, S.rows, S.tab, S.nd, S.tup, S.plain, S.led, S.room⟩
  exact ⟨.ref _, upd H s.heap.objs.size (TSet X.prog X.w s.heap.objs.size []), I.laid (t' := s.toks) (fun b u e => Heap.get?_push_of_some _ e) (Nat.le_refl _) (tset_ok R.bare), rfl, q _ (I.hok.fresh (Nat.le_refl _))⟩
/-- s.add(t), t not yet a member -/
def rAddT (K : PySem.W.Frag) (P : Program) (w : World) : V → List V → Hp → VK → Prop := fun x xs H Q => ∃ (a b : Addr) (k : List Int) (L : List (Addr × List Int)), x = V.ref a ∧ xs = [V.ref b] ∧ H a = some (TSet P w a L) ∧
  (∀ p ∈ L, SqT K H p.1 (p.2.map V.int)) ∧ SqT K H b (k.map V.int) ∧ L.length < 75 ∧ k ∉ L.map (·.2) ∧ ∀ L' : List (Addr × List Int), L'.Perm ((b, k) :: L) → Q .non (upd H a (TSet P w a L'))
theorem mt_addT (hu : X.A.units + 64 < cLine) : MtR X "set.add" (rAddT X.K X.prog X.w) := by
  intro pins s σ H x xs v us Q I rx rxs h
  obtain ⟨a, b, k, L, rfl, rfl, ha, hm, hb, room, hno, q⟩ := h
  cases rx
  cases rxs with
  | cons ry rt =>
    cases rt
    cases ry
    obtain ⟨es, ep, t, R⟩ := tset_get I ha hm
    refine tw_call_add R (I.isT hb) (by omega) room hno fun h' tk L' es' ep' t' sb R' pm => ?_
    have he : ∃ u, h'.get? a = some u := by
      obtain ⟨o, ho, _⟩ := R'.obj
      exact ⟨o, ho⟩
    exact ⟨.non, upd H a (TSet X.prog X.w a L'), I.write (e := a) (t' := tk) (by rw [ha]; trivial) (.inl rfl) (fun b u hb hu => (sb.2 b hb).trans hu) he (tset_ok R'.bare), rfl, q L' pm⟩
def tAddT (K : PySem.W.Frag) (P : Program) (w : World) (to : TE) (t : TA) : TE := fun σ H Q => to σ H fun x H1 => (∃ a L, x = V.ref a ∧ H1 a = some (TSet P w a L)) ∧ t σ H1 fun xs H2 => rAddT K P w x xs H2 Q
variable {o e : Expr} {es : List Expr} {to : TE} {t : TA} {apos cpos : Pos}
theorem pe_addT (hu : X.A.units + 64 < cLine) (ho : PE X o to) (ha : PA X (e :: es) t)
    (h1 : attributeBase o "add" X.env (eval o X.env) = eval o X.env := by rfl)
    (h2 : ((backTo cpos (starEach (e :: es) X.env)).all (fun x => !x.1) && (backToKw cpos (keywordEach [] X.env)).all (fun x => x.1.isSome)
      && decide ((e :: es).length + ([] : List Keyword).length + (if ([] : List Keyword).isEmpty then 0 else 1) < 30)) = true := by rfl)
    (h3 : (apos.endLine == cpos.line) = true := by rfl) (h4 : starEach (e :: es) X.env = (false, eval e X.env) :: starEach es X.env := by rfl) (h5 : (backTo cpos (starEach es X.env)).any (·.1) = false := by rfl) :
    PE X (.Call (.Attribute o "add" apos) (e :: es) [] cpos) (tAddT X.K X.prog X.w to t) := by
  refine ⟨fun pins s σ H Q I h => ?_⟩
  refine wpAny_Call_method_late h1 h2 h3 rfl (thn (ho.run pins s σ H _ I h) fun v s1 ⟨x, H1, I1, r1, ty, q1⟩ => ?_)
  obtain ⟨a, L, rfl, hka⟩ := ty
  obtain ⟨es0, ep0, t0, ⟨ob, hob, hex, hdt⟩, _⟩ := (show TW0 X.prog X.w s1.heap a L from (I1.hok a _ hka).1).ex
  cases r1
  refine ⟨"set", "set.add", F.plainAttrs_set, F.slot_set_add, F.type_set_add, ⟨ob, hob, hex.1⟩, fun b e => by cases e; exact ⟨ob, hob, hex.2.1⟩, ?_⟩
  have hA := ha.run cpos pins s1 σ H1 _ I1 q1
  rw [h4] at hA ⊢
  refine Calls.callWith_builtin (by show (false || (backTo cpos (starEach es X.env)).any (·.1)) = false; rw [h5] <;> rfl) (Calls.evalArgs_plain ?_)
  exact thn hA fun us s2 ⟨vs, H2, I2, r2, q2⟩ => mt_addT hu pins s2 σ H2 (.ref a) vs (.ref a) us Q I2 rfl r2 q2
/-- t in s -/
def rInT (K : PySem.W.Frag) (P : Program) (w : World) : V → V → Hp → VK → Prop := fun x y H Q => ∃ (b a : Addr) (k : List Int) (L : List (Addr × List Int)), x = V.ref b ∧ y = V.ref a ∧ H a = some (TSet P w a L) ∧
  (∀ p ∈ L, SqT K H p.1 (p.2.map V.int)) ∧ SqT K H b (k.map V.int) ∧ Q (.bl (decide (k ∈ L.map (·.2)))) H
theorem or_inT (hu : X.A.units + 64 < cLine) : OpR X (compareOp .In) (rInT X.K X.prog X.w) := by
  intro pins s σ H x y v u Q I rx ry h
  obtain ⟨b, a, k, L, rfl, rfl, ha, hm, hb, q⟩ := h
  cases rx
  cases ry
  obtain ⟨es, ep, t, R⟩ := tset_get I ha hm
  exact tw_in R (I.isT hb) (by omega) fun tk => ⟨.bl _, H, I.tok _, rfl, q⟩
/-- sorted(s), the members pairs of ints: the keys in ascending order -/
def pairOf (k : List Int) : Int × Int := (k.getD 0 0, k.getD 1 0)
def rSortT (K : PySem.W.Frag) (P : Program) (w : World) : List V → Hp → VK → Prop := fun vs H Q => ∃ (a : Addr) (L : List (Addr × List Int)), vs = [V.ref a] ∧ H a = some (TSet P w a L) ∧ (∀ p ∈ L, SqT K H p.1 (p.2.map V.int)) ∧ (∀ p ∈ L, p.2.length = 2) ∧
  ∀ (L' : List (Addr × List Int)) (p : Addr), L'.Perm L → L'.Pairwise (fun q r => SrtO.lexB (pairOf q.2) (pairOf r.2) = true) → H p = none → Q (.ref p) (upd H p (.lst (L'.map fun q => V.ref q.1)))
end
section
variable {P : Program} {w : World} {A : Around} {E : Value → Shared → Prop} {s : Shared}
theorem tw_sorted {a : Addr} {L : List (Addr × List Int)} {es : Array (Int × Value)} {ep : Nat} {t : SetTable} {Q : Value → Shared → Prop} (R : TW P w s.heap a L es ep t) (hh : A.handled = none) (two : ∀ p ∈ L, p.2.length = 2)
    (hQ : ∀ s' p (out : List Value) (c : Nat) (L' : List (Addr × List Int)), (∀ b o, s.heap.get? b = some o → s'.heap.get? b = some o) → s'.gens = s.gens → s'.os = s.os → s.heap.objs.size ≤ p →
      s'.heap.get? p = some (seqObj "list" out.toArray c) → out = L'.map (fun q => Value.ref q.1) → L'.Perm L → L'.Pairwise (fun q r => SrtO.lexB (pairOf q.2) (pairOf r.2) = true) → Q (.ref p) s') :
    wpAny (model P w) A (call (.builtin "sorted") [.ref a]) Q E s := by
  have ⟨o, ho, hex, hd⟩ := R.obj
  have len := R.len
  have few := R.few
  refine Calls.call_function_entry kind_sorted plain_sorted entry_sorted (args_sorted1 _) ?_
  unfold Builtin.«sorted»
  refine wpAny_bind (m := checkCount "sorted" 1 1 _) (wpAny_pure ?_)
  refine wpAny_bind (collect_set (A := A.in1) hh ⟨o, ho, hex.1, hd⟩ R.holds (by unfold scanBound; omega) R.tbl.ris R.ld fun s1 vs k1 hz g1 o1 pm => ?_)
  have vals : es.toList.map (·.2) = L.map fun q => Value.ref q.1 := by
    rw [R.rws, rowsOf, List.map_map]
    rfl
  rw [vals] at pm
  have pick : ∀ vs : List Value, (∀ v ∈ vs, ∃ q ∈ L, v = Value.ref q.1) → ∃ M : List (Addr × List Int), vs = M.map (fun q => Value.ref q.1) ∧ ∀ q ∈ M, q ∈ L := by
    intro vs
    induction vs with
    | nil => exact fun _ => ⟨[], rfl, fun q hq => nomatch hq⟩
    | cons v vs ih =>
      intro hv
      obtain ⟨q, hq, e⟩ := hv v List.mem_cons_self
      obtain ⟨M, e1, hs⟩ := ih fun u hu => hv u (List.mem_cons_of_mem _ hu)
      exact ⟨q :: M, by rw [List.map_cons, e, e1], fun r hr => (List.mem_cons.mp hr).elim (fun z => z ▸ hq) (hs r)⟩
  have inj : ∀ q ∈ L, ∀ r ∈ L, q.1 = r.1 → q = r := fun q hq r hr e => by
    have a1 := R.mem q hq
    rw [e] at a1
    exact Prod.ext e (a1.inj (R.mem r hr))
  have ndL : L.Nodup := nodup_of_map R.dif
  have back : ∀ M : List (Addr × List Int), (∀ q ∈ M, q ∈ L) → (M.map (fun q => Value.ref q.1)).Perm (L.map fun q => Value.ref q.1) → M.Perm L := by
    intro M hs pm1
    have nref : (L.map fun q => Value.ref q.1).Nodup := by
      refine List.pairwise_map.mpr (List.Pairwise.imp_of_mem (fun {q r} hq hr hne e => ?_) ndL)
      exact hne (inj q hq r hr (Value.ref.inj e))
    have nM : M.Nodup := nodup_of_map (pm1.nodup_iff.mpr nref)
    refine (List.perm_ext_iff_of_nodup nM ndL).mpr fun q => ⟨hs q, fun hq => ?_⟩
    obtain ⟨r, hr, e⟩ := List.mem_map.mp (pm1.mem_iff.mpr (List.mem_map.mpr ⟨q, hq, rfl⟩))
    rw [← inj r (hs r hr) q hq (Value.ref.inj e)]
    exact hr
  have vlen : vs.length = L.length := by rw [pm.length_eq, List.length_map]
  refine wpAny_bind (wpAny_newList ?_ (by rw [vlen, sizeLine_eq]; omega))
  have hoL : (s1.heap.push (seqObj "list" vs.toArray 0)).get? s1.heap.objs.size = some (seqObj "list" vs.toArray 0) := Heap.get?_push_size _ rfl
  -- which pair of ints a value is
  have keyed : ∃ k : Value → Int × Int, ∀ q ∈ L, k (.ref q.1) = pairOf q.2 := by
    refine ⟨fun v => match v with | .ref b => (match L.find? (fun q => q.1 == b) with | some q => pairOf q.2 | none => (0, 0)) | _ => (0, 0), fun q hq => ?_⟩
    dsimp only
    cases e : L.find? (fun r => r.1 == q.1) with
    | none =>
      exact absurd (beq_self_eq_true q.1) (by simpa using List.find?_eq_none.mp e q hq)
    | some r =>
      have e1 : r.1 = q.1 := by simpa using List.find?_some e
      have e2 : r ∈ L := List.mem_of_find?_eq_some e
      rw [inj r e2 q hq e1]
  obtain ⟨k, hk⟩ := keyed
  have isPair : ∀ v ∈ vs, Srt.IsPair (s1.heap.push (seqObj "list" vs.toArray 0)) v (k v).1 (k v).2 := fun v hv => by
    obtain ⟨q, hq, e⟩ := List.mem_map.mp (pm.mem_iff.mp hv)
    rw [← e, hk q hq]
    obtain ⟨o', items, n, h1, h2, h3, h4⟩ := R.mem q hq
    have l2 := two q hq
    match hq2 : q.2, l2 with
    | [x, y], _ =>
      rw [hq2] at h4
      generalize hit : items.toList = il at h4
      cases h4 with
      | @cons _ v1 _ r1 z1 z2 =>
        cases z2 with
        | @cons _ v2 _ r2 z3 z4 =>
          cases z4
          obtain ⟨t1, rfl⟩ := Value.isInt_shape z1
          obtain ⟨t2, rfl⟩ := Value.isInt_shape z3
          refine ⟨q.1, o', t1, t2, n, rfl, Heap.get?_push_of_some _ (k1 _ _ h1), h2, ?_⟩
          rw [h3]
          have : items = #[Value.int x t1, Value.int y t2] := by
            apply Array.ext'
            rw [hit]
          rw [this]
          rfl
  refine wpAny_bind (wpAny_holding (wpAny_call_entry slot_list_sort ⟨_, hoL, rfl⟩ entry_list_sort (SrtO.list_sort_ord (s := { s1 with heap := s1.heap.push (seqObj "list" vs.toArray 0) }) (SrtO.swo_lex k) hoL (by rw [vlen, sizeLine_eq]; omega)
    (fun h2 => SrtO.pairs_sortableO (by omega) isPair fun o e => ?_) fun out hs hb => ⟨_, rfl, ?_⟩) (args_list_sort _)))
  · have e' : some o = some (seqObj "list" vs.toArray 0) := e.symm.trans hoL
    cases e'
    intro c
    exact absurd (Value.type.inj c) (by decide)
  · obtain ⟨c, hc⟩ := sortedHeap_at (vs := vs) (out := out.toArray) hoL
    obtain ⟨M, e', hsub⟩ := pick out fun v hv => by
      obtain ⟨q, hq, e⟩ := List.mem_map.mp (pm.mem_iff.mp (hb.perm.mem_iff.mp hv))
      exact ⟨q, hq, e.symm⟩
    have pL : M.Perm L := back M hsub (by rw [← e']; exact hb.perm.trans pm)
    have pw : M.Pairwise (fun q r => SrtO.lexB (pairOf q.2) (pairOf r.2) = true) := by
      have z : (M.map (fun q => Value.ref q.1)).Pairwise (fun x y => SrtO.lexB (k y) (k x) = false) := by rw [← e']; exact hs
      have ndM : M.Nodup := pL.nodup_iff.mpr ndL
      have both := List.Pairwise.and (List.pairwise_map.mp z) ndM
      refine List.Pairwise.imp_of_mem (fun {q r} hq hr hle => ?_) both
      obtain ⟨h1, h2⟩ := hle
      have mq := hsub q hq
      have mr := hsub r hr
      rw [hk q mq, hk r mr] at h1
      have n1 := SrtO.lexB_no.mp h1
      refine SrtO.lexB_iff.mpr ?_
      by_cases c1 : (pairOf q.2).1 = (pairOf r.2).1
      · by_cases c2 : (pairOf q.2).2 = (pairOf r.2).2
        · exfalso
          have l1 := two q mq
          have l2 := two r mr
          have ek : q.2 = r.2 := by
            match e1 : q.2, e2 : r.2, l1, l2 with
            | [x, y], [x', y'], _, _ =>
              rw [e1, e2] at c1 c2
              have d1 : x = x' := c1
              have d2 : y = y' := c2
              rw [d1, d2]
          have nd2 : (L.map (·.2)).Nodup := R.dif
          have : q = r := by
            by_cases hqr : q = r
            · exact hqr
            · exact absurd ek (fun z => by
                have w1 := (List.pairwise_map.mp nd2)
                exact hqr (by
                  obtain ⟨i, hi, ei⟩ := List.getElem_of_mem mq
                  obtain ⟨j, hj, ej⟩ := List.getElem_of_mem mr
                  have g := List.pairwise_iff_getElem.mp w1
                  rcases Nat.lt_trichotomy i j with c | c | c
                  · exact absurd z (by have := g i j hi hj c; rw [ei, ej] at this; exact this)
                  · subst c; rw [← ei, ← ej]
                  · exact absurd z.symm (by have := g j i hj hi c; rw [ei, ej] at this; exact this)))
          exact h2 this
        · exact .inr ⟨c1, by omega⟩
      · exact .inl (by omega)
    refine wpAny_pure ⟨_, rfl, hQ _ s1.heap.objs.size out c M (fun b u e => ?_) g1 o1 hz hc e' pL pw⟩
    have q := k1 b u e
    have hlt := Heap.lt_size q
    show (sortedHeap (s1.heap.push (seqObj "list" vs.toArray 0)) s1.heap.objs.size vs out.toArray).get? b = some u
    rw [sortedHeap_old (Nat.ne_of_lt hlt) (by rw [size_push']; exact Nat.lt_succ_of_lt hlt)]
    exact Heap.get?_push_of_some _ q
end
section
variable {X : Cx}
theorem cr_sortT2 (hc : X.calm = true) : CallR X (.builtin "sorted") (rSortT X.K X.prog X.w) := by
  intro pins s σ H vs us Q I r h
  obtain ⟨a, L, rfl, ha, hm, two, q⟩ := h
  obtain ⟨es, ep, t, R⟩ := tset_get I ha hm
  rw [Vals.ref1 r]
  refine tw_sorted R (I.ok.hd hc) two fun s' p out c L' k g o hp hg hout pm pw => ?_
  have few : L'.length ≤ 76 := by rw [pm.length_eq]; exact R.few
  have hlen : (L'.map fun q => V.ref q.1).length ≤ sizeLine := by rw [List.length_map, sizeLine_eq]; omega
  have hn : H p = none := I.hok.fresh hp
  have hv : Vals (L'.map fun q => V.ref q.1) out := by rw [hout]; exact vals_of_refs L'
  have J : Inv X pins σ (upd H p (.lst (L'.map fun q => V.ref q.1))) { s with heap := s'.heap, gens := s'.gens, drawn := s'.drawn, toks := s'.toks } :=
    I.call (ch := []) (Un.laid k hp hn) (I.hok.laid k hp ⟨hlen, out, c, hv, hg⟩) (by rw [g]; exact I.bare) (fun _ z => nomatch z)
  have e : s' = { s with heap := s'.heap, gens := s'.gens, drawn := s'.drawn, toks := s'.toks } := by
    cases s'
    cases s
    cases o
    rfl
  rw [e]
  exact ⟨.ref p, _, J, rfl, q L' p pm pw hn⟩
end
end Sm

set_option Elab.async false
set_option linter.all false
set_option maxRecDepth 100000
set_option maxHeartbeats 2000000
/-! {e}: a set displayed with one number; a def's body that knows its code object. -/
namespace Sm
open PySem PySem.Spec PyProof.Rows L2
theorem kds_of_code {K : PySem.W.Frag} {cd : Value} {q : Str} (h : PySem.W.codeIn K cd q = true) : PySem.W.kdsCode K cd = true := by
  unfold PySem.W.codeIn at h
  unfold PySem.W.kdsCode
  split at h
  · split at h
    · rename_i e
      dsimp only
      rw [e]
    · cases h
  · cases h
section
variable {X : Cx} {e : Expr} {te : TE} {pos : Pos}
def tSet1 (w : World) (te : TE) : TE := fun σ H Q => ∀ p, H p = none → te σ (upd H p (SetO w p (fun _ => false) 0)) fun x H1 => ∃ i, x = .int i ∧ H1 p = some (SetO w p (fun _ => false) 0) ∧ Q (.ref p) (upd H1 p (SetO w p (fun j => decide (j = i)) 1))
theorem pe_set1 (he : PE X e te) (hcd : PySem.W.kdsCode X.K X.env.code = true) (hs : starEach [e] X.env = [(false, eval e X.env)] := by rfl) : PE X (.Set [e] 0 pos) (tSet1 X.w te) := by
  refine ⟨fun pins s σ H Q I h => ?_⟩
  rw [arm_eval_Set]
  refine wpAny_bind (wpAny_standAt ?_)
  refine wpAny_bind (PySem.W.kds_main I.kIn hcd fun b => ?_)
  rw [hs]
  show wpAny _ _ (setDisplay .oneByOne b [(false, do let v ← eval e X.env; standAt pos; pure v)]) _ _ _
  unfold setDisplay
  try dsimp only
  rw [if_neg (by decide)]
  refine wpAny_bind (PySem.wpAny_newSet_raw fun led hled => ?_)
  subst hled
  dsimp only
  have new : SetR X.w (s.heap.push { cls := .type "set", dict := none, data := .set #[] 0 (.fresh 0 0 (!X.w.params.followText "set-order")) }) s.heap.objs.size (fun _ => false) 0 := setR_fresh X.w
  have I1 : Inv X pins σ (upd H s.heap.objs.size (SetO X.w s.heap.objs.size (fun _ => false) 0)) { s with heap := s.heap.push { cls := .type "set", dict := none, data := .set #[] 0 (.fresh 0 0 (!X.w.params.followText "set-order")) } } :=
    I.laid (t' := s.toks) (fun b u e => Heap.get?_push_of_some _ e) (Nat.le_refl _) (setO_new new)
  have h1 := h s.heap.objs.size (I.hok.fresh (Nat.le_refl _))
  have hn : ∀ u : Sem Value, (if [(false, u)].length > 30 then 0 else (List.findIdx? (fun (x : Bool × Sem Value) => x.1) [(false, u)]).getD [(false, u)].length) = 1 := fun u => by simp
  rw [hn]
  refine wpAny_bind (wpAny_holding ?_)
  refine wpAny_bind ?_
  show wpAny _ _ ((eval e X.env >>= fun v => standAt pos >>= fun _ => pure v) >>= fun v => holding [v] (evalAll []) >>= fun r => pure (v :: r)) _ _ _
  refine wpAny_bind (wpAny_bind (thn (he.run pins _ σ _ _ I1 h1) fun v s2 ⟨x, H2, I2, rx, i, ex, hp, q⟩ => ?_))
  subst ex
  obtain ⟨tk, rfl⟩ := rx
  refine wpAny_bind (wpAny_standAt (wpAny_pure ?_))
  refine wpAny_bind (wpAny_holding (wpAny_pure (wpAny_pure ?_)))
  refine wpAny_bind (wpAny_holding ?_)
  have R := setO_get I2 hp
  have fin : ∀ s', (∃ h', Heap.SameBut s.heap.objs.size s2.heap h' ∧ SetR X.w h' s.heap.objs.size (fun j => decide (j = i)) 1 ∧ s' = { s2 with heap := h', toks := s2.toks + 1 }) → EP X pins σ Q (.ref s.heap.objs.size) s' := by
    rintro s' ⟨h', sb, r, rfl⟩
    have he' : ∃ u, h'.get? s.heap.objs.size = some u := by
      have ⟨o, _, _, _, ho, _⟩ := r
      exact ⟨o, ho⟩
    exact ⟨.ref s.heap.objs.size, _, I2.write (e := s.heap.objs.size) (t' := s2.toks + 1) (by rw [hp]; trivial) (.inl rfl) (fun b u hb hu => (sb.2 b hb).trans hu) he' (setO_new r), rfl, q⟩
  refine wpAny_bind ?_
  rw [List.forIn_cons]
  refine wpAny_bind (wpAny_bind ?_)
  unfold setAdd
  refine wpAny_holding ?_
  refine wpAny_bind ((intKind X.prog X.w).pyHash (intKind_is X.prog X.w i tk) ?_)
  refine setR_add_hashed (s := { s2 with toks := s2.toks + 1 }) R (by unfold scanBound; omega) fun h' sb r => ?_
  refine wpAny_pure ?_
  dsimp only
  rw [List.forIn_nil]
  refine wpAny_pure ?_
  rw [if_neg (by decide)]
  refine wpAny_pure ?_
  refine wpAny_bind ?_
  show wpAny _ _ (forIn ([] : List (Bool × Sem Value)) PUnit.unit _) _ _ _
  rw [List.forIn_nil]
  refine wpAny_pure (wpAny_pure (wpAny_pure (fin _ ⟨h', sb, r, rfl⟩)))
end
section
variable {P : Program} {w : World} {K : PySem.W.Frag} {mg : Str → Option Value} {base : Heap}
/-- a def's body, its code object known -/
theorem okXc {x qual : Str} {st : Stmt} {f : Addr} {fd : FuncData} {N ps : List Str} {k : Nat} {sp : Sp} (F : Fun K x qual st f fd) (S : FnScope N ps (defScope st)) (len : ∀ vs H Q E, sp vs H Q E → vs.length = ps.length)
    (hbody : ∀ (cdv : Value) (A : Around) (outer : List Env) (s : Shared) (H : Hp) (vs : List V) (Q : VK) (E : XK), PySem.W.kdsCode K cdv = true → Room k (A.deeper (envOfC qual (defScope st) s.heap.objs.size f cdv)) → sp vs H Q E →
      ∃ t, PSs (cxOf (L2.CX P w) P w K mg base N qual (defScope st) f cdv A outer s H E) (defBody st) t ∧ t { nx := fun _ H' => Q .non H', rt := Q } (start N vs) H) : FnOk P w K mg base (L2.CX P w) (k + 1) f fd ps sp := by
  obtain ⟨oc, od, kV, doc, pm, an, cdv, ct, osl, rfl, lk, hcd⟩ := F.ex
  exact fn_of lk hcd S len fun A outer s H vs Q E hr hsp => hbody cdv A outer s H vs Q E (kds_of_code hcd) hr hsp
end
end Sm

set_option Elab.async false
set_option linter.all false
set_option maxRecDepth 100000
set_option maxHeartbeats 2000000
/-! The numbers, vertices and edges of smallwidth.graph. -/
namespace Sm
open PySem PySem.Spec PyProof.Rows L2
def topS (i : Nat) : Stmt := PySem.Challenge.pw_smallwidth_k20_components_and_orders.main.body.getD i (.Pass ⟨0, 0, 0, 0⟩)
abbrev sNum : Stmt := topS 5
abbrev sVtx : Stmt := topS 6
abbrev sEdg : Stmt := topS 7
/-! ### what a value may be -/
inductive IB : V → Option Int → Prop where
  | int (i : Int) : IB (.int i) (some i)
  | bl (b : Bool) : IB (.bl b) none
inductive EdgeV (K : PySem.W.Frag) (H : Hp) : V → Option (Option Int × Option Int) → Prop where
  | pair {a : Addr} {x y : V} {i j : Option Int} : SqT K H a [x, y] → IB x i → IB y j → EdgeV K H (.ref a) (some (i, j))
  | tup {a : Addr} {xs : List V} : SqT K H a xs → xs.length ≠ 2 → EdgeV K H (.ref a) none
  | lst {a : Addr} {xs : List V} : H a = some (.lst xs) → EdgeV K H (.ref a) none
  | non : EdgeV K H .non none
def vtxB (n : Int) : Option Int → Bool
  | some i => decide (0 ≤ i) && decide (i < n)
  | none => false
def edgB (n : Int) : Option (Option Int × Option Int) → Bool
  | some (some i, some j) => vtxB n (some i) && (vtxB n (some j) && decide (i < j))
  | _ => false
theorem same_sqT {K : PySem.W.Frag} {H H' : Hp} {a : Addr} {xs : List V} (e : Same H H') (h : SqT K H a xs) : SqT K H' a xs := by
  rcases h with (h | ⟨o, h⟩) | h
  · exact .inl (.inl (e _ _ h))
  · exact .inl (.inr ⟨o, e _ _ h⟩)
  · exact .inr h
theorem EdgeV.same {K : PySem.W.Frag} {H H' : Hp} {v : V} {e : Option (Option Int × Option Int)} (s : Same H H') (h : EdgeV K H v e) : EdgeV K H' v e := by
  cases h with
  | pair h1 h2 h3 => exact .pair (same_sqT s h1) h2 h3
  | tup h1 h2 => exact .tup (same_sqT s h1) h2
  | lst h => exact .lst (s _ _ h)
  | non => exact .non
theorem iteN {c A B : Prop} [Decidable c] (hc : ¬ c) (h : A) : if (!decide c) = true then A else B := by
  rw [decide_eq_false hc]
  exact iteT h
theorem iteY {c A B : Prop} [Decidable c] (hc : c) (h : A) : if decide c = true then A else B := by
  rw [decide_eq_true hc]
  exact iteT h
theorem iteD {c A B : Prop} [Decidable c] (hc : ¬ c) (h : B) : if decide c = true then A else B := by
  rw [decide_eq_false hc]
  exact iteF h
theorem tyx_T {K : PySem.W.Frag} {H : Hp} {a : Addr} {xs : List V} (h : SqT K H a xs) : TyX K H (.ref a) (.type "tuple") := by
  rcases h with (h | ⟨o, h⟩) | ⟨o, its, n, h1, h2, _⟩
  · exact .base (.tup h)
  · exact .fTuple h
  · exact .kTuple h1 h2
/-! ### what the top has bound, as far as these defs ask -/
structure TxA (mg : Str → Option Value) : Prop where
  isi : mg "isinstance" = none
  int : mg "int" = none
  bool : mg "bool" = none
  tuple : mg "tuple" = none
  len : mg "len" = none
def spNum : Sp := fun vs H Q _ => ∃ v i, vs = [v] ∧ IB v i ∧ Q (.bl i.isSome) H
def spVtx : Sp := fun vs H Q _ => ∃ v i n, vs = [v, .int n] ∧ IB v i ∧ Q (.bl (vtxB n i)) H
def spEdg (K : PySem.W.Frag) : Sp := fun vs H Q _ => ∃ v e n, vs = [v, .int n] ∧ EdgeV K H v e ∧ Q (.bl (edgB n e)) H
section
variable {P : Program} {w : World} {K : PySem.W.Frag} {mg : Str → Option Value} {base : Heap}
theorem scNum : FnScope ["value"] ["value"] (defScope sNum) := ⟨rfl, rfl, rfl, by decide +kernel, rfl, by decide +kernel, by decide +kernel⟩
theorem ok_num {f : Addr} {fd : FuncData} (F : Fun K "is_number" "is_number" sNum f fd) (T : TxA mg) : FnOk P w K mg base CX0 1 f fd ["value"] spNum := by
  refine F.ok scNum (fun vs H Q E h => ?_) (fun cdv A outer s H vs Q E hr h => ?_)
  · obtain ⟨v, i, rfl, _⟩ := h
    rfl
  · obtain ⟨v, i, rfl, hv, q⟩ := h
    refine ⟨_, pss_one (ps_ret (pe_and (pe_callB call_isi (by rfl) T.isi (by decide +kernel) (pa_cons (pv 0) (pa_cons (pe_bltn (v := .ty "int") (by rfl) T.int (by decide +kernel) rfl) pa_nil)))
      (pe_one (pe_not (pe_callB call_isi (by rfl) T.isi (by decide +kernel) (pa_cons (pv 0) (pa_cons (pe_bltn (v := .ty "bool") (by rfl) T.bool (by decide +kernel) rfl) pa_nil))))))), ?_⟩
    cases hv with
    | int i =>
      refine ⟨_, rfl, .int i, .ty "int", .type "int", .type "int", true, rfl, .ty "int", .base (.int i), kit_ty (by decide +kernel), true, rfl, iteT ?_⟩
      exact ⟨_, rfl, .int i, .ty "bool", .type "int", .type "bool", false, rfl, .ty "bool", .base (.int i), kit_ty (by decide +kernel), false, rfl, q⟩
    | bl b =>
      refine ⟨_, rfl, .bl b, .ty "int", .type "bool", .type "int", true, rfl, .ty "int", .base (.bl b), kit_ty (by decide +kernel), true, rfl, iteT ?_⟩
      exact ⟨_, rfl, .bl b, .ty "bool", .type "bool", .type "bool", true, rfl, .ty "bool", .base (.bl b), kit_ty (by decide +kernel), true, rfl, q⟩
theorem scVtx : FnScope ["value", "size"] ["value", "size"] (defScope sVtx) := ⟨rfl, rfl, rfl, by decide +kernel, rfl, by decide +kernel, by decide +kernel⟩
theorem ok_vtx {f fN : Addr} {fd fdN : FuncData} (F : Fun K "is_vertex" "is_vertex" sVtx f fd) (FN : Fun K "is_number" "is_number" sNum fN fdN) (bN : Binds K fdN ["value"] []) (gN : mg "is_number" = some (.ref fN)) (T : TxA mg) :
    FnOk P w K mg base CX0 2 f fd ["value", "size"] spVtx := by
  have GN : FnOk P w K mg base CX0 1 fN fdN ["value"] spNum := ok_num FN T
  refine F.ok scVtx (fun vs H Q E h => ?_) (fun cdv A outer s H vs Q E hr h => ?_)
  · obtain ⟨v, i, n, rfl, _⟩ := h
    rfl
  · obtain ⟨v, i, n, rfl, hv, q⟩ := h
    refine ⟨_, pss_one (ps_ret (pe_and (pe_call GN hr (by rfl) gN FN.kp bN .nil pass0 (pa_cons (pv 0) pa_nil)) (pe_one (pe_chain op_le op_lt pe_int (pv 0) (pv 1))))), ?_⟩
    refine ⟨v, rfl, v, i, rfl, hv, i.isSome, rfl, ?_⟩
    cases hv with
    | int i =>
      refine iteT ⟨_, rfl, _, _, rfl, rfl, _, rfl, ?_⟩
      by_cases c : 0 ≤ i
      · rw [decide_eq_true c]
        refine iteT ⟨_, rfl, _, _, rfl, rfl, ?_⟩
        have e : vtxB n (some i) = decide (i < n) := by simp [vtxB, c]
        rw [e] at q
        exact q
      · rw [decide_eq_false c]
        refine iteF ?_
        have e : vtxB n (some i) = false := by simp only [vtxB, decide_eq_false c, Bool.false_and]
        rw [e] at q
        exact q
    | bl b => exact iteF q
theorem scEdg : FnScope ["value", "size", "u", "v"] ["value", "size"] (defScope sEdg) := ⟨rfl, rfl, rfl, by decide +kernel, rfl, by decide +kernel, by decide +kernel⟩
theorem ok_edg {f fV : Addr} {fd fdV : FuncData} (F : Fun K "is_edge" "is_edge" sEdg f fd) (GV : FnOk P w K mg base CX0 2 fV fdV ["value", "size"] spVtx) (kV : PySem.W.keepIn K (.ref fV) = true) (bV : Binds K fdV ["value", "size"] []) (gV : mg "is_vertex" = some (.ref fV)) (T : TxA mg) :
    FnOk P w K mg base CX0 3 f fd ["value", "size"] (spEdg K) := by
  refine F.ok scEdg (fun vs H Q E h => ?_) (fun cdv A outer s H vs Q E hr h => ?_)
  · obtain ⟨v, e, n, rfl, _⟩ := h
    rfl
  · obtain ⟨v, e, n, rfl, hv, q⟩ := h
    refine ⟨_, pss_cons (ps_if (PW.pt (pw_or (pt_not (pt_val (pe_callB call_isi (by rfl) T.isi (by decide +kernel) (pa_cons (pv 0) (pa_cons (pe_bltn (v := .ty "tuple") (by rfl) T.tuple (by decide +kernel) rfl) pa_nil)))))
        (pw_or1 (pt_cmpR op_ne (pe_callB call_len_seq (by rfl) T.len PySem.boot_len (pa_cons (pv 0) pa_nil)) pe_int (nomark _))))) (pss_one (ps_ret pe_bl)) pss_nil)
      (pss_cons (ps_asg (pv 0) (pg_tup (by rfl) (pgs_cons (pg_name (i := 2) scEdg.nd rfl (.inl rfl)) (pgs_cons (pg_name (i := 3) scEdg.nd rfl (.inl rfl)) pgs_nil))))
      (pss_one (ps_ret (pe_and (pe_call GV hr (by rfl) gV kV bV .nil pass0 (pa_cons (pv 2) (pa_cons (pv 1) pa_nil)))
        (pe_and (pe_call GV hr (by rfl) gV kV bV .nil pass0 (pa_cons (pv 3) (pa_cons (pv 1) pa_nil))) (pe_one (pe_cmpR op_lt (pv 2) (pv 3) (nomark _)))))))), ?_⟩
    cases hv with
    | non =>
      refine ⟨_, rfl, .non, .ty "tuple", .type "NoneType", .type "tuple", false, rfl, .ty "tuple", .base .non, kit_ty (by decide +kernel), false, rfl, iteT ?_⟩
      exact iteT q
    | lst h =>
      refine ⟨_, rfl, _, .ty "tuple", .type "list", .type "tuple", false, rfl, .ty "tuple", .base (.lst h), kit_ty (by decide +kernel), false, rfl, iteT ?_⟩
      exact iteT q
    | tup h ne =>
      refine ⟨_, rfl, _, .ty "tuple", .type "tuple", .type "tuple", true, rfl, .ty "tuple", tyx_T h, kit_ty (by decide +kernel), true, rfl, iteF ?_⟩
      refine ⟨_, rfl, _, _, rfl, .inr h, rfl, _, rfl, ?_⟩
      exact iteN (fun e => ne (Int.ofNat.inj (V.int.inj e))) q
    | @pair a x y i j h hx hy =>
      refine ⟨_, rfl, _, .ty "tuple", .type "tuple", .type "tuple", true, rfl, .ty "tuple", tyx_T h, kit_ty (by decide +kernel), true, rfl, iteF ?_⟩
      refine ⟨_, rfl, _, _, rfl, .inr h, rfl, _, rfl, ?_⟩
      refine iteNS rfl ?_
      refine ⟨_, rfl, a, [x, y], rfl, h, rfl, x, [y], rfl, y, [], rfl, rfl, ?_⟩
      refine ⟨x, rfl, .int n, rfl, x, i, n, rfl, hx, vtxB n i, rfl, ?_⟩
      cases ci : vtxB n i with
      | false =>
        refine iteF ?_
        have z : edgB n (some (i, j)) = false := by
          cases i with
          | none => rfl
          | some i => cases j with
            | none => rfl
            | some j => simp only [edgB, ci, Bool.false_and]
        rw [z] at q
        exact q
      | true =>
        refine iteT ⟨y, rfl, .int n, rfl, y, j, n, rfl, hy, vtxB n j, rfl, ?_⟩
        cases cj : vtxB n j with
        | false =>
          refine iteF ?_
          have z : edgB n (some (i, j)) = false := by
            cases i with
            | none => rfl
            | some i => cases j with
              | none => rfl
              | some j => simp only [edgB, cj, Bool.false_and, Bool.and_false]
          rw [z] at q
          exact q
        | true =>
          refine iteT ?_
          cases hx with
          | bl b => cases ci
          | int i =>
            cases hy with
            | bl b => cases cj
            | int j =>
              refine ⟨_, rfl, _, rfl, i, j, rfl, rfl, ?_⟩
              have z : edgB n (some (some i, some j)) = decide (i < j) := by simp only [edgB, ci, cj, Bool.true_and]
              rw [z] at q
              exact q
end
end Sm

set_option Elab.async false
set_option linter.all false
set_option maxRecDepth 100000
set_option maxHeartbeats 2000000
namespace Sm
open PySem PySem.Spec PyProof.Rows L2
abbrev Pr := Int × Int
/-! ### lists of pairs, lists of neighbours -/
abbrev PairsAt (K : PySem.W.Frag) (H : Hp) : List Addr → List Pr → Prop := Paired fun a q => SqT K H a [.int q.1, .int q.2]
theorem PairsAt.same {K : PySem.W.Frag} {H H' : Hp} (s : Same H H') : ∀ {as : List Addr} {qs : List Pr}, PairsAt K H as qs → PairsAt K H' as qs
  | _, _, .nil => .nil
  | _, _, .cons h t => .cons (same_sqT s h) (PairsAt.same s t)
theorem PairsAt.get {K : PySem.W.Frag} {H : Hp} : ∀ {as : List Addr} {qs : List Pr} {i : Nat} {a : Addr}, PairsAt K H as qs → as[i]? = some a → ∃ q, qs[i]? = some q ∧ SqT K H a [.int q.1, .int q.2]
  | _, _, _, _, .nil, e => by simp at e
  | _, _, 0, _, .cons h _, e => by simp at e; subst e; exact ⟨_, rfl, h⟩
  | _, _, i + 1, a, .cons _ t, e => by
    obtain ⟨q, h1, h2⟩ := PairsAt.get (i := i) (a := a) t (by simpa using e)
    exact ⟨q, by simpa using h1, h2⟩
def nearOf (qs : List Pr) (i : Int) : List Int := qs.flatMap fun q => (if q.1 = i then [q.2] else []) ++ (if q.2 = i then [q.1] else [])
theorem nearOf_len (qs : List Pr) (i : Int) : (nearOf qs i).length ≤ 2 * qs.length := by
  unfold nearOf
  induction qs with
  | nil => simp
  | cons q r ih =>
    rw [List.flatMap_cons, List.length_append, List.length_cons, List.length_append]
    have h1 : (if q.1 = i then [q.2] else ([] : List Int)).length ≤ 1 := by split <;> simp
    have h2 : (if q.2 = i then [q.1] else ([] : List Int)).length ≤ 1 := by split <;> simp
    omega
theorem nearOf_more {qs : List Pr} {t : Nat} {q : Pr} (h : qs[t]? = some q) (i : Int) : nearOf (qs.take (t + 1)) i = nearOf (qs.take t) i ++ ((if q.1 = i then [q.2] else []) ++ (if q.2 = i then [q.1] else [])) := by
  unfold nearOf
  rw [L2.take_next h, List.flatMap_append, List.flatMap_singleton]
def NLists (H : Hp) (nts : List Addr) (f : Nat → List Int) : Prop := ∀ i a, nts[i]? = some a → H a = some (.lst ((f i).map V.int))
theorem NLists.put {H : Hp} {nts : List Addr} {f : Nat → List Int} {u : Nat} {a : Addr} (h : NLists H nts f) (nd : nts.Nodup) (hu : nts[u]? = some a) (v : Int) :
    NLists (upd H a (.lst ((f u).map V.int ++ [.int v]))) nts (fun i => if i = u then f u ++ [v] else f i) := by
  intro i b hb
  by_cases e : i = u
  · subst e
    rw [hu] at hb
    cases hb
    have e2 : (fun i' => if i' = i then f i ++ [v] else f i') i = f i ++ [v] := if_pos rfl
    rw [upd_same, e2, List.map_append]
    rfl
  · have ne : b ≠ a := fun z => by
      subst z
      have h1 := (List.getElem?_eq_some_iff.mp hb)
      have h2 := (List.getElem?_eq_some_iff.mp hu)
      obtain ⟨l1, e1⟩ := h1
      obtain ⟨l2, e2⟩ := h2
      exact e ((List.getElem_inj nd).mp (e1.trans e2.symm))
    have e2 : (fun i' => if i' = u then f u ++ [v] else f i') i = f i := if_neg e
    rw [upd_ne ne, e2]
    exact h i b hb
theorem same_upd {H : Hp} {p : Addr} {o : HO} (h : H p = none) : Same H (upd H p o) := fun b x e => by
  rw [upd_ne (ne_of_none e h)]
  exact e
theorem same_put {H H' : Hp} {p : Addr} {o : HO} (s : Same H H') (h : H p = none) : Same H (upd H' p o) := fun b x e => by
  rw [upd_ne (ne_of_none e h)]
  exact s _ _ e
theorem NLists.same {H H' : Hp} {nts : List Addr} {f : Nat → List Int} (s : Same H H') (h : NLists H nts f) : NLists H' nts f := fun i a e => s _ _ (h i a e)
abbrev sNls : Stmt := topS 10
def spNls (K : PySem.W.Frag) : Sp := fun vs H Q _ => ∃ (n : Nat) (et : Addr) (ets : List Addr) (qs : List Pr), vs = [.int n, .ref et] ∧ n ≤ 60 ∧ SqT K H et (ets.map V.ref) ∧ PairsAt K H ets qs ∧ qs.length ≤ 100 ∧
  (∀ q ∈ qs, 0 ≤ q.1 ∧ q.1 < n ∧ 0 ≤ q.2 ∧ q.2 < n ∧ q.1 ≠ q.2) ∧
  ∀ (H' : Hp) (nt : Addr) (nts : List Addr), Same H H' → H nt = none → H' nt = some (.lst (nts.map V.ref)) → nts.length = n → (nts.Nodup ∧ ∀ a ∈ nts, H a = none) → NLists H' nts (fun i => nearOf qs i) → Q (.ref nt) H'
section
variable {P : Program} {w : World} {K : PySem.W.Frag} {mg : Str → Option Value} {base : Heap}
theorem scNls : FnScope ["size", "edges", "near", "u", "v", "_"] ["size", "edges"] (defScope sNls) := ⟨rfl, rfl, rfl, by decide +kernel, rfl, by decide +kernel, by decide +kernel⟩
theorem ok_nls {f : Addr} {fd : FuncData} (F : Fun K "near_lists" "near_lists" sNls f fd) (mr : mg "range" = none) : FnOk P w K mg base CX0 1 f fd ["size", "edges"] (spNls K) := by
  refine F.ok scNls (fun vs H Q E h => ?_) (fun cdv A outer s H vs Q E hr h => ?_)
  · obtain ⟨n, et, ets, qs, rfl, _⟩ := h
    rfl
  · obtain ⟨n, et, ets, qs, rfl, hn, hT, hP, hl, hb, q⟩ := h
    refine ⟨_, pss_cons (ps_setLc (i := 2) (own := [("_", 5)]) (g := gName 5) (tt := tYes) (by rfl) scNls.nd rfl rfl (sw_true rfl rfl rfl (by decide +kernel)) (pi_range1 rfl mr (pa_cons (pv 0) pa_nil))
        (blkOk_by (own := [("_", 5)]) (N := ["size", "edges", "near", "u", "v", "_"]) (sc := defScope sNls) (by decide +kernel)) (fun _ _ _ _ _ => pg_name (i := 5) scNls.nd rfl (Or.inl rfl)) (fun _ _ _ _ _ => pts_nil) (fun _ _ _ _ _ => pe_lst pa_nil))
      (pss_cons (ps_for PassesOwn.never rfl (pi_tup (pv 1)) (pg_tup rfl (pgs_cons (pg_name (i := 3) scNls.nd rfl (.inl rfl)) (pgs_cons (pg_name (i := 4) scNls.nd rfl (.inl rfl)) pgs_nil)))
        (pss_cons (ps_expr (pe_bm PySem.F.plainAttrs_list PySem.F.slot_list_append PySem.F.type_list_append mt_append (pe_ix ix_list (pv 2) (pv 3) (fun _ _ => rfl)) (pa_cons (pv 4) pa_nil)))
        (pss_one (ps_expr (pe_bm PySem.F.plainAttrs_list PySem.F.slot_list_append PySem.F.type_list_append mt_append (pe_ix ix_list (pv 2) (pv 4) (fun _ _ => rfl)) (pa_cons (pv 3) pa_nil))))))
      (pss_one (ps_ret (pv 2)))), ?_⟩
    refine ⟨_, rfl, n, rfl, by omega, by omega, fun D hD => ?_⟩
    have toNat : ((n : Int)).toNat = n := by omega
    refine lc_range (lo := 0) (n := ((n : Int)).toNat) (fun i H' => Same H H' ∧ ∃ nts : List Addr, nts.length = i ∧ H' D = some (.lst (nts.map V.ref)) ∧ nts.Nodup ∧ ∀ a ∈ nts, H' a = some (.lst []) ∧ a ≠ D ∧ H a = none) ?_ ?_ ?_
    · exact ⟨same_upd hD, [], rfl, upd_same, List.nodup_nil, fun a ha => nomatch ha⟩
    · rintro i H' hi ⟨sm, nts, hlen, eD, nd, hall⟩
      refine ⟨rfl, ⟨Nat.zero_le _, fun p np => ?_⟩⟩
      have npD : p ≠ D := fun z => by rw [z, eD] at np; cases np
      have npH : H p = none := sm.free np
      refine ⟨_, by rw [upd_ne npD.symm]; exact eD, by rw [List.length_map]; exact small1000 (by omega), ?_⟩
      refine ⟨same_put (same_put sm npH) hD, nts ++ [p], by rw [List.length_append, hlen]; rfl, by rw [upd_same, List.map_append]; rfl, ?_, fun a ha => ?_⟩
      · refine List.nodup_append.mpr ⟨nd, List.nodup_cons.mpr ⟨(by simp), List.nodup_nil⟩, fun a ha b hb e => ?_⟩
        rw [List.mem_singleton.mp hb] at e
        subst e
        rw [(hall _ ha).1] at np
        cases np
      · rcases List.mem_append.mp ha with z | z
        · obtain ⟨h1, h2, h3⟩ := hall a z
          refine ⟨?_, h2, h3⟩
          rw [upd_ne h2, upd_ne (ne_of_none h1 np)]
          exact h1
        · rw [List.mem_singleton.mp z]
          refine ⟨?_, npD, npH⟩
          rw [upd_ne npD, upd_same]
    · rintro H1 ⟨sm, nts, hlen, eD, nd, hall⟩
      rw [toNat] at hlen
      refine ⟨.ref et, rfl, et, rfl, ⟨_, same_sqT sm hT⟩, for_tup (K := K) (a := et) (xs := ets.map V.ref) (fun t σ H' => ∃ y3 y4, σ = [some (.int n), some (.ref et), some (.ref D), y3, y4, none] ∧ Same H H' ∧ H' D = some (.lst (nts.map V.ref)) ∧
        NLists H' nts (fun i => nearOf (qs.take t) i)) ⟨none, none, rfl, sm, eD, fun i a e => (hall a (List.mem_of_getElem? e)).1⟩ (fun t σ H' _ ⟨_, _, _, s', _⟩ => same_sqT s' hT) ?_ ?_⟩
      · rintro t x σ H' hx ⟨y3, y4, rfl, sm', eD', nl⟩
        rw [List.getElem?_map] at hx
        cases ea : ets[t]? with
        | none => rw [ea] at hx; cases hx
        | some a =>
          rw [ea] at hx
          cases hx
          obtain ⟨⟨u, v⟩, hq, hs⟩ := (hP.same sm').get ea
          have hm : (u, v) ∈ qs := List.mem_of_getElem? hq
          obtain ⟨u0, un, v0, vn, uv⟩ := hb _ hm
          have tq : t < qs.length := (List.getElem?_eq_some_iff.mp hq).1
          dsimp only at u0 un v0 vn uv hs
          obtain ⟨u', rfl⟩ : ∃ k : Nat, u = k := ⟨u.toNat, by omega⟩
          obtain ⟨v', rfl⟩ : ∃ k : Nat, v = k := ⟨v.toNat, by omega⟩
          have uv' : u' ≠ v' := fun z => uv (by rw [z])
          obtain ⟨au, hau⟩ : ∃ a, nts[u']? = some a := ⟨_, List.getElem?_eq_getElem (by omega)⟩
          obtain ⟨av, hav⟩ : ∃ a, nts[v']? = some a := ⟨_, List.getElem?_eq_getElem (by omega)⟩
          have mu := hall au (List.mem_of_getElem? hau)
          have mv := hall av (List.mem_of_getElem? hav)
          have ixu : (nts.map V.ref)[u']? = some (.ref au) := by rw [List.getElem?_map, hau]; rfl
          have ixv : (nts.map V.ref)[v']? = some (.ref av) := by rw [List.getElem?_map, hav]; rfl
          have lu := nearOf_len (qs.take t) u'
          have lv := nearOf_len (qs.take t) v'
          rw [List.length_take] at lu lv
          have hu0 := nl u' au hau
          have nl1 := nl.put nd hau v'
          have hv1 := nl1 v' av hav
          dsimp only at hv1
          rw [if_neg (fun z => uv' z.symm)] at hv1
          have nl2 := nl1.put nd hav u'
          refine ⟨a, _, rfl, hs, rfl, _, _, rfl, _, _, rfl, rfl, ?_⟩
          refine ⟨_, rfl, _, rfl, D, _, _, .ref au, rfl, rfl, SqL.of eD', atI_nat ixu, .inl ⟨rfl, _, SqL.of hu0⟩, _, rfl, au, _, _, rfl, rfl, hu0, by rw [List.length_map]; exact small1000 (show (nearOf (List.take t qs) u').length ≤ 1000 by omega), ?_⟩
          refine ⟨_, rfl, _, rfl, D, _, _, .ref av, rfl, rfl, SqL.of (by rw [upd_ne (fun z => mu.2.1 z.symm)]; exact eD'), atI_nat ixv, .inl ⟨rfl, _, SqL.of hv1⟩, _, rfl, av, _, _, rfl, rfl, hv1, by rw [List.length_map]; exact small1000 (show (nearOf (List.take t qs) v').length ≤ 1000 by omega), ?_⟩
          refine ⟨some (.int u'), some (.int v'), rfl, same_put (same_put sm' mu.2.2) mv.2.2, ?_, fun i b hb' => ?_⟩
          · rw [upd_ne (fun z => mv.2.1 z.symm), upd_ne (fun z => mu.2.1 z.symm)]
            exact eD'
          · have z := nl2 i b hb'
            dsimp only at z ⊢
            rw [if_neg (fun z => uv' z.symm)] at z
            rw [z, nearOf_more hq]
            dsimp only
            congr 3
            by_cases c1 : i = u'
            · subst c1
              rw [if_neg uv', if_pos rfl, if_pos rfl, if_neg (by omega), List.append_nil]
            · rw [if_neg c1]
              by_cases c2 : i = v'
              · subst c2
                rw [if_pos rfl, if_neg (by omega), if_pos rfl, List.nil_append]
              · rw [if_neg c2, if_neg (by omega), if_neg (by omega), List.append_nil, List.append_nil]
      · rintro σ H' ⟨y3, y4, rfl, sm', eD', nl⟩
        have lenq : qs.length = ets.length := hP.length.symm
        rw [List.length_map, ← lenq, List.take_length] at nl
        exact ⟨_, rfl, q H' D nts sm' hD eD' hlen ⟨nd, fun a ha => (hall a ha).2.2⟩ nl⟩
end
end Sm

set_option Elab.async false
set_option linter.all false
set_option maxRecDepth 100000
set_option maxHeartbeats 4000000
namespace Sm
open PySem PySem.Spec PyProof.Rows L2
abbrev EV := Option (Option Int × Option Int)
def prOf : EV → Pr
  | some (some i, some j) => (i, j)
  | _ => (0, 0)
def toL (q : Pr) : List Int := [q.1, q.2]
theorem toL_inj {p q : Pr} (h : toL p = toL q) : p = q := by
  obtain ⟨a, b⟩ := p
  obtain ⟨c, d⟩ := q
  simp only [toL, List.cons.injEq, and_true] at h
  rw [h.1, h.2]
/-- the edges that are taken, in the order of the list; none if one is refused -/
def scan (n : Int) : List Pr → List EV → Option (List Pr)
  | seen, [] => some seen
  | seen, e :: r => if edgB n e = true ∧ prOf e ∉ seen then scan n (seen ++ [prOf e]) r else none
def mkE (n : Int) (es : List EV) : Option (List Pr) := if 0 ≤ n ∧ n ≤ 60 then scan n [] es else none
theorem scan_app (n : Int) : ∀ (l r : List EV) (seen : List Pr), scan n seen (l ++ r) = (scan n seen l).bind fun s => scan n s r
  | [], r, seen => rfl
  | e :: l, r, seen => by
    show (if edgB n e = true ∧ prOf e ∉ seen then scan n (seen ++ [prOf e]) (l ++ r) else none) = (if edgB n e = true ∧ prOf e ∉ seen then scan n (seen ++ [prOf e]) l else none).bind _
    by_cases c : edgB n e = true ∧ prOf e ∉ seen
    · rw [if_pos c, if_pos c]
      exact scan_app n l r _
    · rw [if_neg c, if_neg c]
      rfl
def Okp (n : Int) (q : Pr) : Prop := 0 ≤ q.1 ∧ q.1 < q.2 ∧ q.2 < n
theorem edgB_ok {n : Int} {e : EV} (h : edgB n e = true) : ∃ i j, e = some (some i, some j) ∧ Okp n (i, j) := by
  match e, h with
  | some (some i, some j), h =>
    simp only [edgB, vtxB, Bool.and_eq_true, decide_eq_true_eq] at h
    exact ⟨i, j, rfl, h.1.1, h.2.2, h.2.1.2⟩
theorem split_at {α : Type} {l : List α} {t : Nat} {e : α} (h : l[t]? = some e) : l = l.take t ++ e :: l.drop (t + 1) := by
  obtain ⟨hl, rfl⟩ := List.getElem?_eq_some_iff.mp h
  conv => lhs; rw [← List.take_append_drop t l, List.drop_eq_getElem_cons hl]
theorem scan_ok (n : Int) : ∀ (es : List EV) (seen ps : List Pr), scan n seen es = some ps → (∀ q ∈ seen, Okp n q) → seen.Nodup → (∀ q ∈ ps, Okp n q) ∧ ps.Nodup ∧ ps.length = seen.length + es.length
  | [], seen, ps, h, a, b => by
    cases h
    exact ⟨a, b, rfl⟩
  | e :: r, seen, ps, h, a, b => by
    have h' : (if edgB n e = true ∧ prOf e ∉ seen then scan n (seen ++ [prOf e]) r else none) = some ps := h
    by_cases c : edgB n e = true ∧ prOf e ∉ seen
    · rw [if_pos c] at h'
      obtain ⟨i, j, rfl, ok⟩ := edgB_ok c.1
      obtain ⟨h1, h2, h3⟩ := scan_ok n r _ ps h' (fun q hq => by
        rcases List.mem_append.mp hq with z | z
        · exact a q z
        · rw [List.mem_singleton.mp z]; exact ok) (List.nodup_append.mpr ⟨b, by simp, fun x hx y hy e => by
          rw [List.mem_singleton.mp hy] at e
          exact c.2 (e ▸ hx)⟩)
      refine ⟨h1, h2, ?_⟩
      rw [h3, List.length_append, List.length_cons, List.length_cons, List.length_nil]
      omega
    · rw [if_neg c] at h'
      cases h'
abbrev lexlt (p q : Pr) : Prop := SrtO.lexB p q = true
def gflds (n : Int) (et nt : Addr) : List (Str × V) := putF "_near" (.ref nt) (putF "edges" (.ref et) (putF "size" (.int n) []))
theorem gf_size (n : Int) (et nt : Addr) : (gflds n et nt).lookup ("size" : Str) = some (.int n) := by
  unfold gflds
  rw [lookup_putF, if_neg (by decide +kernel), lookup_putF, if_neg (by decide +kernel), lookup_putF, if_pos rfl]
theorem gf_edges (n : Int) (et nt : Addr) : (gflds n et nt).lookup ("edges" : Str) = some (.ref et) := by
  unfold gflds
  rw [lookup_putF, if_neg (by decide +kernel), lookup_putF, if_pos rfl]
theorem gf_near (n : Int) (et nt : Addr) : (gflds n et nt).lookup ("_near" : Str) = some (.ref nt) := by
  unfold gflds
  rw [lookup_putF, if_pos rfl]
theorem gf_no (n : Int) (et nt : Addr) {m : Str} (h1 : ¬ m = "_near") (h2 : ¬ m = "edges") (h3 : ¬ m = "size") : (gflds n et nt).lookup m = none := by
  unfold gflds
  rw [lookup_putF, if_neg h1, lookup_putF, if_neg h2, lookup_putF, if_neg h3]
  rfl
/-- a graph stands at p -/
structure GraphAt (K : PySem.W.Frag) (C : Addr) (H : Hp) (p : Addr) (n : Nat) (qs : List Pr) : Prop where
  ob : ∃ dx et nt, H p = some (.ins C dx (gflds n et nt)) ∧ (∃ ets : List Addr, SqT K H et (ets.map V.ref) ∧ PairsAt K H ets qs) ∧ ∃ nts : List Addr, H nt = some (.lst (nts.map V.ref)) ∧ nts.length = n ∧ NLists H nts (fun i => nearOf qs i)
  lim : n ≤ 60
  few : qs.length ≤ 75
  ok : ∀ q ∈ qs, Okp n q
  srt : qs.Pairwise lexlt
theorem GraphAt.same {K : PySem.W.Frag} {C : Addr} {H H' : Hp} {p : Addr} {n : Nat} {qs : List Pr} (s : Same H H') (g : GraphAt K C H p n qs) : GraphAt K C H' p n qs := by
  obtain ⟨dx, et, nt, h1, ⟨ets, h2, h3⟩, nts, h4, h5, h6⟩ := g.ob
  exact ⟨⟨dx, et, nt, s _ _ h1, ⟨ets, same_sqT s h2, h3.same s⟩, nts, s _ _ h4, h5, h6.same s⟩, g.lim, g.few, g.ok, g.srt⟩
/-- all as it was but at p -/
def But (p : Addr) (H H' : Hp) : Prop := ∀ b o, H b = some o → b ≠ p → H' b = some o
theorem But.sqT {K : PySem.W.Frag} {p C dx a : Addr} {fs : List (Str × V)} {H H' : Hp} {xs : List V} (s : But p H H') (hp : H p = some (.ins C dx fs)) (h : SqT K H a xs) : SqT K H' a xs := by
  rcases h with (h | ⟨o, h⟩) | h
  · exact .inl (.inl (s _ _ h (fun z => by rw [z, hp] at h; cases h)))
  · exact .inl (.inr ⟨o, s _ _ h (fun z => by rw [z, hp] at h; cases h)⟩)
  · exact .inr h
theorem Same.but {p : Addr} {H H' : Hp} (s : Same H H') : But p H H' := fun b o e _ => s b o e
theorem But.put {p : Addr} {H H' : Hp} {o : HO} (s : But p H H') : But p H (upd H' p o) := fun b x e n => by
  rw [upd_ne n]
  exact s b x e n
theorem But.new {p q : Addr} {H H' : Hp} {o : HO} (s : But p H H') (h : H q = none) : But p H (upd H' q o) := fun b x e n => by
  rw [upd_ne (ne_of_none e h)]
  exact s b x e n
theorem But.same {p : Addr} {H H1 H2 : Hp} (s : But p H H1) (t : Same H1 H2) : But p H H2 := fun b x e n => t _ _ (s b x e n)
/-- an exception's class, as the top has made it -/
structure TxE (K : PySem.W.Frag) (mg : Str → Option Value) (x : Str) (C : Addr) : Prop where
  g : mg x = some (.ref C)
  x : PySem.W.excIn K C [.type "ValueError", .type "Exception", .type "BaseException", .type "object"] "ValueError.__new__" = true
  k : PySem.W.keepIn K (.ref C) = true
  b : PySem.W.subIn K (.ref C) (.type "BaseException") = some true
  t : PySem.W.typeIn K (.ref C) = some (.type "type")
/-- what the class Graph says -/
structure TxG (K : PySem.W.Frag) (mg : Str → Option Value) (C : Addr) : Prop where
  cl : Cls K C
  nS : NoAttr K C "size"
  nE : NoAttr K C "edges"
  nN : NoAttr K C "_near"
  g : mg "Graph" = some (.ref C)
abbrev sInit : Stmt := inClass (topS 9) 0
abbrev sHas : Stmt := inClass (topS 9) 1
abbrev sNear : Stmt := inClass (topS 9) 2
abbrev sChk : Stmt := inClass (topS 9) 3
theorem pairs_keep {K : PySem.W.Frag} {H H' : Hp} (k : ∀ (a : Addr) (xs : List V), SqT K H a xs → SqT K H' a xs) : ∀ {as : List Addr} {qs : List Pr}, PairsAt K H as qs → PairsAt K H' as qs
  | _, _, .nil => .nil
  | _, _, .cons h t => .cons (k _ _ h) (pairs_keep k t)
def spInit (K : PySem.W.Frag) (C CB : Addr) : Sp := fun vs H Q E => ∃ (p dx : Addr) (n : Int) (a : Addr) (xs : List V) (es : List EV), vs = [.ref p, .int n, .ref a] ∧ H p = some (.ins C dx []) ∧ SqL K H a xs ∧ Paired (EdgeV K H) xs es ∧ es.length ≤ 75 ∧
  (mkE n es = none → ∀ H', Same H H' → E (.ref CB) none H') ∧
  (∀ ps, mkE n es = some ps → ∀ (H' : Hp) (qs : List Pr), (∀ b o, H b = some o → b ≠ p → H' b = some o) → qs.Perm ps → GraphAt K C H' p n.toNat qs → (∀ (S : Addr → Prop) (H'' : Hp), (∀ D, S D → ∃ x, H D = some (.lst x)) → (∀ b o, H' b = some o → ¬ S b → H'' b = some o) → GraphAt K C H'' p n.toNat qs) → Q .non H')
theorem ev_get {K : PySem.W.Frag} {H : Hp} : ∀ {xs : List V} {es : List EV} {i : Nat} {x : V}, Paired (EdgeV K H) xs es → xs[i]? = some x → ∃ e, es[i]? = some e ∧ EdgeV K H x e
  | _, _, _, _, .nil, e => by simp at e
  | _, _, 0, _, .cons h _, e => by simp at e; subst e; exact ⟨_, rfl, h⟩
  | _, _, i + 1, x, .cons _ t, e => by
    obtain ⟨q, h1, h2⟩ := ev_get (i := i) (x := x) t (by simpa using e)
    exact ⟨q, by simpa using h1, h2⟩
theorem edgeV_pair {K : PySem.W.Frag} {H : Hp} {v : V} {i j : Int} (h : EdgeV K H v (some (some i, some j))) : ∃ a, v = .ref a ∧ SqT K H a [.int i, .int j] := by
  cases h with
  | pair h hx hy =>
    cases hx
    cases hy
    exact ⟨_, rfl, h⟩
theorem pairs_of {K : PySem.W.Frag} {H : Hp} : ∀ {L : List (Addr × List Int)} {qs : List Pr}, L.map (·.2) = qs.map toL → (∀ p ∈ L, SqT K H p.1 (p.2.map V.int)) → PairsAt K H (L.map (·.1)) qs
  | [], [], _, _ => .nil
  | [], _ :: _, e, _ => by cases e
  | _ :: _, [], e, _ => by cases e
  | p :: L, q :: qs, e, h => by
    have e1 : p.2 = toL q := (List.cons.inj e).1
    have h1 := h p List.mem_cons_self
    rw [e1] at h1
    exact .cons h1 (pairs_of (List.cons.inj e).2 fun r hr => h r (List.mem_cons_of_mem _ hr))
section
variable {P : Program} {w : World} {K : PySem.W.Frag} {mg : Str → Option Value} {base : Heap}
theorem scInit : FnScope ["self", "size", "edges", "seen", "edge"] ["self", "size", "edges"] (defScope sInit) := ⟨rfl, rfl, rfl, by decide +kernel, rfl, by decide +kernel, by decide +kernel⟩
theorem ok_init {f C CB fN fE fL : Addr} {fd fdN fdE fdL : FuncData} (F : Fun K "__init__" "Graph.__init__" sInit f fd) (T : TxG K mg C) (B : TxE K mg "BadGraph" CB)
    (GN : FnOk P w K mg base CX0 1 fN fdN ["value"] spNum) (gN : mg "is_number" = some (.ref fN)) (kN : PySem.W.keepIn K (.ref fN) = true) (bN : Binds K fdN ["value"] [])
    (GE : FnOk P w K mg base CX0 3 fE fdE ["value", "size"] (spEdg K)) (gE : mg "is_edge" = some (.ref fE)) (kE : PySem.W.keepIn K (.ref fE) = true) (bE : Binds K fdE ["value", "size"] [])
    (GL : FnOk P w K mg base CX0 1 fL fdL ["size", "edges"] (spNls K)) (gL : mg "near_lists" = some (.ref fL)) (kL : PySem.W.keepIn K (.ref fL) = true) (bL : Binds K fdL ["size", "edges"] [])
    {tm : Tok} (gM : mg "MOST_VERTICES" = some (.int 60 tm)) (mset : mg "set" = none) (mtup : mg "tuple" = none) (msort : mg "sorted" = none) :
    FnOk P w K mg base (L2.CX P w) 4 f fd ["self", "size", "edges"] (spInit K C CB) := by
  refine F.okX scInit (fun vs H Q E h => ?_) (fun cdv A outer s H vs Q E hr h => ?_)
  · obtain ⟨p, dx, n, a, xs, es, rfl, _⟩ := h
    rfl
  · obtain ⟨p, dx, n, a, xs, es, rfl, hp, hS, hE, hlen, kE0, kQ⟩ := h
    have hr1 : Room 1 _ := hr.mono (by decide)
    have hu : _ + 64 < cLine := hr.units
    refine ⟨_, pss_cons (ps_if (PW.pt (pw_or (pt_not (pt_val (pe_call GN hr1 (by rfl) gN kN bN .nil pass0 (pa_cons (pv 1) pa_nil)))) (pw_or1 (pt_not (pt_chain op_le op_le pe_int (pv 1) (pe_glob (v := .int 60) rfl gM ⟨_, rfl⟩))))))
        (pss_one (ps_raise rfl (takes_of rfl rfl rfl rfl) (pmk_own PySem.F.excBase_ValueError B.x B.g B.k (raises_own B.b B.t) (by exact rfl)))) pss_nil)
      (pss_cons (ps_set (i := 3) scInit.nd rfl (.inl rfl) (pe_callTy0 cr_set0T (by rfl) mset (by decide +kernel)))
      (pss_cons (ps_for (passes_of rfl) rfl (pi_list (pv 2)) (pg_name (i := 4) scInit.nd rfl (.inl rfl))
        (pss_cons (ps_if (pt_not (pt_val (pe_call GE hr (by rfl) gE kE bE .nil pass0 (pa_cons (pv 4) (pa_cons (pv 1) pa_nil)))))
          (pss_one (ps_raise rfl (takes_of rfl rfl rfl rfl) (pmk_own PySem.F.excBase_ValueError B.x B.g B.k (raises_own B.b B.t) (by exact rfl)))) pss_nil)
        (pss_cons (ps_if (pt_cmpR (or_inT hu) (pv 4) (pv 3) (by rfl))
          (pss_one (ps_raise rfl (takes_of rfl rfl rfl rfl) (pmk_own PySem.F.excBase_ValueError B.x B.g B.k (raises_own B.b B.t) (by exact rfl)))) pss_nil)
        (pss_one (ps_expr (pe_addT hu (pv 3) (pa_cons (pv 4) pa_nil)))))))
      (pss_cons (ps_fld (pv 0) (pv 1) rfl)
      (pss_cons (ps_fld (pv 0) (pe_callTy call_tuple_of (by rfl) mtup (by decide +kernel) (pa_cons (pe_callB (cr_sortT2 rfl) (by rfl) msort (by decide +kernel) (pa_cons (pv 3) pa_nil)) pa_nil)) rfl)
      (pss_one (ps_fld (pv 0) (pe_call GL hr1 (by rfl) gL kL bL .nil pass0 (pa_cons (pv 1) (pa_cons (pe_fld (pv 0) rfl) pa_nil))) rfl)))))), ?_⟩
    refine ⟨_, rfl, _, some n, rfl, .int n, true, rfl, iteF ?_⟩
    refine ⟨_, rfl, _, _, rfl, rfl, _, rfl, ?_⟩
    have bad : ¬ (0 ≤ n ∧ n ≤ 60) → E (.ref CB) none H := fun c => kE0 (by unfold mkE; rw [if_neg c]) H (Same.refl H)
    refine ite2 (fun c0 => ?_) (fun c0 => ?_)
    rotate_left
    · refine ⟨_, rfl, ?_⟩
      exact iteT (bad fun z => c0 (decide_eq_true z.1))
    refine ⟨_, _, rfl, rfl, _, rfl, ?_⟩
    have n0 : 0 ≤ n := of_decide_eq_true c0
    by_cases c1 : n ≤ 60
    rotate_left
    · exact iteN c1 (bad fun z => c1 z.2)
    refine iteNS c1 ?_
    -- seen = set()
    refine ⟨rfl, fun S nS => ?_⟩
    have s1 : Same H (upd H S (TSet P w S [])) := same_upd nS
    have noS : ∀ {b : Addr} {o : HO}, H b = some o → b ≠ S := fun e => ne_of_none e nS
    have hxl : xs.length = es.length := hE.length
    refine ⟨_, rfl, a, rfl, ⟨_, s1.seq hS⟩, for_list (K := K) (a := a) (xs := xs) (fun t σ H' => ∃ (y4 : Option V) (seen : List Pr) (L : List (Addr × List Int)), σ = [some (.ref p), some (.int n), some (.ref a), some (.ref S), y4] ∧ Same H H' ∧
      H' S = some (TSet P w S L) ∧ scan n [] (es.take t) = some seen ∧ (L.map (·.2)).Perm (seen.map toL) ∧ (∀ r ∈ L, SqT K H r.1 (r.2.map V.int)) ∧ L.length ≤ t)
      ⟨none, [], [], rfl, s1, upd_same, by rw [List.take_zero]; rfl, List.Perm.refl _, (fun r hr => by cases hr), Nat.le_refl _⟩ (fun t σ H' _ ⟨_, _, _, _, s', _⟩ => s'.seq hS) ?_ ?_⟩
    · rintro t x σ H' hx ⟨y4, seen, L, rfl, sm, eS, hsc, pm, hm, hl⟩
      obtain ⟨e, he, hv⟩ := ev_get hE hx
      have tl : t < es.length := (List.getElem?_eq_some_iff.mp he).1
      have stop : ¬ (edgB n e = true ∧ prOf e ∉ seen) → ∀ H2, Same H H2 → E (.ref CB) none H2 := fun c => by
        refine kE0 ?_
        unfold mkE
        rw [if_pos ⟨n0, c1⟩]
        rw [split_at he, scan_app, hsc]
        show (if edgB n e = true ∧ prOf e ∉ seen then _ else none) = none
        rw [if_neg c]
      refine ⟨_, rfl, _, rfl, _, e, n, rfl, hv.same sm, edgB n e, rfl, ?_⟩
      cases ce : edgB n e with
      | false => exact iteT (stop (by rw [ce]; simp) H' sm)
      | true =>
        refine iteF ?_
        obtain ⟨i, j, rfl, ok⟩ := edgB_ok ce
        obtain ⟨b, rfl, hb⟩ := edgeV_pair hv
        have hm' : ∀ r ∈ L, SqT K H' r.1 (r.2.map V.int) := fun r hr => same_sqT sm (hm r hr)
        have hmem : toL (i, j) ∈ L.map (·.2) ↔ (i, j) ∈ seen := by
          rw [pm.mem_iff]
          constructor
          · intro z
            obtain ⟨q, hq, e⟩ := List.mem_map.mp z
            rw [← toL_inj e]
            exact hq
          · intro z
            exact List.mem_map.mpr ⟨_, z, rfl⟩
        refine ⟨_, rfl, _, rfl, b, S, toL (i, j), L, rfl, rfl, eS, hm', same_sqT sm hb, _, rfl, ?_⟩
        refine ite2 (fun c => ?_) (fun c => ?_)
        · have c' : (i, j) ∈ seen := hmem.mp (of_decide_eq_true c)
          exact stop (fun z => z.2 c') H' sm
        · have c' : (i, j) ∉ seen := fun z => c (decide_eq_true (hmem.mpr z))
          refine ⟨_, rfl, ⟨S, L, rfl, eS⟩, _, rfl, S, b, toL (i, j), L, rfl, rfl, eS, hm', same_sqT sm hb, by omega, fun z => c' (hmem.mp z), fun L' pm' => ?_⟩
          refine ⟨_, seen ++ [(i, j)], L', rfl, same_put sm nS, upd_same, ?_, ?_, fun r hr => ?_, ?_⟩
          · rw [L2.take_next he, scan_app, hsc]
            show (if edgB n (some (some i, some j)) = true ∧ prOf (some (some i, some j)) ∉ seen then scan n (seen ++ [prOf (some (some i, some j))]) [] else none) = _
            rw [if_pos ⟨ce, c'⟩]
            rfl
          · refine (pm'.map (·.2)).trans ?_
            rw [List.map_cons, List.map_append]
            exact (List.Perm.cons _ pm).trans (List.perm_append_singleton _ _).symm
          · rcases List.mem_cons.mp (pm'.mem_iff.mp hr) with z | z
            · rw [z]; exact hb
            · exact hm r z
          · rw [pm'.length_eq, List.length_cons]; omega
    · rintro σ H' ⟨y4, seen, L, rfl, sm, eS, hsc, pm, hm, hl⟩
      rw [hxl, List.take_length] at hsc
      have hmk : mkE n es = some seen := by unfold mkE; rw [if_pos ⟨n0, c1⟩]; exact hsc
      obtain ⟨ok, nd, sl⟩ := scan_ok n es [] seen hsc (fun q hq => by cases hq) List.nodup_nil
      have hp1 := sm _ _ hp
      have pS : p ≠ S := noS hp
      -- self.size = size
      refine ⟨_, rfl, _, rfl, p, C, dx, [], rfl, hp1, T.cl, T.nS, (by show 0 < 1000; decide), ?_⟩
      -- self.edges = tuple(sorted(seen))
      refine ⟨_, rfl, S, L, rfl, by rw [upd_ne pS.symm]; exact eS, fun r hr => ?_, fun r hr => ?_, fun L2' l2 pm2 srt2 nl2 => ?_⟩
      · exact (But.put (Same.but sm)).sqT hp (hm r hr)
      · have := (pm.mem_iff.mp (List.mem_map.mpr ⟨r, hr, rfl⟩))
        obtain ⟨q, _, e⟩ := List.mem_map.mp this
        rw [← e]
        rfl
      · obtain ⟨k, rfl⟩ : ∃ k : Nat, n = (k : Int) := ⟨n.toNat, by omega⟩
        -- the pairs in their order
        have two : ∀ r ∈ L, ∃ q, q ∈ seen ∧ r.2 = toL q := fun r hr => by
          obtain ⟨q, hq, e⟩ := List.mem_map.mp (pm.mem_iff.mp (List.mem_map.mpr ⟨r, hr, rfl⟩))
          exact ⟨q, hq, e.symm⟩
        have keyP : ∀ r ∈ L, r.2 = toL (pairOf r.2) := fun r hr => by
          obtain ⟨q, _, e⟩ := two r hr
          rw [e]
          rfl
        have eqs : L2'.map (·.2) = (L2'.map fun r => pairOf r.2).map toL := by
          rw [List.map_map]
          exact List.map_congr_left fun r hr => keyP r (pm2.mem_iff.mp hr)
        have pq : (L2'.map fun r => pairOf r.2).Perm seen := by
          have z : ((L.map (·.2)).map pairOf).Perm ((seen.map toL).map pairOf) := pm.map pairOf
          rw [List.map_map, List.map_map] at z
          have e1 : seen.map (pairOf ∘ toL) = seen := by
            rw [show (pairOf ∘ toL) = id from funext fun q => rfl]
            exact List.map_id _
          rw [e1] at z
          exact (pm2.map _).trans z
        have srtq : (L2'.map fun r => pairOf r.2).Pairwise lexlt := List.pairwise_map.mpr srt2
        have okq : ∀ q ∈ L2'.map fun r => pairOf r.2, Okp k q := fun q hq => ok q (pq.mem_iff.mp hq)
        have fewq : (L2'.map fun r => pairOf r.2).length ≤ 75 := by rw [pq.length_eq, sl, List.length_nil]; omega
        generalize hqs : (L2'.map fun r => pairOf r.2) = qs at eqs pq srtq okq fewq
        have bt0 : But p H (upd H' p (.ins C dx (putF "size" (.int k) []))) := But.put (Same.but sm)
        have nl2H : H l2 = none := by
          cases e : H l2 with
          | none => rfl
          | some o =>
            have z := bt0 l2 o e (fun y => by rw [y] at nl2; rw [upd_same] at nl2; cases nl2)
            rw [z] at nl2
            cases nl2
        have pl2 : p ≠ l2 := fun z => by rw [← z, upd_same] at nl2; cases nl2
        refine ⟨l2, _, rfl, .inl ⟨SqL.of upd_same, fun et net => ?_⟩⟩
        have bt1 : But p H (upd (upd H' p (.ins C dx (putF "size" (.int k) []))) l2 (.lst (L2'.map fun q => V.ref q.1))) := bt0.new nl2H
        have at1 : (upd (upd H' p (.ins C dx (putF "size" (.int k) []))) l2 (.lst (L2'.map fun q => V.ref q.1))) p = some (.ins C dx (putF "size" (.int k) [])) := by rw [upd_ne pl2, upd_same]
        generalize (upd (upd H' p (.ins C dx (putF "size" (.int k) []))) l2 (.lst (L2'.map fun q => V.ref q.1))) = H2 at net bt1 at1 ⊢
        have netH : H et = none := by
          cases e : H et with
          | none => rfl
          | some o =>
            have z := bt1 et o e (fun y => by rw [y, at1] at net; cases net)
            rw [z] at net
            cases net
        have pet : p ≠ et := fun z => by rw [← z, at1] at net; cases net
        refine ⟨_, rfl, p, C, dx, _, rfl, by rw [upd_ne pet]; exact at1, T.cl, T.nE, (by show 1 < 1000; decide), ?_⟩
        -- self._near = near_lists(size, self.edges)
        have bt2 : But p H (upd (upd H2 et (.tup (L2'.map fun q => V.ref q.1))) p (.ins C dx (putF "edges" (.ref et) (putF "size" (.int k) [])))) := (bt1.new netH).put
        have et2 : (upd (upd H2 et (.tup (L2'.map fun q => V.ref q.1))) p (.ins C dx (putF "edges" (.ref et) (putF "size" (.int k) [])))) et = some (.tup (L2'.map fun q => V.ref q.1)) := by rw [upd_ne pet.symm, upd_same]
        have at2 : (upd (upd H2 et (.tup (L2'.map fun q => V.ref q.1))) p (.ins C dx (putF "edges" (.ref et) (putF "size" (.int k) [])))) p = some (.ins C dx (putF "edges" (.ref et) (putF "size" (.int k) []))) := upd_same
        generalize (upd (upd H2 et (.tup (L2'.map fun q => V.ref q.1))) p (.ins C dx (putF "edges" (.ref et) (putF "size" (.int k) [])))) = H3 at bt2 et2 at2 ⊢
        have mapref : (L2'.map fun q => V.ref q.1) = (L2'.map (·.1)).map V.ref := by rw [List.map_map]; rfl
        have hm3 : ∀ r ∈ L2', SqT K H r.1 (r.2.map V.int) := fun r hr => hm r (pm2.mem_iff.mp hr)
        have pa0 : PairsAt K H (L2'.map (·.1)) qs := pairs_of eqs hm3
        have pa3 : PairsAt K H3 (L2'.map (·.1)) qs := pairs_of eqs fun r hr => bt2.sqT hp (hm3 r hr)
        rw [mapref] at et2
        refine ⟨_, rfl, _, rfl, p, C, dx, _, .ref et, rfl, at2, T.cl, T.nE, by rw [lookup_putF, if_pos rfl], ?_⟩
        refine ⟨k, et, L2'.map (·.1), qs, rfl, by omega, SqT.of et2, pa3, by omega, fun q hq => ?_, fun H4 nt nts sm4 nnt ent lnt ndn nl => ?_⟩
        · obtain ⟨z1, z2, z3⟩ := okq q hq
          exact ⟨z1, by omega, by omega, z3, by omega⟩
        · have at4 := sm4 _ _ at2
          refine ⟨_, rfl, p, C, dx, _, rfl, at4, T.cl, T.nN, (by show 2 < 1000; decide), ?_⟩
          have pnt : p ≠ nt := fun z => by rw [z] at at2; rw [at2] at nnt; cases nnt
          have sb : But p H4 (upd H4 p (.ins C dx (gflds k et nt))) := But.put (Same.but (Same.refl _))
          have g1 : SqT K (upd H4 p (.ins C dx (gflds k et nt))) et ((L2'.map (·.1)).map V.ref) := sb.sqT at4 (SqT.of (sm4 _ _ et2))
          have g2 : PairsAt K (upd H4 p (.ins C dx (gflds k et nt))) (L2'.map (·.1)) qs := pairs_of eqs fun r hr => sb.sqT at4 (same_sqT sm4 (bt2.sqT hp (hm3 r hr)))
          have ent' : upd H4 p (.ins C dx (gflds k et nt)) nt = some (.lst (nts.map V.ref)) := by rw [upd_ne pnt.symm]; exact ent
          have nl' : ∀ (i : Nat) a, nts[i]? = some a → upd H4 p (.ins C dx (gflds k et nt)) a = some (.lst ((nearOf qs i).map V.int)) := fun i a e => by
            have z := nl i a e
            rw [upd_ne (fun y => by rw [y, at4] at z; cases z)]
            exact z
          have down : ∀ q : Addr, H3 q = none → H q = none := fun q h => by
            cases e : H q with
            | none => rfl
            | some o =>
              have z := bt2 q o e (fun y => by rw [y, at2] at h; cases h)
              rw [z] at h
              cases h
          have bt5 : But p H (upd H4 p (.ins C dx (gflds k et nt))) := (bt2.same sm4).put
          refine kQ seen hmk (upd H4 p (.ins C dx (gflds k et nt))) qs bt5 pq ⟨⟨dx, et, nt, upd_same, ⟨_, g1, g2⟩, nts, ent', lnt, nl'⟩, by omega, fewq, okq, srtq⟩ fun S H'' hS bD => ?_
          have noS : ∀ b o, upd H4 p (.ins C dx (gflds k et nt)) b = some o → b ≠ p → (∀ x, o ≠ .lst x) → ¬ S b := fun b o e bp no hs => by
            obtain ⟨x, hx⟩ := hS b hs
            have z := bt5 b _ hx bp
            rw [e] at z
            exact no x (Option.some.inj z)
          have pS : ¬ S p := fun hs => by
            obtain ⟨x, hx⟩ := hS p hs
            rw [hp] at hx
            cases hx
          have keepT : ∀ {a : Addr} {xs : List V}, SqT K (upd H4 p (.ins C dx (gflds k et nt))) a xs → SqT K H'' a xs := fun {a xs} h => by
            have ap : ∀ o, upd H4 p (.ins C dx (gflds k et nt)) a = some o → (∀ c d f, o ≠ .ins c d f) → a ≠ p := fun o e no z => by
              rw [z, upd_same] at e
              exact no _ _ _ (Option.some.inj e).symm
            rcases h with (h | ⟨o, h⟩) | h
            · exact .inl (.inl (bD _ _ h (noS _ _ h (ap _ h (fun _ _ _ => HO.noConfusion)) (fun _ => HO.noConfusion))))
            · exact .inl (.inr ⟨o, bD _ _ h (noS _ _ h (ap _ h (fun _ _ _ => HO.noConfusion)) (fun _ => HO.noConfusion))⟩)
            · exact .inr h
          refine ⟨⟨dx, et, nt, bD _ _ upd_same pS, ⟨_, keepT g1, pairs_keep (fun a xs => keepT) g2⟩, nts, bD _ _ ent' (fun hs => ?_), lnt, fun i a e => bD _ _ (nl' i a e) (fun hs => ?_)⟩, by omega, fewq, okq, srtq⟩
          · obtain ⟨x, hx⟩ := hS _ hs
            rw [down nt nnt] at hx
            cases hx
          · obtain ⟨x, hx⟩ := hS _ hs
            rw [down a (ndn.2 a (List.mem_of_getElem? e))] at hx
            cases hx
end
end Sm

set_option Elab.async false
set_option linter.all false
set_option maxRecDepth 100000
set_option maxHeartbeats 4000000
namespace Sm
open PySem PySem.Spec PyProof.Rows L2
def spChk (K : PySem.W.Frag) (C CB : Addr) : Sp := fun vs H Q E => ∃ (p : Addr) (n : Nat) (qs : List Pr) (v : V) (i : Option Int), vs = [.ref p, v] ∧ GraphAt K C H p n qs ∧ IB v i ∧ (vtxB n i = false → E (.ref CB) none H) ∧ (vtxB n i = true → Q .non H)
def spNear (K : PySem.W.Frag) (C CB : Addr) : Sp := fun vs H Q E => ∃ (p : Addr) (n : Nat) (qs : List Pr) (v : V) (i : Option Int), vs = [.ref p, v] ∧ GraphAt K C H p n qs ∧ IB v i ∧ (vtxB n i = false → E (.ref CB) none H) ∧
  (∀ u : Nat, i = some (u : Int) → u < n → ∀ (l : Addr), H l = none → Q (.ref l) (upd H l (.lst ((nearOf qs u).map V.int))))
def spHas (K : PySem.W.Frag) (C CB : Addr) : Sp := fun vs H Q E => ∃ (p : Addr) (n : Nat) (qs : List Pr) (v v' : V) (i j : Option Int), vs = [.ref p, v, v'] ∧ GraphAt K C H p n qs ∧ IB v i ∧ IB v' j ∧ ((vtxB n i && vtxB n j) = false → E (.ref CB) none H) ∧
  (∀ u w : Nat, i = some (u : Int) → j = some (w : Int) → u < n → w < n → Q (.bl (decide ((w : Int) ∈ nearOf qs u))) H)
theorem vtxB_nat {n : Nat} {i : Option Int} (h : vtxB n i = true) : ∃ u : Nat, i = some (u : Int) ∧ u < n := by
  match i, h with
  | some i, h =>
    simp only [vtxB, Bool.and_eq_true, decide_eq_true_eq] at h
    exact ⟨i.toNat, by rw [show ((i.toNat : Nat) : Int) = i by omega], by omega⟩
theorem vtxB_of {n u : Nat} (h : u < n) : vtxB n (some (u : Int)) = true := by
  simp only [vtxB, Bool.and_eq_true, decide_eq_true_eq]
  omega
theorem inV_int (x : Int) : ∀ l : List Int, inV (.int x) (l.map V.int) = decide (x ∈ l)
  | [] => by simp [inV]
  | y :: l => by
    have ih := inV_int x l
    unfold inV at ih ⊢
    rw [List.map_cons, List.any_cons, ih]
    by_cases c : y = x
    · simp [eqV, c]
    · have c' : ¬ x = y := fun z => c z.symm
      simp [eqV, c, c']
theorem flat_ints : ∀ l : List Int, (l.map V.int).all flatV = true
  | [] => rfl
  | _ :: l => by rw [List.map_cons, List.all_cons, flat_ints l]; rfl
section
variable {P : Program} {w : World} {K : PySem.W.Frag} {mg : Str → Option Value} {base : Heap}
theorem scChk : FnScope ["self", "value"] ["self", "value"] (defScope sChk) := ⟨rfl, rfl, rfl, by decide +kernel, rfl, by decide +kernel, by decide +kernel⟩
theorem ok_chk {f C CB fV : Addr} {fd fdV : FuncData} (F : Fun K "_check_vertex" "Graph._check_vertex" sChk f fd) (T : TxG K mg C) (B : TxE K mg "BadGraph" CB)
    (GV : FnOk P w K mg base CX0 2 fV fdV ["value", "size"] spVtx) (kV : PySem.W.keepIn K (.ref fV) = true) (bV : Binds K fdV ["value", "size"] []) (gV : mg "is_vertex" = some (.ref fV)) :
    FnOk P w K mg base (L2.CX P w) 3 f fd ["self", "value"] (spChk K C CB) := by
  refine F.okX scChk (fun vs H Q E h => ?_) (fun cdv A outer s H vs Q E hr h => ?_)
  · obtain ⟨p, n, qs, v, i, rfl, _⟩ := h
    rfl
  · obtain ⟨p, n, qs, v, i, rfl, g, hv, kE, kQ⟩ := h
    obtain ⟨dx, et, nt, hp, _⟩ := g.ob
    refine ⟨_, pss_one (ps_if (pt_not (pt_val (pe_call GV hr (by rfl) gV kV bV .nil pass0 (pa_cons (pv 1) (pa_cons (pe_fld (pv 0) rfl) pa_nil)))))
        (pss_one (ps_raise rfl (takes_of rfl rfl rfl rfl) (pmk_own PySem.F.excBase_ValueError B.x B.g B.k (raises_own B.b B.t) (by exact rfl)))) pss_nil), ?_⟩
    refine ⟨_, rfl, _, rfl, p, C, dx, _, .int n, rfl, hp, T.cl, T.nS, gf_size _ _ _, v, i, n, rfl, hv, vtxB n i, rfl, ?_⟩
    cases c : vtxB n i with
    | false => exact iteT (kE c)
    | true => exact iteF (kQ c)
theorem scNear : FnScope ["self", "u"] ["self", "u"] (defScope sNear) := ⟨rfl, rfl, rfl, by decide +kernel, rfl, by decide +kernel, by decide +kernel⟩
theorem ok_near {f C CB fK : Addr} {fd fdK : FuncData} (F : Fun K "near" "Graph.near" sNear f fd) (T : TxG K mg C)
    (GK : FnOk P w K mg base (L2.CX P w) 3 fK fdK ["self", "value"] (spChk K C CB)) (mK : Meth K C "_check_vertex" fK) (bK : Binds K fdK ["self", "value"] []) (ml : mg "list" = none) :
    FnOk P w K mg base (L2.CX P w) 4 f fd ["self", "u"] (spNear K C CB) := by
  refine F.okX scNear (fun vs H Q E h => ?_) (fun cdv A outer s H vs Q E hr h => ?_)
  · obtain ⟨p, n, qs, v, i, rfl, _⟩ := h
    rfl
  · obtain ⟨p, n, qs, v, i, rfl, g, hv, kE, kQ⟩ := h
    have ⟨dx, et, nt, hp, _, nts, hnt, lnt, nl⟩ := g.ob
    refine ⟨_, pss_cons (ps_expr (pe_meth (pv 0) T.cl mK GK hr bK .nil (passes_call (takes_of rfl rfl rfl rfl) fun _ _ _ _ h => h) (pa_cons (pv 1) pa_nil)))
      (pss_one (ps_ret (pe_callTy call_list_of (by rfl) ml (by decide +kernel) (pa_cons (pe_ix ix_list (pe_fld (pv 0) rfl) (pv 1) (fun _ _ => rfl)) pa_nil)))), ?_⟩
    refine ⟨_, rfl, p, dx, _, rfl, hp, gf_no _ _ _ (by decide +kernel) (by decide +kernel) (by decide +kernel), _, rfl, p, n, qs, v, i, rfl, g, hv, kE, fun c => ?_⟩
    obtain ⟨u, rfl, hu⟩ := vtxB_nat c
    cases hv with
    | int =>
      obtain ⟨au, hau⟩ : ∃ a, nts[u]? = some a := ⟨_, List.getElem?_eq_getElem (by omega)⟩
      have ixu : (nts.map V.ref)[u]? = some (.ref au) := by rw [List.getElem?_map, hau]; rfl
      exact ⟨_, rfl, p, C, dx, _, .ref nt, rfl, hp, T.cl, T.nN, gf_near _ _ _, _, rfl, nt, _, _, .ref au, rfl, rfl, SqL.of hnt, atI_nat ixu, au, _, rfl, .inl (SqL.of (nl u au hau)), fun l hl => kQ u rfl hu l hl⟩
theorem scHas : FnScope ["self", "u", "v"] ["self", "u", "v"] (defScope sHas) := ⟨rfl, rfl, rfl, by decide +kernel, rfl, by decide +kernel, by decide +kernel⟩
theorem ok_has {f C CB fK : Addr} {fd fdK : FuncData} (F : Fun K "has" "Graph.has" sHas f fd) (T : TxG K mg C)
    (GK : FnOk P w K mg base (L2.CX P w) 3 fK fdK ["self", "value"] (spChk K C CB)) (mK : Meth K C "_check_vertex" fK) (bK : Binds K fdK ["self", "value"] []) :
    FnOk P w K mg base (L2.CX P w) 4 f fd ["self", "u", "v"] (spHas K C CB) := by
  refine F.okX scHas (fun vs H Q E h => ?_) (fun cdv A outer s H vs Q E hr h => ?_)
  · obtain ⟨p, n, qs, v, v', i, j, rfl, _⟩ := h
    rfl
  · obtain ⟨p, n, qs, v, v', i, j, rfl, g, hv, hv', kE, kQ⟩ := h
    have ⟨dx, et, nt, hp, _, nts, hnt, lnt, nl⟩ := g.ob
    refine ⟨_, pss_cons (ps_expr (pe_meth (pv 0) T.cl mK GK hr bK .nil (passes_call (takes_of rfl rfl rfl rfl) fun _ _ _ _ h => h) (pa_cons (pv 1) pa_nil)))
      (pss_cons (ps_expr (pe_meth (pv 0) T.cl mK GK hr bK .nil (passes_call (takes_of rfl rfl rfl rfl) fun _ _ _ _ h => h) (pa_cons (pv 2) pa_nil)))
      (pss_one (ps_ret (pe_cmpR op_in_seq (pv 2) (pe_ix ix_list (pe_fld (pv 0) rfl) (pv 1) (fun _ _ => rfl)) (by rfl))))), ?_⟩
    refine ⟨_, rfl, p, dx, _, rfl, hp, gf_no _ _ _ (by decide +kernel) (by decide +kernel) (by decide +kernel), _, rfl, p, n, qs, v, i, rfl, g, hv, fun c => kE (by rw [c]; rfl), fun c => ?_⟩
    refine ⟨_, rfl, p, dx, _, rfl, hp, gf_no _ _ _ (by decide +kernel) (by decide +kernel) (by decide +kernel), _, rfl, p, n, qs, v', j, rfl, g, hv', fun c' => kE (by rw [c']; simp), fun c' => ?_⟩
    obtain ⟨u, rfl, hu⟩ := vtxB_nat c
    obtain ⟨x, rfl, hx⟩ := vtxB_nat c'
    cases hv with
    | int =>
      cases hv' with
      | int =>
        obtain ⟨au, hau⟩ : ∃ a, nts[u]? = some a := ⟨_, List.getElem?_eq_getElem (by omega)⟩
        have ixu : (nts.map V.ref)[u]? = some (.ref au) := by rw [List.getElem?_map, hau]; rfl
        refine ⟨_, rfl, _, rfl, p, C, dx, _, .ref nt, rfl, hp, T.cl, T.nN, gf_near _ _ _, _, rfl, nt, _, _, .ref au, rfl, rfl, SqL.of hnt, atI_nat ixu, au, _, rfl, .inl (SqL.of (nl u au hau)), rfl, flat_ints _, ?_⟩
        have z := kQ u x rfl rfl hu hx
        rw [← inV_int] at z
        exact z
end
end Sm

set_option Elab.async false
set_option linter.all false
set_option maxRecDepth 100000
set_option maxHeartbeats 4000000
namespace Sm
open PySem PySem.Spec PyProof.Rows L2

theorem valV_ne {kvs : List (Key × V)} {k : Key} (h : k ∈ kvs.map (·.1)) : valV kvs k ≠ none := fun z => by
  obtain ⟨p, hp, e⟩ := List.mem_map.mp h
  have q := valV_any k kvs
  rw [z] at q
  have r : (kvs.any fun kv => decide (kv.1 = k)) = true := List.any_eq_true.mpr ⟨p, hp, decide_eq_true e⟩
  rw [r] at q
  cases q
theorem u65 {k : Nat} {A : Around} (r : Room k A) : A.units + 65 < cLine := by have := r.un; omega
theorem neD_at {X : Cx} {A : Around} {K : PySem.W.Frag} (hA : X.A = A) (hK : X.K = K) (hu : A.units + 64 < cLine) : OpR X (compareOp .NotEq) (rNeD K) := by
  subst hA
  subst hK
  exact op_neD hu
def pD (q : Pr) : PyData := .tuple [.int q.1, .int q.2]
theorem pD_lay (q : Pr) : (pD q).canLay0 = true := by simp [pD, PyData.canLay0, PyData.canLayAll0]
theorem pD_depth (q : Pr) : (pD q).depth = 1 := by simp [pD, PyData.depth, PyData.depthAll]
theorem pDs_lay : ∀ qs : List Pr, PyData.canLayAll0 (qs.map pD) = true
  | [] => by simp [PyData.canLayAll0]
  | q :: qs => by simp [PyData.canLayAll0, pD_lay q, pDs_lay qs]
theorem pDs_depth : ∀ qs : List Pr, PyData.depthAll (qs.map pD) ≤ 1
  | [] => by simp [PyData.depthAll]
  | q :: qs => by
    have h1 := pDs_depth qs
    have h2 := pD_depth q
    simp only [List.map_cons, PyData.depthAll]
    omega
theorem pD_shaped (q : Pr) : SeqAt.shaped (pD q) = true := by
  have h := pD_depth q
  unfold SeqAt.shaped
  rw [Bool.and_eq_true]
  exact ⟨pD_lay q, decide_eq_true (by omega)⟩
theorem pDs_shapedT (qs : List Pr) : SeqAt.shaped (.tuple (qs.map pD)) = true := by
  have h1 := pDs_depth qs
  unfold SeqAt.shaped
  rw [Bool.and_eq_true]
  refine ⟨by simp only [PyData.canLay0]; exact pDs_lay qs, decide_eq_true ?_⟩
  simp only [PyData.depth]
  omega
theorem pDs_shapedL (qs : List Pr) : SeqAt.shaped (.list (qs.map pD)) = true := by
  have h1 := pDs_depth qs
  unfold SeqAt.shaped
  rw [Bool.and_eq_true]
  refine ⟨by simp only [PyData.canLay0]; exact pDs_lay qs, decide_eq_true ?_⟩
  simp only [PyData.depth]
  omega
theorem pD_eqv (p q : Pr) : PyData.eqv (pD p) (pD q) = decide (p = q) := by
  obtain ⟨a, b⟩ := p
  obtain ⟨c, d⟩ := q
  have e : PyData.eqv (pD (a, b)) (pD (c, d)) = ((a == c) && ((b == d) && true)) := by simp only [pD, PyData.eqv, PyData.eqvAll]
  rw [e]
  by_cases h1 : a = c
  · by_cases h2 : b = d
    · simp [h1, h2]
    · simp [h1, h2]
  · simp [h1]
theorem pDs_any (q : Pr) : ∀ qs : List Pr, ((qs.map pD).any fun z => PyData.eqv z (pD q)) = decide (q ∈ qs)
  | [] => by simp
  | p :: qs => by
    rw [List.map_cons, List.any_cons, pDs_any q qs, pD_eqv]
    by_cases c : p = q
    · simp [c]
    · have c' : ¬ q = p := fun z => c z.symm
      simp [c, c']
theorem dp_pair {K : PySem.W.Frag} {H : Hp} {a : Addr} {i j : Int} (h : SqT K H a [.int i, .int j]) : Dp K H (.ref a) (pD (i, j)) := .tup h (.cons (.int i) (.cons (.int j) .nil))
theorem dp_pairs {K : PySem.W.Frag} {H : Hp} : ∀ {as : List Addr} {qs : List Pr}, PairsAt K H as qs → DpAll K H (as.map V.ref) (qs.map pD)
  | _, _, .nil => .nil
  | _, _, .cons h t => .cons (dp_pair h) (dp_pairs t)
section
variable {X : Cx}
def rInDT (K : PySem.W.Frag) (neg : Bool) : R2 := fun x y H Q => ∃ d ds, Dp K H x d ∧ Dp K H y (.tuple ds) ∧ SeqAt.shaped d = true ∧ SeqAt.shaped (.tuple ds) = true ∧ Q (.bl (if neg then !(ds.any fun z => PyData.eqv z d) else ds.any fun z => PyData.eqv z d)) H
theorem op_inDT (hu : X.A.units + 65 < cLine) : OpR X (compareOp .In) (rInDT X.K false) := by
  intro pins s σ H x y v u Q I rx ry ⟨d, ds, hd, he, sd, se, q⟩
  obtain ⟨as, r1⟩ := Dp.reads I d x v hd rx
  obtain ⟨bs, r2⟩ := Dp.reads I (.tuple ds) y u he ry
  exact SeqAt.in_tuple_reads r2 r1 (SeqAt.canLay_of_shaped se) (SeqAt.canLay_of_shaped sd) (room_in_shaped sd hu) ⟨.bl _, H, I, rfl, q⟩
theorem op_notInDT (hu : X.A.units + 65 < cLine) : OpR X (compareOp .NotIn) (rInDT X.K true) := by
  intro pins s σ H x y v u Q I rx ry ⟨d, ds, hd, he, sd, se, q⟩
  obtain ⟨as, r1⟩ := Dp.reads I d x v hd rx
  obtain ⟨bs, r2⟩ := Dp.reads I (.tuple ds) y u he ry
  exact SeqAt.notIn_tuple_reads r2 r1 (SeqAt.canLay_of_shaped se) (SeqAt.canLay_of_shaped sd) (room_in_shaped sd hu) ⟨.bl _, H, I, rfl, q⟩
end
theorem cut_take (ns : List Int) (m : Nat) : cutV (ns.map V.int) none (some (m : Int)) = (ns.take m).map V.int := by
  unfold cutV
  rw [HT.sIx_none, HT.sIx_nat, List.drop_zero, Nat.sub_zero, List.length_map, ← List.map_take]
  congr 1
  by_cases h : m ≤ ns.length
  · rw [Nat.min_eq_left h]
  · rw [Nat.min_eq_right (by omega), List.take_length, List.take_of_length_le (by omega)]
def rowP (n u : Nat) : List Pr := (List.range (n - (u + 1))).map fun i => ((u : Int), ((u + 1 + i : Nat) : Int))
def pairsL (n : Nat) : List Pr := (List.range n).flatMap fun u => rowP n u
theorem rowP_len (n u : Nat) : (rowP n u).length = n - (u + 1) := by unfold rowP; rw [List.length_map, List.length_range]
theorem flat_len (n : Nat) : ∀ k, k ≤ n → ((List.range k).flatMap fun u => rowP n u).length ≤ k * n
  | 0, _ => by simp
  | k + 1, h => by
    rw [List.range_succ, List.flatMap_append, List.length_append, List.flatMap_singleton, rowP_len]
    have := flat_len n k (by omega)
    rw [Nat.succ_mul]
    omega
theorem mem_rowP {n u : Nat} {q : Pr} (h : q ∈ rowP n u) (hu : u < n) : Okp n q := by
  obtain ⟨i, hi, rfl⟩ := List.mem_map.mp h
  have := List.mem_range.mp hi
  refine ⟨?_, ?_, ?_⟩ <;> dsimp only <;> omega
theorem mem_pairs {n : Nat} {q : Pr} (h : q ∈ pairsL n) : Okp n q := by
  obtain ⟨u, hu, h2⟩ := List.mem_flatMap.mp h
  exact mem_rowP h2 (List.mem_range.mp hu)
theorem But.sqL {K : PySem.W.Frag} {p a : Addr} {H H' : Hp} {xs ys : List V} (s : But p H H') (hp : H p = some (.lst ys)) (h : SqL K H a xs) (ne : a ≠ p) : SqL K H' a xs := by
  rcases h with (h | ⟨o, h⟩) | h
  · exact .inl (.inl (s _ _ h ne))
  · exact .inl (.inr ⟨o, s _ _ h ne⟩)
  · exact .inr h
theorem But.trans {p : Addr} {H H1 H2 : Hp} (s : But p H H1) (t : But p H1 H2) : But p H H2 := fun b o e n => t b o (s b o e n) n
theorem But.sqTl {K : PySem.W.Frag} {p a : Addr} {H H' : Hp} {xs ys : List V} (s : But p H H') (hp : H p = some (.lst ys)) (h : SqT K H a xs) : SqT K H' a xs := by
  rcases h with (h | ⟨o, h⟩) | h
  · exact .inl (.inl (s _ _ h (fun z => by rw [z, hp] at h; cases h)))
  · exact .inl (.inr ⟨o, s _ _ h (fun z => by rw [z, hp] at h; cases h)⟩)
  · exact .inr h
theorem But.pairs {K : PySem.W.Frag} {p : Addr} {H H' : Hp} {ys : List V} (s : But p H H') (hp : H p = some (.lst ys)) : ∀ {as : List Addr} {qs : List Pr}, PairsAt K H as qs → PairsAt K H' as qs
  | _, _, .nil => .nil
  | _, _, .cons h t => .cons (s.sqTl hp h) (But.pairs s hp t)
theorem PairsAt.snoc {K : PySem.W.Frag} {H : Hp} {a : Addr} {q : Pr} (h : SqT K H a [.int q.1, .int q.2]) : ∀ {as : List Addr} {qs : List Pr}, PairsAt K H as qs → PairsAt K H (as ++ [a]) (qs ++ [q])
  | _, _, .nil => .cons h .nil
  | _, _, .cons h' t => .cons h' (PairsAt.snoc h t)
theorem But.free {p q : Addr} {H H' : Hp} {o : HO} (s : But p H H') (hp : H' p = some o) (h : H' q = none) : H q = none := by
  cases e : H q with
  | none => rfl
  | some o' =>
    by_cases z : q = p
    · rw [z, hp] at h; cases h
    · rw [s _ _ e z] at h; cases h
def evs (es : List Pr) : List EV := es.map fun q => some (some q.1, some q.2)
theorem ev_pairs {K : PySem.W.Frag} {H : Hp} : ∀ {as : List Addr} {es : List Pr}, PairsAt K H as es → Paired (EdgeV K H) (as.map V.ref) (evs es)
  | _, _, .nil => .nil
  | _, _, .cons h t => .cons (.pair h (.int _) (.int _)) (ev_pairs t)
theorem scan_evs {n : Int} : ∀ (es seen : List Pr), (∀ q ∈ es, Okp n q) → (∀ q ∈ es, q ∉ seen) → es.Nodup → scan n seen (evs es) = some (seen ++ es)
  | [], seen, _, _, _ => by rw [List.append_nil]; rfl
  | q :: es, seen, h1, h2, h3 => by
    obtain ⟨a, b, c⟩ := h1 q List.mem_cons_self
    have e : edgB n (some (some q.1, some q.2)) = true := by
      simp only [edgB, vtxB, Bool.and_eq_true, decide_eq_true_eq]
      omega
    show (if edgB n (some (some q.1, some q.2)) = true ∧ prOf (some (some q.1, some q.2)) ∉ seen then scan n (seen ++ [prOf (some (some q.1, some q.2))]) (evs es) else none) = _
    rw [if_pos ⟨e, h2 q List.mem_cons_self⟩]
    obtain ⟨d1, d2⟩ := List.nodup_cons.mp h3
    rw [scan_evs es _ (fun r hr => h1 r (List.mem_cons_of_mem _ hr)) (fun r hr hm => ?_) d2]
    · show some (seen ++ [q] ++ es) = _
      rw [List.append_assoc]
      rfl
    · rcases List.mem_append.mp hm with z | z
      · exact h2 r (List.mem_cons_of_mem _ hr) z
      · rw [List.mem_singleton.mp z] at hr
        exact d1 hr
theorem mk_evs {n : Nat} {es : List Pr} (h : n ≤ 60) (h1 : ∀ q ∈ es, Okp n q) (h3 : es.Nodup) : mkE n (evs es) = some es := by
  unfold mkE
  rw [if_pos ⟨by omega, by omega⟩]
  exact scan_evs es [] h1 (fun q _ => by simp) h3
theorem pD_inj : ∀ {ps qs : List Pr}, ps.map pD = qs.map pD → ps = qs
  | [], [], _ => rfl
  | [], _ :: _, h => by cases h
  | _ :: _, [], h => by cases h
  | p :: ps, q :: qs, h => by
    have h1 := (List.cons.inj h).1
    have h2 := pD_inj (List.cons.inj h).2
    obtain ⟨a, b⟩ := p
    obtain ⟨c, d⟩ := q
    unfold pD at h1
    injection h1 with h1
    have e1 := (List.cons.inj h1).1
    have e2 := (List.cons.inj (List.cons.inj h1).2).1
    injection e1 with e1
    injection e2 with e2
    rw [h2]
    dsimp only at e1 e2
    rw [e1, e2]
theorem pDs_eqv : ∀ ps qs : List Pr, PyData.eqvAll (ps.map pD) (qs.map pD) = decide (ps = qs)
  | [], [] => by simp [PyData.eqvAll]
  | [], q :: qs => by simp [PyData.eqvAll]
  | p :: ps, [] => by simp [PyData.eqvAll]
  | p :: ps, q :: qs => by
    have e : PyData.eqvAll ((p :: ps).map pD) ((q :: qs).map pD) = (PyData.eqv (pD p) (pD q) && PyData.eqvAll (ps.map pD) (qs.map pD)) := by simp only [List.map_cons, PyData.eqvAll]
    rw [e, pDs_eqv ps qs, pD_eqv]
    by_cases h1 : p = q
    · by_cases h2 : ps = qs
      · simp [h1, h2]
      · simp [h1, h2]
    · simp [h1]
theorem fld_at {X : Cx} {K : PySem.W.Frag} {e : Expr} {f : Str} {pos : Pos} {ta : TE} (hK : X.K = K) (he : PE X e ta) (hb : attributeBase e f X.env (eval e X.env) = eval e X.env) : PE X (.Attribute e f pos) (tFld K ta f) := by
  subst hK
  exact pe_fld he hb
theorem mem_near {qs : List Pr} {u v : Int} : v ∈ nearOf qs u ↔ (u, v) ∈ qs ∨ (v, u) ∈ qs := by
  unfold nearOf
  rw [List.mem_flatMap]
  constructor
  · rintro ⟨q, hq, h⟩
    rcases List.mem_append.mp h with z | z
    · by_cases c : q.1 = u
      · rw [if_pos c] at z
        have e := List.mem_singleton.mp z
        exact .inl (by rw [show (u, v) = q from Prod.ext c.symm e]; exact hq)
      · rw [if_neg c] at z; cases z
    · by_cases c : q.2 = u
      · rw [if_pos c] at z
        have e := List.mem_singleton.mp z
        exact .inr (by rw [show (v, u) = q from Prod.ext e c.symm]; exact hq)
      · rw [if_neg c] at z; cases z
  · rintro (h | h)
    · exact ⟨_, h, List.mem_append_left _ (by rw [if_pos rfl]; exact List.mem_singleton.mpr rfl)⟩
    · exact ⟨_, h, List.mem_append_right _ (by rw [if_pos rfl]; exact List.mem_singleton.mpr rfl)⟩
theorem near_sym {qs : List Pr} {u v : Int} (h : v ∈ nearOf qs u) : u ∈ nearOf qs v := mem_near.mpr ((mem_near.mp h).symm)
inductive Rch (qs : List Pr) (s : Int) : Int → Prop where
  | refl : Rch qs s s
  | step {u v : Int} : Rch qs s u → v ∈ nearOf qs u → Rch qs s v
theorem Rch.trans {qs : List Pr} {a b c : Int} (h : Rch qs a b) (h' : Rch qs b c) : Rch qs a c := by
  induction h' with
  | refl => exact h
  | step _ hn ih => exact .step ih hn
theorem Rch.symm {qs : List Pr} {a b : Int} (h : Rch qs a b) : Rch qs b a := by
  induction h with
  | refl => exact .refl
  | step _ hn ih => exact (Rch.step .refl (near_sym hn)).trans ih
def Vx (n : Nat) (k : Int) : Prop := 0 ≤ k ∧ k < n
theorem near_vx {n : Nat} {qs : List Pr} (ok : ∀ q ∈ qs, Okp n q) {u v : Int} (h : v ∈ nearOf qs u) : Vx n v := by
  unfold Vx
  rcases mem_near.mp h with z | z
  · obtain ⟨a, b, c⟩ := ok _ z
    dsimp only at a b c
    omega
  · obtain ⟨a, b, c⟩ := ok _ z
    dsimp only at a b c
    omega
theorem Rch.vx {n : Nat} {qs : List Pr} (ok : ∀ q ∈ qs, Okp n q) {s k : Int} (hs : Vx n s) (h : Rch qs s k) : Vx n k := by
  cases h with
  | refl => exact hs
  | step _ hn => exact near_vx ok hn
/-- numbers below n, none twice -/
theorem few_vx {n : Nat} {l : List Int} (nd : l.Nodup) (h : ∀ k ∈ l, Vx n k) : l.length ≤ n := by
  have nd2 : (l.map Int.toNat).Nodup := by
    refine List.pairwise_map.mpr (List.Pairwise.imp_of_mem (fun {a b} ha hb ne e => ne ?_) nd)
    have x := h a ha
    have y := h b hb
    unfold Vx at x y
    omega
  have z := nat_nodup_len (l.map Int.toNat) (List.range n) nd2 fun x hx => by
    obtain ⟨k, hk, rfl⟩ := List.mem_map.mp hx
    have y := h k hk
    unfold Vx at y
    exact List.mem_range.mpr (by omega)
  rw [List.length_map, List.length_range] at z
  exact z
theorem near_len {n : Nat} {qs : List Pr} (few : qs.length ≤ 75) (u : Int) : (nearOf qs u).length ≤ 150 := by
  have := nearOf_len qs u
  omega
/-- the edges that no vertex of G bears -/
def cutE (qs : List Pr) (G : List Int) : List Pr := qs.filter fun q => decide (q.1 ∉ G) && decide (q.2 ∉ G)
theorem mem_cutE {qs : List Pr} {G : List Int} {q : Pr} : q ∈ cutE qs G ↔ q ∈ qs ∧ q.1 ∉ G ∧ q.2 ∉ G := by
  unfold cutE
  rw [List.mem_filter, Bool.and_eq_true, decide_eq_true_eq, decide_eq_true_eq]
theorem cutE_nil (qs : List Pr) : cutE qs [] = qs := List.filter_eq_self.mpr fun q _ => by simp
theorem near_cut {qs : List Pr} {G : List Int} {u v : Int} : v ∈ nearOf (cutE qs G) u ↔ v ∈ nearOf qs u ∧ u ∉ G ∧ v ∉ G := by
  rw [mem_near, mem_near, mem_cutE, mem_cutE]
  constructor
  · rintro (⟨a, b, c⟩ | ⟨a, b, c⟩)
    · exact ⟨.inl a, b, c⟩
    · exact ⟨.inr a, c, b⟩
  · rintro ⟨a | a, b, c⟩
    · exact .inl ⟨a, b, c⟩
    · exact .inr ⟨a, c, b⟩
theorem valV_keys {kvs : List (Key × V)} {S : List Int} (e : kvs.map (·.1) = S.map Sum.inl) (k : Int) : (valV kvs (Sum.inl k : Key)).isSome = decide (k ∈ S) := by
  have h : (Sum.inl k : Key) ∈ kvs.map (·.1) ↔ k ∈ S := by
    rw [e, List.mem_map]
    exact ⟨fun ⟨j, hj, z⟩ => by rw [← Sum.inl.inj z]; exact hj, fun hk => ⟨k, hk, rfl⟩⟩
  unfold valV
  rw [Option.isSome_map, Bool.eq_iff_iff, List.find?_isSome, decide_eq_true_eq, ← h, List.mem_map]
  exact ⟨fun ⟨x, hx, z⟩ => ⟨x, hx, of_decide_eq_true z⟩, fun ⟨x, hx, z⟩ => ⟨x, hx, decide_eq_true z⟩⟩
theorem valV_no {kvs : List (Key × V)} {S : List Int} (e : kvs.map (·.1) = S.map Sum.inl) {k : Int} (h : k ∉ S) : valV kvs (Sum.inl k : Key) = none := by
  have z := valV_keys e k
  rw [decide_eq_false h] at z
  cases y : valV kvs (Sum.inl k : Key) with
  | none => rfl
  | some v => rw [y] at z; cases z
theorem putK_keys {kvs : List (Key × V)} {S : List Int} (e : kvs.map (·.1) = S.map Sum.inl) {k : Int} (h : k ∉ S) (v : V) : (putK kvs (Sum.inl k : Key) v).map (·.1) = (S ++ [k]).map Sum.inl := by
  rw [putK_new _ (valV_no e h), List.map_append, e, List.map_append]
  rfl
theorem lt_of_le {l : List Int} (h : l.Pairwise (· ≤ ·)) (nd : l.Nodup) : l.Pairwise (· < ·) := List.Pairwise.imp (fun {a b} h => by omega) (List.Pairwise.and h nd)
theorem lt_ext : ∀ {l m : List Int}, l.Pairwise (· < ·) → m.Pairwise (· < ·) → (∀ k, k ∈ l ↔ k ∈ m) → l = m
  | [], [], _, _, _ => rfl
  | [], b :: m, _, _, h => by have z := (h b).mpr List.mem_cons_self; cases z
  | a :: l, [], _, _, h => by have z := (h a).mp List.mem_cons_self; cases z
  | a :: l, b :: m, hl, hm, h => by
    obtain ⟨l1, l2⟩ := List.pairwise_cons.mp hl
    obtain ⟨m1, m2⟩ := List.pairwise_cons.mp hm
    have e : a = b := by
      rcases List.mem_cons.mp ((h a).mp List.mem_cons_self) with z | z
      · exact z
      · rcases List.mem_cons.mp ((h b).mpr List.mem_cons_self) with y | y
        · exact y.symm
        · have := m1 a z
          have := l1 b y
          omega
    subst e
    refine congrArg (a :: ·) (lt_ext l2 m2 fun k => ?_)
    constructor
    · intro hk
      rcases List.mem_cons.mp ((h k).mp (List.mem_cons_of_mem _ hk)) with z | z
      · have := l1 k hk
        omega
      · exact z
    · intro hk
      rcases List.mem_cons.mp ((h k).mpr (List.mem_cons_of_mem _ hk)) with z | z
      · have := m1 k hk
        omega
      · exact z
def vxs (n : Nat) : List Int := (List.range n).map fun (i : Nat) => (i : Int)
theorem vxs_lt (n : Nat) : (vxs n).Pairwise (· < ·) := List.pairwise_map.mpr (List.Pairwise.imp (fun {a b} h => by omega) List.pairwise_lt_range)
theorem mem_vxs {n : Nat} {k : Int} : k ∈ vxs n ↔ Vx n k := by
  unfold vxs Vx
  rw [List.mem_map]
  constructor
  · rintro ⟨i, hi, rfl⟩
    have := List.mem_range.mp hi
    omega
  · intro h
    exact ⟨k.toNat, List.mem_range.mpr (by omega), by omega⟩
open Classical in
noncomputable def compL (n : Nat) (qs : List Pr) (u : Int) : List Int := (vxs n).filter fun k => decide (Rch qs u k)
open Classical in
theorem compL_lt (n : Nat) (qs : List Pr) (u : Int) : (compL n qs u).Pairwise (· < ·) := (vxs_lt n).filter _
open Classical in
theorem mem_compL {n : Nat} {qs : List Pr} (ok : ∀ q ∈ qs, Okp n q) {u k : Int} (hu : Vx n u) : k ∈ compL n qs u ↔ Rch qs u k := by
  unfold compL
  rw [List.mem_filter, mem_vxs, decide_eq_true_eq]
  exact ⟨fun h => h.2, fun h => ⟨h.vx ok hu, h⟩⟩
abbrev ListsAt (H : Hp) : List Addr → List (List Int) → Prop := Paired fun a c => H a = some (.lst (c.map V.int))
theorem ListsAt.keep {H H' : Hp} (h : ∀ a c, H a = some (.lst c) → H' a = some (.lst c)) : ∀ {ps : List Addr} {cs : List (List Int)}, ListsAt H ps cs → ListsAt H' ps cs
  | _, _, .nil => .nil
  | _, _, .cons e t => .cons (h _ _ e) (ListsAt.keep h t)
theorem ListsAt.keep2 {H H' : Hp} {f : Addr} (h : ∀ a c, a ≠ f → H a = some (.lst c) → H' a = some (.lst c)) : ∀ {ps : List Addr} {cs : List (List Int)}, (∀ a ∈ ps, a ≠ f) → ListsAt H ps cs → ListsAt H' ps cs
  | _, _, _, .nil => .nil
  | _, _, n, .cons e t => .cons (h _ _ (n _ List.mem_cons_self) e) (ListsAt.keep2 h (fun a ha => n a (List.mem_cons_of_mem _ ha)) t)
theorem ListsAt.snoc {H : Hp} {a : Addr} {c : List Int} (e : H a = some (.lst (c.map V.int))) : ∀ {ps : List Addr} {cs : List (List Int)}, ListsAt H ps cs → ListsAt H (ps ++ [a]) (cs ++ [c])
  | _, _, .nil => .cons e .nil
  | _, _, .cons e' t => .cons e' (ListsAt.snoc e t)
open Classical in
/-- the components of what is left without G, of the least vertices below i -/
noncomputable def compG (n : Nat) (qs : List Pr) (G : List Int) (i : Nat) : List (List Int) := ((List.range i).filter fun (u : Nat) => decide ((u : Int) ∉ G ∧ ∀ v : Nat, v < u → ¬ Rch (cutE qs G) v u)).map fun (u : Nat) => compL n (cutE qs G) (u : Int)
open Classical in
theorem compG_no {n i : Nat} {qs : List Pr} {G : List Int} (h : (i : Int) ∈ G ∨ ∃ v : Nat, v < i ∧ Rch (cutE qs G) v i) : compG n qs G (i + 1) = compG n qs G i := by
  unfold compG
  rw [List.range_succ, List.filter_append, List.filter_cons_of_neg, List.filter_nil, List.append_nil]
  simp only [decide_eq_true_eq]
  rintro ⟨z1, z2⟩
  rcases h with h | ⟨v, hv, hr⟩
  · exact z1 h
  · exact z2 v hv hr
open Classical in
theorem compG_yes {n i : Nat} {qs : List Pr} {G : List Int} (h1 : (i : Int) ∉ G) (h : ¬ ∃ v : Nat, v < i ∧ Rch (cutE qs G) v i) : compG n qs G (i + 1) = compG n qs G i ++ [compL n (cutE qs G) (i : Int)] := by
  unfold compG
  rw [List.range_succ, List.filter_append, List.filter_cons_of_pos, List.filter_nil, List.map_append]
  · rfl
  · simp only [decide_eq_true_eq]
    exact ⟨h1, fun v hv hr => h ⟨v, hv, hr⟩⟩
theorem Rch.stay {qs : List Pr} {G : List Int} {a b : Int} (h : Rch (cutE qs G) a b) (ha : a ∉ G) : b ∉ G := by
  cases h with
  | refl => exact ha
  | step _ hn => exact (near_cut.mp hn).2.2
theorem Rch.stuck {qs : List Pr} {G : List Int} {a b : Int} (h : Rch (cutE qs G) a b) (ha : a ∈ G) : b = a := by
  induction h with
  | refl => rfl
  | step _ hn ih => subst ih; exact absurd ha (near_cut.mp hn).2.1
theorem rg_vxs (n : Nat) : rgV 0 (n : Int) = (vxs n).map V.int := by
  unfold rgV vxs
  rw [List.map_map]
  have e : ((n : Int) - 0).toNat = n := by omega
  rw [e]
  exact List.map_congr_left fun i _ => by
    show V.int (0 + (i : Int)) = V.int (i : Int)
    rw [Int.zero_add]
theorem erase_perm {l : List Int} {k : Nat} {y : Int} (h : l[k]? = some y) : (y :: l.eraseIdx k).Perm l := by
  obtain ⟨hk, e⟩ := List.getElem?_eq_some_iff.mp h
  rw [List.eraseIdx_eq_take_drop_succ]
  have z := split_at h
  conv => rhs; rw [z]
  exact List.perm_middle.symm
theorem same_of_but {p : Addr} {H Hs H' : Hp} (s : Same H Hs) (np : H p = none) (b : But p Hs H') : Same H H' := fun c o e => b _ _ (s _ _ e) (ne_of_none e np)
theorem lt_of_le_nd {l : List Int} (h : l.Pairwise (· ≤ ·)) (nd : l.Nodup) : l.Pairwise (· < ·) := List.Pairwise.imp (fun {a b} h => by have := h.1; have := h.2; omega) (List.Pairwise.and h nd)
theorem notInS_at {X : Cx} {K : PySem.W.Frag} (hK : X.K = K) : OpR X (compareOp .NotIn) (rIn K true) := by
  subst hK
  exact op_notIn_seq
theorem iteIn {x : Int} {l : List Int} {A B : Prop} (h1 : x ∈ l → A) (h2 : x ∉ l → B) : if (if false = true then !inV (.int x) (l.map V.int) else inV (.int x) (l.map V.int)) = true then A else B := by
  rw [if_neg Bool.false_ne_true, inV_int]
  by_cases c : x ∈ l
  · rw [decide_eq_true c]; exact iteT (h1 c)
  · rw [decide_eq_false c]; exact iteF (h2 c)
theorem iteNIn {x : Int} {l : List Int} {A B : Prop} (h1 : x ∉ l → A) (h2 : x ∈ l → B) : if (if true = true then !inV (.int x) (l.map V.int) else inV (.int x) (l.map V.int)) = true then A else B := by
  rw [if_pos rfl, inV_int]
  by_cases c : x ∈ l
  · rw [decide_eq_true c]; exact iteF (h2 c)
  · rw [decide_eq_false c]; exact iteT (h1 c)
theorem sorted_uniq {qs es : List Pr} (h1 : qs.Pairwise lexlt) (h2 : es.Pairwise fun x y => SrtO.lexB y x = false) (pm : es.Perm qs) : es = qs := by
  refine List.Perm.eq_of_pairwise (le := fun x y => SrtO.lexB y x = false) (fun a b _ _ h h' => ?_) h2 (List.Pairwise.imp (fun {a b} h => ?_) h1) pm
  · have x := SrtO.lexB_no.mp h
    have y := SrtO.lexB_no.mp h'
    have e1 : a.1 = b.1 := by omega
    have e2 : a.2 = b.2 := by omega
    exact Prod.ext e1 e2
  · have x := SrtO.lexB_iff.mp h
    refine SrtO.lexB_no.mpr ?_
    omega
theorem inD_at {X : Cx} {A : Around} {K : PySem.W.Frag} (hA : X.A = A) (hK : X.K = K) (hu : A.units + 65 < cLine) : OpR X (compareOp .In) (rInD K) := by
  subst hA
  subst hK
  exact op_inD hu
theorem nearOf_lt {n : Nat} {qs : List Pr} (ok : ∀ q ∈ qs, Okp n q) (srt : qs.Pairwise lexlt) (u : Int) : (nearOf qs u).Pairwise (· < ·) := by
  unfold nearOf
  refine List.pairwise_flatMap.mpr ⟨fun q hq => ?_, List.Pairwise.imp_of_mem (fun {q r} hq hr h x hx y hy => ?_) srt⟩
  · obtain ⟨a, b, c⟩ := ok q hq
    by_cases c1 : q.1 = u
    · by_cases c2 : q.2 = u
      · omega
      · rw [if_pos c1, if_neg c2]
        exact List.pairwise_singleton _ _
    · rw [if_neg c1]
      by_cases c2 : q.2 = u
      · rw [if_pos c2]
        exact List.pairwise_singleton _ _
      · rw [if_neg c2]
        exact List.Pairwise.nil
  · obtain ⟨a, b, c⟩ := ok q hq
    obtain ⟨a', b', c'⟩ := ok r hr
    have l := SrtO.lexB_iff.mp h
    have kx : (q.1 = u ∧ x = q.2) ∨ (q.2 = u ∧ x = q.1) := by
      rcases List.mem_append.mp hx with z | z
      · by_cases c1 : q.1 = u
        · rw [if_pos c1] at z; exact .inl ⟨c1, List.mem_singleton.mp z⟩
        · rw [if_neg c1] at z; cases z
      · by_cases c1 : q.2 = u
        · rw [if_pos c1] at z; exact .inr ⟨c1, List.mem_singleton.mp z⟩
        · rw [if_neg c1] at z; cases z
    have ky : (r.1 = u ∧ y = r.2) ∨ (r.2 = u ∧ y = r.1) := by
      rcases List.mem_append.mp hy with z | z
      · by_cases c1 : r.1 = u
        · rw [if_pos c1] at z; exact .inl ⟨c1, List.mem_singleton.mp z⟩
        · rw [if_neg c1] at z; cases z
      · by_cases c1 : r.2 = u
        · rw [if_pos c1] at z; exact .inr ⟨c1, List.mem_singleton.mp z⟩
        · rw [if_neg c1] at z; cases z
    omega
/-- what the law takes for the neighbours of u -/
def lnear (n : Nat) (es : List Pr) (u : Int) : List Int := (vxs n).filter fun v => decide ((if v < u then v else u, if v > u then v else u) ∈ es)
theorem mm_mem {es : List Pr} {n : Nat} (ok : ∀ q ∈ es, Okp n q) {u v : Int} : (if v < u then v else u, if v > u then v else u) ∈ es ↔ v ∈ nearOf es u := by
  rw [mem_near]
  by_cases c : v < u
  · rw [if_pos c, if_neg (by omega)]
    exact ⟨.inr, fun h => h.elim (fun z => by have := (ok _ z).2.1; dsimp only at this; omega) id⟩
  · rw [if_neg c]
    by_cases c2 : v > u
    · rw [if_pos c2]
      exact ⟨.inl, fun h => h.elim id (fun z => by have := (ok _ z).2.1; dsimp only at this; omega)⟩
    · rw [if_neg c2]
      have e : u = v := by omega
      subst e
      exact ⟨.inl, fun h => h.elim id id⟩
theorem near_perm {qs es : List Pr} (pm : qs.Perm es) {u v : Int} : v ∈ nearOf qs u ↔ v ∈ nearOf es u := by
  rw [mem_near, mem_near, pm.mem_iff, pm.mem_iff]
theorem near_lnear {n : Nat} {qs es : List Pr} (ok : ∀ q ∈ qs, Okp n q) (srt : qs.Pairwise lexlt) (pm : qs.Perm es) (u : Int) : nearOf qs u = lnear n es u := by
  refine lt_ext (nearOf_lt ok srt u) ((vxs_lt n).filter _) fun k => ?_
  have ok' : ∀ q ∈ es, Okp n q := fun q hq => ok q (pm.mem_iff.mpr hq)
  unfold lnear
  rw [List.mem_filter, mem_vxs, decide_eq_true_eq, mm_mem ok', ← near_perm pm]
  exact ⟨fun h => ⟨near_vx ok h, h⟩, fun h => h.2⟩
theorem ints_eqv : ∀ l : List Int, PyData.eqvAll (l.map PyData.int) (l.map PyData.int) = true
  | [] => by simp [PyData.eqvAll]
  | i :: l => by simp only [List.map_cons, PyData.eqvAll, ints_eqv l, PyData.eqv]; simp
theorem dp_ints {K : PySem.W.Frag} {H : Hp} : ∀ l : List Int, DpAll K H (l.map V.int) (l.map PyData.int)
  | [] => .nil
  | i :: l => .cons (.int i) (dp_ints l)
theorem ints_lay : ∀ l : List Int, PyData.canLayAll0 (l.map PyData.int) = true
  | [] => by simp [PyData.canLayAll0]
  | i :: l => by simp only [List.map_cons, PyData.canLayAll0, ints_lay l, PyData.canLay0]; simp
theorem ints_depth : ∀ l : List Int, PyData.depthAll (l.map PyData.int) ≤ 0
  | [] => by simp [PyData.depthAll]
  | i :: l => by
    have z := ints_depth l
    simp only [List.map_cons, PyData.depthAll, PyData.depth]
    omega
theorem flt1 {p : Int → Bool} {a : Int} (h : p a = true) : [a].filter p = [a] := List.filter_cons_of_pos h
theorem flt0 {p : Int → Bool} {a : Int} (h : p a = false) : [a].filter p = [] := List.filter_cons_of_neg (by rw [h]; decide)
theorem ints_shaped (l : List Int) : SeqAt.shaped (.list (l.map PyData.int)) = true := by
  have h1 := ints_depth l
  unfold SeqAt.shaped
  rw [Bool.and_eq_true]
  refine ⟨by simp only [PyData.canLay0]; exact ints_lay l, decide_eq_true ?_⟩
  simp only [PyData.depth]
  omega
theorem memRow {n u : Nat} {q : Pr} : q ∈ rowP n u ↔ ∃ i, i < n - (u + 1) ∧ ((u : Int), ((u + 1 + i : Nat) : Int)) = q := by
  unfold rowP
  rw [List.mem_map]
  constructor
  · rintro ⟨i, hi, e⟩
    exact ⟨i, List.mem_range.mp hi, e⟩
  · rintro ⟨i, hi, e⟩
    exact ⟨i, List.mem_range.mpr hi, e⟩
theorem mem_pairsL {n : Nat} {q : Pr} : q ∈ pairsL n ↔ Okp n q := by
  refine ⟨mem_pairs, fun ⟨a, b, c⟩ => ?_⟩
  unfold pairsL
  refine List.mem_flatMap.mpr ⟨q.1.toNat, List.mem_range.mpr (by omega), memRow.mpr ⟨(q.2 - q.1 - 1).toNat, by omega, Prod.ext ?_ ?_⟩⟩
  · show ((q.1.toNat : Nat) : Int) = q.1
    omega
  · show ((q.1.toNat + 1 + (q.2 - q.1 - 1).toNat : Nat) : Int) = q.2
    omega
theorem pairsL_lt (n : Nat) : (pairsL n).Pairwise lexlt := by
  unfold pairsL
  refine List.pairwise_flatMap.mpr ⟨fun u _ => ?_, List.Pairwise.imp (fun {u v} h x hx y hy => ?_) List.pairwise_lt_range⟩
  · unfold rowP
    refine List.pairwise_map.mpr (List.Pairwise.imp (R := (· < ·)) (fun {i j} h => ?_) List.pairwise_lt_range)
    refine SrtO.lexB_iff.mpr (.inr ⟨rfl, ?_⟩)
    show ((u + 1 + i : Nat) : Int) < ((u + 1 + j : Nat) : Int)
    omega
  · obtain ⟨i, _, rfl⟩ := memRow.mp hx
    obtain ⟨j, _, rfl⟩ := memRow.mp hy
    refine SrtO.lexB_iff.mpr (.inl ?_)
    show ((u : Nat) : Int) < ((v : Nat) : Int)
    omega
theorem lex_le {es : List Pr} (h : es.Pairwise lexlt) : es.Pairwise fun x y => SrtO.lexB y x = false := List.Pairwise.imp (fun {a b} h => by
  have x := SrtO.lexB_iff.mp h
  refine SrtO.lexB_no.mpr ?_
  omega) h
theorem lex_eq {qs es : List Pr} (h1 : qs.Pairwise lexlt) (h2 : es.Pairwise lexlt) (pm : qs.Perm es) : qs = es := (sorted_uniq h1 (lex_le h2) pm.symm).symm
theorem getD_at {s : List Int} {i : Nat} {v : Int} (h : s[i]? = some v) : s.getD i 0 = v := by
  rw [List.getD_eq_getElem?_getD, h]
  rfl
theorem vx_perm {n : Nat} {os : List Int} (pm : os.Perm (vxs n)) : (∀ x ∈ os, Vx n x) ∧ os.Nodup ∧ os.length = n := by
  refine ⟨fun x hx => mem_vxs.mp (pm.mem_iff.mp hx), pm.symm.nodup (List.Pairwise.imp (fun {a b} h e => by omega) (vxs_lt n)), ?_⟩
  rw [pm.length_eq]
  unfold vxs
  rw [List.length_map, List.length_range]
end Sm

set_option Elab.async false
set_option linter.all false
set_option maxRecDepth 100000
set_option maxHeartbeats 4000000
namespace Sm
open PySem PySem.Spec PyProof.Rows L2
/-! ### a dict comprehension that a local name takes -/
section
variable {X : Cx}
theorem sw_dict {kx vx : Expr} {gens : List Comprehension} {sc : Scope} {at1 at2 : Pos} {nm : Str} {ln : Nat} {en : Env}
    (e1 : en.scope.kind = .function) (e2 : en.scope.names.lookup nm = some .local) (e3 : (at2.line == at1.line) = true)
    (e4 : (sc.names.any fun (n, k) => n == nm && (k == .local || k == .cell)) = false) :
    swapsWith (.DictComp kx vx gens sc at1) (some (.Name nm at2)) ln en = pure true := by
  have z1 : en.kindOf nm = some .local := e2
  have z2 : en.blockKind = .function := by
    unfold Env.blockKind
    rw [e1]
    rfl
  unfold swapsWith
  simp only [z2, z1, e4, e3, Expr.pos]
  rfl
abbrev BlkFam (X : Cx) (sc : Scope) (p : Cx → Prop) : Prop := ∀ (s : Shared) (H : Hp) (C : Addr) (cl : List (Str × Addr)) (fp : List Addr), p (X.blk s H sc (compEnvC sc cl C X.env) fp)
theorem ps_setDc {i : Nat} {nm : Str} {at2 : Pos} {kx vx tg iter : Expr} {ifs : List Expr} {sc : Scope} {own : List (Str × Nat)} {at1 at0 : Pos} {wi : TI} {g : TG} {tt : TT} {tk tv : TE}
    (hc : X.calm = true) (hN : X.N.Nodup) (hy : X.N[i]? = some nm) (hyl : X.env.scope.names.lookup nm = some .local)
    (hsw : swapsWith (.DictComp kx vx [⟨tg, iter, ifs, 0⟩] sc at1) (some (.Name nm at2)) at0.line X.env = pure true)
    (hi : PI X tg iter wi) (ok : BlkOk X.N X.env.scope sc own)
    (hg : BlkFam X sc fun Y => PG Y tg g) (ht : BlkFam X sc fun Y => PTs Y ifs tt) (hk : BlkFam X sc fun Y => PE Y kx tk) (he : BlkFam X sc fun Y => PE Y vx tv)
    (hs : ∀ x, foldedSetIterable iter X.env x = pure x := by intro _; rfl) :
    PS X (.Assign [.Name nm at2] (.DictComp kx vx [⟨tg, iter, ifs, 0⟩] sc at1) at0) (tAsg (tDc wi g tt tk tv (own.map (·.2))) (gName i)) := by
  constructor
  intro pins s σ H D I h
  rw [exec_Assign_Name_used _ _ _ _ hsw]
  refine wpAny_bind (wpAny_standAt (wpAny_bind ?_))
  show wpAny _ X.A (do
    let _ ← comprehension (.DictComp kx vx [⟨tg, iter, ifs, 0⟩] sc at1) sc X.env (firstIterPos [⟨tg, iter, ifs, 0⟩] at1) newDict false (eval iter X.env) (some (assign (.Name nm at2) X.env))) _ _ s
  have h1 : tDc wi g tt tk tv (own.map (·.2)) σ H (fun x H1 => gName i x σ H1 D.nx) := h
  refine wpAny_bind (thn (dc_core (Qf := fun _ s' => SP X pins D .next s') hc hN I hi ok hg ht hk he hs h1 ?_) fun _ s' hq => wpAny_pure (wpAny_pure hq))
  rintro L C s' m H' I' q hn ⟨f0, f1, f2, f3, f4, f5⟩
  show wpAny _ _ (assign (.Name nm at2) X.env (.ref L)) _ _ _
  refine wpAny_assign_Name (store_ok2 (v := V.ref L) I' hN hy (.inl hyl) rfl ?_ (.inr hyl))
  rintro s2 I2 ⟨a, sb, ha⟩
  have ne : C ≠ a := by
    rcases ha with z | z
    · rw [z]
      exact f1
    · intro e
      exact f4 nm a z e.symm
  refine ⟨m, hn.sameBut sb ne, fun h3 sb3 => ⟨_, H', ?_, q⟩⟩
  exact I2.turned (t' := s2.toks) (fun b o hb e => (sb3.2 b hb).trans e) f0 f1 f3 f4 f5
end
end Sm

set_option Elab.async false
set_option linter.all false
set_option maxRecDepth 100000
set_option maxHeartbeats 4000000
namespace Sm
open PySem PySem.Spec PyProof.Rows L2

abbrev sRch : Stmt := topS 12
abbrev sPcw : Stmt := topS 11
def spRch (K : PySem.W.Frag) (C : Addr) : Sp := fun vs H Q _ => ∃ (g d : Addr) (n : Nat) (qs : List Pr) (G S : List Int) (kvs : List (Key × V)) (u : Nat) (H0 : Hp), vs = [.ref g, .int u, .ref d] ∧ GraphAt K C H0 g n qs ∧ Same H0 H ∧ H0 d = none ∧ u < n ∧
  H d = some (.dK kvs) ∧ kvs.map (·.1) = S.map Sum.inl ∧ S.Nodup ∧ (∀ k ∈ S, Vx n k) ∧ (∀ k ∈ G, k ∈ S) ∧ (u : Int) ∉ S ∧ (∀ k ∈ S, k ∉ G → ∀ j ∈ nearOf qs k, j ∈ S) ∧
  ∀ (H' : Hp) (l : Addr) (ns L : List Int) (kvs' : List (Key × V)), But d H H' → H l = none → H' l = some (.lst (ns.map V.int)) → ns.Pairwise (· < ·) → (∀ k, k ∈ ns ↔ Rch (cutE qs G) u k) → H' d = some (.dK kvs') → kvs'.map (·.1) = L.map Sum.inl → L.Nodup → (∀ k, k ∈ L ↔ k ∈ S ∨ Rch (cutE qs G) u k) → Q (.ref l) H'
def spPcw (K : PySem.W.Frag) (C : Addr) : Sp := fun vs H Q _ => ∃ (g t : Addr) (n : Nat) (qs : List Pr) (G : List Int), vs = [.ref g, .ref t] ∧ GraphAt K C H g n qs ∧ SqT K H t (G.map V.int) ∧ G.Nodup ∧ (∀ k ∈ G, Vx n k) ∧
  ∀ (H' : Hp) (f : Addr) (ps : List Addr), Same H H' → H f = none → H' f = some (.lst (ps.map V.ref)) → ListsAt H' ps (compG n qs G n) → (∀ a ∈ ps, a ≠ f) → Q (.ref f) H'
section
variable {P : Program} {w : World} {K : PySem.W.Frag} {mg : Str → Option Value} {base : Heap}
theorem scRch : FnScope ["graph", "start", "seen", "waiting", "piece", "vertex", "other"] ["graph", "start", "seen"] (defScope sRch) := ⟨rfl, rfl, rfl, by decide +kernel, rfl, by decide +kernel, by decide +kernel⟩
theorem ok_rch {f C CB fNe : Addr} {fd fdNe : FuncData} (F : Fun K "reached" "reached" sRch f fd) (T : TxG K mg C)
    (GNe : FnOk P w K mg base (L2.CX P w) 4 fNe fdNe ["self", "u"] (spNear K C CB)) (mNe : Meth K C "near" fNe) (bNe : Binds K fdNe ["self", "u"] []) (ms : mg "sorted" = none) :
    FnOk P w K mg base (L2.CX P w) 5 f fd ["graph", "start", "seen"] (spRch K C) := by
  refine F.okX scRch (fun vs H Q E h => ?_) (fun cdv A outer s H vs Q E hr h => ?_)
  · obtain ⟨g, d, n, qs, G, S, kvs, u, H0, rfl, _⟩ := h
    rfl
  · obtain ⟨g, d, n, qs, G, S, kvs, u, H0, rfl, GA, s0, d0, hu0, hd, hk, ndS, vxS, hGS, huS, hcS, q⟩ := h
    have hu := hu_of hr
    have lim := GA.lim
    have few := GA.few
    refine ⟨_, pss_cons (ps_dput hu (pv 2) (pv 1) pe_bl rfl)
      (pss_cons (ps_set (i := 3) scRch.nd rfl (.inl rfl) (pe_lst (pa_cons (pv 1) pa_nil)))
      (pss_cons (ps_set (i := 4) scRch.nd rfl (.inl rfl) (pe_lst pa_nil))
      (pss_cons (ps_while (passes_of rfl) (pt_truth (pv 3) (by intro _; rfl))
        (pss_cons (ps_set (i := 5) scRch.nd rfl (.inl rfl) (pe_bm0 PySem.F.plainAttrs_list PySem.F.slot_list_pop PySem.F.type_list_pop mt_pop (pv 3)))
        (pss_cons (ps_expr (pe_bm PySem.F.plainAttrs_list PySem.F.slot_list_append PySem.F.type_list_append mt_append (pv 4) (pa_cons (pv 5) pa_nil)))
        (pss_one (ps_for (passes_of rfl) rfl (pi_list (pe_meth (pv 0) T.cl mNe GNe hr bNe .nil (passes_call (takes_of rfl rfl rfl rfl) fun _ _ _ _ h => h) (pa_cons (pv 5) pa_nil))) (pg_name (i := 6) scRch.nd rfl (.inl rfl))
          (pss_one (ps_if (pt_cmp (pc_dnotin hu (pv 6) (pv 2)))
            (pss_cons (ps_dput hu (pv 2) (pv 6) pe_bl rfl)
            (pss_one (ps_expr (pe_bm PySem.F.plainAttrs_list PySem.F.slot_list_append PySem.F.type_list_append mt_append (pv 3) (pa_cons (pv 6) pa_nil))))) pss_nil)))))))
      (pss_one (ps_ret (pe_callB cr_sortedI (by rfl) ms (by decide +kernel) (pa_cons (pv 4) pa_nil))))))), ?_⟩
    have ⟨dx, et, nt, hg, _⟩ := GA.ob
    have llS := few_vx ndS vxS
    have lkS : kvs.length = S.length := by have := congrArg List.length hk; rwa [List.length_map, List.length_map] at this
    refine ⟨_, rfl, _, rfl, d, _, rfl, DPut.k (k := Sum.inl (u : Int)) hd (small1000 (by omega)), ?_⟩
    have b1 : But d H (upd H d (.dK (putK kvs (Sum.inl (u : Int)) (.bl true)))) := But.put fun b o e _ => e
    refine ⟨_, rfl, (by show 1 ≤ sizeLine; decide), fun q1 nq => ?_⟩
    have dq : d ≠ q1 := fun z => by rw [← z, upd_same] at nq; cases nq
    have nqH : H q1 = none := by rw [upd_ne dq.symm] at nq; exact nq
    refine ⟨Nat.zero_le _, fun p1 np => ?_⟩
    have qp : q1 ≠ p1 := fun z => by rw [← z, upd_same] at np; cases np
    have dp : d ≠ p1 := fun z => by rw [← z, upd_ne dq, upd_same] at np; cases np
    have npH : H p1 = none := by rw [upd_ne qp.symm, upd_ne dp.symm] at np; exact np
    have npu : ∀ {x : Int} {b : Addr}, b ≠ p1 → True := fun _ => trivial
    refine ⟨fun m σ H' => ∃ (y5 y6 : Option V) (l ws pc : List Int) (kvs' : List (Key × V)), σ = [some (.ref g), some (.int u), some (.ref d), some (.ref q1), some (.ref p1), y5, y6] ∧ But d H H' ∧ H' d = some (.dK kvs') ∧ kvs'.map (·.1) = (S ++ l).map Sum.inl ∧ H' q1 = some (.lst (ws.map V.int)) ∧ H' p1 = some (.lst (pc.map V.int)) ∧
      (S ++ l).Nodup ∧ (∀ k ∈ l, Rch (cutE qs G) u k) ∧ (u : Int) ∈ l ∧ l.Perm (pc ++ ws) ∧ (∀ k ∈ pc, ∀ j ∈ nearOf qs k, j ∈ S ++ l) ∧ 2 * (n - l.length) + ws.length ≤ 2 * n ∧ m = 2 * (n - l.length) + ws.length,
      ⟨_, none, none, [(u : Int)], [(u : Int)], [], _, rfl, (b1.new nqH).new npH, by rw [upd_ne dp, upd_ne dq, upd_same], putK_keys hk huS _, by rw [upd_ne qp, upd_same]; rfl, upd_same,
        List.nodup_append.mpr ⟨ndS, by simp, fun x hx y hy e => by rw [List.mem_singleton.mp hy] at e; exact huS (e ▸ hx)⟩, fun k hk => by rw [List.mem_singleton.mp hk]; exact .refl, List.mem_singleton.mpr rfl, .refl _, (fun k hk => by cases hk), by simp only [List.length_cons, List.length_nil]; omega, rfl⟩, ?_⟩
    rintro m σ H' ⟨y5, y6, l, ws, pc, kvs1, rfl, sm, hd1, hk1, hq, hp, nd, hre, hul, hpm, hcl, hmx, rfl⟩
    have okc : ∀ q ∈ cutE qs G, Okp n q := fun q hq => GA.ok q (mem_cutE.mp hq).1
    have vxu : Vx n (u : Int) := by unfold Vx; omega
    have vxl : ∀ k ∈ l, Vx n k := fun k hk => (hre k hk).vx okc vxu
    have ndl := (List.nodup_append.mp nd).2.1
    have ll := few_vx ndl vxl
    refine ⟨_, rfl, _, .inl ⟨_, SqL.of hq, rfl⟩, ?_⟩
    rcases List.eq_nil_or_concat ws with rfl | ⟨ws', x, rfl⟩
    · refine iteF ?_
      rw [List.append_nil] at hpm
      refine ⟨_, rfl, p1, pc, rfl, SqL.of hp, fun ns l2 pm le nl => ?_⟩
      have d2 : d ≠ l2 := fun z => by rw [← z, hd1] at nl; cases nl
      have nlH : H l2 = none := by
        cases e : H l2 with
        | none => rfl
        | some o => have z := sm _ _ e d2.symm; rw [nl] at z; cases z
      have all : ∀ k, k ∈ l ↔ Rch (cutE qs G) u k := fun k => by
        refine ⟨hre k, fun hk => ?_⟩
        induction hk with
        | refl => exact hul
        | @step a b _ hn ih =>
          obtain ⟨hn1, ha, hb⟩ := near_cut.mp hn
          rcases List.mem_append.mp (hcl _ (hpm.mem_iff.mp ih) _ hn1) with z | z
          · exact absurd rfl ((List.nodup_append.mp nd).2.2 _ (hcS _ z hb _ (near_sym hn1)) _ ih)
          · exact z
      refine q _ l2 ns (S ++ l) kvs1 (sm.new nlH) nlH upd_same (lt_of_le le (pm.nodup_iff.mpr (hpm.nodup_iff.mp ndl))) (fun k => ?_) (by rw [upd_ne d2]; exact hd1) hk1 nd fun k => by rw [List.mem_append, all]
      rw [pm.mem_iff, ← hpm.mem_iff, all]
    · have ne0 : (!((ws'.concat x).map V.int).isEmpty) = true := by rw [List.concat_eq_append, List.map_append]; cases ws' <;> rfl
      rw [ne0]
      refine iteT ⟨_, fun σ' H'' h => h, ?_⟩
      rw [List.concat_eq_append] at *
      have hx : x ∈ l := hpm.mem_iff.mpr (by simp)
      have vxx := vxl x hx
      have lastx : ((ws' ++ [x]).map V.int)[((ws' ++ [x]).map V.int).length - 1]? = some (.int x) := by
        rw [List.map_append, List.length_append]
        simp
      refine ⟨_, rfl, .inl ⟨rfl, _, SqL.of hq⟩, q1, _, .int x, rfl, rfl, hq, lastx, ?_⟩
      have dl : ((ws' ++ [x]).map V.int).dropLast = ws'.map V.int := by rw [List.map_append]; simp
      rw [dl]
      have lpc : pc.length ≤ n := by
        have e := hpm.length_eq
        rw [List.length_append] at e
        omega
      refine ⟨_, rfl, .inl ⟨rfl, _, SqL.of (by rw [upd_ne qp.symm]; exact hp)⟩, _, rfl, p1, _, _, rfl, rfl, by rw [upd_ne qp.symm]; exact hp, by rw [List.length_map]; exact small1000 (by omega), ?_⟩
      have s3 : But d H (upd (upd H' q1 (.lst (ws'.map V.int))) p1 (.lst (pc.map V.int ++ [.int x]))) := (sm.new nqH).new npH
      have hd3 : (upd (upd H' q1 (.lst (ws'.map V.int))) p1 (.lst (pc.map V.int ++ [.int x]))) d = some (.dK kvs1) := by rw [upd_ne dp, upd_ne dq]; exact hd1
      have hq3 : (upd (upd H' q1 (.lst (ws'.map V.int))) p1 (.lst (pc.map V.int ++ [.int x]))) q1 = some (.lst (ws'.map V.int)) := by rw [upd_ne qp, upd_same]
      have hp3 : (upd (upd H' q1 (.lst (ws'.map V.int))) p1 (.lst (pc.map V.int ++ [.int x]))) p1 = some (.lst ((pc ++ [x]).map V.int)) := by rw [upd_same, List.map_append]; rfl
      generalize (upd (upd H' q1 (.lst (ws'.map V.int))) p1 (.lst (pc.map V.int ++ [.int x]))) = H3 at s3 hd3 hq3 hp3 ⊢
      have sg : ∀ {H4 : Hp}, But d H H4 → Same H0 H4 := fun s b o e => s b o (s0 b o e) (ne_of_none e d0)
      refine ⟨_, rfl, g, dx, _, rfl, sg s3 _ _ hg, gf_no _ _ _ (by decide +kernel) (by decide +kernel) (by decide +kernel), _, rfl, g, n, qs, .int x, some x, rfl, GA.same (sg s3), .int x, fun hbad => ?_, fun x' ex hx' l1 nl1 => ?_⟩
      · exfalso
        unfold Vx at vxx
        have z : vtxB n (some x) = true := by simp only [vtxB, Bool.and_eq_true, decide_eq_true_eq]; exact vxx
        rw [z] at hbad
        cases hbad
      · cases ex
        have nearl := near_len (n := n) few (x' : Int)
        have l1d : l1 ≠ d := fun z => by rw [z, hd3] at nl1; cases nl1
        have l1q : l1 ≠ q1 := fun z => by rw [z, hq3] at nl1; cases nl1
        have l1p : l1 ≠ p1 := fun z => by rw [z, hp3] at nl1; cases nl1
        have nl1H : H l1 = none := by
          cases e : H l1 with
          | none => rfl
          | some o => have z := s3 _ _ e l1d; rw [nl1] at z; cases z
        have hpm1 : l.Perm ((pc ++ [(x' : Int)]) ++ ws') := by
          refine hpm.trans ?_
          rw [List.append_assoc]
          exact List.Perm.append_left _ List.perm_append_comm
        refine ⟨l1, rfl, ⟨_, SqL.of upd_same⟩, for_list (K := K) (a := l1) (xs := (nearOf qs (x' : Int)).map V.int) (fun j σ H4 => ∃ (y6 : Option V) (l2 ws2 : List Int) (kvs2 : List (Key × V)), σ = [some (.ref g), some (.int u), some (.ref d), some (.ref q1), some (.ref p1), some (.int (x' : Int)), y6] ∧ But d H H4 ∧ H4 d = some (.dK kvs2) ∧ kvs2.map (·.1) = (S ++ l2).map Sum.inl ∧ H4 q1 = some (.lst (ws2.map V.int)) ∧
          H4 p1 = some (.lst ((pc ++ [(x' : Int)]).map V.int)) ∧ H4 l1 = some (.lst ((nearOf qs (x' : Int)).map V.int)) ∧ (S ++ l2).Nodup ∧ (∀ k ∈ l2, Rch (cutE qs G) u k) ∧ (u : Int) ∈ l2 ∧ (x' : Int) ∈ l2 ∧ l2.Perm ((pc ++ [(x' : Int)]) ++ ws2) ∧ (∀ k ∈ pc, ∀ j ∈ nearOf qs k, j ∈ S ++ l2) ∧ (∀ k ∈ (nearOf qs (x' : Int)).take j, k ∈ S ++ l2) ∧
          2 * (n - l2.length) + ws2.length + 1 ≤ 2 * (n - l.length) + (ws' ++ [(x' : Int)]).length)
          ⟨_, l, ws', kvs1, rfl, s3.new nl1H, by rw [upd_ne l1d.symm]; exact hd3, hk1, by rw [upd_ne l1q.symm]; exact hq3, by rw [upd_ne l1p.symm]; exact hp3, upd_same, nd, hre, hul, hx, hpm1, hcl, (fun k hk => by rw [List.take_zero] at hk; cases hk), by rw [List.length_append]; simp only [List.length_cons, List.length_nil]; omega⟩ (fun j σ H4 _ ⟨_, _, _, _, _, _, _, _, _, _, h, _⟩ => SqL.of h) ?_ ?_⟩
        · rintro j v σ H4 hv ⟨y6, l2, ws2, kvs2, rfl, s5, hd5, hk5, hq5, hp5, hl5, nd2, hre2, hul2, hx2, hpm2, hcl2, htk, hm⟩
          rw [List.getElem?_map] at hv
          cases ek : (nearOf qs (x' : Int))[j]? with
          | none => rw [ek] at hv; cases hv
          | some k =>
            rw [ek] at hv
            cases hv
            have kn : k ∈ nearOf qs (x' : Int) := List.mem_of_getElem? ek
            have tk1 : (nearOf qs (x' : Int)).take (j + 1) = (nearOf qs (x' : Int)).take j ++ [k] := L2.take_next ek
            have vx2 : ∀ k ∈ l2, Vx n k := fun k hk => (hre2 k hk).vx okc vxu
            have vxS2 : ∀ k ∈ S ++ l2, Vx n k := fun k hk => (List.mem_append.mp hk).elim (vxS k) (vx2 k)
            have ll2 := few_vx nd2 vxS2
            have lk2 : kvs2.length = (S ++ l2).length := by have := congrArg List.length hk5; rwa [List.length_map, List.length_map] at this
            refine ⟨_, rfl, _, rfl, d, _, rfl, DGet.k (k := Sum.inl k) hd5, _, rfl, ?_⟩
            rw [valV_keys hk5]
            by_cases c : k ∈ S ++ l2
            · rw [decide_eq_true c]
              refine iteF ⟨_, l2, ws2, kvs2, rfl, s5, hd5, hk5, hq5, hp5, hl5, nd2, hre2, hul2, hx2, hpm2, hcl2, fun y hy => ?_, hm⟩
              rw [tk1] at hy
              rcases List.mem_append.mp hy with z | z
              · exact htk y z
              · rw [List.mem_singleton.mp z]; exact c
            · rw [decide_eq_false c]
              refine iteT ⟨_, rfl, _, rfl, d, _, rfl, DPut.k (k := Sum.inl k) hd5 (small1000 (by omega)), ?_⟩
              have nd3 : (S ++ (l2 ++ [k])).Nodup := by
                rw [← List.append_assoc]
                exact List.nodup_append.mpr ⟨nd2, by simp, fun x hx y hy e => by rw [List.mem_singleton.mp hy] at e; exact c (e ▸ hx)⟩
              have hre3 : ∀ y ∈ l2 ++ [k], Rch (cutE qs G) u y := fun y hy => by
                rcases List.mem_append.mp hy with z | z
                · exact hre2 y z
                · rw [List.mem_singleton.mp z]
                  refine .step (hre2 _ hx2) (near_cut.mpr ⟨kn, fun z => ?_, fun z => c (List.mem_append_left _ (hGS _ z))⟩)
                  exact absurd rfl ((List.nodup_append.mp nd2).2.2 _ (hGS _ z) _ hx2)
              have ll3 := few_vx (List.nodup_append.mp nd3).2.1 fun y hy => (hre3 y hy).vx okc vxu
              rw [List.length_append] at ll3
              simp only [List.length_cons, List.length_nil] at ll3
              have wl : ws2.length ≤ 200 := by
                rw [List.length_append] at hm
                simp only [List.length_cons, List.length_nil] at hm
                rw [List.length_append] at hmx
                simp only [List.length_cons, List.length_nil] at hmx
                omega
              refine ⟨_, rfl, .inl ⟨rfl, _, SqL.of (by rw [upd_ne dq.symm]; exact hq5)⟩, _, rfl, q1, _, _, rfl, rfl, by rw [upd_ne dq.symm]; exact hq5, by rw [List.length_map]; exact small1000 (by omega), ?_⟩
              refine ⟨_, l2 ++ [k], ws2 ++ [k], _, rfl, s5.put.new nqH, by rw [upd_ne dq, upd_same], by rw [putK_keys hk5 c, List.append_assoc], by rw [upd_same, List.map_append]; rfl, by rw [upd_ne qp.symm, upd_ne dp.symm]; exact hp5, by rw [upd_ne l1q, upd_ne l1d]; exact hl5, nd3, hre3, List.mem_append_left _ hul2, List.mem_append_left _ hx2, ?_, fun y hy t ht => ?_, fun y hy => ?_, ?_⟩
              · rw [← List.append_assoc]
                exact List.Perm.append_right _ hpm2
              · rw [← List.append_assoc]; exact List.mem_append_left _ (hcl2 y hy t ht)
              · rw [tk1] at hy
                rw [← List.append_assoc]
                rcases List.mem_append.mp hy with z | z
                · exact List.mem_append_left _ (htk y z)
                · exact List.mem_append_right _ z
              · rw [List.length_append, List.length_append (as := ws2)]
                simp only [List.length_cons, List.length_nil]
                omega
        · rintro σ H4 ⟨y6, l2, ws2, kvs2, rfl, s5, hd5, hk5, hq5, hp5, hl5, nd2, hre2, hul2, hx2, hpm2, hcl2, htk, hm⟩
          rw [List.length_map, List.take_length] at htk
          refine ⟨_, by omega, _, _, l2, ws2, pc ++ [(x' : Int)], kvs2, rfl, s5, hd5, hk5, hq5, hp5, nd2, hre2, hul2, hpm2, fun k hk => ?_, by omega, rfl⟩
          rcases List.mem_append.mp hk with z | z
          · exact hcl2 k z
          · rw [List.mem_singleton.mp z]; exact htk
theorem scPcw : FnScope ["graph", "gone", "seen", "found", "start", "vertex"] ["graph", "gone"] (defScope sPcw) := ⟨rfl, rfl, rfl, by decide +kernel, rfl, by decide +kernel, by decide +kernel⟩
theorem ok_pcw {f C fR : Addr} {fd fdR : FuncData} (F : Fun K "pieces_without" "pieces_without" sPcw f fd) (T : TxG K mg C)
    (GR : FnOk P w K mg base (L2.CX P w) 5 fR fdR ["graph", "start", "seen"] (spRch K C)) (kR : PySem.W.keepIn K (.ref fR) = true) (bR : Binds K fdR ["graph", "start", "seen"] []) (gR : mg "reached" = some (.ref fR))
    (mr : mg "range" = none) :
    FnOk P w K mg base (L2.CX P w) 6 f fd ["graph", "gone"] (spPcw K C) := by
  refine F.okX scPcw (fun vs H Q E h => ?_) (fun cdv A outer s H vs Q E hr h => ?_)
  · obtain ⟨g, t, n, qs, G, rfl, _⟩ := h
    rfl
  · obtain ⟨g, t, n, qs, G, rfl, GA, hT, ndG, vxG, q⟩ := h
    have lim := GA.lim
    have hu := hu_of hr
    have ⟨dx, et, nt, hg, _⟩ := GA.ob
    have llG := few_vx ndG vxG
    refine ⟨_, pss_cons (ps_setDc (i := 2) (own := [("vertex", 5)]) (g := gName 5) (tt := tYes) (by rfl) scPcw.nd rfl rfl (sw_dict rfl rfl rfl (by decide +kernel)) (pi_tup (pv 1))
        (blkOk_by (own := [("vertex", 5)]) (N := ["graph", "gone", "seen", "found", "start", "vertex"]) (sc := defScope sPcw) (by decide +kernel)) (fun _ _ _ _ _ => pg_name (i := 5) scPcw.nd rfl (Or.inl rfl)) (fun _ _ _ _ _ => pts_nil) (fun _ _ _ _ _ => pv 5) (fun _ _ _ _ _ => pe_bl))
      (pss_cons (ps_set (i := 3) scPcw.nd rfl (.inl rfl) (pe_lst pa_nil))
      (pss_cons (ps_for (passes_of rfl) rfl (pi_range1 rfl mr (pa_cons (pe_fld (pv 0) rfl) pa_nil)) (pg_name (i := 4) scPcw.nd rfl (.inl rfl))
        (pss_one (ps_if (pt_cmp (pc_dnotin hu (pv 4) (pv 2)))
          (pss_one (ps_expr (pe_bm PySem.F.plainAttrs_list PySem.F.slot_list_append PySem.F.type_list_append mt_append (pv 3)
            (pa_cons (pe_call GR hr (by rfl) gR kR bR .nil (passes_call (takes_of rfl rfl rfl rfl) fun _ _ _ _ h => h) (pa_cons (pv 0) (pa_cons (pv 4) (pa_cons (pv 2) pa_nil)))) pa_nil)))) pss_nil)))
      (pss_one (ps_ret (pv 3))))), ?_⟩
    refine ⟨_, rfl, t, rfl, ⟨_, hT⟩, fun d nd => ?_⟩
    refine dc_tup (K := K) (a := t) (xs := G.map V.int) (fun i H' => Same H H' ∧ ∃ kvs : List (Key × V), H' d = some (.dK kvs) ∧ kvs.map (·.1) = (G.take i).map Sum.inl) ⟨same_upd nd, [], upd_same, by rw [List.take_zero]; rfl⟩ (fun i H' _ h => same_sqT h.1 hT) ?_ ?_
    · rintro i x H' hx ⟨sm, kvs, hd, hk⟩
      rw [List.getElem?_map] at hx
      cases ek : G[i]? with
      | none => rw [ek] at hx; cases hx
      | some k =>
        rw [ek] at hx
        cases hx
        have tk := L2.take_next ek
        have nk : k ∉ G.take i := fun z => by
          have nd2 := ndG
          rw [← List.take_append_drop (i + 1) G, tk] at nd2
          exact absurd rfl ((List.nodup_append.mp (List.nodup_append.mp nd2).1).2.2 _ z _ (List.mem_singleton.mpr rfl))
        have lk : kvs.length ≤ 60 := by
          have := congrArg List.length hk
          rw [List.length_map, List.length_map, List.length_take] at this
          omega
        exact ⟨rfl, _, rfl, kvs, Sum.inl k, rfl, hd, small1000 (by omega), same_put sm nd, _, upd_same, by rw [putK_keys hk nk, tk]⟩
    · rintro H1 ⟨s1, kvs0, hd0, hk0⟩
      rw [List.length_map, List.take_length] at hk0
      refine ⟨Nat.zero_le _, fun f1 nf => ?_⟩
      have nfH : H f1 = none := s1.free nf
      have df : d ≠ f1 := fun z => by rw [← z, hd0] at nf; cases nf
      have s2 := same_upd (o := .lst []) nf
      refine ⟨_, rfl, g, C, dx, _, .int n, rfl, s2 _ _ (s1 _ _ hg), T.cl, T.nS, gf_size _ _ _, n, rfl, by omega, by omega, ?_⟩
      have toNat : ((n : Nat) : Int).toNat = n := by omega
      rw [toNat]
      refine for_range (lo := 0) (n := n) (fun i σ H' => ∃ (y4 : Option V) (L : List Int) (kvs : List (Key × V)) (ps : List Addr), σ = [some (.ref g), some (.ref t), some (.ref d), some (.ref f1), y4, none] ∧ Same H H' ∧ H' d = some (.dK kvs) ∧ kvs.map (·.1) = L.map Sum.inl ∧ H' f1 = some (.lst (ps.map V.ref)) ∧ L.Nodup ∧
        (∀ k, k ∈ L ↔ k ∈ G ∨ ∃ v : Nat, v < i ∧ (v : Int) ∉ G ∧ Rch (cutE qs G) v k) ∧ ListsAt H' ps (compG n qs G i) ∧ (∀ a ∈ ps, a ≠ f1 ∧ a ≠ d))
        ⟨none, G, kvs0, [], rfl, s1.trans s2, s2 _ _ hd0, hk0, upd_same, ndG, fun k => ⟨fun h => .inl h, (fun h => h.elim id fun ⟨v, hv, _⟩ => by omega)⟩, .nil, fun a ha => by cases ha⟩ ?_ ?_
      · rintro i σ H' hi ⟨y4, L, kvs, ps, rfl, sm, hd, hk, hf, ndL, hL, pl, na⟩
        have e0 : (0 : Int) + (i : Int) = (i : Int) := by omega
        have okc : ∀ q ∈ cutE qs G, Okp n q := fun q hq => GA.ok q (mem_cutE.mp hq).1
        have vxL : ∀ k ∈ L, Vx n k := fun k hk => by
          rcases (hL k).mp hk with z | ⟨v, hv, _, hr'⟩
          · exact vxG k z
          · exact hr'.vx okc (by unfold Vx; omega)
        rw [e0]
        refine ⟨_, rfl, _, rfl, d, _, rfl, DGet.k (k := Sum.inl (i : Int)) hd, _, rfl, ?_⟩
        rw [valV_keys hk]
        by_cases c : (i : Int) ∈ L
        · rw [decide_eq_true c]
          have ex := (hL _).mp c
          have ex' : (i : Int) ∈ G ∨ ∃ v : Nat, v < i ∧ Rch (cutE qs G) v i := ex.imp id fun ⟨v, hv, _, hr'⟩ => ⟨v, hv, hr'⟩
          refine iteF ⟨_, L, kvs, ps, rfl, sm, hd, hk, hf, ndL, fun k => (hL k).trans ?_, by rw [compG_no ex']; exact pl, na⟩
          constructor
          · exact fun h => h.imp id fun ⟨v, hv, r⟩ => ⟨v, by omega, r⟩
          · rintro (h | ⟨v, hv, ng, r⟩)
            · exact .inl h
            · by_cases cv : v = i
              · subst cv
                rcases ex with z | ⟨x, hx, nx, rx⟩
                · exact absurd z ng
                · exact .inr ⟨x, hx, nx, rx.trans r⟩
              · exact .inr ⟨v, by omega, ng, r⟩
        · rw [decide_eq_false c]
          have nG : (i : Int) ∉ G := fun z => c ((hL _).mpr (.inl z))
          have nex : ¬ ∃ v : Nat, v < i ∧ Rch (cutE qs G) v i := fun ⟨v, hv, r⟩ => by
            by_cases cg : (v : Int) ∈ G
            · have := r.stuck cg
              omega
            · exact c ((hL _).mpr (.inr ⟨v, hv, cg, r⟩))
          refine iteT ⟨_, rfl, .inl ⟨rfl, _, SqL.of hf⟩, _, rfl, _, rfl, _, rfl, g, d, n, qs, G, L, kvs, i, H, rfl, GA, sm, nd, hi, hd, hk, ndL, vxL, fun k hk => (hL k).mpr (.inl hk), c, fun k hk ng j hj => ?_, fun H2 l1 ns L2 kvs2 b2 nl1 hl1 pw mem hd2 hk2 nd2 mem2 => ?_⟩
          · rcases (hL k).mp hk with z | ⟨v, hv, nv, r⟩
            · exact absurd z ng
            · by_cases cj : j ∈ G
              · exact (hL j).mpr (.inl cj)
              · exact (hL j).mpr (.inr ⟨v, hv, nv, .step r (near_cut.mpr ⟨hj, ng, cj⟩)⟩)
          · have hf2 := b2 _ _ hf df.symm
            have f1l : f1 ≠ l1 := fun z => by rw [← z, hf] at nl1; cases nl1
            have dl1 : d ≠ l1 := fun z => by rw [← z, hd] at nl1; cases nl1
            have psl : ps.length ≤ 60 := by
              have z := pl.length
              rw [z]
              unfold compG
              rw [List.length_map]
              exact Nat.le_trans (List.length_filter_le _ _) (by rw [List.length_range]; omega)
            refine ⟨f1, _, _, rfl, rfl, hf2, by rw [List.length_map]; exact small1000 (by omega), ?_⟩
            have nse : ns = compL n (cutE qs G) (i : Int) := lt_ext pw (compL_lt n _ _) fun k => (mem k).trans (mem_compL okc (by unfold Vx; omega)).symm
            refine ⟨_, L2, kvs2, ps ++ [l1], rfl, fun b o e => ?_, by rw [upd_ne df]; exact hd2, hk2, by rw [upd_same, List.map_append]; rfl, nd2, fun k => ?_, ?_, fun a ha => ?_⟩
            · rw [upd_ne (ne_of_none e nfH)]
              exact b2 _ _ (sm _ _ e) (ne_of_none e nd)
            · rw [mem2, hL, or_assoc]
              refine or_congr Iff.rfl ⟨?_, ?_⟩
              · rintro (⟨v, hv, r⟩ | r)
                · exact ⟨v, by omega, r⟩
                · exact ⟨i, by omega, nG, r⟩
              · rintro ⟨v, hv, ng, r⟩
                by_cases cv : v = i
                · subst cv
                  exact .inr r
                · exact .inl ⟨v, by omega, ng, r⟩
            · rw [compG_yes nG nex, ← nse]
              refine ListsAt.snoc (by rw [upd_ne f1l.symm]; exact hl1) ?_
              have keepL : ∀ {qs' : List Addr} {cs : List (List Int)}, (∀ a ∈ qs', a ≠ f1 ∧ a ≠ d) → ListsAt H' qs' cs → ListsAt (upd H2 f1 (.lst (ps.map V.ref ++ [.ref l1]))) qs' cs := by
                intro qs' cs hn hh
                induction hh with
                | nil => exact .nil
                | @cons a c qs'' cs' e t ih =>
                  have z := hn a List.mem_cons_self
                  exact .cons (by rw [upd_ne z.1]; exact b2 _ _ e z.2) (ih fun b hb => hn b (List.mem_cons_of_mem _ hb))
              exact keepL na pl
            · rcases List.mem_append.mp ha with z | z
              · exact na a z
              · rw [List.mem_singleton.mp z]; exact ⟨f1l.symm, dl1.symm⟩
      · rintro σ H' ⟨y4, L, kvs, ps, rfl, sm, hd, hk, hf, ndL, hL, pl, na⟩
        exact ⟨_, rfl, q H' f1 ps sm nfH hf pl fun a ha => (na a ha).1⟩
end
end Sm

set_option Elab.async false
set_option linter.all false
set_option maxRecDepth 100000
set_option maxHeartbeats 4000000
namespace Sm
open PySem PySem.Spec PyProof.Rows L2
/-! ### taking vertices away -/
abbrev Rel := Int → Int → Bool
def r0 (qs : List Pr) : Rel := fun u w => decide ((u, w) ∈ qs) || decide ((w, u) ∈ qs)
def elim (R : Rel) (v : Int) : Rel := fun u w => !decide (u = v) && !decide (w = v) && !decide (u = w) && (R u w || (R v u && R v w))
/-- who are neighbours when the first t vertices of an order are taken away -/
def relT (qs : List Pr) (o : Nat → Int) : Nat → Rel
  | 0 => r0 qs
  | t + 1 => elim (relT qs o t) (o t)
def arT (n : Nat) (qs : List Pr) (o : Nat → Int) (t : Nat) : List Int := (vxs n).filter fun w => relT qs o t (o t) w
def bagT (n : Nat) (qs : List Pr) (o : Nat → Int) (t : Nat) : List Int := (vxs n).filter fun w => decide (w = o t) || relT qs o t (o t) w
theorem elim_iff {R : Rel} {v u w : Int} : elim R v u w = true ↔ u ≠ v ∧ w ≠ v ∧ u ≠ w ∧ (R u w = true ∨ (R v u = true ∧ R v w = true)) := by
  unfold elim
  simp only [Bool.and_eq_true, Bool.or_eq_true, Bool.not_eq_true', decide_eq_false_iff_not, and_assoc, ne_eq]
theorem r0_iff {qs : List Pr} {u w : Int} : r0 qs u w = true ↔ (u, w) ∈ qs ∨ (w, u) ∈ qs := by
  unfold r0
  simp only [Bool.or_eq_true, decide_eq_true_eq]
structure Ord (n : Nat) (o : Nat → Int) : Prop where
  vx : ∀ t, t < n → Vx n (o t)
  inj : ∀ s t, s < n → t < n → o s = o t → s = t
  all : ∀ v, Vx n v → ∃ t, t < n ∧ o t = v
section
variable {n : Nat} {qs : List Pr} {o : Nat → Int}
theorem rel_sym : ∀ {t : Nat} {u w : Int}, relT qs o t u w = true → relT qs o t w u = true
  | 0, u, w, h => r0_iff.mpr (r0_iff.mp h).symm
  | t + 1, u, w, h => by
    obtain ⟨a, b, c, d⟩ := elim_iff.mp h
    exact elim_iff.mpr ⟨b, a, fun e => c e.symm, d.imp rel_sym fun z => ⟨z.2, z.1⟩⟩
theorem rel_irr (ok : ∀ q ∈ qs, Okp n q) : ∀ {t : Nat} {u w : Int}, relT qs o t u w = true → u ≠ w
  | 0, u, w, h => by
    rintro rfl
    rcases r0_iff.mp h with z | z
    · have := (ok _ z).2.1
      omega
    · have := (ok _ z).2.1
      omega
  | t + 1, u, w, h => (elim_iff.mp h).2.2.1
theorem rel_vx (ok : ∀ q ∈ qs, Okp n q) : ∀ {t : Nat} {u w : Int}, relT qs o t u w = true → Vx n u ∧ Vx n w
  | 0, u, w, h => by
    unfold Vx
    rcases r0_iff.mp h with z | z
    · obtain ⟨a, b, c⟩ := ok _ z
      dsimp only at a b c
      omega
    · obtain ⟨a, b, c⟩ := ok _ z
      dsimp only at a b c
      omega
  | t + 1, u, w, h => by
    obtain ⟨_, _, _, d⟩ := elim_iff.mp h
    rcases d with d | ⟨d, e⟩
    · exact rel_vx ok d
    · exact ⟨(rel_vx ok d).2, (rel_vx ok e).2⟩
theorem rel_dead : ∀ {t s : Nat} {u w : Int}, relT qs o t u w = true → s < t → u ≠ o s ∧ w ≠ o s
  | 0, s, u, w, h, hs => by omega
  | t + 1, s, u, w, h, hs => by
    obtain ⟨a, b, c, d⟩ := elim_iff.mp h
    by_cases e : s = t
    · subst e
      exact ⟨a, b⟩
    · have hs' : s < t := by omega
      rcases d with d | ⟨d, e⟩
      · exact rel_dead d hs'
      · exact ⟨(rel_dead d hs').2, (rel_dead e hs').2⟩
theorem rel_grow (ok : ∀ q ∈ qs, Okp n q) {s : Nat} {u w : Int} (h : relT qs o s u w = true) : ∀ {t : Nat}, s ≤ t → (∀ x, s ≤ x → x < t → u ≠ o x ∧ w ≠ o x) → relT qs o t u w = true
  | 0, hs, _ => by
    have e : s = 0 := by omega
    rw [← e]
    exact h
  | t + 1, hs, hx => by
    by_cases e : s = t + 1
    · rw [← e]
      exact h
    · have ih := rel_grow ok h (t := t) (by omega) fun x a b => hx x a (by omega)
      obtain ⟨a, b⟩ := hx t (by omega) (by omega)
      exact elim_iff.mpr ⟨a, b, rel_irr ok ih, .inl ih⟩
theorem mem_arT (ok : ∀ q ∈ qs, Okp n q) {t : Nat} {w : Int} : w ∈ arT n qs o t ↔ relT qs o t (o t) w = true := by
  unfold arT
  rw [List.mem_filter, mem_vxs]
  exact ⟨fun h => h.2, fun h => ⟨(rel_vx ok h).2, h⟩⟩
theorem mem_bagT (ok : ∀ q ∈ qs, Okp n q) (O : Ord n o) {t : Nat} (ht : t < n) {w : Int} : w ∈ bagT n qs o t ↔ w = o t ∨ relT qs o t (o t) w = true := by
  unfold bagT
  rw [List.mem_filter, mem_vxs, Bool.or_eq_true, decide_eq_true_eq]
  constructor
  · exact fun h => h.2
  · intro h
    refine ⟨?_, h⟩
    rcases h with h | h
    · rw [h]
      exact O.vx t ht
    · exact (rel_vx ok h).2
/-- who is a neighbour then is taken away later -/
theorem ar_later (ok : ∀ q ∈ qs, Okp n q) (O : Ord n o) {t : Nat} {w : Int} (h : relT qs o t (o t) w = true) : ∃ s, t < s ∧ s < n ∧ o s = w := by
  obtain ⟨s, hs, rfl⟩ := O.all w (rel_vx ok h).2
  refine ⟨s, ?_, hs, rfl⟩
  by_cases c : t < s
  · exact c
  · exfalso
    by_cases e : s = t
    · subst e
      exact rel_irr ok h rfl
    · exact (rel_dead h (s := s) (by omega)).2 rfl
end
def minOr (d : Int) : List Int → Int
  | [] => d
  | a :: l => l.foldl min a
def maxOr (d : Int) : List Int → Int
  | [] => d
  | a :: l => l.foldl max a
theorem foldl_min_spec : ∀ (l : List Int) (a : Int), l.foldl min a ∈ a :: l ∧ ∀ x ∈ a :: l, l.foldl min a ≤ x
  | [], a => ⟨List.mem_cons_self, fun x hx => by rw [List.mem_singleton.mp hx]; exact Int.le_refl a⟩
  | b :: l, a => by
    obtain ⟨h1, h2⟩ := foldl_min_spec l (min a b)
    have hm : min a b = a ∨ min a b = b := by omega
    refine ⟨?_, fun x hx => ?_⟩
    · show l.foldl min (min a b) ∈ _
      rcases List.mem_cons.mp h1 with z | z
      · rw [z]
        rcases hm with y | y
        · rw [y]; exact List.mem_cons_self
        · rw [y]; exact List.mem_cons_of_mem _ List.mem_cons_self
      · exact List.mem_cons_of_mem _ (List.mem_cons_of_mem _ z)
    · show l.foldl min (min a b) ≤ x
      have z0 := h2 _ List.mem_cons_self
      rcases List.mem_cons.mp hx with z | z
      · omega
      · rcases List.mem_cons.mp z with y | y
        · omega
        · exact h2 x (List.mem_cons_of_mem _ y)
theorem foldl_max_spec : ∀ (l : List Int) (a : Int), l.foldl max a ∈ a :: l ∧ ∀ x ∈ a :: l, x ≤ l.foldl max a
  | [], a => ⟨List.mem_cons_self, fun x hx => by rw [List.mem_singleton.mp hx]; exact Int.le_refl a⟩
  | b :: l, a => by
    obtain ⟨h1, h2⟩ := foldl_max_spec l (max a b)
    have hm : max a b = a ∨ max a b = b := by omega
    refine ⟨?_, fun x hx => ?_⟩
    · show l.foldl max (max a b) ∈ _
      rcases List.mem_cons.mp h1 with z | z
      · rw [z]
        rcases hm with y | y
        · rw [y]; exact List.mem_cons_self
        · rw [y]; exact List.mem_cons_of_mem _ List.mem_cons_self
      · exact List.mem_cons_of_mem _ (List.mem_cons_of_mem _ z)
    · show x ≤ l.foldl max (max a b)
      have z0 := h2 _ List.mem_cons_self
      rcases List.mem_cons.mp hx with z | z
      · omega
      · rcases List.mem_cons.mp z with y | y
        · omega
        · exact h2 x (List.mem_cons_of_mem _ y)
theorem minOr_spec {d : Int} {l : List Int} : (l = [] ∧ minOr d l = d) ∨ (minOr d l ∈ l ∧ ∀ x ∈ l, minOr d l ≤ x) := by
  cases l with
  | nil => exact .inl ⟨rfl, rfl⟩
  | cons a l => exact .inr (foldl_min_spec l a)
theorem maxOr_spec {d : Int} {l : List Int} : (l = [] ∧ maxOr d l = d) ∨ (maxOr d l ∈ l ∧ ∀ x ∈ l, x ≤ maxOr d l) := by
  cases l with
  | nil => exact .inl ⟨rfl, rfl⟩
  | cons a l => exact .inr (foldl_max_spec l a)
/-! ### decompositions -/
/-- the numbers of the bags in which a vertex lies -/
def lyn (bs : List (List Int)) (v : Int) : List Int := ((List.range bs.length).filter fun i => decide (v ∈ bs.getD i [])).map fun (i : Nat) => (i : Int)
theorem mem_lyn {bs : List (List Int)} {v x : Int} : x ∈ lyn bs v ↔ ∃ i : Nat, i < bs.length ∧ v ∈ bs.getD i [] ∧ x = i := by
  unfold lyn
  rw [List.mem_map]
  constructor
  · rintro ⟨i, hi, rfl⟩
    obtain ⟨a, b⟩ := List.mem_filter.mp hi
    exact ⟨i, List.mem_range.mp a, of_decide_eq_true b, rfl⟩
  · rintro ⟨i, hi, hv, rfl⟩
    exact ⟨i, List.mem_filter.mpr ⟨List.mem_range.mpr hi, decide_eq_true hv⟩, rfl⟩
theorem lyn_nodup (bs : List (List Int)) (v : Int) : (lyn bs v).Nodup := by
  refine List.pairwise_map.mpr (List.Pairwise.imp (fun {a b} h e => h ?_) (List.nodup_range.filter _))
  omega
structure Good (n : Nat) (qs : List Pr) (bs : List (List Int)) (ps : List Int) : Prop where
  len : bs.length = ps.length
  root : ps[0]? = some (-1)
  bag : ∀ b ∈ bs, b.Pairwise (· < ·) ∧ ∀ k ∈ b, Vx n k
  par : ∀ (i : Nat) (p : Int), 0 < i → ps[i]? = some p → 0 ≤ p ∧ p < i
  vert : ∀ v, Vx n v → lyn bs v ≠ []
  edge : ∀ q ∈ qs, ∃ x ∈ lyn bs q.1, x ∈ lyn bs q.2
  one : ∀ v, Vx n v → ((lyn bs v).filter fun x => decide (ps.getD x.toNat 0 ∉ lyn bs v)).length = 1
theorem one_of {l : List Int} {p : Int → Bool} (nd : l.Nodup) {a : Int} (ha : a ∈ l) (pa : p a = true) (h : ∀ x ∈ l, p x = true → x = a) : (l.filter p).length = 1 := by
  have e : l.filter p = [a] := by
    have nd2 := nd.filter p
    have m : ∀ x, x ∈ l.filter p ↔ x = a := fun x => by
      rw [List.mem_filter]
      exact ⟨fun z => h x z.1 z.2, fun z => by rw [z]; exact ⟨ha, pa⟩⟩
    cases hl : l.filter p with
    | nil =>
      have z := (m a).mpr rfl
      rw [hl] at z
      cases z
    | cons b r =>
      rw [hl] at nd2 m
      have hb : b = a := (m b).mp List.mem_cons_self
      cases r with
      | nil => rw [hb]
      | cons c r =>
        have hc : c = a := (m c).mp (List.mem_cons_of_mem _ List.mem_cons_self)
        exfalso
        have := (List.nodup_cons.mp nd2).1
        exact this (by rw [hb, ← hc]; exact List.mem_cons_self)
  rw [e]
  rfl
/-- the bags and parents of an order, from the last vertex on; pl tells the place of a vertex -/
def bagsL (n : Nat) (qs : List Pr) (o : Nat → Int) : List (List Int) := (List.range n).map fun i => bagT n qs o (n - 1 - i)
def minT (n : Nat) (qs : List Pr) (o : Nat → Int) (pl : Int → Int) (t : Nat) : Int := minOr ((n : Int) - 1) ((arT n qs o t).map pl)
def parsL (n : Nat) (qs : List Pr) (o : Nat → Int) (pl : Int → Int) : List Int := (List.range n).map fun i => if i = 0 then -1 else (n : Int) - 1 - minT n qs o pl (n - 1 - i)
theorem good_order {n : Nat} {qs : List Pr} {o : Nat → Int} {pl : Int → Int} (ok : ∀ q ∈ qs, Okp n q) (O : Ord n o) (hpl : ∀ t, t < n → pl (o t) = t) (hn : 0 < n) : Good n qs (bagsL n qs o) (parsL n qs o pl) := by
  have lb : (bagsL n qs o).length = n := by unfold bagsL; rw [List.length_map, List.length_range]
  have gb : ∀ i, i < n → (bagsL n qs o).getD i [] = bagT n qs o (n - 1 - i) := fun i hi => by
    unfold bagsL
    rw [List.getD_eq_getElem?_getD, List.getElem?_map, List.getElem?_range hi]
    rfl
  have gp : ∀ i, i < n → (parsL n qs o pl)[i]? = some (if i = 0 then -1 else (n : Int) - 1 - minT n qs o pl (n - 1 - i)) := fun i hi => by
    unfold parsL
    rw [List.getElem?_map, List.getElem?_range hi]
    rfl
  -- the least place of a neighbour
  have mt : ∀ t, t < n → (arT n qs o t = [] ∧ minT n qs o pl t = (n : Int) - 1) ∨ ∃ s, t < s ∧ s < n ∧ minT n qs o pl t = s ∧ relT qs o t (o t) (o s) = true ∧ ∀ x, x < n → relT qs o t (o t) (o x) = true → s ≤ x := fun t ht => by
    rcases minOr_spec (d := (n : Int) - 1) (l := (arT n qs o t).map pl) with ⟨h1, h2⟩ | ⟨h1, h2⟩
    · exact .inl ⟨List.map_eq_nil_iff.mp h1, h2⟩
    · refine .inr ?_
      obtain ⟨w, hw, e⟩ := List.mem_map.mp h1
      have hr := (mem_arT ok).mp hw
      obtain ⟨s, a, b, rfl⟩ := ar_later ok O hr
      rw [hpl s b] at e
      refine ⟨s, a, b, e.symm, hr, fun x hx hrx => ?_⟩
      have z := h2 _ (List.mem_map.mpr ⟨o x, (mem_arT ok).mpr hrx, rfl⟩)
      rw [← e, hpl x hx] at z
      omega
  have mb : ∀ t, t < n → (t : Int) < minT n qs o pl t ∨ t = n - 1 ∧ minT n qs o pl t = (n : Int) - 1 := fun t ht => by
    rcases mt t ht with ⟨_, e⟩ | ⟨s, a, b, e, _⟩
    · by_cases c : t = n - 1
      · exact .inr ⟨c, e⟩
      · left; omega
    · left; omega
  have mle : ∀ t, t < n → minT n qs o pl t ≤ (n : Int) - 1 := fun t ht => by
    rcases mt t ht with ⟨_, e⟩ | ⟨s, a, b, e, _⟩
    · omega
    · omega
  -- in which bags a vertex lies
  have inb : ∀ {x : Nat} {i : Nat}, x < n → i < n → (o x ∈ (bagsL n qs o).getD i [] ↔ x = n - 1 - i ∨ relT qs o (n - 1 - i) (o (n - 1 - i)) (o x) = true) := fun {x i} hx hi => by
    rw [gb i hi, mem_bagT ok O (by omega)]
    exact or_congr ⟨fun e => O.inj _ _ hx (by omega) e, fun e => by rw [e]⟩ Iff.rfl
  have inl : ∀ {x : Nat} {y : Int}, x < n → (y ∈ lyn (bagsL n qs o) (o x) ↔ ∃ i : Nat, i < n ∧ y = i ∧ (x = n - 1 - i ∨ relT qs o (n - 1 - i) (o (n - 1 - i)) (o x) = true)) := fun {x y} hx => by
    rw [mem_lyn, lb]
    exact ⟨fun ⟨i, hi, h, e⟩ => ⟨i, hi, e, (inb hx hi).mp h⟩, fun ⟨i, hi, e, h⟩ => ⟨i, hi, (inb hx hi).mpr h, e⟩⟩
  refine ⟨?_, ?_, ?_, ?_, ?_, ?_, ?_⟩
  · rw [lb]
    unfold parsL
    rw [List.length_map, List.length_range]
  · rw [gp 0 hn, if_pos rfl]
  · intro b hb
    unfold bagsL at hb
    obtain ⟨i, _, rfl⟩ := List.mem_map.mp hb
    exact ⟨(vxs_lt n).filter _, fun k hk => mem_vxs.mp (List.mem_filter.mp hk).1⟩
  · intro i p hi hp
    have hin : i < n := by
      have := (List.getElem?_eq_some_iff.mp hp).1
      unfold parsL at this
      rw [List.length_map, List.length_range] at this
      exact this
    rw [gp i hin, if_neg (by omega)] at hp
    have e := Option.some.inj hp
    have h1 := mb (n - 1 - i) (by omega)
    have h2 := mle (n - 1 - i) (by omega)
    omega
  · intro v hv e
    obtain ⟨t, ht, rfl⟩ := O.all v hv
    have z : (((n - 1 - t : Nat)) : Int) ∈ lyn (bagsL n qs o) (o t) := (inl ht).mpr ⟨n - 1 - t, by omega, rfl, .inl (by omega)⟩
    rw [e] at z
    cases z
  · rintro ⟨u, w⟩ hq
    obtain ⟨a, b, c⟩ := ok _ hq
    dsimp only at a b c
    obtain ⟨tu, hu, rfl⟩ := O.all u (by unfold Vx; omega)
    obtain ⟨tw, hw, rfl⟩ := O.all w (by unfold Vx; omega)
    have base : relT qs o 0 (o tu) (o tw) = true := r0_iff.mpr (.inl hq)
    have ne : tu ≠ tw := fun e => by rw [e] at b; omega
    -- the one that is taken away first
    have key : ∀ {x y : Nat}, x < n → y < n → x < y → relT qs o 0 (o x) (o y) = true → ((n - 1 - x : Nat) : Int) ∈ lyn (bagsL n qs o) (o x) ∧ ((n - 1 - x : Nat) : Int) ∈ lyn (bagsL n qs o) (o y) := fun {x y} hx hy hxy h => by
      have g := rel_grow ok h (t := x) (by omega) fun z _ hz => ⟨fun e => by have := O.inj _ _ hx (by omega) e; omega, fun e => by have := O.inj _ _ hy (by omega) e; omega⟩
      have e1 : n - 1 - (n - 1 - x) = x := by omega
      refine ⟨(inl hx).mpr ⟨n - 1 - x, by omega, rfl, .inl e1.symm⟩, (inl hy).mpr ⟨n - 1 - x, by omega, rfl, .inr ?_⟩⟩
      rw [e1]
      exact g
    by_cases c2 : tu < tw
    · exact ⟨_, (key hu hw c2 base).1, (key hu hw c2 base).2⟩
    · exact ⟨_, (key hw hu (by omega) (rel_sym base)).2, (key hw hu (by omega) (rel_sym base)).1⟩
  · intro v hv
    obtain ⟨t, ht, rfl⟩ := O.all v hv
    have gpd : ∀ i, i < n → (parsL n qs o pl).getD (i : Int).toNat 0 = if i = 0 then -1 else (n : Int) - 1 - minT n qs o pl (n - 1 - i) := fun i hi => by
      rw [Int.toNat_natCast, List.getD_eq_getElem?_getD, gp i hi]
      rfl
    refine one_of (lyn_nodup _ _) (a := ((n - 1 - t : Nat) : Int)) ((inl ht).mpr ⟨n - 1 - t, by omega, rfl, .inl (by omega)⟩) ?_ ?_
    · rw [decide_eq_true_eq, gpd _ (by omega)]
      intro hin
      by_cases c0 : n - 1 - t = 0
      · rw [if_pos c0] at hin
        obtain ⟨i, _, e, _⟩ := (inl ht).mp hin
        omega
      · rw [if_neg c0, show n - 1 - (n - 1 - t) = t by omega] at hin
        obtain ⟨i, hi, e, h⟩ := (inl ht).mp hin
        have h1 := mb t ht
        have h2 := mle t ht
        -- the parent's vertex is taken away later
        rcases h with h | h
        · omega
        · have := (rel_dead h (s := t) (by omega)).2
          exact this rfl
    · intro x hx hp
      obtain ⟨i, hi, rfl, h⟩ := (inl ht).mp hx
      rw [decide_eq_true_eq, gpd i hi] at hp
      rcases h with h | h
      · omega
      · exfalso
        obtain ⟨s', a', b', e'⟩ := ar_later ok O h
        have es : s' = t := O.inj _ _ b' ht e'
        subst es
        have c0 : i ≠ 0 := by omega
        rw [if_neg c0] at hp
        apply hp
        rcases mt (n - 1 - i) (by omega) with ⟨z, _⟩ | ⟨s, a, b, e, hr, hmin⟩
        · have y := (mem_arT ok).mpr h
          rw [z] at y
          cases y
        · rw [e]
          have hst := hmin s' ht h
          refine (inl ht).mpr ⟨n - 1 - s, by omega, by omega, ?_⟩
          rw [show n - 1 - (n - 1 - s) = s by omega]
          by_cases c1 : s' = s
          · exact .inl c1
          · right
            have f : relT qs o (n - 1 - i + 1) (o s) (o s') = true := elim_iff.mpr ⟨fun z => by have := O.inj _ _ b (by omega) z; omega, fun z => by have := O.inj _ _ ht (by omega) z; omega, fun z => c1 (O.inj _ _ ht b z.symm), .inr ⟨hr, h⟩⟩
            exact rel_grow ok f (t := s) (by omega) fun x hx1 hx2 => ⟨fun z => by have := O.inj _ _ b (by omega) z; omega, fun z => by have := O.inj _ _ ht (by omega) z; omega⟩
end Sm

set_option Elab.async false
set_option linter.all false
set_option maxRecDepth 100000
set_option maxHeartbeats 4000000
namespace Sm
open PySem PySem.Spec PyProof.Rows L2
/-! ### max and min of a list of integers, with what is told for an empty one -/
section
variable {X : Cx}
def tMxD (K : PySem.W.Frag) (f : Int → List Int → Int) (ta tk : TA) : TE := fun σ H Q => ta σ H fun vs H1 => tk σ H1 fun zs H2 => ∃ (a : Addr) (ns : List Int) (d : Int), vs = [V.ref a] ∧ zs = [.int d] ∧ SqL K H2 a (ns.map V.int) ∧ Q (.int (f d ns)) H2
theorem reads_ints {h : Heap} : ∀ {its : List Value} {ns : List Int}, IntsAre its ns → ReadsAll h its (ns.map PyData.int) []
  | _, _, .nil => .nil
  | _, _, .cons n t r => .cons (.int n t) (reads_ints r)
theorem alike_ints (ns : List Int) : PySem.W.AlikeAll (ns.map PyData.int) := by
  refine ⟨fun x hx y hy => ?_, fun x hx => ?_⟩
  · obtain ⟨i, _, rfl⟩ := List.mem_map.mp hx
    obtain ⟨j, _, rfl⟩ := List.mem_map.mp hy
    rfl
  · obtain ⟨i, _, rfl⟩ := List.mem_map.mp hx
    intro z
    cases z
theorem read_int {h : Heap} {v : Value} {m : Int} {bs : List Addr} (r : Reads h v (.int m) bs) : ∃ t, v = .int m t := by
  cases r
  exact ⟨_, rfl⟩
theorem pe_maxD {p pos kp : Pos} {e kx : Expr} {ta tk : TA} (hg : Gl X "max") (hm : X.mg "max" = none) (hc : X.calm = true) (hu : X.A.units + 64 < cLine)
    (ha : PA X [e] ta) (hk : PK X [⟨some "default", kx, kp⟩] tk)
    (he : starEach [e] X.env = (false, eval e X.env) :: starEach [] X.env := by rfl) :
    PE X (.Call (.Name "max" p) [e] [⟨some "default", kx, kp⟩] pos) (tMxD X.K maxOr ta tk) := by
  constructor
  intro pins s σ H Q I h
  refine wpAny_Call_Name_kw (ld_blt I hg hm (by rfl) ?_ (by decide) (by decide))
  refine PyProof.Rows.callWith_kw (thn (ha.run pos pins s σ H _ I h) ?_) (by rw [he]; rfl) (by rw [he]; rfl)
  rintro us s1 ⟨vs, H1, I1, r1, q1⟩
  refine thn (hk.run pos pins s1 σ H1 _ I1 q1) ?_
  rintro ws s2 ⟨zs, H2, I2, r2, a, ns, d, rfl, rfl, hs, q⟩
  rw [Vals.ref1 r1]
  obtain ⟨its, rv, hl, _⟩ := I2.list hs
  cases r2 with
  | cons rd rn =>
    cases rn
    obtain ⟨t, rfl⟩ := rd
    have hR : ReadsAll s2.heap its.toArray.toList (ns.map PyData.int) [] := reads_ints rv.ints
    refine PySem.W.max_list_default (I2.ok.hd hc) hl.isList hR (alike_ints ns) (by have := ints_depth ns; omega) (fun z h' tk' hk' => ?_) (fun y ys i v h' tk' bs e1 ev er hk' => ?_)
    · have e0 : ns = [] := List.map_eq_nil_iff.mp z
      subst e0
      exact ⟨.int _, H2, I2.kept hk', ⟨_, rfl⟩, q⟩
    · cases ns with
      | nil => cases e1
      | cons n ns =>
        rw [List.map_cons] at e1
        obtain ⟨rfl, rfl⟩ := List.cons.inj e1
        rw [PySem.W.maxD_ints] at er
        obtain ⟨u, rfl⟩ := read_int er
        exact ⟨.int _, H2, I2.kept hk', ⟨_, rfl⟩, q⟩
theorem pe_minD {p pos kp : Pos} {e kx : Expr} {ta tk : TA} (hg : Gl X "min") (hm : X.mg "min" = none) (hc : X.calm = true) (hu : X.A.units + 64 < cLine)
    (ha : PA X [e] ta) (hk : PK X [⟨some "default", kx, kp⟩] tk)
    (he : starEach [e] X.env = (false, eval e X.env) :: starEach [] X.env := by rfl) :
    PE X (.Call (.Name "min" p) [e] [⟨some "default", kx, kp⟩] pos) (tMxD X.K minOr ta tk) := by
  constructor
  intro pins s σ H Q I h
  refine wpAny_Call_Name_kw (ld_blt I hg hm (by rfl) ?_ (by decide) (by decide))
  refine PyProof.Rows.callWith_kw (thn (ha.run pos pins s σ H _ I h) ?_) (by rw [he]; rfl) (by rw [he]; rfl)
  rintro us s1 ⟨vs, H1, I1, r1, q1⟩
  refine thn (hk.run pos pins s1 σ H1 _ I1 q1) ?_
  rintro ws s2 ⟨zs, H2, I2, r2, a, ns, d, rfl, rfl, hs, q⟩
  rw [Vals.ref1 r1]
  obtain ⟨its, rv, hl, _⟩ := I2.list hs
  cases r2 with
  | cons rd rn =>
    cases rn
    obtain ⟨t, rfl⟩ := rd
    have hR : ReadsAll s2.heap its.toArray.toList (ns.map PyData.int) [] := reads_ints rv.ints
    refine PySem.W.min_list_default (I2.ok.hd hc) hl.isList hR (alike_ints ns) (by have := ints_depth ns; omega) (fun z h' tk' hk' => ?_) (fun y ys i v h' tk' bs e1 ev er hk' => ?_)
    · have e0 : ns = [] := List.map_eq_nil_iff.mp z
      subst e0
      exact ⟨.int _, H2, I2.kept hk', ⟨_, rfl⟩, q⟩
    · cases ns with
      | nil => cases e1
      | cons n ns =>
        rw [List.map_cons] at e1
        obtain ⟨rfl, rfl⟩ := List.cons.inj e1
        rw [PySem.W.minD_ints] at er
        obtain ⟨u, rfl⟩ := read_int er
        exact ⟨.int _, H2, I2.kept hk', ⟨_, rfl⟩, q⟩
end
end Sm

set_option Elab.async false
set_option linter.all false
set_option maxRecDepth 100000
set_option maxHeartbeats 4000000
namespace Sm
open PySem PySem.Spec PyProof.Rows L2
/-! ### sets as integers -/
theorem or_xa (a b : Nat) : a ||| b = (a ^^^ b) + (a &&& b) := by
  induction a using Nat.strongRecOn generalizing b with
  | _ a ih =>
    by_cases h0 : a = 0
    · subst h0
      simp
    · have e := ih (a / 2) (by omega) (b / 2)
      have d1 : (a ||| b) / 2 = a / 2 ||| b / 2 := Nat.or_div_two
      have d2 : (a ^^^ b) / 2 = a / 2 ^^^ b / 2 := Nat.xor_div_two
      have d3 : (a &&& b) / 2 = a / 2 &&& b / 2 := Nat.and_div_two
      have m1 := @Nat.or_mod_two_eq_one a b
      have m2 := @Nat.xor_mod_two_eq_one a b
      have m3 := @Nat.and_mod_two_eq_one a b
      rw [← d1, ← d2, ← d3] at e
      clear ih d1 d2 d3
      generalize a ||| b = o at *
      generalize a ^^^ b = x at *
      generalize a &&& b = y at *
      omega
theorem bor_nat (a b : Nat) : Builtin.bitOr (a : Int) (b : Int) = ((a ||| b : Nat) : Int) := by
  rw [bitOr_nn (Int.natCast_nonneg a) (Int.natCast_nonneg b), Int.toNat_natCast, Int.toNat_natCast]
theorem bxor_nat (a b : Nat) : Builtin.bitXor (a : Int) (b : Int) = ((a ^^^ b : Nat) : Int) := by
  show Builtin.bitOr (a : Int) (b : Int) - Builtin.bitAnd (a : Int) (b : Int) = _
  rw [bor_nat, PySem.W.os_band]
  have := or_xa a b
  omega
theorem band1_nat (a : Nat) : Builtin.bitAnd (a : Int) 1 = ((a % 2 : Nat) : Int) := by
  have := PySem.W.os_band a 1
  rw [Nat.and_one_is_mod] at this
  exact this
theorem pow_cast (k : Nat) : (1 : Int) * 2 ^ ((k : Int)).toNat = ((2 ^ k : Nat) : Int) := by
  rw [Int.toNat_natCast, Int.one_mul, Int.natCast_pow]
  rfl
theorem shr_bit (M k : Nat) : ((M : Int) / 2 ^ ((k : Int)).toNat) = ((M / 2 ^ k : Nat) : Int) := by
  rw [Int.toNat_natCast, Int.natCast_ediv, Int.natCast_pow]
  rfl
theorem bit_ne (M k : Nat) : (((M / 2 ^ k % 2 : Nat) : Int) != 0) = M.testBit k := by
  have h : M.testBit k = decide (M / 2 ^ k % 2 = 1) := Nat.testBit_eq_decide_div_mod_eq
  rw [h]
  rcases Nat.mod_two_eq_zero_or_one (M / 2 ^ k) with z | z
  · rw [z]; rfl
  · rw [z]; rfl
/-- the sum of the powers of an ascending list -/
def powN (l : List Int) : Nat := (l.map fun k => 2 ^ k.toNat).sum
theorem powN_snoc (l : List Int) (k : Int) : powN (l ++ [k]) = powN l + 2 ^ k.toNat := by
  unfold powN
  rw [List.map_append, List.sum_append]
  simp
theorem powN_lt {b : Nat} : ∀ {l : List Int}, l.Pairwise (· < ·) → (∀ k ∈ l, 0 ≤ k ∧ k < b) → powN l < 2 ^ b ∧ ∀ j, (powN l).testBit j = decide ((j : Int) ∈ l) := by
  intro l
  induction hl : l.length generalizing l b with
  | zero =>
    intro _ _
    have e := List.eq_nil_of_length_eq_zero hl
    subst e
    exact ⟨Nat.two_pow_pos b, fun j => by simp [powN]⟩
  | succ n ih =>
    intro pw hb
    rcases List.eq_nil_or_concat l with rfl | ⟨r, k, rfl⟩
    · cases hl
    · rw [List.concat_eq_append] at *
      obtain ⟨p1, _, p3⟩ := List.pairwise_append.mp pw
      have hk := hb k (by simp)
      have hr : ∀ x ∈ r, 0 ≤ x ∧ x < ((k.toNat : Nat) : Int) := fun x hx => by
        have a := hb x (List.mem_append_left _ hx)
        have c := p3 x hx k (List.mem_singleton.mpr rfl)
        omega
      rw [List.length_append] at hl
      obtain ⟨i1, i2⟩ := ih (b := k.toNat) (l := r) (by simpa using hl) p1 hr
      rw [powN_snoc, Nat.add_comm]
      have le : 2 ^ k.toNat + powN r < 2 ^ (k.toNat + 1) := by rw [Nat.pow_succ]; omega
      refine ⟨Nat.lt_of_lt_of_le le (Nat.pow_le_pow_right (by decide) (by omega)), fun j => ?_⟩
      by_cases c1 : j = k.toNat
      · subst c1
        rw [Nat.testBit_two_pow_add_eq, i2]
        have e : ((k.toNat : Nat) : Int) = k := by omega
        have n1 : ((k.toNat : Nat) : Int) ∉ r := fun z => by have := (hr _ z).2; omega
        have y1 : ((k.toNat : Nat) : Int) ∈ r ++ [k] := by rw [e]; simp
        rw [decide_eq_false n1, decide_eq_true y1]
        rfl
      · have n2 : ((j : Int) ∈ r ++ [k]) ↔ (j : Int) ∈ r := by
          rw [List.mem_append, List.mem_singleton]
          exact ⟨fun h => h.elim id fun z => by omega, .inl⟩
        by_cases c2 : j < k.toNat
        · rw [Nat.testBit_two_pow_add_gt c2, i2]
          exact decide_eq_decide.mpr n2.symm
        · rw [Nat.testBit_lt_two_pow (Nat.lt_of_lt_of_le le (Nat.pow_le_pow_right (by decide) (by omega)))]
          have n3 : ¬ (j : Int) ∈ r ++ [k] := fun z => by have := (hr _ (n2.mp z)).2; omega
          rw [decide_eq_false n3]
theorem sum_pow (l : List Int) : (l.map fun k => (1 : Int) * 2 ^ k.toNat).sum = ((powN l : Nat) : Int) := by
  unfold powN
  induction l with
  | nil => rfl
  | cons k l ih =>
    rw [List.map_cons, List.map_cons, List.sum_cons, List.sum_cons, ih, Int.natCast_add, Int.natCast_pow, Int.one_mul]
    rfl
/-- masks that tell the neighbours of each vertex -/
structure MskL (n : Nat) (R : Rel) (ms : List Nat) : Prop where
  len : ms.length = n
  bit : ∀ (u m : Nat), ms[u]? = some m → ∀ j : Nat, m.testBit j = R u j
def mV (m : Nat) : V := V.int (m : Int)
structure RelOk (n : Nat) (R : Rel) : Prop where
  sym : ∀ u w, R u w = true → R w u = true
  irr : ∀ u, R u u = false
  vx : ∀ u w, R u w = true → Vx n u ∧ Vx n w
theorem RelOk.symB {n : Nat} {R : Rel} (h : RelOk n R) (u w : Int) : R u w = R w u := by
  cases e : R u w with
  | true => rw [h.sym _ _ e]
  | false =>
    cases e' : R w u with
    | false => rfl
    | true => rw [h.sym _ _ e'] at e; cases e
theorem relOk {n : Nat} {qs : List Pr} (ok : ∀ q ∈ qs, Okp n q) (o : Nat → Int) (t : Nat) : RelOk n (relT qs o t) := ⟨fun u w h => rel_sym h, fun u => by
  cases e : relT qs o t u u with
  | false => rfl
  | true => exact absurd rfl (rel_irr ok e), fun u w h => rel_vx ok h⟩
theorem elim_bit {n : Nat} {R : Rel} (h : RelOk n R) {v u : Nat} {a m : Nat} (ha : ∀ j : Nat, a.testBit j = R v j) (hm : ∀ j : Nat, m.testBit j = R u j) (huv : u ≠ v) (hin : R v u = true) (j : Nat) :
    (((m ||| a) ^^^ 2 ^ v) ^^^ 2 ^ u).testBit j = elim R v u j := by
  rw [Nat.testBit_xor, Nat.testBit_xor, Nat.testBit_or, ha, hm, Nat.testBit_two_pow, Nat.testBit_two_pow]
  have hvu : R u v = true := h.sym _ _ hin
  unfold elim
  have n0 : decide ((u : Int) = (v : Int)) = false := decide_eq_false (by omega)
  rw [n0]
  by_cases c1 : j = v
  · subst c1
    have e2 : decide (u = j) = false := decide_eq_false huv
    have e3 : decide ((j : Int) = (j : Int)) = true := decide_eq_true rfl
    rw [hvu, e2, e3, decide_eq_true rfl]
    rfl
  · by_cases c2 : j = u
    · subst c2
      have e2 : decide (v = j) = false := decide_eq_false (fun z => c1 z.symm)
      rw [hin, h.irr, e2, decide_eq_true rfl]
      simp
    · have e1 : decide (v = j) = false := decide_eq_false (fun z => c1 z.symm)
      have e2 : decide (u = j) = false := decide_eq_false (fun z => c2 z.symm)
      have e3 : decide ((j : Int) = (v : Int)) = false := decide_eq_false (by omega)
      have e4 : decide ((u : Int) = (j : Int)) = false := decide_eq_false (by omega)
      rw [hin, e1, e2, e3, e4]
      cases R u j <;> cases R v j <;> rfl
theorem elim_keep {n : Nat} {R : Rel} (h : RelOk n R) {v u : Nat} (huv : u ≠ v) (hin : R v u = false) (j : Nat) : R u j = elim R v u j := by
  unfold elim
  have n0 : decide ((u : Int) = (v : Int)) = false := decide_eq_false (by omega)
  rw [n0, hin]
  by_cases c1 : j = v
  · subst c1
    rw [h.symB, hin]
    simp
  · by_cases c2 : j = u
    · subst c2
      rw [h.irr]
      simp
    · have e3 : decide ((j : Int) = (v : Int)) = false := decide_eq_false (by omega)
      have e4 : decide ((u : Int) = (j : Int)) = false := decide_eq_false (by omega)
      rw [e3, e4]
      simp
theorem elim_self {R : Rel} {v j : Int} : elim R v v j = false := by
  unfold elim
  rw [decide_eq_true (rfl : v = v)]
  rfl
theorem elim_ok {n : Nat} {R : Rel} (h : RelOk n R) (v : Int) : RelOk n (elim R v) := by
  refine ⟨fun u w z => ?_, fun u => ?_, fun u w z => ?_⟩
  · obtain ⟨a, b, c, d⟩ := elim_iff.mp z
    exact elim_iff.mpr ⟨b, a, fun e => c e.symm, d.imp (h.sym _ _) fun z => ⟨z.2, z.1⟩⟩
  · cases e : elim R v u u with
    | false => rfl
    | true => exact absurd rfl (elim_iff.mp e).2.2.1
  · obtain ⟨_, _, _, d⟩ := elim_iff.mp z
    rcases d with d | ⟨d, e⟩
    · exact h.vx _ _ d
    · exact ⟨(h.vx _ _ d).2, (h.vx _ _ e).2⟩
end Sm

set_option Elab.async false
set_option linter.all false
set_option maxRecDepth 100000
set_option maxHeartbeats 4000000
namespace Sm
open PySem PySem.Spec PyProof.Rows L2
theorem at_nat {α : Type} {xs : List α} {k : Nat} {v : α} (h : xs[k]? = some v) : atI xs ((k : Nat) : Int) = some v := by
  have hk := (List.getElem?_eq_some_iff.mp h).1
  unfold atI ixN
  rw [if_pos (by omega), if_pos (by omega)]
  simpa using h
def tTru (K : PySem.W.Frag) (ta : TE) : TT := fun σ H Q => ta σ H fun x H' => ∃ k, TruV K x H' k ∧ Q k H'
theorem truth_at {X : Cx} {K : PySem.W.Frag} {a : Expr} {ta : TE} (hK : X.K = K) (ha : PE X a ta) (he : ∀ whole, isTrue a X.env whole = (do let v ← whole; standAt a.pos; holding [v] (truthy v))) :
    PT X a (tTru K ta) := by
  subst hK
  exact pt_truth ha he
theorem ix_at {X : Cx} {K : PySem.W.Frag} (hK : X.K = K) : IxR X (rIxL K) := by
  subst hK
  exact ix_list
theorem ixT_at {X : Cx} {K : PySem.W.Frag} (hK : X.K = K) : IxR X (rIxT K) := by
  subst hK
  exact ix_tup
abbrev sMsk : Stmt := topS 14
abbrev sMem : Stmt := topS 15
abbrev sNgh : Stmt := topS 16
def spMsk (K : PySem.W.Frag) : Sp := fun vs H Q _ => ∃ (l : Addr) (ns : List Int), vs = [.ref l] ∧ SqL K H l (ns.map V.int) ∧ ns.Pairwise (· < ·) ∧ (∀ k ∈ ns, 0 ≤ k ∧ k < 60) ∧ ∀ H', Same H H' → Q (mV (powN ns)) H'
def spMem : Sp := fun vs H Q _ => ∃ M : Nat, vs = [mV M] ∧ M < 2 ^ 60 ∧ ∀ (H' : Hp) (p : Addr) (ns : List Int), Same H H' → H p = none → H' p = some (.lst (ns.map V.int)) → ns.Pairwise (· < ·) → (∀ k, k ∈ ns ↔ ∃ j : Nat, k = j ∧ M.testBit j = true) → Q (.ref p) H'
def spNgh (K : PySem.W.Frag) (C : Addr) : Sp := fun vs H Q _ => ∃ (g : Addr) (n : Nat) (qs : List Pr), vs = [.ref g] ∧ GraphAt K C H g n qs ∧
  ∀ (H' : Hp) (p : Addr) (ms : List Nat), Same H H' → H p = none → H' p = some (.lst (ms.map mV)) → MskL n (r0 qs) ms → Q (.ref p) H'
section
variable {P : Program} {w : World} {K : PySem.W.Frag} {mg : Str → Option Value} {base : Heap}
theorem scMsk : FnScope ["vertices", "vertex"] ["vertices"] (defScope sMsk) := ⟨rfl, rfl, rfl, by decide +kernel, rfl, by decide +kernel, by decide +kernel⟩
theorem ok_msk {f : Addr} {fd : FuncData} (F : Fun K "mask_of" "mask_of" sMsk f fd) (ms : mg "sum" = none) : FnOk P w K mg base CX0 1 f fd ["vertices"] (spMsk K) := by
  refine F.ok scMsk (fun vs H Q E h => ?_) (fun cdv A outer s H vs Q E hr h => ?_)
  · obtain ⟨l, ns, rfl, _⟩ := h
    rfl
  · obtain ⟨l, ns, rfl, hS, pw, hb, q⟩ := h
    have few : ns.length ≤ 60 := few_vx (n := 60) (List.Pairwise.imp (fun {a b} h e => by omega) pw) fun k hk => by unfold Vx; exact hb k hk
    refine ⟨_, pss_one (ps_ret (pe_callB (cr_sum rfl) (by rfl) ms (by decide +kernel) (pa_cons (pe_lc (own := [("vertex", 1)]) (g := gName 1) (by rfl) scMsk.nd (pi_list (pv 0)) (blkOk_by (own := [("vertex", 1)]) (N := ["vertices", "vertex"]) (sc := defScope sMsk) (by decide +kernel))
      (fun _ _ _ _ _ => pg_name (i := 1) scMsk.nd rfl (Or.inl rfl)) (fun _ _ _ _ _ => pts_nil) (fun _ _ _ _ _ => pe_op op_shl pe_int (pv 1))) pa_nil))), ?_⟩
    refine ⟨_, rfl, l, rfl, ⟨_, hS⟩, fun D nD => ?_⟩
    refine lc_list (K := K) (a := l) (xs := ns.map V.int) (fun t H' => Same H H' ∧ H' D = some (.lst (((ns.take t).map fun k => (1 : Int) * 2 ^ k.toNat).map V.int))) ⟨same_upd nD, upd_same⟩ (fun t H' _ h => h.1.seq hS) ?_ ?_
    · rintro t x H' hx ⟨sm, hD⟩
      rw [List.getElem?_map] at hx
      cases ek : ns[t]? with
      | none => rw [ek] at hx; cases hx
      | some k =>
        rw [ek] at hx
        cases hx
        have hk := hb k (List.mem_of_getElem? ek)
        refine ⟨rfl, _, rfl, 1, k, rfl, rfl, ⟨hk.1, by omega, by decide⟩, _, hD, ?_, same_put sm nD, ?_⟩
        · rw [List.length_map, List.length_map, List.length_take]
          exact small1000 (by omega)
        · rw [upd_same, L2.take_next ek, List.map_append, List.map_append]
          rfl
    · rintro H' ⟨sm, hD⟩
      rw [List.length_map, List.take_length] at hD
      refine ⟨D, _, rfl, SqL.of hD, ?_⟩
      rw [sum_pow]
      exact q H' sm
theorem scMem : FnScope ["mask", "vertex"] ["mask"] (defScope sMem) := ⟨rfl, rfl, rfl, by decide +kernel, rfl, by decide +kernel, by decide +kernel⟩
theorem ok_mem {f : Addr} {fd : FuncData} (F : Fun K "members" "members" sMem f fd) (mr : mg "range" = none) : FnOk P w K mg base CX0 1 f fd ["mask"] spMem := by
  refine F.ok scMem (fun vs H Q E h => ?_) (fun cdv A outer s H vs Q E hr h => ?_)
  · obtain ⟨M, rfl, _⟩ := h
    rfl
  · obtain ⟨M, rfl, hM, q⟩ := h
    refine ⟨_, pss_one (ps_ret (pe_lc (own := [("vertex", 1)]) (g := gName 1) (by rfl) scMem.nd (pi_range1 rfl mr (pa_cons (pe_bits (pv 0)) pa_nil)) (blkOk_by (own := [("vertex", 1)]) (N := ["mask", "vertex"]) (sc := defScope sMem) (by decide +kernel))
      (fun _ _ _ _ _ => pg_name (i := 1) scMem.nd rfl (Or.inl rfl)) (fun _ _ _ _ _ => pts_one (truth_at (K := K) rfl (pe_op op_and (pe_op op_shr (pv 0) (pv 1)) pe_int) (by intro _; rfl))) (fun _ _ _ _ _ => pv 1))), ?_⟩
    have hI : Builtin.Int.intBits (M : Int) ≤ 60 := intBits_le_iff.mpr (by rw [Int.natAbs_natCast]; exact hM)
    have hlow : M < 2 ^ Builtin.Int.intBits (M : Int) := by
      have z := (intBits_le_iff (m := Builtin.Int.intBits (M : Int)) (x := (M : Int))).mp (Nat.le_refl _)
      rwa [Int.natAbs_natCast] at z
    refine ⟨_, rfl, _, rfl, _, rfl, by omega, by omega, fun D nD => ?_⟩
    rw [Int.toNat_natCast]
    generalize Builtin.Int.intBits (M : Int) = b at hI hlow
    refine lc_range (lo := 0) (n := b) (fun t H' => Same H H' ∧ H' D = some (.lst (((vxs t).filter fun k => M.testBit k.toNat).map V.int))) ⟨same_upd nD, upd_same⟩ ?_ ?_
    · rintro t H' ht ⟨sm, hD⟩
      have e0 : (0 : Int) + (t : Int) = (t : Int) := by omega
      have vn : vxs (t + 1) = vxs t ++ [(t : Int)] := by
        unfold vxs
        rw [List.range_succ, List.map_append]
        rfl
      rw [e0]
      refine ⟨rfl, _, rfl, _, rfl, _, _, rfl, rfl, (by omega : (0 : Int) ≤ (t : Int)), _, _, rfl, rfl, _, rfl, ?_⟩
      show if ((Builtin.bitAnd ((M : Int) / 2 ^ ((t : Int)).toNat) 1) != 0) = true then _ else _
      rw [shr_bit, band1_nat, bit_ne]
      have ft : [(t : Int)].filter (fun k => M.testBit k.toNat) = if M.testBit t = true then [(t : Int)] else [] := by
        rw [List.filter_cons, Int.toNat_natCast, List.filter_nil]
      cases c : M.testBit t with
      | true =>
        refine iteT ⟨_, rfl, _, hD, ?_, same_put sm nD, ?_⟩
        · rw [List.length_map]
          refine small1000 ?_
          have := List.length_filter_le (fun k => M.testBit k.toNat) (vxs t)
          have l2 : (vxs t).length = t := by unfold vxs; rw [List.length_map, List.length_range]
          omega
        · rw [upd_same, vn, List.filter_append, ft, c, List.map_append]
          rfl
      | false =>
        refine iteF ⟨sm, ?_⟩
        rw [vn, List.filter_append, ft, c, hD]
        simp
    · rintro H' ⟨sm, hD⟩
      refine q H' D _ sm nD hD ((vxs_lt b).filter _) fun k => ?_
      rw [List.mem_filter, mem_vxs]
      constructor
      · rintro ⟨⟨h1, h2⟩, h3⟩
        exact ⟨k.toNat, by omega, h3⟩
      · rintro ⟨j, rfl, h3⟩
        refine ⟨⟨by omega, ?_⟩, by rw [Int.toNat_natCast]; exact h3⟩
        by_cases c : j < b
        · omega
        · rw [Nat.testBit_lt_two_pow (Nat.lt_of_lt_of_le hlow (Nat.pow_le_pow_right (by decide) (by omega)))] at h3
          cases h3
theorem scNgh : FnScope ["graph", "vertex"] ["graph"] (defScope sNgh) := ⟨rfl, rfl, rfl, by decide +kernel, rfl, by decide +kernel, by decide +kernel⟩
theorem ok_ngh {f C CB fM fNe : Addr} {fd fdM fdNe : FuncData} (F : Fun K "neighbours" "neighbours" sNgh f fd) (T : TxG K mg C)
    (GM : FnOk P w K mg base CX0 1 fM fdM ["vertices"] (spMsk K)) (kM : PySem.W.keepIn K (.ref fM) = true) (bM : Binds K fdM ["vertices"] []) (gM : mg "mask_of" = some (.ref fM))
    (GNe : FnOk P w K mg base (L2.CX P w) 4 fNe fdNe ["self", "u"] (spNear K C CB)) (mNe : Meth K C "near" fNe) (bNe : Binds K fdNe ["self", "u"] []) (mr : mg "range" = none) :
    FnOk P w K mg base CX0 5 f fd ["graph"] (spNgh K C) := by
  refine F.ok scNgh (fun vs H Q E h => ?_) (fun cdv A outer s H vs Q E hr h => ?_)
  · obtain ⟨g, n, qs, rfl, _⟩ := h
    rfl
  · obtain ⟨g, n, qs, rfl, G, q⟩ := h
    have lim := G.lim
    have ⟨dx, et, nt, hg, _⟩ := G.ob
    have hr1 : Room 1 _ := hr.mono (by decide)
    have hr4 : Room 4 _ := hr.mono (by decide)
    refine ⟨_, pss_one (ps_ret (pe_lc (own := [("vertex", 1)]) (g := gName 1) (by rfl) scNgh.nd (pi_range1 rfl mr (pa_cons (pe_fld (pv 0) rfl) pa_nil)) (blkOk_by (own := [("vertex", 1)]) (N := ["graph", "vertex"]) (sc := defScope sNgh) (by decide +kernel))
      (fun _ _ _ _ _ => pg_name (i := 1) scNgh.nd rfl (Or.inl rfl)) (fun _ _ _ _ _ => pts_nil)
      (fun _ _ _ _ _ => pe_call GM hr1 (by rfl) gM kM bM .nil pass0 (pa_cons (pe_meth (pv 0) T.cl mNe GNe hr4 bNe .nil passL (pa_cons (pv 1) pa_nil)) pa_nil)))), ?_⟩
    refine ⟨_, rfl, g, C, dx, _, .int n, rfl, hg, T.cl, T.nS, gf_size _ _ _, n, rfl, by omega, by omega, fun D nD => ?_⟩
    have toNat : ((n : Nat) : Int).toNat = n := by omega
    rw [toNat]
    refine lc_range (lo := 0) (n := n) (fun t H' => Same H H' ∧ H' D = some (.lst (((List.range t).map fun (u : Nat) => powN (nearOf qs (u : Int))).map mV))) ⟨same_upd nD, upd_same⟩ ?_ ?_
    · rintro t H' ht ⟨sm, hD⟩
      have e0 : (0 : Int) + (t : Int) = (t : Int) := by omega
      rw [e0]
      refine ⟨rfl, _, rfl, g, dx, _, rfl, sm _ _ hg, gf_no _ _ _ (by decide +kernel) (by decide +kernel) (by decide +kernel), _, rfl, g, n, qs, .int t, some t, rfl, G.same sm, .int t, fun hbad => ?_, fun u ex hu l1 nl1 => ?_⟩
      · rw [vtxB_of ht] at hbad
        cases hbad
      · have e1 : (t : Int) = u := Option.some.inj ex
        have e2 : t = u := by omega
        subst e2
        have s2 := same_upd (o := .lst ((nearOf qs (t : Int)).map V.int)) nl1
        refine ⟨l1, _, rfl, SqL.of upd_same, nearOf_lt G.ok G.srt _, fun k hk => ?_, fun H3 s3 => ?_⟩
        · have := near_vx G.ok hk
          unfold Vx at this
          omega
        · have Dl : D ≠ l1 := fun z => by rw [← z, hD] at nl1; cases nl1
          refine ⟨_, s3 _ _ (s2 _ _ hD), ?_, same_put (sm.trans (s2.trans s3)) nD, ?_⟩
          · rw [List.length_map, List.length_map, List.length_range]
            exact small1000 (by omega)
          · rw [upd_same, List.range_succ, List.map_append, List.map_append]
            rfl
    · rintro H' ⟨sm, hD⟩
      refine q H' D _ sm nD hD ⟨by rw [List.length_map, List.length_range], fun u m hm j => ?_⟩
      rw [List.getElem?_map] at hm
      have hu : u < n := by
        by_cases c : u < n
        · exact c
        · rw [List.getElem?_eq_none (by rw [List.length_range]; omega)] at hm
          cases hm
      rw [List.getElem?_range hu] at hm
      cases hm
      have z := (powN_lt (b := n) (nearOf_lt G.ok G.srt (u : Int)) fun k hk => by have := near_vx G.ok hk; unfold Vx at this; exact this).2 j
      rw [z]
      unfold r0
      rw [Bool.eq_iff_iff, decide_eq_true_eq, mem_near, Bool.or_eq_true, decide_eq_true_eq, decide_eq_true_eq]
end
end Sm

set_option Elab.async false
set_option linter.all false
set_option maxRecDepth 100000
set_option maxHeartbeats 4000000
namespace Sm
open PySem PySem.Spec PyProof.Rows L2
abbrev sTkn : Stmt := topS 21
abbrev sAio : Stmt := topS 20
def spTkn (K : PySem.W.Frag) : Sp := fun vs H Q _ => ∃ (a : Addr) (n v : Nat) (R : Rel) (ms : List Nat), vs = [.ref a, .int v] ∧ SqL K H a (ms.map mV) ∧ RelOk n R ∧ MskL n R ms ∧ v < n ∧ n ≤ 60 ∧
  ∀ (H' : Hp) (p : Addr) (ms' : List Nat), Same H H' → H p = none → H' p = some (.lst (ms'.map mV)) → MskL n (elim R v) ms' → Q (.ref p) H'
def spAio (K : PySem.W.Frag) (C : Addr) : Sp := fun vs H Q _ => ∃ (g t : Addr) (n : Nat) (qs : List Pr) (os : List Int), vs = [.ref g, .ref t] ∧ GraphAt K C H g n qs ∧ SqT K H t (os.map V.int) ∧ (∀ k ∈ os, Vx n k) ∧ os.length ≤ 60 ∧
  ∀ (H' : Hp) (p : Addr) (ps : List Addr), Same H H' → H p = none → H' p = some (.lst (ps.map V.ref)) → (∀ a ∈ ps, a ≠ p) → ListsAt H' ps ((List.range os.length).map fun t => arT n qs (fun i => os.getD i 0) t) → Q (.ref p) H'
/-- a mask of a set of vertices below n is small -/
theorem msk_lt {n : Nat} {R : Rel} (h : RelOk n R) {u m : Nat} (hm : ∀ j : Nat, m.testBit j = R u j) : m < 2 ^ n := by
  refine Nat.lt_pow_two_of_testBit m fun j hj => ?_
  rw [hm]
  cases e : R u j with
  | false => rfl
  | true =>
    have := (h.vx _ _ e).2
    unfold Vx at this
    omega
section
variable {P : Program} {w : World} {K : PySem.W.Frag} {mg : Str → Option Value} {base : Heap}
theorem scTkn : FnScope ["near", "vertex", "around", "left", "other", "mask"] ["near", "vertex"] (defScope sTkn) := ⟨rfl, rfl, rfl, by decide +kernel, rfl, by decide +kernel, by decide +kernel⟩
theorem ok_tkn {f : Addr} {fd : FuncData} (F : Fun K "taken_away" "taken_away" sTkn f fd) (me : mg "enumerate" = none) : FnOk P w K mg base CX0 1 f fd ["near", "vertex"] (spTkn K) := by
  refine F.ok scTkn (fun vs H Q E h => ?_) (fun cdv A outer s H vs Q E hr h => ?_)
  · obtain ⟨a, n, v, R, ms, rfl, _⟩ := h
    rfl
  · obtain ⟨a, n, v, R, ms, rfl, hS, hR, hM, hv, hn, q⟩ := h
    have gv : ∃ av, ms[v]? = some av := ⟨ms[v]'(by rw [hM.len]; exact hv), List.getElem?_eq_getElem _⟩
    obtain ⟨av, hav⟩ := gv
    have bav := hM.bit v av hav
    have gat : (ms.map mV)[v]? = some (mV av) := by rw [List.getElem?_map, hav]; rfl
    refine ⟨_, pss_cons (ps_set (i := 2) scTkn.nd rfl (.inl rfl) (pe_ix ix_list (pv 0) (pv 1) (fun _ _ => rfl)))
      (pss_cons (ps_set (i := 3) scTkn.nd rfl (.inl rfl) (pe_lst pa_nil))
      (pss_cons (ps_for PassesOwn.never rfl (pi_enum (by rfl) me (pa_cons (pv 0) pa_nil)) (pg_tup rfl (pgs_cons (pg_name (i := 4) scTkn.nd rfl (.inl rfl)) (pgs_cons (pg_name (i := 5) scTkn.nd rfl (.inl rfl)) pgs_nil)))
        (pss_one (ps_if (truth_at (K := K) rfl (pe_op op_and (pe_op op_shr (pv 2) (pv 4)) pe_int) (by intro _; rfl))
          (pss_one (ps_expr (pe_bm PySem.F.plainAttrs_list PySem.F.slot_list_append PySem.F.type_list_append mt_append (pv 3) (pa_cons (pe_op op_xor (pe_op op_xor (pe_op op_or (pv 5) (pv 2)) (pe_op op_shl pe_int (pv 1))) (pe_op op_shl pe_int (pv 4))) pa_nil))))
          (pss_one (ps_expr (pe_bm PySem.F.plainAttrs_list PySem.F.slot_list_append PySem.F.type_list_append mt_append (pv 3) (pa_cons (pv 5) pa_nil)))))))
      (pss_cons (ps_asg pe_int (pg_sub (pv 3) (pv 1) set_list))
      (pss_one (ps_ret (pv 3)))))), ?_⟩
    refine ⟨_, rfl, _, rfl, a, _, v, _, rfl, rfl, hS, at_nat gat, Nat.zero_le _, fun l nl => ?_⟩
    have s1 := same_upd (o := .lst []) nl
    refine ⟨_, rfl, a, _, rfl, s1.seq hS, for_it (walk_enum (K := K) (a := a) (xs := ms.map mV)) (fun t σ H' => ∃ (y4 y5 : Option V) (rs : List Nat), σ = [some (.ref a), some (.int v), some (mV av), some (.ref l), y4, y5] ∧ Same H H' ∧ H' l = some (.lst (rs.map mV)) ∧ rs.length = t ∧
      ∀ (u m : Nat), rs[u]? = some m → u ≠ v → ∀ j : Nat, m.testBit j = elim R v u j)
      ⟨none, none, [], rfl, s1, upd_same, rfl, fun u m hm => by simp at hm⟩ (fun t σ H' _ ⟨_, _, _, _, s', _⟩ => s'.seq hS) ?_ ?_⟩
    · rintro t x σ H1 H' ht ⟨y4, y5, rs, rfl, sm, hl, hlen, hb⟩ ⟨T1, v1, v2, rfl, nT, rfl, e1, e2⟩
      cases e1
      have e2 : (ms.map mV)[t]? = some v2 := e2
      rw [List.getElem?_map] at e2
      cases em : ms[t]? with
      | none => rw [em] at e2; cases e2
      | some m =>
        rw [em] at e2
        cases e2
        have htn : t < n := by rw [← hM.len]; exact (List.getElem?_eq_some_iff.mp em).1
        have bm := hM.bit t m em
        have lT : l ≠ T1 := fun z => by rw [← z, hl] at nT; cases nT
        have sT := same_upd (o := .tup [.int (t : Nat), mV m]) nT
        have hl' := sT _ _ hl
        have hT1 : (upd H1 T1 (.tup [.int (t : Nat), mV m])) T1 = some (.tup [.int (t : Nat), mV m]) := upd_same
        have sm' : Same H (upd H1 T1 (.tup [.int (t : Nat), mV m])) := same_put sm (sm.free nT)
        generalize (upd H1 T1 (.tup [.int (t : Nat), mV m])) = H2 at hl' sm' hT1 ⊢
        have small : (rs.map mV).length < sizeLine := by rw [List.length_map]; exact small1000 (by omega)
        have fin : ∀ m' : Nat, (t ≠ v → ∀ j : Nat, m'.testBit j = elim R v t j) → ∀ (u m : Nat), (rs ++ [m'])[u]? = some m → u ≠ v → ∀ j : Nat, m.testBit j = elim R v u j := fun m' hm' u m hu huv => by
          by_cases c : u < rs.length
          · rw [List.getElem?_append_left c] at hu
            exact hb u m hu huv
          · rw [List.getElem?_append_right (by omega)] at hu
            have e0 : u - rs.length = 0 := by
              cases e : u - rs.length with
              | zero => rfl
              | succ k => rw [e] at hu; simp at hu
            have eu : u = t := by omega
            rw [e0] at hu
            cases hu
            subst eu
            exact hm' huv
        refine ⟨T1, _, rfl, SqT.of hT1, rfl, _, _, rfl, _, _, rfl, rfl, ?_⟩
        refine ⟨_, rfl, _, rfl, _, _, rfl, rfl, (by omega : (0 : Int) ≤ (t : Int)), _, _, rfl, rfl, _, rfl, ?_⟩
        show if ((Builtin.bitAnd ((av : Int) / 2 ^ ((t : Int)).toNat) 1) != 0) = true then _ else _
        rw [shr_bit, band1_nat, bit_ne, bav]
        cases c : R v t with
        | true =>
          have ev : Builtin.bitXor (Builtin.bitXor (Builtin.bitOr (m : Int) (av : Int)) ((1 : Int) * 2 ^ ((v : Int)).toNat)) ((1 : Int) * 2 ^ ((t : Int)).toNat) = ((((m ||| av) ^^^ 2 ^ v) ^^^ 2 ^ t : Nat) : Int) := by
            rw [bor_nat, pow_cast, pow_cast, bxor_nat, bxor_nat]
          refine iteT ⟨_, rfl, .inl ⟨rfl, _, SqL.of hl'⟩, _, rfl, _, rfl, _, _, rfl, rfl, _, rfl, _, _, rfl, rfl, ⟨by omega, by omega, by decide⟩, _, _, rfl, rfl, _, rfl, _, _, rfl, rfl, ⟨by omega, by omega, by decide⟩, _, _, rfl, rfl, l, _, _, rfl, rfl, hl', small, ?_⟩
          refine ⟨_, _, rs ++ [((m ||| av) ^^^ 2 ^ v) ^^^ 2 ^ t], rfl, same_put sm' nl, ?_, by rw [List.length_append, hlen]; rfl, fin _ fun htv j => elim_bit hR bav bm htv c j⟩
          rw [upd_same, List.map_append]
          show some (HO.lst (_ ++ [V.int (Builtin.bitXor (Builtin.bitXor (Builtin.bitOr (m : Int) (av : Int)) ((1 : Int) * 2 ^ ((v : Int)).toNat)) ((1 : Int) * 2 ^ ((t : Int)).toNat))])) = _
          rw [ev]
          rfl
        | false =>
          refine iteF ⟨_, rfl, .inl ⟨rfl, _, SqL.of hl'⟩, _, rfl, l, _, _, rfl, rfl, hl', small, ?_⟩
          refine ⟨_, _, rs ++ [m], rfl, same_put sm' nl, ?_, by rw [List.length_append, hlen]; rfl, fin _ fun htv j => (bm j).trans (elim_keep hR htv c j)⟩
          rw [upd_same, List.map_append]
          rfl
    · rintro σ H' ⟨y4, y5, rs, rfl, sm, hl, hlen, hb⟩
      rw [List.length_map, hM.len] at hlen
      refine ⟨_, rfl, _, rfl, l, _, v, v, rfl, rfl, hl, ?_, _, rfl, ?_⟩
      · unfold ixN
        rw [List.length_map, if_pos (by omega), if_pos (by omega), Int.toNat_natCast]
      · refine q _ l (rs.set v 0) (same_put sm nl) nl ?_ ⟨by rw [List.length_set, hlen], fun u m hm j => ?_⟩
        · rw [upd_same, List.map_set]
          rfl
        · by_cases c : u = v
          · subst c
            rw [List.getElem?_set_self (by omega)] at hm
            cases hm
            rw [elim_self, Nat.zero_testBit]
          · rw [List.getElem?_set_ne (fun z => c z.symm)] at hm
            exact hb u m hm c j
theorem scAio : FnScope ["graph", "order", "near", "found", "vertex"] ["graph", "order"] (defScope sAio) := ⟨rfl, rfl, rfl, by decide +kernel, rfl, by decide +kernel, by decide +kernel⟩
theorem ok_aio {f C fN fM fT : Addr} {fd fdN fdM fdT : FuncData} (F : Fun K "around_in_order" "around_in_order" sAio f fd)
    (GN : FnOk P w K mg base CX0 5 fN fdN ["graph"] (spNgh K C)) (kN : PySem.W.keepIn K (.ref fN) = true) (bN : Binds K fdN ["graph"] []) (gN : mg "neighbours" = some (.ref fN))
    (GM : FnOk P w K mg base CX0 1 fM fdM ["mask"] spMem) (kM : PySem.W.keepIn K (.ref fM) = true) (bM : Binds K fdM ["mask"] []) (gM : mg "members" = some (.ref fM))
    (GT : FnOk P w K mg base CX0 1 fT fdT ["near", "vertex"] (spTkn K)) (kT : PySem.W.keepIn K (.ref fT) = true) (bT : Binds K fdT ["near", "vertex"] []) (gT : mg "taken_away" = some (.ref fT)) :
    FnOk P w K mg base CX0 6 f fd ["graph", "order"] (spAio K C) := by
  refine F.ok scAio (fun vs H Q E h => ?_) (fun cdv A outer s H vs Q E hr h => ?_)
  · obtain ⟨g, t, n, qs, os, rfl, _⟩ := h
    rfl
  · obtain ⟨g, t, n, qs, os, rfl, G, hT, hos, hfew, q⟩ := h
    have lim := G.lim
    have hr5 : Room 5 _ := hr.mono (by decide)
    have hr1 : Room 1 _ := hr.mono (by decide)
    refine ⟨_, pss_cons (ps_set (i := 2) scAio.nd rfl (.inl rfl) (pe_call GN hr5 (by rfl) gN kN bN .nil pass0 (pa_cons (pv 0) pa_nil)))
      (pss_cons (ps_set (i := 3) scAio.nd rfl (.inl rfl) (pe_lst pa_nil))
      (pss_cons (ps_for PassesOwn.never rfl (pi_tup (pv 1)) (pg_name (i := 4) scAio.nd rfl (.inl rfl))
        (pss_cons (ps_expr (pe_bm PySem.F.plainAttrs_list PySem.F.slot_list_append PySem.F.type_list_append mt_append (pv 3) (pa_cons (pe_call GM hr1 (by rfl) gM kM bM .nil pass0 (pa_cons (pe_ix ix_list (pv 2) (pv 4) (fun _ _ => rfl)) pa_nil)) pa_nil)))
        (pss_one (ps_set (i := 2) scAio.nd rfl (.inl rfl) (pe_call GT hr1 (by rfl) gT kT bT .nil pass0 (pa_cons (pv 2) (pa_cons (pv 4) pa_nil)))))))
      (pss_one (ps_ret (pv 3))))), ?_⟩
    refine ⟨_, rfl, g, n, qs, rfl, G, fun H1 a1 ms1 s1 na1 ha1 hM1 => ⟨Nat.zero_le _, fun f1 nf => ?_⟩⟩
    have s2 := same_upd (o := .lst []) nf
    have nfH := s1.free nf
    refine ⟨_, rfl, t, rfl, ⟨_, same_sqT (s1.trans s2) hT⟩, for_it (walk_tup (K := K) (a := t) (xs := os.map V.int)) (fun i σ H' => ∃ (y4 : Option V) (a : Addr) (ms : List Nat) (ps : List Addr), σ = [some (.ref g), some (.ref t), some (.ref a), some (.ref f1), y4] ∧ Same H H' ∧ H' f1 = some (.lst (ps.map V.ref)) ∧ a ≠ f1 ∧ H' a = some (.lst (ms.map mV)) ∧
      MskL n (relT qs (fun i => os.getD i 0) i) ms ∧ (∀ b ∈ ps, b ≠ f1) ∧ ListsAt H' ps ((List.range i).map fun t => arT n qs (fun i => os.getD i 0) t))
      ⟨none, a1, ms1, [], rfl, s1.trans s2, upd_same, (fun z => by rw [z, nf] at ha1; cases ha1), s2 _ _ ha1, hM1, (fun b hb => by cases hb), .nil⟩ (fun i σ H' _ ⟨_, _, _, _, _, s', _⟩ => same_sqT s' hT) ?_ ?_⟩
    · rintro i x σ H2 H' hi ⟨y4, a, ms, ps, rfl, sm, hf, af, ha, hM, na, pl⟩ ⟨rfl, hx⟩
      have hx : (os.map V.int)[i]? = some x := hx
      rw [List.getElem?_map] at hx
      cases ek : os[i]? with
      | none => rw [ek] at hx; cases hx
      | some k =>
        rw [ek] at hx
        cases hx
        have vk := hos k (List.mem_of_getElem? ek)
        obtain ⟨u, rfl⟩ : ∃ u : Nat, k = u := ⟨k.toNat, by unfold Vx at vk; omega⟩
        have hu : u < n := by unfold Vx at vk; omega
        have oi : os.getD i 0 = (u : Int) := by
          rw [List.getD_eq_getElem?_getD, ek]
          rfl
        have gm : ∃ m, ms[u]? = some m := ⟨ms[u]'(by rw [hM.len]; exact hu), List.getElem?_eq_getElem _⟩
        obtain ⟨m, hm⟩ := gm
        have hR := relOk G.ok (fun i => os.getD i 0) i
        have bm := hM.bit u m hm
        have gat : (ms.map mV)[u]? = some (mV m) := by rw [List.getElem?_map, hm]; rfl
        have psl : ps.length ≤ 60 := by
          have z := pl.length
          rw [List.length_map, List.length_range] at z
          have := (List.getElem?_eq_some_iff.mp ek).1
          omega
        refine ⟨_, rfl, .inl ⟨rfl, _, SqL.of hf⟩, _, rfl, _, rfl, a, _, u, _, rfl, rfl, SqL.of ha, at_nat gat, m, rfl, Nat.lt_of_lt_of_le (msk_lt hR bm) (Nat.pow_le_pow_right (by decide) lim), fun H3 l3 ns s3 nl3 hl3 pw mem => ?_⟩
        have hf3 := s3 _ _ hf
        have ha3 := s3 _ _ ha
        have fl3 : f1 ≠ l3 := fun z => by rw [← z, hf] at nl3; cases nl3
        have nse : ns = arT n qs (fun i => os.getD i 0) i := lt_ext pw ((vxs_lt n).filter _) fun k => by
          rw [mem, mem_arT G.ok, oi]
          constructor
          · rintro ⟨j, rfl, hj⟩
            rw [← bm]
            exact hj
          · intro hk
            have vk := (hR.vx _ _ hk).2
            unfold Vx at vk
            exact ⟨k.toNat, by omega, by rw [bm, show ((k.toNat : Nat) : Int) = k by omega]; exact hk⟩
        refine ⟨f1, _, _, rfl, rfl, hf3, by rw [List.length_map]; exact small1000 (by omega), ?_⟩
        have ha4 : (upd H3 f1 (.lst (ps.map V.ref ++ [.ref l3]))) a = some (.lst (ms.map mV)) := by rw [upd_ne af]; exact ha3
        have hf4 : (upd H3 f1 (.lst (ps.map V.ref ++ [.ref l3]))) f1 = some (.lst (ps.map V.ref ++ [.ref l3])) := upd_same
        refine ⟨_, rfl, _, rfl, a, n, u, _, ms, rfl, SqL.of ha4, hR, hM, hu, lim, fun H5 a5 ms5 s5 na5 ha5 hM5 => ?_⟩
        refine ⟨_, a5, ms5, ps ++ [l3], rfl, (same_put (sm.trans s3) nfH).trans s5, by rw [List.map_append]; exact s5 _ _ hf4, (fun z => by rw [z, hf4] at na5; cases na5), ha5, ?_, fun b hb => ?_, ?_⟩
        · show MskL n (elim (relT qs (fun i => os.getD i 0) i) (os.getD i 0)) ms5
          rw [oi]
          exact hM5
        · rcases List.mem_append.mp hb with z | z
          · exact na b z
          · rw [List.mem_singleton.mp z]; exact fl3.symm
        · rw [List.range_succ, List.map_append, List.map_singleton, ← nse]
          exact ListsAt.snoc (s5 _ _ (by rw [upd_ne fl3.symm]; exact hl3)) (ListsAt.keep2 (f := f1) (fun b c ne e => s5 _ _ (by rw [upd_ne ne]; exact s3 _ _ e)) na pl)
    · rintro σ H' ⟨y4, a, ms, ps, rfl, sm, hf, af, ha, hM, na, pl⟩
      rw [List.length_map] at pl
      exact ⟨_, rfl, q H' f1 ps sm nfH hf na pl⟩
end
end Sm

set_option Elab.async false
set_option linter.all false
set_option maxRecDepth 100000
set_option maxHeartbeats 4000000
/-! ### enumerate of a tuple -/
namespace Sm
open PySem PySem.Spec PyProof.Rows L2
def cellE (i : Addr) : Obj := { cls := .type "enumerate", data := .fields #[.none, .bool false, .ref i, rawInt 0, .none, .none] }
theorem meets_en1 {v : Value} {o : Obj} {G : Heap → Prop} (B : Begins v o G) :
    Meets (Builtin.«enumerate.__new__» ⟨[.type "enumerate", v], []⟩) (fun _ R s => G s.heap ∧ R (.ok (.ret (.ref (s.heap.push o).objs.size))) { s with heap := (s.heap.push o).push (cellE s.heap.objs.size) }) := by
  refine .of_wp ?_
  intro prog w A R s h
  obtain ⟨hp, g, d, tk, os⟩ := s
  obtain ⟨h1, h⟩ := h
  have sube := sub_enumerate
  have go : ∀ {A' : Around} {E : Value → Shared → Prop} {Q : Value → Shared → Prop}, Q (.ref hp.objs.size) ⟨hp.push o, g, d, tk, os⟩ → wpAny (model prog w) A' (pyIter v) Q E ⟨hp, g, d, tk, os⟩ := by
    intro A' E Q q
    exact B.iter prog w _ _ ⟨hp, g, d, tk, os⟩ _ h1 q
  wp_walk using go
  refine wpAny_stack_any ?_
  intro st
  refine wpAny_pure ?_
  split
  · rename_i c _ _ _ _ _
    cases (c == Value.type "enumerate") <;> (wp_walk using go; exact ⟨_, rfl, h⟩)
  · wp_walk using go
    exact ⟨_, rfl, h⟩
section
variable {prog : Program} {w : World} {A : Around} {E : Value → Shared → Prop} {s : Shared}
theorem call_en1 {v : Value} {o : Obj} {G : Heap → Prop} {Q : Value → Shared → Prop} (B : Begins v o G) (h1 : G s.heap)
    (h : ∀ hh, IsEnum hh (s.heap.objs.size + 1) s.heap.objs.size 0 .none → hh.get? s.heap.objs.size = some o → (∀ b ob, s.heap.get? b = some ob → hh.get? b = some ob) → Q (.ref (s.heap.objs.size + 1)) { s with heap := hh }) :
    wpAny (model prog w) A (call (.type "enumerate") [v]) Q E s := by
  refine callType_new F.called_enumerate (by decide) (F.typeCall_enumerate_1 _) (F.newCall_enumerate_1 _) (fun obj => F.args_object_init_2 obj _) F.entry_enumerate_new (meets_en1 B) ⟨h1, ?_⟩
  have z1 : (s.heap.push o).objs.size = s.heap.objs.size + 1 := Heap.size_push ..
  show _ ∧ _
  rw [z1]
  have isE : IsEnum ((s.heap.push o).push (cellE s.heap.objs.size)) (s.heap.objs.size + 1) s.heap.objs.size 0 .none := by
    have y := Heap.get?_push_size (s.heap.push o) (o := cellE s.heap.objs.size) rfl
    rw [z1] at y
    exact y
  refine ⟨⟨_, isE, rfl⟩, h _ isE ?_ ?_⟩
  · exact Heap.get?_push_of_some _ (Heap.get?_push_size _ B.free)
  · intro b ob x
    exact Heap.get?_push_of_some _ (Heap.get?_push_of_some _ x)
end
/-- the tuple at a, each item in a new pair with its number -/
def IteT (K : PySem.W.Frag) (a : Addr) : It :=
  ⟨fun i H => ∃ (xs : List V) (x : V), SqT K H a xs ∧ xs[i]? = some x,
   fun i H v H' => ∃ T x, v = .ref T ∧ H T = none ∧ H' = upd H T (.tup [.int (i : Nat), x]) ∧ ∀ xs, SqT K H a xs → xs[i]? = some x,
   fun i H => ∃ xs : List V, SqT K H a xs ∧ xs.length ≤ i⟩
def EnT (e it a : Addr) (i : Nat) (h : Heap) : Prop := (∃ old, IsEnum h e it ((i : Nat) : Int) old) ∧ h.IsTupleIter it a i ∧ e ≠ it
theorem turn_enT {P : Program} {w : World} {K : PySem.W.Frag} {elts : List Expr} {kk : Nat} {tpos : Pos} (a e it : Addr) : Turn P w K (.Tuple elts kk tpos) (IteT K a) [e, it] e (EnT e it a) where
  mem := List.mem_cons_self
  obj := by
    rintro i h ⟨⟨old, he⟩, ⟨o, ho, hc, hd⟩, _⟩ b hb
    rcases List.mem_cons.mp hb with z | z
    · rw [z]
      exact ⟨_, he, fun v q => nomatch q⟩
    · rw [List.mem_singleton.mp z]
      exact ⟨o, ho, fun v q => by rw [hd] at q; cases q⟩
  keep := by
    rintro i h h' ⟨⟨old, he⟩, hi, hne⟩ k
    exact ⟨⟨old, k e (by simp) _ he⟩, hi.at fun o q => k it (by simp) o q, hne⟩
  item := by
    intro X hP hw hK hc i pins s σ H E I hf st hg
    subst hP hw hK
    obtain ⟨⟨old, he⟩, hit, hne⟩ := st
    obtain ⟨xs, x, hq, hx⟩ := hg
    obtain ⟨its, rv, p, hz⟩ := I.tuple hq
    obtain ⟨u, hu, ru⟩ := rv.get hx
    have isT : s.heap.IsTuple a its.toArray := p
    have hel : e < s.heap.objs.size := Heap.lt_size he
    have hil : it < s.heap.objs.size := by
      obtain ⟨_, q, _⟩ := hit
      exact Heap.lt_size q
    have ait : a ≠ it := by
      intro z
      obtain ⟨o1, q1, c1, _⟩ := isT
      obtain ⟨o2, q2, c2, _⟩ := hit
      rw [z, q2] at q1
      cases q1
      rw [c2] at c1
      exact absurd (Value.type.inj c1) (by decide)
    have ae : a ≠ e := by
      intro z
      obtain ⟨o1, q1, c1, _⟩ := isT
      have q2 : s.heap.get? e = some _ := he
      rw [z, q2] at q1
      cases q1
      exact absurd (Value.type.inj c1) (by decide)
    have hlt : i < its.toArray.size := by
      have := (List.getElem?_eq_some_iff.mp hu).1
      simpa using this
    refine wpAny_pyNext_enum_itemD (Draws.tuple (A := X.A.in1) (I.ok.hd hc) it a ait its.toArray) he ⟨hit, isT⟩ hlt hne (by simp [hne, Ne.symm ae]) ?_
    intro y h' tk hy ho hst hT hsz hk
    have hy2 : its.toArray[i]? = some y := hy
    have ey : y = u := by
      have : its[i]? = some y := by simpa using hy2
      rw [hu] at this
      exact (Option.some.inj this).symm
    subst ey
    refine ⟨_, rfl, wpAny_letOwnedTupleGo_enum (s := { s with heap := h', toks := tk + 1 }) ho ?_⟩
    intro h'' he' sb
    have hT2 : h''.get? s.heap.objs.size = some { cls := .type "tuple", data := .seq #[.int i tk, y] } := (sb.2 _ (Nat.ne_of_gt hel)).trans hT
    have new : ObjOk X.prog X.w (upd H s.heap.objs.size (.tup [.int (i : Nat), x])) h'' s.heap.objs.size (.tup [.int (i : Nat), x]) := by
      refine ⟨by show 2 ≤ sizeLine; decide, [.int i tk, y], .cons ⟨_, rfl⟩ (.cons ru .nil), ⟨_, hT2, rfl, _, rfl⟩⟩
    have I1 : Inv X pins σ (upd H s.heap.objs.size (.tup [.int (i : Nat), x])) { s with heap := h'', toks := tk + 1 } := by
      refine I.turnedNew (ch := [e, it]) (fun b ob hb q => ?_) hf (Nat.le_refl _) new
      have n1 : b ≠ e := fun z => hb (by simp [z])
      have n2 : b ≠ it := fun z => hb (by simp [z])
      exact (sb.2 b n1).trans (hk b ob n1 n2 q)
    refine ⟨.ref s.heap.objs.size, _, I1, rfl, ⟨_, x, rfl, I.hok.fresh (Nat.le_refl _), rfl, fun ys hy => ?_⟩, ⟨⟨y, ?_⟩, hst.1.at fun o q => (sb.2 it (Ne.symm hne)).trans q, hne⟩, fun b hb => ?_⟩
    · rw [I.tuple_inj hy hq]
      exact hx
    · have e1 : ((i + 1 : Nat) : Int) = (i : Int) + 1 := by omega
      rw [e1]
      exact he'
    · have hb' : b < s.heap.objs.size := by
        rcases List.mem_cons.mp hb with z | z
        · rw [z]
          exact hel
        · rw [List.mem_singleton.mp z]
          exact hil
      rw [upd_ne (Nat.ne_of_lt hb')]
      exact (hf b hb).1
  done := by
    intro X hP hw hK hc i pins s σ H E I hf st hg
    subst hP hw hK
    obtain ⟨⟨old, he⟩, hit, hne⟩ := st
    obtain ⟨xs, hq, hx⟩ := hg
    obtain ⟨its, rv, p, hz⟩ := I.tuple hq
    have isT : s.heap.IsTuple a its.toArray := p
    have hl := rv.length
    have ait : a ≠ it := by
      intro z
      obtain ⟨o1, q1, c1, _⟩ := isT
      obtain ⟨o2, q2, c2, _⟩ := hit
      rw [z, q2] at q1
      cases q1
      rw [c2] at c1
      exact absurd (Value.type.inj c1) (by decide)
    obtain ⟨f0, f1, f2, f3, f4, f5⟩ := hf it (by simp)
    have hend : its.toArray[i]? = none := by simp; omega
    unfold pyNext
    have tE : s.TypeIs (.ref e) "enumerate" := ⟨_, he, rfl⟩
    refine wpAny_bind (wpAny_attempt (wpAny_callSpecial?_slot (name := Str.ofString "__next__") tE F.slot_enumerate_next (wpAny_call_entry F.slot_enumerate_next tE F.entry_enumerate_next ?_ (F.args_enumerate_next_1 _))))
    show wpAny _ _ (field (.ref e) 2 >>= _) _ _ _
    refine wpAny_bind (wpAny_field he rfl (x := .ref it) rfl ?_)
    refine wpAny_bind (wpAny_nextOf_tuple_end (A := X.A.in1) (I.ok.hd hc) hit isT hend ?_)
    rintro h' x he' ⟨o, ho, hcs⟩
    refine wpAny_bind (wpAny_isInstance (T := "StopIteration") (b := true) ⟨o, ho, hcs⟩ isSubtype_stop ?_)
    exact wpAny_pure ⟨rfl, I.turned (t' := s.toks) (fun b o hb q => he' b o hb q) f0 f1 f3 f4 f5⟩
  self := by
    rintro A i s Q E ⟨⟨_, he⟩, _⟩ h
    exact wpAny_pyIter_enum he h
def iEnT (K : PySem.W.Frag) (ta : TA) : TI := fun σ H R => ta σ H fun vs H1 => ∃ a xs, vs = [.ref a] ∧ SqT K H1 a xs ∧ R (IteT K a) H1
theorem pi_enT {X : Cx} {e : Expr} {ta : TA} {p pos tpos : Pos} {elts : List Expr} {kk : Nat} (hg : Gl X "enumerate") (hm : X.mg "enumerate" = none) (ha : PA X [e] ta)
    (hs : starEach [e] X.env = [(false, eval e X.env)] := by rfl) : PI X (.Tuple elts kk tpos) (.Call (.Name "enumerate" p) [e] [] pos) (iEnT X.K ta) := by
  constructor
  intro pins s σ H R I h
  refine Call_ (ld_blt I hg hm boot_enumerate (PyProof.Rows.callWith_type1 (thn (ha.run pos pins s σ H _ I h) ?_) hs rfl))
  rintro us s1 ⟨vs, H1, I1, r1, a, xs, rfl, hq, q⟩
  rw [Vals.ref1 r1]
  obtain ⟨its, rv, p', hz⟩ := I1.tuple hq
  refine call_en1 (begins_tuple a its.toArray) (show s1.heap.IsTuple a its.toArray from p') ?_
  intro h' he hit hk
  refine wpAny_pyIter_enum he ?_
  have I2 : Inv X pins σ H1 { s1 with heap := h' } := I1.kept (t' := s1.toks) hk
  refine ⟨s1.heap.objs.size + 1, [s1.heap.objs.size + 1, s1.heap.objs.size], _, _, H1, rfl, I2, turn_enT a (s1.heap.objs.size + 1) s1.heap.objs.size, ⟨⟨.none, he⟩, ⟨_, hit, rfl, rfl⟩, Nat.succ_ne_self _⟩, fun b hb => ?_, q⟩
  have hle : s1.heap.objs.size ≤ b := by
    rcases List.mem_cons.mp hb with z | z
    · rw [z]
      exact Nat.le_add_right _ _
    · rw [List.mem_singleton.mp z]
      exact Nat.le_refl _
  exact I1.fpOk hle (I1.hok.fresh hle)
theorem walk_enT {K : PySem.W.Frag} {a : Addr} {xs : List V} : Walk (IteT K a) xs.length (fun H => SqT K H a xs) (YPair (fun i => some (.int (i : Nat))) (fun i => xs[i]?)) := by
  refine ⟨?_, ?_, ?_⟩
  · intro i _ hi q
    exact ⟨xs, xs[i], q, by simp [hi]⟩
  · intro _ q
    exact ⟨xs, q, Nat.le_refl _⟩
  · rintro i H v H' _ q ⟨T, x, h1, h2, h3, h4⟩
    exact ⟨T, .int (i : Nat), x, h1, h2, h3, rfl, h4 xs q⟩
end Sm

set_option Elab.async false
set_option linter.all false
set_option maxRecDepth 100000
set_option maxHeartbeats 4000000
namespace Sm
open PySem PySem.Spec PyProof.Rows L2
abbrev TupsAt (K : PySem.W.Frag) (H : Hp) : List Addr → List (List Int) → Prop := Paired fun a c => SqT K H a (c.map V.int)
theorem TupsAt.same {K : PySem.W.Frag} {H H' : Hp} (s : Same H H') : ∀ {as : List Addr} {cs : List (List Int)}, TupsAt K H as cs → TupsAt K H' as cs
  | _, _, .nil => .nil
  | _, _, .cons h t => .cons (same_sqT s h) (TupsAt.same s t)
theorem TupsAt.but {K : PySem.W.Frag} {H H' : Hp} {p : Addr} {ys : List V} (b : But p H H') (hp : H p = some (.lst ys)) : ∀ {as : List Addr} {cs : List (List Int)}, TupsAt K H as cs → TupsAt K H' as cs
  | _, _, .nil => .nil
  | _, _, .cons h t => .cons (b.sqTl hp h) (TupsAt.but b hp t)
theorem TupsAt.snoc {K : PySem.W.Frag} {H : Hp} {a : Addr} {c : List Int} (h : SqT K H a (c.map V.int)) : ∀ {as : List Addr} {cs : List (List Int)}, TupsAt K H as cs → TupsAt K H (as ++ [a]) (cs ++ [c])
  | _, _, .nil => .cons h .nil
  | _, _, .cons h' t => .cons h' (TupsAt.snoc h t)
theorem paired_get {α β : Type} {r : α → β → Prop} : ∀ {as : List α} {bs : List β} {i : Nat} {a : α}, Paired r as bs → as[i]? = some a → ∃ b, bs[i]? = some b ∧ r a b
  | _, _, _, _, .nil, e => by simp at e
  | _, _, 0, _, .cons h t, e => ⟨_, rfl, by cases e; exact h⟩
  | _, _, i + 1, _, .cons h t, e => paired_get (i := i) t (by simpa using e)
def rTupOf (K : PySem.W.Frag) : List V → Hp → VK → Prop := fun xs H Q => ∃ p ys, xs = [.ref p] ∧ ((SqL K H p ys ∧ ∀ l, H l = none → Q (.ref l) (upd H l (.tup ys))) ∨ (SqT K H p ys ∧ Q (.ref p) H))
theorem tuple_at {X : Cx} {K : PySem.W.Frag} (hK : X.K = K) : CallR X (.type "tuple") (rTupOf K) := by
  subst hK
  exact call_tuple_of
def rLenOf (K : PySem.W.Frag) : List V → Hp → VK → Prop := fun xs H Q => ∃ p ys, xs = [.ref p] ∧ (SqL K H p ys ∨ SqT K H p ys) ∧ Q (.int ys.length) H
theorem len_at {X : Cx} {K : PySem.W.Frag} (hK : X.K = K) : CallR X (.builtin "len") (rLenOf K) := by
  subst hK
  exact call_len_seq
abbrev sCmp : Stmt := topS 18
abbrev sOw : Stmt := topS 19
abbrev sWof : Stmt := topS 29
abbrev sAsc : Stmt := topS 8
abbrev sHf : Stmt := topS 25
def spCmp (K : PySem.W.Frag) (C : Addr) : Sp := fun vs H Q _ => ∃ (g t : Addr) (n : Nat) (qs : List Pr) (G : List Int), vs = [.ref g, .ref t] ∧ GraphAt K C H g n qs ∧ SqT K H t (G.map V.int) ∧ G.Nodup ∧ (∀ k ∈ G, Vx n k) ∧
  ∀ (H' : Hp) (f : Addr) (ps : List Addr), Same H H' → H f = none → H' f = some (.lst (ps.map V.ref)) → TupsAt K H' ps (compG n qs G n) → Q (.ref f) H'
def ordF (os : List Int) : Nat → Int := fun i => os.getD i 0
def degs (n : Nat) (qs : List Pr) (os : List Int) : List Int := (List.range os.length).map fun t => ((arT n qs (ordF os) t).length : Int)
def spOw (K : PySem.W.Frag) (C : Addr) : Sp := fun vs H Q _ => ∃ (g t : Addr) (n : Nat) (qs : List Pr) (os : List Int), vs = [.ref g, .ref t] ∧ GraphAt K C H g n qs ∧ SqT K H t (os.map V.int) ∧ (∀ k ∈ os, Vx n k) ∧ os.length ≤ 60 ∧
  ∀ H', Same H H' → Q (.int (maxOr (-1) (degs n qs os))) H'
def spWof (K : PySem.W.Frag) : Sp := fun vs H Q _ => ∃ (t : Addr) (ps : List Addr) (bs : List (List Int)), vs = [.ref t] ∧ SqT K H t (ps.map V.ref) ∧ TupsAt K H ps bs ∧ bs ≠ [] ∧ bs.length ≤ 60 ∧
  ∀ (H' : Hp) (m : Int), Same H H' → m ∈ bs.map (fun b => (b.length : Int)) → (∀ y ∈ bs.map (fun b => (b.length : Int)), y ≤ m) → Q (.int (m - 1)) H'
def spAsc (K : PySem.W.Frag) : Sp := fun vs H Q _ => ∃ (t : Addr) (n : Nat) (b : List Int), vs = [.ref t, .int n] ∧ SqT K H t (b.map V.int) ∧ b.Pairwise (· < ·) ∧ (∀ k ∈ b, Vx n k) ∧ Q (.bl true) H
def spHf (K : PySem.W.Frag) (C : Addr) : Sp := fun vs H Q _ => ∃ (g b p : Addr) (n : Nat) (qs : List Pr) (ps : List Addr) (bs : List (List Int)) (pars : List Int), vs = [.ref g, .ref b, .ref p] ∧ GraphAt K C H g n qs ∧ SqT K H b (ps.map V.ref) ∧ TupsAt K H ps bs ∧ SqT K H p (pars.map V.int) ∧
  Good n qs bs pars ∧ bs.length ≤ 60 ∧ ∀ H', Same H H' → Q (.bl true) H'
section
variable {P : Program} {w : World} {K : PySem.W.Frag} {mg : Str → Option Value} {base : Heap}
theorem scCmp : FnScope ["graph", "without", "piece"] ["graph", "without"] (defScope sCmp) := ⟨rfl, rfl, rfl, by decide +kernel, rfl, by decide +kernel, by decide +kernel⟩
theorem compG_len (n : Nat) (qs : List Pr) (G : List Int) : (compG n qs G n).length ≤ n := by
  unfold compG
  rw [List.length_map]
  exact Nat.le_trans (List.length_filter_le _ _) (by rw [List.length_range]; omega)
theorem ok_cmp {f C fR : Addr} {fd fdR : FuncData} (F : Fun K "components" "components" sCmp f fd)
    (GR : FnOk P w K mg base (L2.CX P w) 6 fR fdR ["graph", "gone"] (spPcw K C)) (kR : PySem.W.keepIn K (.ref fR) = true) (bR : Binds K fdR ["graph", "gone"] []) (gR : mg "pieces_without" = some (.ref fR)) (mt : mg "tuple" = none) :
    FnOk P w K mg base CX0 7 f fd ["graph", "without"] (spCmp K C) := by
  refine F.ok scCmp (fun vs H Q E h => ?_) (fun cdv A outer s H vs Q E hr h => ?_)
  · obtain ⟨g, t, n, qs, G, rfl, _⟩ := h
    rfl
  · obtain ⟨g, t, n, qs, G, rfl, GA, hT, nd, vx, q⟩ := h
    have lim := GA.lim
    have hr6 : Room 6 _ := hr.mono (by decide)
    refine ⟨_, pss_one (ps_ret (pe_lc (own := [("piece", 2)]) (g := gName 2) (by rfl) scCmp.nd (pi_list (pe_call GR hr6 (by rfl) gR kR bR .nil passL (pa_cons (pv 0) (pa_cons (pv 1) pa_nil)))) (blkOk_by (own := [("piece", 2)]) (N := ["graph", "without", "piece"]) (sc := defScope sCmp) (by decide +kernel))
      (fun _ _ _ _ _ => pg_name (i := 2) scCmp.nd rfl (Or.inl rfl)) (fun _ _ _ _ _ => pts_nil) (fun _ _ _ _ _ => pe_callTy (tuple_at (K := K) rfl) (by rfl) mt (by decide +kernel) (pa_cons (pv 2) pa_nil)))), ?_⟩
    refine ⟨_, rfl, _, rfl, g, t, n, qs, G, rfl, GA, hT, nd, vx, fun H1 f1 ps s1 nf1 hf1 pl na => ⟨f1, rfl, ⟨_, SqL.of hf1⟩, fun D nD => ?_⟩⟩
    have cl := compG_len n qs G
    have f1D : f1 ≠ D := fun z => by rw [← z, hf1] at nD; cases nD
    refine lc_list (K := K) (a := f1) (xs := ps.map V.ref) (fun t H' => Same H1 H' ∧ ∃ ks : List Addr, H' D = some (.lst (ks.map V.ref)) ∧ TupsAt K H' ks ((compG n qs G n).take t)) ⟨same_upd nD, [], upd_same, by rw [List.take_zero]; exact .nil⟩ (fun t H' _ h => SqL.of (h.1 _ _ hf1)) ?_ ?_
    · rintro i x H' hx ⟨sm, ks, hD, pk⟩
      rw [List.getElem?_map] at hx
      cases ea : ps[i]? with
      | none => rw [ea] at hx; cases hx
      | some a =>
        rw [ea] at hx
        cases hx
        obtain ⟨c, hc, hca⟩ := paired_get pl ea
        have kl := pk.length
        rw [List.length_take] at kl
        refine ⟨rfl, _, rfl, a, _, rfl, .inl ⟨SqL.of (sm _ _ hca), fun T nT => ?_⟩⟩
        have sT := same_upd (o := .tup (c.map V.int)) nT
        have DT : D ≠ T := fun z => by rw [← z, hD] at nT; cases nT
        have bt : But D H' (upd (upd H' T (.tup (c.map V.int))) D (.lst (ks.map V.ref ++ [.ref T]))) := (Same.but sT).put
        refine ⟨_, sT _ _ hD, by rw [List.length_map]; exact small1000 (by omega), same_put (sm.trans sT) nD, ks ++ [T], by rw [upd_same, List.map_append]; rfl, ?_⟩
        rw [L2.take_next hc]
        exact TupsAt.snoc (SqT.of (by rw [upd_ne DT.symm, upd_same])) (pk.but bt hD)
    · rintro H' ⟨sm, ks, hD, pk⟩
      rw [List.length_map, pl.length, List.take_length] at pk
      exact q H' D ks (s1.trans sm) (s1.free nD) hD pk
theorem scOw : FnScope ["graph", "order", "around"] ["graph", "order"] (defScope sOw) := ⟨rfl, rfl, rfl, by decide +kernel, rfl, by decide +kernel, by decide +kernel⟩
theorem ok_ow {f C fA : Addr} {fd fdA : FuncData} (F : Fun K "order_width" "order_width" sOw f fd)
    (GA : FnOk P w K mg base CX0 6 fA fdA ["graph", "order"] (spAio K C)) (kA : PySem.W.keepIn K (.ref fA) = true) (bA : Binds K fdA ["graph", "order"] []) (gA : mg "around_in_order" = some (.ref fA)) (ml : mg "len" = none) (mx : mg "max" = none) :
    FnOk P w K mg base CX0 7 f fd ["graph", "order"] (spOw K C) := by
  refine F.ok scOw (fun vs H Q E h => ?_) (fun cdv A outer s H vs Q E hr h => ?_)
  · obtain ⟨g, t, n, qs, os, rfl, _⟩ := h
    rfl
  · obtain ⟨g, t, n, qs, os, rfl, G, hT, hos, hfew, q⟩ := h
    have hr6 : Room 6 _ := hr.mono (by decide)
    have hu : _ + 64 < cLine := hr.units
    refine ⟨_, pss_one (ps_ret (pe_maxD (by rfl) mx (by rfl) hu (pa_cons (pe_lc (own := [("around", 2)]) (g := gName 2) (by rfl) scOw.nd (pi_list (pe_call GA hr6 (by rfl) gA kA bA .nil pass0 (pa_cons (pv 0) (pa_cons (pv 1) pa_nil)))) (blkOk_by (own := [("around", 2)]) (N := ["graph", "order", "around"]) (sc := defScope sOw) (by decide +kernel))
      (fun _ _ _ _ _ => pg_name (i := 2) scOw.nd rfl (Or.inl rfl)) (fun _ _ _ _ _ => pts_nil) (fun _ _ _ _ _ => pe_callB (len_at (K := K) rfl) (by rfl) ml PySem.boot_len (pa_cons (pv 2) pa_nil))) pa_nil) (pk_cons (pe_un un_neg pe_int) pk_nil))), ?_⟩
    refine ⟨_, rfl, _, rfl, g, t, n, qs, os, rfl, G, hT, hos, hfew, fun H1 f1 ps s1 nf1 hf1 na pl => ⟨f1, rfl, ⟨_, SqL.of hf1⟩, fun D nD => ?_⟩⟩
    refine lc_list (K := K) (a := f1) (xs := ps.map V.ref) (fun t H' => Same H1 H' ∧ H' D = some (.lst (((degs n qs os).take t).map V.int))) ⟨same_upd nD, upd_same⟩ (fun t H' _ h => SqL.of (h.1 _ _ hf1)) ?_ ?_
    · rintro i x H' hx ⟨sm, hD⟩
      rw [List.getElem?_map] at hx
      cases ea : ps[i]? with
      | none => rw [ea] at hx; cases hx
      | some a =>
        rw [ea] at hx
        cases hx
        obtain ⟨c, hc, hca⟩ := paired_get pl ea
        rw [List.getElem?_map] at hc
        cases ek : (List.range os.length)[i]? with
        | none => rw [ek] at hc; cases hc
        | some k =>
          rw [ek] at hc
          cases hc
          have dk : (degs n qs os)[i]? = some ((arT n qs (ordF os) k).length : Int) := by
            unfold degs
            rw [List.getElem?_map, ek]
            rfl
          refine ⟨rfl, _, rfl, a, _, rfl, .inl (SqL.of (sm _ _ hca)), _, hD, ?_, same_put sm nD, ?_⟩
          · rw [List.length_map, List.length_take]
            unfold degs
            rw [List.length_map, List.length_range]
            exact small1000 (by omega)
          · rw [upd_same, L2.take_next dk, List.map_append, List.length_map]
            rfl
    · rintro H' ⟨sm, hD⟩
      have e : (ps.map V.ref).length = (degs n qs os).length := by
        rw [List.length_map, pl.length]
        unfold degs
        rw [List.length_map, List.length_map]
      rw [e, List.take_length] at hD
      exact ⟨1, rfl, D, _, -1, rfl, rfl, SqL.of hD, q H' (s1.trans sm)⟩
theorem scWof : FnScope ["bags", "bag"] ["bags"] (defScope sWof) := ⟨rfl, rfl, rfl, by decide +kernel, rfl, by decide +kernel, by decide +kernel⟩
theorem ok_wof {f : Addr} {fd : FuncData} (F : Fun K "width_of" "width_of" sWof f fd) (ml : mg "len" = none) (mx : mg "max" = none) : FnOk P w K mg base CX0 1 f fd ["bags"] (spWof K) := by
  refine F.ok scWof (fun vs H Q E h => ?_) (fun cdv A outer s H vs Q E hr h => ?_)
  · obtain ⟨t, ps, bs, rfl, _⟩ := h
    rfl
  · obtain ⟨t, ps, bs, rfl, hT, pl, hne, few, q⟩ := h
    refine ⟨_, pss_one (ps_ret (pe_op op_sub (pe_callB (cr_max rfl) (by rfl) mx (by decide +kernel) (pa_cons (pe_lc (own := [("bag", 1)]) (g := gName 1) (by rfl) scWof.nd (pi_tup (pv 0)) (blkOk_by (own := [("bag", 1)]) (N := ["bags", "bag"]) (sc := defScope sWof) (by decide +kernel))
      (fun _ _ _ _ _ => pg_name (i := 1) scWof.nd rfl (Or.inl rfl)) (fun _ _ _ _ _ => pts_nil) (fun _ _ _ _ _ => pe_callB (len_at (K := K) rfl) (by rfl) ml PySem.boot_len (pa_cons (pv 1) pa_nil))) pa_nil)) pe_int)), ?_⟩
    refine ⟨_, rfl, t, rfl, ⟨_, hT⟩, fun D nD => ?_⟩
    refine lc_tup (K := K) (a := t) (xs := ps.map V.ref) (fun t H' => Same H H' ∧ H' D = some (.lst (((bs.map fun b => (b.length : Int)).take t).map V.int))) ⟨same_upd nD, upd_same⟩ (fun t H' _ h => same_sqT h.1 hT) ?_ ?_
    · rintro i x H' hx ⟨sm, hD⟩
      rw [List.getElem?_map] at hx
      cases ea : ps[i]? with
      | none => rw [ea] at hx; cases hx
      | some a =>
        rw [ea] at hx
        cases hx
        obtain ⟨c, hc, hca⟩ := paired_get pl ea
        have dk : (bs.map fun b => (b.length : Int))[i]? = some (c.length : Int) := by rw [List.getElem?_map, hc]; rfl
        refine ⟨rfl, _, rfl, a, _, rfl, .inr (same_sqT sm hca), _, hD, ?_, same_put sm nD, ?_⟩
        · rw [List.length_map, List.length_take, List.length_map]
          exact small1000 (by omega)
        · rw [upd_same, L2.take_next dk, List.map_append, List.length_map]
          rfl
    · rintro H' ⟨sm, hD⟩
      have e : (ps.map V.ref).length = (bs.map fun b => (b.length : Int)).length := by rw [List.length_map, pl.length, List.length_map]
      rw [e, List.take_length] at hD
      refine ⟨D, _, rfl, SqL.of hD, ?_, fun m h1 h2 => ⟨_, _, rfl, rfl, q H' m sm h1 h2⟩⟩
      rw [List.length_map]
      exact List.length_pos_iff.mpr hne
end
end Sm

set_option Elab.async false
set_option linter.all false
set_option maxRecDepth 100000
set_option maxHeartbeats 4000000
namespace Sm
open PySem PySem.Spec PyProof.Rows L2
theorem isT_ok {K : PySem.W.Frag} : True := trivial
def DLists (H : Hp) (ds : List Addr) (f : Nat → List Int) : Prop := ∀ (i : Nat) (d : Addr), ds[i]? = some d → ∃ kvs : List (Key × V), H d = some (.dK kvs) ∧ kvs.map (·.1) = (f i).map Sum.inl
theorem nodup_at {ds : List Addr} (nd : ds.Nodup) {i j : Nat} {d : Addr} (h1 : ds[i]? = some d) (h2 : ds[j]? = some d) : i = j := by
  obtain ⟨l1, e1⟩ := List.getElem?_eq_some_iff.mp h1
  obtain ⟨l2, e2⟩ := List.getElem?_eq_some_iff.mp h2
  exact (List.getElem_inj nd).mp (e1.trans e2.symm)
theorem DLists.put {H : Hp} {ds : List Addr} {f : Nat → List Int} {u : Nat} {d : Addr} {kvs : List (Key × V)} (h : DLists H ds f) (nd : ds.Nodup) (hu : ds[u]? = some d) (hd : H d = some (.dK kvs)) {k : Int} (hk : k ∉ f u) (v : V) :
    DLists (upd H d (.dK (putK kvs (Sum.inl k) v))) ds (fun i => if i = u then f u ++ [k] else f i) := by
  intro i b hb
  by_cases e : i = u
  · subst e
    rw [hu] at hb
    cases hb
    obtain ⟨kvs', h1, h2⟩ := h i d hu
    rw [hd] at h1
    cases h1
    exact ⟨_, upd_same, by rw [putK_keys h2 hk, show (fun i' => if i' = i then f i ++ [k] else f i') i = f i ++ [k] from if_pos rfl]⟩
  · have ne : b ≠ d := fun z => by
      subst z
      exact e (nodup_at nd hb hu)
    obtain ⟨kvs', h1, h2⟩ := h i b hb
    exact ⟨kvs', by rw [upd_ne ne]; exact h1, by rw [show (fun i' => if i' = u then f u ++ [k] else f i') i = f i from if_neg e]; exact h2⟩
theorem DLists.congr {H : Hp} {ds : List Addr} {f g : Nat → List Int} (h : DLists H ds f) (e : ∀ i, i < ds.length → f i = g i) : DLists H ds g := fun i d hd => by
  rw [← e i (List.getElem?_eq_some_iff.mp hd).1]
  exact h i d hd
theorem lyn_snoc (bs : List (List Int)) (b : List Int) (v : Int) : lyn (bs ++ [b]) v = lyn bs v ++ (if v ∈ b then [(bs.length : Int)] else []) := by
  unfold lyn
  rw [List.length_append, List.length_singleton, List.range_succ, List.filter_append, List.map_append]
  congr 1
  · congr 1
    refine List.filter_congr fun i hi => ?_
    have := List.mem_range.mp hi
    rw [List.getD_eq_getElem?_getD, List.getElem?_append_left this, ← List.getD_eq_getElem?_getD]
  · have e : (bs ++ [b]).getD bs.length [] = b := by
      rw [List.getD_eq_getElem?_getD, List.getElem?_append_right (Nat.le_refl _), Nat.sub_self]
      rfl
    by_cases c : v ∈ b
    · rw [if_pos c, List.filter_cons_of_pos (by rw [e]; exact decide_eq_true c)]
      rfl
    · rw [if_neg c, List.filter_cons_of_neg (by rw [e]; simp [c])]
      rfl
theorem lyn_lt {bs : List (List Int)} {v x : Int} (h : x ∈ lyn bs v) : 0 ≤ x ∧ x < bs.length := by
  obtain ⟨i, hi, _, rfl⟩ := mem_lyn.mp h
  omega
theorem lyn_len (bs : List (List Int)) (v : Int) : (lyn bs v).length ≤ bs.length := few_vx (lyn_nodup bs v) fun k hk => by unfold Vx; exact lyn_lt hk
abbrev sBw : Stmt := topS 26
abbrev sFb : Stmt := topS 27
abbrev sIop : Stmt := topS 28
def spBw (K : PySem.W.Frag) (C : Addr) : Sp := fun vs H Q _ => ∃ (g b : Addr) (n : Nat) (qs : List Pr) (ps : List Addr) (bs : List (List Int)), vs = [.ref g, .ref b] ∧ GraphAt K C H g n qs ∧ SqT K H b (ps.map V.ref) ∧ TupsAt K H ps bs ∧
  (∀ b ∈ bs, b.Pairwise (· < ·) ∧ ∀ k ∈ b, Vx n k) ∧ bs.length ≤ 60 ∧
  ∀ (H' : Hp) (l : Addr) (ds : List Addr), Same H H' → H l = none → H' l = some (.lst (ds.map V.ref)) → ds.length = n → ds.Nodup → DLists H' ds (fun i => lyn bs i) → Q (.ref l) H'
def spFb (K : PySem.W.Frag) : Sp := fun vs H Q _ => ∃ (l : Addr) (ds : List Addr) (bs : List (List Int)) (u v : Nat), vs = [.ref l, .int u, .int v] ∧ H l = some (.lst (ds.map V.ref)) ∧ ds.Nodup ∧ DLists H ds (fun i => lyn bs i) ∧ u < ds.length ∧ v < ds.length ∧ u ≠ v ∧
  (∃ x ∈ lyn bs u, x ∈ lyn bs v) ∧ ∀ (H' : Hp) (k : Int), Same H H' → Q (.int k) H'
def spIop (K : PySem.W.Frag) : Sp := fun vs H Q _ => ∃ (d p : Addr) (kvs : List (Key × V)) (ks pars : List Int), vs = [.ref d, .ref p] ∧ H d = some (.dK kvs) ∧ kvs.map (·.1) = ks.map Sum.inl ∧ SqT K H p (pars.map V.int) ∧ (∀ k ∈ ks, 0 ≤ k ∧ k < pars.length) ∧ ks.length ≤ 60 ∧
  (ks.filter fun x => decide (pars.getD x.toNat 0 ∉ ks)).length = 1 ∧ ∀ H', Same H H' → Q (.bl true) H'
theorem same_lock {H : Hp} {d : Addr} {o u : HO} (h : H d = some u) : Same H (upd (upd H d o) d u) := fun b x e => by
  by_cases c : b = d
  · subst c
    rw [upd_same]
    rw [h] at e
    exact e
  · rw [upd_ne c, upd_ne c]
    exact e
section
variable {P : Program} {w : World} {K : PySem.W.Frag} {mg : Str → Option Value} {base : Heap}
theorem scAsc : FnScope ["value", "size", "least", "vertex"] ["value", "size"] (defScope sAsc) := ⟨rfl, rfl, rfl, by decide +kernel, rfl, by decide +kernel, by decide +kernel⟩
theorem ok_asc {f fV : Addr} {fd fdV : FuncData} (F : Fun K "is_ascending" "is_ascending" sAsc f fd) (TX : TxA mg)
    (GV : FnOk P w K mg base CX0 2 fV fdV ["value", "size"] spVtx) (kV : PySem.W.keepIn K (.ref fV) = true) (bV : Binds K fdV ["value", "size"] []) (gV : mg "is_vertex" = some (.ref fV)) :
    FnOk P w K mg base CX0 3 f fd ["value", "size"] (spAsc K) := by
  refine F.ok scAsc (fun vs H Q E h => ?_) (fun cdv A outer s H vs Q E hr h => ?_)
  · obtain ⟨t, n, b, rfl, _⟩ := h
    rfl
  · obtain ⟨t, n, b, rfl, hT, pw, vx, q⟩ := h
    have hr2 : Room 2 _ := hr.mono (by decide)
    refine ⟨_, pss_cons (ps_if (pt_not (pt_val (pe_callB call_isi (by rfl) TX.isi (by decide +kernel) (pa_cons (pv 0) (pa_cons (pe_bltn (v := .ty "tuple") (by rfl) TX.tuple (by decide +kernel) rfl) pa_nil))))) (pss_one (ps_ret pe_bl)) pss_nil)
      (pss_cons (ps_set (i := 2) scAsc.nd rfl (.inl rfl) pe_int)
      (pss_cons (ps_for PassesOwn.never rfl (pi_tup (pv 0)) (pg_name (i := 3) scAsc.nd rfl (.inl rfl))
        (pss_cons (ps_if (PW.pt (pw_or (pt_not (pt_val (pe_call GV hr2 (by rfl) gV kV bV .nil pass0 (pa_cons (pv 3) (pa_cons (pv 1) pa_nil))))) (pw_or1 (pt_cmpR op_lt (pv 3) (pv 2) (nomark _))))) (pss_one (ps_ret pe_bl)) pss_nil)
        (pss_one (ps_set (i := 2) scAsc.nd rfl (.inl rfl) (pe_op op_add (pv 3) pe_int)))))
      (pss_one (ps_ret pe_bl)))), ?_⟩
    refine ⟨_, rfl, _, .ty "tuple", .type "tuple", .type "tuple", true, rfl, .ty "tuple", tyx_T hT, kit_ty (by decide +kernel), true, rfl, iteF ?_⟩
    refine ⟨_, rfl, t, rfl, ⟨_, hT⟩, for_it (walk_tup (K := K) (a := t) (xs := b.map V.int)) (fun i σ H' => ∃ (L : Int) (y3 : Option V), σ = [some (.ref t), some (.int n), some (.int L), y3] ∧ H' = H ∧ ∀ k ∈ b.drop i, L ≤ k)
      ⟨0, none, rfl, rfl, fun k hk => (vx k (by simpa using hk)).1⟩ (fun i σ H' _ ⟨_, _, _, e, _⟩ => by rw [e]; exact hT) ?_ ?_⟩
    · rintro i x σ H1 H' hi ⟨L, y3, rfl, rfl, hL⟩ ⟨rfl, hx⟩
      have hx : (b.map V.int)[i]? = some x := hx
      rw [List.getElem?_map] at hx
      cases ek : b[i]? with
      | none => rw [ek] at hx; cases hx
      | some k =>
        rw [ek] at hx
        cases hx
        have vk := vx k (List.mem_of_getElem? ek)
        have dr : b.drop i = k :: b.drop (i + 1) := by
          rw [List.drop_eq_getElem_cons (List.getElem?_eq_some_iff.mp ek).1, (List.getElem?_eq_some_iff.mp ek).2]
        have lk : L ≤ k := hL k (by rw [dr]; exact List.mem_cons_self)
        have vt : vtxB n (some k) = true := by
          unfold Vx at vk
          simp only [vtxB, Bool.and_eq_true, decide_eq_true_eq]
          exact vk
        refine ⟨_, rfl, _, rfl, .int k, some k, n, rfl, .int k, vtxB n (some k), rfl, ?_⟩
        rw [vt]
        refine iteF ⟨_, rfl, _, rfl, _, _, rfl, rfl, _, rfl, ?_⟩
        rw [decide_eq_false (by omega : ¬ k < L)]
        refine iteF ⟨_, rfl, _, _, rfl, rfl, _, _, rfl, rfl, fun j hj => ?_⟩
        have p2 : (k :: b.drop (i + 1)).Pairwise (· < ·) := by rw [← dr]; exact pw.sublist (List.drop_sublist _ _)
        have := (List.pairwise_cons.mp p2).1 j hj
        omega
    · rintro σ H' ⟨L, y3, rfl, rfl, hL⟩
      exact q
theorem scHf : FnScope ["graph", "bags", "parents", "number", "bag"] ["graph", "bags", "parents"] (defScope sHf) := ⟨rfl, rfl, rfl, by decide +kernel, rfl, by decide +kernel, by decide +kernel⟩
theorem ok_hf {f C fN fV fA : Addr} {fd fdN fdV fdA : FuncData} (F : Fun K "have_form" "have_form" sHf f fd) (T : TxG K mg C) (TX : TxA mg) (me : mg "enumerate" = none)
    (GN : FnOk P w K mg base CX0 1 fN fdN ["value"] spNum) (kN : PySem.W.keepIn K (.ref fN) = true) (bN : Binds K fdN ["value"] []) (gN : mg "is_number" = some (.ref fN))
    (GV : FnOk P w K mg base CX0 2 fV fdV ["value", "size"] spVtx) (kV : PySem.W.keepIn K (.ref fV) = true) (bV : Binds K fdV ["value", "size"] []) (gV : mg "is_vertex" = some (.ref fV))
    (GA : FnOk P w K mg base CX0 3 fA fdA ["value", "size"] (spAsc K)) (kA : PySem.W.keepIn K (.ref fA) = true) (bA : Binds K fdA ["value", "size"] []) (gA : mg "is_ascending" = some (.ref fA)) :
    FnOk P w K mg base CX0 4 f fd ["graph", "bags", "parents"] (spHf K C) := by
  refine F.ok scHf (fun vs H Q E h => ?_) (fun cdv A outer s H vs Q E hr h => ?_)
  · obtain ⟨g, b, p, n, qs, ps, bs, pars, rfl, _⟩ := h
    rfl
  · obtain ⟨g, b, p, n, qs, ps, bs, pars, rfl, G, hB, pl, hP, GD, few, q⟩ := h
    have hr1 : Room 1 _ := hr.mono (by decide)
    have hr2 : Room 2 _ := hr.mono (by decide)
    have hr3 : Room 3 _ := hr.mono (by decide)
    have ⟨dx, et, nt, hg, _⟩ := G.ob
    have lp := pl.length
    have p0 : (pars.map V.int)[0]? = some (.int (-1)) := by rw [List.getElem?_map, GD.root]; rfl
    have pos : 0 < bs.length := by
      have := (List.getElem?_eq_some_iff.mp GD.root).1
      rw [GD.len]
      exact this
    refine ⟨_, pss_cons (ps_if (PW.pt (pw_or (pt_not (pt_val (pe_callB call_isi (by rfl) TX.isi (by decide +kernel) (pa_cons (pv 1) (pa_cons (pe_bltn (v := .ty "tuple") (by rfl) TX.tuple (by decide +kernel) rfl) pa_nil)))))
          (pw_or1 (pt_not (pt_val (pe_callB call_isi (by rfl) TX.isi (by decide +kernel) (pa_cons (pv 2) (pa_cons (pe_bltn (v := .ty "tuple") (by rfl) TX.tuple (by decide +kernel) rfl) pa_nil)))))))) (pss_one (ps_ret pe_bl)) pss_nil)
      (pss_cons (ps_if (PW.pt (pw_or (pt_cmpR op_eq (pe_callB call_len_seq (by rfl) TX.len PySem.boot_len (pa_cons (pv 1) pa_nil)) pe_int (nomark _))
          (pw_or1 (pt_cmpR op_ne (pe_callB call_len_seq (by rfl) TX.len PySem.boot_len (pa_cons (pv 1) pa_nil)) (pe_callB call_len_seq (by rfl) TX.len PySem.boot_len (pa_cons (pv 2) pa_nil)) (nomark _))))) (pss_one (ps_ret pe_bl)) pss_nil)
      (pss_cons (ps_if (PW.pt (pw_or (pt_not (pt_val (pe_call GN hr1 (by rfl) gN kN bN .nil pass0 (pa_cons (pe_ix ix_tup (pv 2) pe_int (fun _ _ => rfl)) pa_nil))))
          (pw_or1 (pt_cmpR op_ne (pe_ix ix_tup (pv 2) pe_int (fun _ _ => rfl)) (pe_un un_neg pe_int) (by rfl))))) (pss_one (ps_ret pe_bl)) pss_nil)
      (pss_cons (ps_for PassesOwn.never rfl (pi_enT (by rfl) me (pa_cons (pv 1) pa_nil)) (pg_tup rfl (pgs_cons (pg_name (i := 3) scHf.nd rfl (.inl rfl)) (pgs_cons (pg_name (i := 4) scHf.nd rfl (.inl rfl)) pgs_nil)))
        (pss_cons (ps_if (pt_not (pt_val (pe_call GA hr3 (by rfl) gA kA bA .nil pass0 (pa_cons (pv 4) (pa_cons (pe_fld (pv 0) rfl) pa_nil))))) (pss_one (ps_ret pe_bl)) pss_nil)
        (pss_one (ps_if (PW.pt (pw_and (pt_cmpR op_gt (pv 3) pe_int (nomark _)) (pw_and1 (pt_not (pt_val (pe_call GV hr2 (by rfl) gV kV bV .nil pass0 (pa_cons (pe_ix ix_tup (pv 2) (pv 3) (fun _ _ => rfl)) (pa_cons (pv 3) pa_nil)))))))) (pss_one (ps_ret pe_bl)) pss_nil))))
      (pss_one (ps_ret pe_bl))))), ?_⟩
    refine ⟨_, rfl, _, .ty "tuple", .type "tuple", .type "tuple", true, rfl, .ty "tuple", tyx_T hB, kit_ty (by decide +kernel), true, rfl, iteF ?_⟩
    refine ⟨_, rfl, _, .ty "tuple", .type "tuple", .type "tuple", true, rfl, .ty "tuple", tyx_T hP, kit_ty (by decide +kernel), true, rfl, iteF ?_⟩
    refine ⟨_, rfl, b, _, rfl, .inr hB, rfl, _, rfl, ?_⟩
    refine iteD (fun e => ?_) ?_
    · have z := V.int.inj e
      rw [List.length_map, lp] at z
      omega
    refine ⟨_, rfl, b, _, rfl, .inr hB, _, rfl, p, _, rfl, .inr hP, rfl, _, rfl, ?_⟩
    refine iteNS (by rw [List.length_map, List.length_map, lp, GD.len]) ?_
    refine ⟨_, rfl, p, _, 0, _, rfl, rfl, hP, at_nat (k := 0) p0, .int (-1), some (-1), rfl, .int (-1), true, rfl, iteF ?_⟩
    refine ⟨_, rfl, p, _, 0, _, rfl, rfl, hP, at_nat (k := 0) p0, 1, rfl, rfl, _, rfl, ?_⟩
    refine iteNS rfl ?_
    refine ⟨_, rfl, b, _, rfl, hB, for_it (walk_enT (K := K) (a := b) (xs := ps.map V.ref)) (fun t σ H' => ∃ (y3 y4 : Option V), σ = [some (.ref g), some (.ref b), some (.ref p), y3, y4] ∧ Same H H')
      ⟨none, none, rfl, Same.refl H⟩ (fun t σ H' _ ⟨_, _, _, s'⟩ => same_sqT s' hB) ?_ ?_⟩
    · rintro t x σ H1 H' ht ⟨y3, y4, rfl, sm⟩ ⟨T1, v1, v2, rfl, nT, rfl, e1, e2⟩
      cases e1
      have e2 : (ps.map V.ref)[t]? = some v2 := e2
      rw [List.getElem?_map] at e2
      cases ea : ps[t]? with
      | none => rw [ea] at e2; cases e2
      | some a =>
        rw [ea] at e2
        cases e2
        obtain ⟨c, hc, hca⟩ := paired_get pl ea
        have htb : t < bs.length := (List.getElem?_eq_some_iff.mp hc).1
        have hT1 : (upd H1 T1 (.tup [.int (t : Nat), .ref a])) T1 = some (.tup [.int (t : Nat), .ref a]) := upd_same
        have sm' : Same H (upd H1 T1 (.tup [.int (t : Nat), .ref a])) := same_put sm (sm.free nT)
        generalize (upd H1 T1 (.tup [.int (t : Nat), .ref a])) = H2 at hT1 sm' ⊢
        obtain ⟨cp, cv⟩ := GD.bag c (List.mem_of_getElem? hc)
        refine ⟨T1, _, rfl, SqT.of hT1, rfl, _, _, rfl, _, _, rfl, rfl, ?_⟩
        refine ⟨_, rfl, _, rfl, g, C, dx, _, .int n, rfl, sm' _ _ hg, T.cl, T.nS, gf_size _ _ _, a, n, c, rfl, same_sqT sm' hca, cp, cv, true, rfl, iteF ?_⟩
        refine ⟨_, rfl, _, _, rfl, rfl, _, rfl, ?_⟩
        by_cases c0 : 0 < t
        · refine iteY (by omega) ?_
          have gp : ∃ z, pars[t]? = some z := ⟨_, List.getElem?_eq_getElem (by rw [← GD.len]; exact htb)⟩
          obtain ⟨z, hz⟩ := gp
          have hz2 : (pars.map V.int)[t]? = some (.int z) := by rw [List.getElem?_map, hz]; rfl
          have zz := GD.par t z c0 hz
          have vt : vtxB t (some z) = true := by
            simp only [vtxB, Bool.and_eq_true, decide_eq_true_eq]
            exact zz
          refine ⟨_, rfl, _, rfl, p, _, t, _, rfl, rfl, same_sqT sm' hP, at_nat hz2, _, rfl, .int z, some z, t, rfl, .int z, vtxB t (some z), rfl, ?_⟩
          rw [vt]
          exact iteF ⟨_, _, rfl, sm'⟩
        · refine iteD (by omega) ?_
          exact iteF ⟨_, _, rfl, sm'⟩
    · rintro σ H' ⟨y3, y4, rfl, sm⟩
      exact q H' sm
end
end Sm

set_option Elab.async false
set_option linter.all false
set_option maxRecDepth 100000
set_option maxHeartbeats 4000000
namespace Sm
open PySem PySem.Spec PyProof.Rows L2
abbrev sFt : Stmt := topS 24
def spFt (K : PySem.W.Frag) (C : Addr) : Sp := fun vs H Q _ => ∃ (g b p : Addr) (n : Nat) (qs : List Pr) (ps : List Addr) (bs : List (List Int)) (pars : List Int), vs = [.ref g, .ref b, .ref p] ∧ GraphAt K C H g n qs ∧ SqT K H b (ps.map V.ref) ∧ TupsAt K H ps bs ∧ SqT K H p (pars.map V.int) ∧
  Good n qs bs pars ∧ bs.length ≤ 60 ∧ ∀ H', Same H H' → Q .non H'
section
variable {P : Program} {w : World} {K : PySem.W.Frag} {mg : Str → Option Value} {base : Heap}
abbrev bwN : List Str := ["graph", "bags", "lying", "number", "bag", "vertex", "_"]
theorem scBw : FnScope bwN ["graph", "bags"] (defScope sBw) := ⟨rfl, rfl, rfl, by decide +kernel, rfl, by decide +kernel, by decide +kernel⟩
theorem ok_bw {f C : Addr} {fd : FuncData} (F : Fun K "bags_with" "bags_with" sBw f fd) (T : TxG K mg C) (me : mg "enumerate" = none) (mr : mg "range" = none) :
    FnOk P w K mg base CX0 1 f fd ["graph", "bags"] (spBw K C) := by
  refine F.ok scBw (fun vs H Q E h => ?_) (fun cdv A outer s H vs Q E hr h => ?_)
  · obtain ⟨g, b, n, qs, ps, bs, rfl, _⟩ := h
    rfl
  · obtain ⟨g, b, n, qs, ps, bs, rfl, G, hB, pl, hbag, few, q⟩ := h
    have hu := hu_of hr
    have lim := G.lim
    have lp := pl.length
    have ⟨dx, et, nt, hg, _⟩ := G.ob
    refine ⟨_, pss_cons (ps_setLc (i := 2) (own := [("_", 6)]) (g := gName 6) (tt := tYes) (by rfl) scBw.nd rfl rfl (sw_true rfl rfl rfl (by decide +kernel)) (pi_range1 rfl mr (pa_cons (pe_fld (pv 0) rfl) pa_nil))
        (blkOk_by (own := [("_", 6)]) (N := bwN) (sc := defScope sBw) (by decide +kernel)) (fun _ _ _ _ _ => pg_name (i := 6) scBw.nd rfl (Or.inl rfl)) (fun _ _ _ _ _ => pts_nil) (fun _ _ _ _ _ => pe_dnewK))
      (pss_cons (ps_for PassesOwn.never rfl (pi_enT (by rfl) me (pa_cons (pv 1) pa_nil)) (pg_tup rfl (pgs_cons (pg_name (i := 3) scBw.nd rfl (.inl rfl)) (pgs_cons (pg_name (i := 4) scBw.nd rfl (.inl rfl)) pgs_nil)))
        (pss_one (ps_for PassesOwn.never rfl (pi_tup (pv 4)) (pg_name (i := 5) scBw.nd rfl (.inl rfl))
          (pss_one (ps_dput hu (pe_ix ix_list (pv 2) (pv 5) (fun _ _ => rfl)) (pv 3) pe_bl rfl)))))
      (pss_one (ps_ret (pv 2)))), ?_⟩
    refine ⟨_, rfl, g, C, dx, _, .int n, rfl, hg, T.cl, T.nS, gf_size _ _ _, n, rfl, by omega, by omega, fun D hD => ?_⟩
    have toNat : ((n : Int)).toNat = n := by omega
    rw [toNat]
    refine lc_range (lo := 0) (n := n) (fun i H' => Same H H' ∧ ∃ ds : List Addr, ds.length = i ∧ H' D = some (.lst (ds.map V.ref)) ∧ ds.Nodup ∧ ∀ a ∈ ds, H' a = some (.dK []) ∧ a ≠ D ∧ H a = none) ?_ ?_ ?_
    · exact ⟨same_upd hD, [], rfl, upd_same, List.nodup_nil, fun a ha => nomatch ha⟩
    · rintro i H' hi ⟨sm, ds, hlen, eD, nd, hall⟩
      refine ⟨rfl, fun p np => ?_⟩
      have npD : p ≠ D := fun z => by rw [z, eD] at np; cases np
      have npH : H p = none := sm.free np
      refine ⟨_, by rw [upd_ne npD.symm]; exact eD, by rw [List.length_map]; exact small1000 (by omega), ?_⟩
      refine ⟨same_put (same_put sm npH) hD, ds ++ [p], by rw [List.length_append, hlen]; rfl, by rw [upd_same, List.map_append]; rfl, ?_, fun a ha => ?_⟩
      · refine List.nodup_append.mpr ⟨nd, List.nodup_cons.mpr ⟨(by simp), List.nodup_nil⟩, fun a ha b hb e => ?_⟩
        rw [List.mem_singleton.mp hb] at e
        subst e
        rw [(hall _ ha).1] at np
        cases np
      · rcases List.mem_append.mp ha with z | z
        · obtain ⟨h1, h2, h3⟩ := hall a z
          refine ⟨?_, h2, h3⟩
          rw [upd_ne h2, upd_ne (ne_of_none h1 np)]
          exact h1
        · rw [List.mem_singleton.mp z]
          refine ⟨?_, npD, npH⟩
          rw [upd_ne npD, upd_same]
    · rintro H1 ⟨sm1, ds, hlen, eD1, nd, hall⟩
      have dsD : ∀ a ∈ ds, a ≠ D ∧ H a = none := fun a ha => ⟨(hall a ha).2.1, (hall a ha).2.2⟩
      have base0 : DLists H1 ds (fun i => lyn (bs.take 0) i) := fun i d hd => ⟨[], (hall d (List.mem_of_getElem? hd)).1, by rw [List.take_zero]; rfl⟩
      refine ⟨_, rfl, b, _, rfl, same_sqT sm1 hB, for_it (walk_enT (K := K) (a := b) (xs := ps.map V.ref)) (fun t σ H' => ∃ (y3 y4 y5 : Option V), σ = [some (.ref g), some (.ref b), some (.ref D), y3, y4, y5, none] ∧ Same H H' ∧ H' D = some (.lst (ds.map V.ref)) ∧ DLists H' ds (fun i => lyn (bs.take t) i))
        ⟨none, none, none, rfl, sm1, eD1, base0⟩ (fun t σ H' _ ⟨_, _, _, _, s', _⟩ => same_sqT s' hB) ?_ ?_⟩
      · rintro t x σ H2 H' ht ⟨y3, y4, y5, rfl, sm, eD, dl⟩ ⟨T1, v1, v2, rfl, nT, rfl, e1, e2⟩
        cases e1
        have e2 : (ps.map V.ref)[t]? = some v2 := e2
        rw [List.getElem?_map] at e2
        cases ea : ps[t]? with
        | none => rw [ea] at e2; cases e2
        | some a =>
          rw [ea] at e2
          cases e2
          obtain ⟨c, hc, hca⟩ := paired_get pl ea
          have htb : t < bs.length := (List.getElem?_eq_some_iff.mp hc).1
          have hT1 : (upd H2 T1 (.tup [.int (t : Nat), .ref a])) T1 = some (.tup [.int (t : Nat), .ref a]) := upd_same
          have sm' : Same H (upd H2 T1 (.tup [.int (t : Nat), .ref a])) := same_put sm (sm.free nT)
          have eD' : (upd H2 T1 (.tup [.int (t : Nat), .ref a])) D = some (.lst (ds.map V.ref)) := same_upd nT _ _ eD
          have dl' : DLists (upd H2 T1 (.tup [.int (t : Nat), .ref a])) ds (fun i => lyn (bs.take t) i) := fun i d hd => by
            obtain ⟨kvs, h1, h2⟩ := dl i d hd
            exact ⟨kvs, same_upd nT _ _ h1, h2⟩
          generalize (upd H2 T1 (.tup [.int (t : Nat), .ref a])) = H3 at hT1 sm' eD' dl' ⊢
          obtain ⟨cp, cv⟩ := hbag c (List.mem_of_getElem? hc)
          have tk : bs.take (t + 1) = bs.take t ++ [c] := L2.take_next hc
          have ltk : (bs.take t).length = t := by rw [List.length_take]; omega
          refine ⟨T1, _, rfl, SqT.of hT1, rfl, _, _, rfl, _, _, rfl, rfl, ?_⟩
          refine ⟨_, rfl, a, rfl, ⟨_, same_sqT sm' hca⟩, for_it (walk_tup (K := K) (a := a) (xs := c.map V.int)) (fun j σ H4 => ∃ (y5 : Option V), σ = [some (.ref g), some (.ref b), some (.ref D), some (.int (t : Nat)), some (.ref a), y5, none] ∧ Same H H4 ∧ H4 D = some (.lst (ds.map V.ref)) ∧ DLists H4 ds (fun i => lyn (bs.take t) i ++ (if (i : Int) ∈ c.take j then [(t : Int)] else [])))
            ⟨_, rfl, sm', eD', dl'.congr fun i _ => by rw [List.take_zero]; simp⟩ (fun j σ H4 _ ⟨_, _, s', _⟩ => same_sqT s' hca) ?_ ?_⟩
          · rintro j x σ H4 H5 hj ⟨y5, rfl, sm4, eD4, dl4⟩ ⟨rfl, hx⟩
            have hx : (c.map V.int)[j]? = some x := hx
            rw [List.getElem?_map] at hx
            cases ek : c[j]? with
            | none => rw [ek] at hx; cases hx
            | some k =>
              rw [ek] at hx
              cases hx
              have vk := cv k (List.mem_of_getElem? ek)
              obtain ⟨u, rfl⟩ : ∃ u : Nat, k = u := ⟨k.toNat, by unfold Vx at vk; omega⟩
              have hu2 : u < ds.length := by unfold Vx at vk; omega
              obtain ⟨d, hd⟩ : ∃ d, ds[u]? = some d := ⟨_, List.getElem?_eq_getElem hu2⟩
              have gd : (ds.map V.ref)[u]? = some (.ref d) := by rw [List.getElem?_map, hd]; rfl
              have ndt : (u : Int) ∉ c.take j := fun z => by
                have p2 := cp
                rw [← List.take_append_drop (j + 1) c, L2.take_next ek] at p2
                have := (List.pairwise_append.mp (List.pairwise_append.mp p2).1).2.2 _ z _ (List.mem_singleton.mpr rfl)
                omega
              obtain ⟨kvs, hk1, hk2⟩ := dl4 u d hd
              have nin : (t : Int) ∉ (fun (i : Nat) => lyn (bs.take t) i ++ (if (i : Int) ∈ c.take j then [(t : Int)] else [])) u := by
                show (t : Int) ∉ lyn (bs.take t) u ++ (if (u : Int) ∈ c.take j then [(t : Int)] else [])
                rw [if_neg ndt, List.append_nil]
                intro z
                have := lyn_lt z
                rw [ltk] at this
                omega
              have kl : kvs.length < sizeLine := by
                have e := congrArg List.length hk2
                rw [List.length_map, List.length_map] at e
                rw [e]
                refine small1000 ?_
                show (lyn (bs.take t) u ++ (if (u : Int) ∈ c.take j then [(t : Int)] else [])).length ≤ 1000
                rw [if_neg ndt, List.append_nil]
                have := lyn_len (bs.take t) u
                omega
              have mem := dsD d (List.mem_of_getElem? hd)
              refine ⟨_, rfl, _, rfl, D, _, u, _, rfl, rfl, SqL.of eD4, at_nat gd, _, rfl, d, _, rfl, DPut.k (k := Sum.inl (t : Int)) hk1 kl, ?_⟩
              refine ⟨_, rfl, same_put sm4 mem.2, by rw [upd_ne mem.1.symm]; exact eD4, (dl4.put nd hd hk1 nin _).congr fun i hi => ?_⟩
              show (if i = u then (lyn (bs.take t) u ++ (if (u : Int) ∈ c.take j then [(t : Int)] else [])) ++ [(t : Int)] else lyn (bs.take t) i ++ (if (i : Int) ∈ c.take j then [(t : Int)] else [])) = lyn (bs.take t) i ++ (if (i : Int) ∈ c.take (j + 1) then [(t : Int)] else [])
              rw [L2.take_next ek]
              by_cases ci : i = u
              · subst ci
                rw [if_pos rfl, if_neg ndt, List.append_nil, if_pos (by simp)]
              · rw [if_neg ci]
                have e3 : ((i : Int) ∈ c.take j ++ [(u : Int)]) ↔ (i : Int) ∈ c.take j := by
                  rw [List.mem_append, List.mem_singleton]
                  exact ⟨fun h => h.elim id fun z => by omega, .inl⟩
                by_cases c2 : (i : Int) ∈ c.take j
                · rw [if_pos c2, if_pos (e3.mpr c2)]
                · rw [if_neg c2, if_neg (fun z => c2 (e3.mp z))]
          · rintro σ H4 ⟨y5, rfl, sm4, eD4, dl4⟩
            rw [List.length_map, List.take_length] at dl4
            refine ⟨_, _, _, rfl, sm4, eD4, dl4.congr fun i _ => ?_⟩
            show lyn (bs.take t) i ++ (if (i : Int) ∈ c then [(t : Int)] else []) = lyn (bs.take (t + 1)) i
            rw [tk, lyn_snoc, ltk]
      · rintro σ H' ⟨y3, y4, y5, rfl, sm, eD, dl⟩
        rw [List.length_map, lp, List.take_length] at dl
        exact ⟨_, rfl, q H' D ds sm hD eD hlen nd dl⟩
theorem scFb : FnScope ["lying", "u", "v", "number"] ["lying", "u", "v"] (defScope sFb) := ⟨rfl, rfl, rfl, by decide +kernel, rfl, by decide +kernel, by decide +kernel⟩
theorem ok_fb {f : Addr} {fd : FuncData} (F : Fun K "first_bag" "first_bag" sFb f fd) : FnOk P w K mg base CX0 1 f fd ["lying", "u", "v"] (spFb K) := by
  refine F.ok scFb (fun vs H Q E h => ?_) (fun cdv A outer s H vs Q E hr h => ?_)
  · obtain ⟨l, ds, bs, u, v, rfl, _⟩ := h
    rfl
  · obtain ⟨l, ds, bs, u, v, rfl, hl, nd, dl, hu1, hv1, huv, ⟨x0, hx1, hx2⟩, q⟩ := h
    have hu := hu_of hr
    obtain ⟨du, hdu⟩ : ∃ d, ds[u]? = some d := ⟨_, List.getElem?_eq_getElem hu1⟩
    obtain ⟨dv, hdv⟩ : ∃ d, ds[v]? = some d := ⟨_, List.getElem?_eq_getElem hv1⟩
    have gu : (ds.map V.ref)[u]? = some (.ref du) := by rw [List.getElem?_map, hdu]; rfl
    have gv : (ds.map V.ref)[v]? = some (.ref dv) := by rw [List.getElem?_map, hdv]; rfl
    obtain ⟨ku, hk1, hk2⟩ := dl u du hdu
    obtain ⟨kv, hk3, hk4⟩ := dl v dv hdv
    have ne : dv ≠ du := fun z => huv (nodup_at nd hdu (by rw [← z]; exact hdv))
    have ldu : l ≠ du := fun z => by rw [z, hk1] at hl; cases hl
    have lenk : ku.length = (lyn bs u).length := by have := congrArg List.length hk2; rwa [List.length_map, List.length_map] at this
    refine ⟨_, pss_cons (ps_lock (ps_for PassesOwn.never rfl (pi_keys (pe_ix ix_list (pv 0) (pv 1) (fun _ _ => rfl))) (pg_name (i := 3) scFb.nd rfl (.inl rfl))
        (pss_one (ps_if (pt_cmp (pc_din hu (pv 3) (pe_ix ix_list (pv 0) (pv 2) (fun _ _ => rfl)))) (pss_one (ps_ret (pv 3))) pss_nil))))
      (pss_one (ps_ret pe_non)), ?_⟩
    refine ⟨du, .dK ku, hk1, trivial, fun od => ?_⟩
    have hl' : (upd H du (.frz od (.dK ku))) l = some (.lst (ds.map V.ref)) := by rw [upd_ne ldu]; exact hl
    have hv' : (upd H du (.frz od (.dK ku))) dv = some (.dK kv) := by rw [upd_ne ne]; exact hk3
    refine ⟨_, rfl, _, rfl, l, _, u, _, rfl, rfl, SqL.of hl', at_nat gu, du, od, rfl, .inl ⟨ku, upd_same, for_it walk_keys (fun i σ H' => ∃ (y3 : Option V), σ = [some (.ref l), some (.int u), some (.int v), y3] ∧ H' = upd H du (.frz od (.dK ku)) ∧ ∀ x ∈ (lyn bs u).take i, x ∉ lyn bs v)
      ⟨none, rfl, rfl, fun x hx => by rw [List.take_zero] at hx; cases hx⟩ (fun i σ H' _ ⟨_, _, e, _⟩ => by rw [e]; exact upd_same) ?_ ?_⟩⟩
    · rintro i x σ H1 H' hi ⟨y3, rfl, rfl, hno⟩ ⟨rfl, k, v0, hkv, rfl⟩
      have ek : (ku.map (·.1))[i]? = some k := by rw [List.getElem?_map, hkv]; rfl
      rw [hk2, List.getElem?_map] at ek
      cases ey : (lyn bs u)[i]? with
      | none => rw [ey] at ek; cases ek
      | some y =>
        rw [ey] at ek
        cases ek
        refine ⟨_, rfl, _, rfl, _, rfl, l, _, v, _, rfl, rfl, SqL.of hl', at_nat gv, dv, _, rfl, DGet.k (k := Sum.inl y) hv', _, rfl, ?_⟩
        rw [valV_keys hk4]
        by_cases c : y ∈ lyn bs v
        · rw [decide_eq_true c]
          exact iteT ⟨_, rfl, upd_same, q _ y (same_lock hk1)⟩
        · rw [decide_eq_false c]
          refine iteF ⟨_, rfl, rfl, fun z hz => ?_⟩
          rw [L2.take_next ey] at hz
          rcases List.mem_append.mp hz with h | h
          · exact hno z h
          · rw [List.mem_singleton.mp h]
            exact c
    · rintro σ H' ⟨y3, rfl, rfl, hno⟩
      rw [lenk, List.take_length] at hno
      exact absurd hx2 (hno x0 hx1)
theorem scIop : FnScope ["numbers", "parents", "tops", "number"] ["numbers", "parents"] (defScope sIop) := ⟨rfl, rfl, rfl, by decide +kernel, rfl, by decide +kernel, by decide +kernel⟩
theorem ok_iop {f : Addr} {fd : FuncData} (F : Fun K "is_one_part" "is_one_part" sIop f fd) (ml : mg "len" = none) : FnOk P w K mg base CX0 1 f fd ["numbers", "parents"] (spIop K) := by
  refine F.ok scIop (fun vs H Q E h => ?_) (fun cdv A outer s H vs Q E hr h => ?_)
  · obtain ⟨d, p, kvs, ks, pars, rfl, _⟩ := h
    rfl
  · obtain ⟨d, p, kvs, ks, pars, rfl, hd, hk, hP, hks, few, hone, q⟩ := h
    have hu := hu_of hr
    have lenk : kvs.length = ks.length := by have := congrArg List.length hk; rwa [List.length_map, List.length_map] at this
    refine ⟨_, pss_cons (ps_lock (ps_setLc (i := 2) (own := [("number", 3)]) (g := gName 3) (by rfl) scIop.nd rfl rfl (sw_true rfl rfl rfl (by decide +kernel)) (pi_keys (pv 0))
        (blkOk_by (own := [("number", 3)]) (N := ["numbers", "parents", "tops", "number"]) (sc := defScope sIop) (by decide +kernel)) (fun _ _ _ _ _ => pg_name (i := 3) scIop.nd rfl (Or.inl rfl))
        (fun _ _ _ _ _ => pts_one (pt_cmp (pc_dnotin hu (pe_ix (ixT_at (K := K) rfl) (pv 1) (pv 3) (fun _ _ => rfl)) (pv 0)))) (fun _ _ _ _ _ => pv 3)))
      (pss_one (ps_ret (pe_cmpR op_eq (pe_callB call_len_seq (by rfl) ml PySem.boot_len (pa_cons (pv 2) pa_nil)) pe_int (nomark _)))), ?_⟩
    refine ⟨d, .dK kvs, hd, trivial, fun od => ?_⟩
    have dT : SqT K (upd H d (.frz od (.dK kvs))) p (pars.map V.int) := by
      rcases hP with (h | ⟨o, h⟩) | h
      · exact .inl (.inl (by rw [upd_ne (fun z => by rw [z, hd] at h; cases h)]; exact h))
      · exact .inl (.inr ⟨o, by rw [upd_ne (fun z => by rw [z, hd] at h; cases h)]; exact h⟩)
      · exact .inr h
    refine ⟨_, rfl, d, od, rfl, .inl ⟨kvs, upd_same, fun D nD => ?_⟩⟩
    have Dd : D ≠ d := fun z => by rw [z, upd_same] at nD; cases nD
    have nDH : H D = none := by rw [upd_ne Dd] at nD; exact nD
    refine lc_it walk_keys (fun i H' => Same (upd H d (.frz od (.dK kvs))) H' ∧ H' D = some (.lst (((ks.take i).filter fun x => decide (pars.getD x.toNat 0 ∉ ks)).map V.int))) ⟨same_upd nD, upd_same⟩ (fun i H' _ h => h.1 _ _ upd_same) ?_ ?_
    · rintro i x H1 H' hi ⟨sm, hD⟩ ⟨rfl, k, v0, hkv, rfl⟩
      have ek : (kvs.map (·.1))[i]? = some k := by rw [List.getElem?_map, hkv]; rfl
      rw [hk, List.getElem?_map] at ek
      cases ey : ks[i]? with
      | none => rw [ey] at ek; cases ek
      | some y =>
        rw [ey] at ek
        cases ek
        have yb := hks y (List.mem_of_getElem? ey)
        obtain ⟨j, rfl⟩ : ∃ j : Nat, y = j := ⟨y.toNat, by omega⟩
        obtain ⟨z, hz⟩ : ∃ z, pars[j]? = some z := ⟨_, List.getElem?_eq_getElem (by omega)⟩
        have hz2 : (pars.map V.int)[j]? = some (.int z) := by rw [List.getElem?_map, hz]; rfl
        have gz : pars.getD ((j : Int)).toNat 0 = z := by rw [Int.toNat_natCast, List.getD_eq_getElem?_getD, hz]; rfl
        refine ⟨rfl, _, rfl, _, rfl, p, _, j, _, rfl, rfl, same_sqT sm dT, at_nat hz2, _, rfl, d, _, rfl, .inl ⟨kvs, Sum.inl z, .inr ⟨od, sm _ _ upd_same⟩, rfl, rfl⟩, _, rfl, ?_⟩
        rw [valV_keys hk, L2.take_next ey, List.filter_append]
        have small : ((((ks.take i).filter fun x => decide (pars.getD x.toNat 0 ∉ ks)).map V.int)).length < sizeLine := by
          rw [List.length_map]
          refine small1000 ?_
          have := List.length_filter_le (fun x => decide (pars.getD x.toNat 0 ∉ ks)) (ks.take i)
          rw [List.length_take] at this
          omega
        by_cases c : z ∈ ks
        · rw [decide_eq_true c]
          refine iteF ⟨sm, ?_⟩
          rw [flt0 (by rw [gz]; simp [c]), List.append_nil]
          exact hD
        · rw [decide_eq_false c]
          refine iteT ⟨_, rfl, _, hD, small, same_put sm nD, ?_⟩
          rw [upd_same, flt1 (by rw [gz]; simp [c]), List.map_append]
          rfl
    · rintro H' ⟨sm, hD⟩
      rw [lenk, List.take_length] at hD
      refine ⟨sm _ _ upd_same, _, rfl, D, _, rfl, .inl (SqL.of (by rw [upd_ne Dd]; exact hD)), rfl, ?_⟩
      rw [List.length_map, hone]
      refine q _ fun b x e => ?_
      by_cases c : b = d
      · subst c
        rw [upd_same, ← e, hd]
      · rw [upd_ne c]
        exact sm _ _ (by rw [upd_ne c]; exact e)
end
end Sm

set_option Elab.async false
set_option linter.all false
set_option maxRecDepth 100000
set_option maxHeartbeats 4000000
namespace Sm
open PySem PySem.Spec PyProof.Rows L2
section
variable {P : Program} {w : World} {K : PySem.W.Frag} {mg : Str → Option Value} {base : Heap}
abbrev ftN : List Str := ["graph", "bags", "parents", "lying", "vertex", "u", "v"]
theorem scFt : FnScope ftN ["graph", "bags", "parents"] (defScope sFt) := ⟨rfl, rfl, rfl, by decide +kernel, rfl, by decide +kernel, by decide +kernel⟩
theorem ok_ft {f C fH fB fF fI : Addr} {fd fdH fdB fdF fdI : FuncData} (F : Fun K "fault" "fault" sFt f fd) (T : TxG K mg C) (mr : mg "range" = none)
    (GH : FnOk P w K mg base CX0 4 fH fdH ["graph", "bags", "parents"] (spHf K C)) (kH : PySem.W.keepIn K (.ref fH) = true) (bH : Binds K fdH ["graph", "bags", "parents"] []) (gH : mg "have_form" = some (.ref fH))
    (GB : FnOk P w K mg base CX0 1 fB fdB ["graph", "bags"] (spBw K C)) (kB : PySem.W.keepIn K (.ref fB) = true) (bB : Binds K fdB ["graph", "bags"] []) (gB : mg "bags_with" = some (.ref fB))
    (GF : FnOk P w K mg base CX0 1 fF fdF ["lying", "u", "v"] (spFb K)) (kF : PySem.W.keepIn K (.ref fF) = true) (bF : Binds K fdF ["lying", "u", "v"] []) (gF : mg "first_bag" = some (.ref fF))
    (GI : FnOk P w K mg base CX0 1 fI fdI ["numbers", "parents"] (spIop K)) (kI : PySem.W.keepIn K (.ref fI) = true) (bI : Binds K fdI ["numbers", "parents"] []) (gI : mg "is_one_part" = some (.ref fI)) :
    FnOk P w K mg base CX0 5 f fd ["graph", "bags", "parents"] (spFt K C) := by
  refine F.ok scFt (fun vs H Q E h => ?_) (fun cdv A outer s H vs Q E hr h => ?_)
  · obtain ⟨g, b, p, n, qs, ps, bs, pars, rfl, _⟩ := h
    rfl
  · obtain ⟨g, b, p, n, qs, ps, bs, pars, rfl, G, hB, pl, hP, GD, few, q⟩ := h
    have hr4 : Room 4 _ := hr.mono (by decide)
    have hr1 : Room 1 _ := hr.mono (by decide)
    have lim := G.lim
    have ⟨dx, et, nt, hg, ⟨ets, hE, hEP⟩, _⟩ := G.ob
    refine ⟨_, pss_cons (ps_if (pt_not (pt_val (pe_call GH hr4 (by rfl) gH kH bH .nil pass0 (pa_cons (pv 0) (pa_cons (pv 1) (pa_cons (pv 2) pa_nil)))))) (pss_one (ps_ret (pe_tup (pa_cons pe_str pa_nil)))) pss_nil)
      (pss_cons (ps_set (i := 3) scFt.nd rfl (.inl rfl) (pe_call GB hr1 (by rfl) gB kB bB .nil pass0 (pa_cons (pv 0) (pa_cons (pv 1) pa_nil))))
      (pss_cons (ps_for PassesOwn.never rfl (pi_range1 rfl mr (pa_cons (pe_fld (pv 0) rfl) pa_nil)) (pg_name (i := 4) scFt.nd rfl (.inl rfl))
        (pss_one (ps_if (pt_not (truth_at (K := K) rfl (pe_ix ix_list (pv 3) (pv 4) (fun _ _ => rfl)) (by intro _; rfl))) (pss_one (ps_ret (pe_tup (pa_cons pe_str (pa_cons (pv 4) pa_nil))))) pss_nil)))
      (pss_cons (ps_for PassesOwn.never rfl (pi_tup (pe_fld (pv 0) rfl)) (pg_tup rfl (pgs_cons (pg_name (i := 5) scFt.nd rfl (.inl rfl)) (pgs_cons (pg_name (i := 6) scFt.nd rfl (.inl rfl)) pgs_nil)))
        (pss_one (ps_if (pt_cmp (pc_isN (pe_call GF hr1 (by rfl) gF kF bF .nil pass0 (pa_cons (pv 3) (pa_cons (pv 5) (pa_cons (pv 6) pa_nil)))))) (pss_one (ps_ret (pe_tup (pa_cons pe_str (pa_cons (pv 5) (pa_cons (pv 6) pa_nil)))))) pss_nil)))
      (pss_cons (ps_for PassesOwn.never rfl (pi_range1 rfl mr (pa_cons (pe_fld (pv 0) rfl) pa_nil)) (pg_name (i := 4) scFt.nd rfl (.inl rfl))
        (pss_one (ps_if (pt_not (pt_val (pe_call GI hr1 (by rfl) gI kI bI .nil pass0 (pa_cons (pe_ix ix_list (pv 3) (pv 4) (fun _ _ => rfl)) (pa_cons (pv 2) pa_nil))))) (pss_one (ps_ret (pe_tup (pa_cons pe_str (pa_cons (pv 4) pa_nil))))) pss_nil)))
      (pss_one (ps_ret pe_non)))))), ?_⟩
    refine ⟨_, rfl, _, rfl, _, rfl, g, b, p, n, qs, ps, bs, pars, rfl, G, hB, pl, hP, GD, few, fun H1 s1 => ⟨true, rfl, iteF ?_⟩⟩
    refine ⟨_, rfl, _, rfl, g, b, n, qs, ps, bs, rfl, G.same s1, same_sqT s1 hB, pl.same s1, GD.bag, few, fun H2 l ds s2 nl hl hlen nd dl => ?_⟩
    have s2' := s1.trans s2
    have toNat : ((n : Nat) : Int).toNat = n := by omega
    have gat : ∀ u, u < n → ∃ d, ds[u]? = some d ∧ (ds.map V.ref)[u]? = some (.ref d) := fun u hu => by
      have e : ds[u]? = some (ds[u]'(by omega)) := List.getElem?_eq_getElem (by omega)
      exact ⟨_, e, by rw [List.getElem?_map, e]; rfl⟩
    refine ⟨_, rfl, g, C, dx, _, .int n, rfl, s2' _ _ hg, T.cl, T.nS, gf_size _ _ _, n, rfl, by omega, by omega, ?_⟩
    rw [toNat]
    refine for_range (lo := 0) (n := n) (fun i σ H' => ∃ (y4 : Option V), σ = [some (.ref g), some (.ref b), some (.ref p), some (.ref l), y4, none, none] ∧ Same H2 H')
      ⟨none, rfl, Same.refl H2⟩ ?_ ?_
    · rintro i σ H' hi ⟨y4, rfl, sm⟩
      have e0 : (0 : Int) + (i : Int) = (i : Int) := by omega
      rw [e0]
      obtain ⟨d, hd, gd⟩ := gat i hi
      obtain ⟨kvs, h1, h2⟩ := dl i d hd
      have ne : kvs ≠ [] := fun z => by
        rw [z] at h2
        exact GD.vert i (by unfold Vx; omega) (List.map_eq_nil_iff.mp h2.symm)
      refine ⟨_, rfl, _, rfl, l, _, i, _, rfl, rfl, SqL.of (sm _ _ hl), at_nat gd, !kvs.isEmpty, .inr (.inr ⟨kvs, sm _ _ h1, rfl⟩), ?_⟩
      have em : (!kvs.isEmpty) = true := by cases kvs with
        | nil => exact absurd rfl ne
        | cons _ _ => rfl
      rw [em]
      exact iteF ⟨_, rfl, sm⟩
    · rintro σ H3 ⟨y4, rfl, s3⟩
      have s3' := s2'.trans s3
      refine ⟨_, rfl, g, C, dx, _, .ref et, rfl, s3' _ _ hg, T.cl, T.nE, gf_edges _ _ _, et, rfl, ⟨_, same_sqT s3' hE⟩, for_it (walk_tup (K := K) (a := et) (xs := ets.map V.ref)) (fun i σ H' => ∃ (y5 y6 : Option V), σ = [some (.ref g), some (.ref b), some (.ref p), some (.ref l), y4, y5, y6] ∧ Same H3 H')
        ⟨none, none, rfl, Same.refl H3⟩ (fun i σ H' _ ⟨_, _, _, s'⟩ => same_sqT (s3'.trans s') hE) ?_ ?_⟩
      · rintro i x σ H' H'' hi ⟨y5, y6, rfl, sm⟩ ⟨rfl, hx⟩
        have hx : (ets.map V.ref)[i]? = some x := hx
        rw [List.getElem?_map] at hx
        cases ea : ets[i]? with
        | none => rw [ea] at hx; cases hx
        | some a =>
          rw [ea] at hx
          cases hx
          obtain ⟨⟨u, v⟩, hq, hs⟩ := (hEP.same (s3'.trans sm)).get ea
          have mq := List.mem_of_getElem? hq
          have ok := G.ok _ mq
          have ⟨o1, o2, o3⟩ := ok
          dsimp only at o1 o2 o3 hs
          obtain ⟨u, rfl⟩ : ∃ k : Nat, u = k := ⟨u.toNat, by omega⟩
          obtain ⟨v, rfl⟩ : ∃ k : Nat, v = k := ⟨v.toNat, by omega⟩
          have sg := s3.trans sm
          refine ⟨a, _, rfl, hs, rfl, _, _, rfl, _, _, rfl, rfl, ?_⟩
          refine ⟨_, rfl, _, rfl, _, rfl, l, ds, bs, u, v, rfl, sg _ _ hl, nd, fun i d hd => ?_, by omega, by omega, by omega, GD.edge _ mq, fun H5 k s5 => ?_⟩
          · obtain ⟨kvs, h1, h2⟩ := dl i d hd
            exact ⟨kvs, sg _ _ h1, h2⟩
          · exact ⟨_, rfl, iteF ⟨_, _, rfl, sm.trans s5⟩⟩
      · rintro σ H4 ⟨y5, y6, rfl, s4⟩
        have s4' := s3'.trans s4
        refine ⟨_, rfl, g, C, dx, _, .int n, rfl, s4' _ _ hg, T.cl, T.nS, gf_size _ _ _, n, rfl, by omega, by omega, ?_⟩
        rw [toNat]
        refine for_range (lo := 0) (n := n) (fun i σ H' => ∃ (y4 : Option V), σ = [some (.ref g), some (.ref b), some (.ref p), some (.ref l), y4, y5, y6] ∧ Same H4 H')
          ⟨_, rfl, Same.refl H4⟩ ?_ ?_
        · rintro i σ H' hi ⟨y4, rfl, sm⟩
          have e0 : (0 : Int) + (i : Int) = (i : Int) := by omega
          rw [e0]
          obtain ⟨d, hd, gd⟩ := gat i hi
          obtain ⟨kvs, h1, h2⟩ := dl i d hd
          have sg := s3.trans (s4.trans sm)
          have ln := lyn_len bs i
          refine ⟨_, rfl, _, rfl, l, _, i, _, rfl, rfl, SqL.of (sg _ _ hl), at_nat gd, _, rfl, d, p, kvs, lyn bs i, pars, rfl, sg _ _ h1, h2, same_sqT (s2'.trans sg) hP, fun k hk => ?_, by omega, GD.one i (by unfold Vx; omega), fun H5 s5 => ⟨true, rfl, iteF ⟨_, rfl, sm.trans s5⟩⟩⟩
          rw [← GD.len]
          exact lyn_lt hk
        · rintro σ H5 ⟨y4, rfl, s5⟩
          exact q H5 (s4'.trans s5)
end
end Sm

set_option Elab.async false
set_option linter.all false
set_option maxRecDepth 100000
set_option maxHeartbeats 4000000
namespace Sm
open PySem PySem.Spec PyProof.Rows L2
theorem dc_it {J : It} {n : Nat} {G : Hp → Prop} {Y : Nat → Hp → V → Hp → Prop} (wk : Walk J n G Y) {g : TG} {tt : TT} {tk tv : TE} {vs : List Nat} {σ : L2.St} {H1 : Hp} {D : Addr} {Qd : Hp → Prop} (Pv : Nat → Hp → Prop)
    (h0 : Pv 0 (upd H1 D (.dK []))) (hG : ∀ i H, i ≤ n → Pv i H → G H)
    (hs : ∀ i x H H', i < n → Pv i H → Y i H x H' → g x (wipe σ vs) H' fun σ2 H2 => wipe σ2 vs = wipe σ vs ∧ tt σ2 H2 fun b H3 =>
      if b = true then tk σ2 H3 fun y H4 => tv σ2 H4 fun z H5 => ∃ kvs k, y = kV k ∧ H5 D = some (.dK kvs) ∧ kvs.length < sizeLine ∧ Pv (i + 1) (upd H5 D (.dK (putK kvs k z)))
      else Pv (i + 1) H3) (hd : ∀ H, Pv n H → Qd H) :
    ∃ W : Nat → Nat → Hp → Prop, (∃ m, W 0 m (upd H1 D (.dK []))) ∧ ∀ i m H, W i m H → (J.stop i H ∧ Qd H) ∨ (J.go i H ∧ ∃ Nx : Hp → Prop, (∀ H', Nx H' → ∃ m', m' < m ∧ W (i + 1) m' H') ∧
      ∀ x H', J.yld i H x H' → g x (wipe σ vs) H' fun σ2 H2 => wipe σ2 vs = wipe σ vs ∧ tt σ2 H2 fun b H3 =>
        if b = true then tk σ2 H3 fun y H4 => tv σ2 H4 fun z H5 => ∃ kvs k, y = kV k ∧ H5 D = some (.dK kvs) ∧ kvs.length < sizeLine ∧ Nx (upd H5 D (.dK (putK kvs k z))) else Nx H3) := by
  refine ⟨fun i m H => (m = n - i ∧ i ≤ n) ∧ Pv i H, ⟨n, ⟨by omega, Nat.zero_le _⟩, h0⟩, ?_⟩
  rintro i m H ⟨⟨rfl, hi⟩, p⟩
  have gH := hG i H hi p
  rcases Nat.lt_or_ge i n with lt | ge
  · right
    refine ⟨wk.goes i H lt gH, Pv (i + 1), fun H' p' => ⟨n - (i + 1), by omega, ⟨rfl, lt⟩, p'⟩, fun x H' y => ?_⟩
    exact hs i x H H' lt p (wk.yields i H x H' lt gH y)
  · left
    have e : i = n := by omega
    subst e
    exact ⟨wk.stops H gH, hd H p⟩
/-- where each vertex stands in an order -/
def plF (os : List Int) (v : Int) : Int := (os.idxOf v : Int)
def bagsO (qs : List Pr) (os : List Int) : List (List Int) := if os = [] then [[]] else bagsL os.length qs (ordF os)
def parsO (qs : List Pr) (os : List Int) : List Int := if os = [] then [-1] else parsL os.length qs (ordF os) (plF os)
theorem ord_of {os : List Int} (pm : os.Perm (vxs os.length)) : Ord os.length (ordF os) := by
  obtain ⟨h1, h2, _⟩ := vx_perm pm
  have at_ : ∀ t, t < os.length → os[t]? = some (ordF os t) := fun t ht => by
    unfold ordF
    rw [List.getD_eq_getElem?_getD, List.getElem?_eq_getElem ht]
    rfl
  refine ⟨fun t ht => h1 _ (List.mem_of_getElem? (at_ t ht)), fun s t hs ht e => ?_, fun v hv => ?_⟩
  · have a := at_ s hs
    have b := at_ t ht
    rw [← e] at b
    obtain ⟨l1, e1⟩ := List.getElem?_eq_some_iff.mp a
    obtain ⟨l2, e2⟩ := List.getElem?_eq_some_iff.mp b
    exact (List.getElem_inj h2).mp (e1.trans e2.symm)
  · have hm : v ∈ os := pm.mem_iff.mpr (mem_vxs.mpr hv)
    obtain ⟨t, ht, e⟩ := List.getElem_of_mem hm
    refine ⟨t, ht, ?_⟩
    have := at_ t ht
    rw [List.getElem?_eq_getElem ht, e] at this
    exact (Option.some.inj this).symm
theorem pl_at {os : List Int} (nd : os.Nodup) {t : Nat} {v : Int} (h : os[t]? = some v) : plF os v = t := by
  have hm : v ∈ os := List.mem_of_getElem? h
  have l1 := List.idxOf_lt_length_iff.mpr hm
  have e1 : os[os.idxOf v] = v := List.getElem_idxOf l1
  obtain ⟨l2, e2⟩ := List.getElem?_eq_some_iff.mp h
  have := (List.getElem_inj nd (h₀ := l1) (h₁ := l2)).mp (e1.trans e2.symm)
  unfold plF
  omega
theorem set0_map {n : Nat} (g : Nat → Int) (x : Int) : ((List.range n).map g).set 0 x = (List.range n).map fun i => if i = 0 then x else g i := by
  refine List.ext_getElem? fun i => ?_
  rw [List.getElem?_set, List.getElem?_map, List.getElem?_map, List.length_map, List.length_range]
  by_cases c : 0 = i
  · subst c
    rw [if_pos rfl]
    by_cases h : 0 < n
    · rw [if_pos h, List.getElem?_range h]
      rfl
    · rw [if_neg h, List.getElem?_eq_none (by rw [List.length_range]; omega)]
      rfl
  · rw [if_neg c]
    by_cases h : i < n
    · rw [List.getElem?_range h]
      show some (g i) = some (if i = 0 then x else g i)
      rw [if_neg (fun z => c z.symm)]
    · rw [List.getElem?_eq_none (by rw [List.length_range]; omega)]
      rfl
abbrev sBoo : Stmt := topS 22
abbrev booN : List Str := ["graph", "order", "last", "place", "around", "bags", "parents", "at", "vertex", "v"]
def spBoo (K : PySem.W.Frag) (C : Addr) : Sp := fun vs H Q _ => ∃ (g t : Addr) (n : Nat) (qs : List Pr) (os : List Int), vs = [.ref g, .ref t] ∧ GraphAt K C H g n qs ∧ SqT K H t (os.map V.int) ∧ os.Perm (vxs n) ∧
  ∀ (H' : Hp) (r tb tp : Addr) (ps : List Addr), Same H H' → H' r = some (.tup [.ref tb, .ref tp]) → SqT K H' tb (ps.map V.ref) → TupsAt K H' ps (bagsO qs os) → SqT K H' tp ((parsO qs os).map V.int) → Q (.ref r) H'
section
variable {P : Program} {w : World} {K : PySem.W.Frag} {mg : Str → Option Value} {base : Heap}
theorem scBoo : FnScope booN ["graph", "order"] (defScope sBoo) := ⟨rfl, rfl, rfl, by decide +kernel, rfl, by decide +kernel, by decide +kernel⟩
theorem ok_boo {f C fA : Addr} {fd fdA : FuncData} (F : Fun K "bags_of_order" "bags_of_order" sBoo f fd)
    (GA : FnOk P w K mg base CX0 6 fA fdA ["graph", "order"] (spAio K C)) (kA : PySem.W.keepIn K (.ref fA) = true) (bA : Binds K fdA ["graph", "order"] []) (gA : mg "around_in_order" = some (.ref fA))
    (ml : mg "len" = none) (me : mg "enumerate" = none) (mrv : mg "reversed" = none) (mr : mg "range" = none) (mt : mg "tuple" = none) (ms : mg "sorted" = none) (mm : mg "min" = none) :
    FnOk P w K mg base CX0 7 f fd ["graph", "order"] (spBoo K C) := by
  refine F.ok scBoo (fun vs H Q E h => ?_) (fun cdv A outer s H vs Q E hr h => ?_)
  · obtain ⟨g, t, n, qs, os, rfl, _⟩ := h
    rfl
  · obtain ⟨g, t, n, qs, os, rfl, G, hT, pm, q⟩ := h
    have hr6 : Room 6 _ := hr.mono (by decide)
    have hu := hu_of hr
    have hu64 : _ + 64 < cLine := hr.units
    have lim := G.lim
    obtain ⟨vxo, ndo, lo⟩ := vx_perm pm
    subst lo
    refine ⟨_, pss_cons (ps_if (pt_not (truth_at (K := K) rfl (pv 1) (by intro _; rfl))) (pss_one (ps_ret (pe_tup (pa_cons (pe_tup (pa_cons (pe_tup pa_nil) pa_nil)) (pa_cons (pe_tup (pa_cons (pe_un un_neg pe_int) pa_nil)) pa_nil))))) pss_nil)
      (pss_cons (ps_set (i := 2) scBoo.nd rfl (.inl rfl) (pe_op op_sub (pe_callB call_len_seq (by rfl) ml PySem.boot_len (pa_cons (pv 1) pa_nil)) pe_int))
      (pss_cons (ps_set (i := 3) scBoo.nd rfl (.inr rfl) (pe_dc (own := [("at", 7), ("vertex", 8)]) (g := gTup K 2 (gCons (gName 7) (gCons (gName 8) gNil))) (tt := tYes) (by rfl) scBoo.nd (pi_enT (by rfl) me (pa_cons (pv 1) pa_nil))
        (blkOk_by (own := [("at", 7), ("vertex", 8)]) (N := booN) (sc := defScope sBoo) (by decide +kernel)) (fun _ _ _ _ _ => pg_tup rfl (pgs_cons (pg_name (i := 7) scBoo.nd rfl (Or.inl rfl)) (pgs_cons (pg_name (i := 8) scBoo.nd rfl (Or.inl rfl)) pgs_nil))) (fun _ _ _ _ _ => pts_nil) (fun _ _ _ _ _ => pv 8) (fun _ _ _ _ _ => pv 7)))
      (pss_cons (ps_set (i := 4) scBoo.nd rfl (.inl rfl) (pe_call GA hr6 (by rfl) gA kA bA .nil pass0 (pa_cons (pv 0) (pa_cons (pv 1) pa_nil))))
      (pss_cons (ps_set (i := 5) scBoo.nd rfl (.inl rfl) (pe_lst pa_nil))
      (pss_cons (ps_set (i := 6) scBoo.nd rfl (.inl rfl) (pe_lst pa_nil))
      (pss_cons (ps_for PassesOwn.never rfl (pi_revR (by rfl) mrv (prg_1 (by rfl) mr (pe_callB call_len_seq (by rfl) ml PySem.boot_len (pa_cons (pv 1) pa_nil)))) (pg_name (i := 7) scBoo.nd rfl (.inl rfl))
        (pss_cons (ps_expr (pe_bm PySem.F.plainAttrs_list PySem.F.slot_list_append PySem.F.type_list_append mt_append (pv 5) (pa_cons (pe_callTy call_tuple_of (by rfl) mt (by decide +kernel) (pa_cons (pe_callB cr_sortedI (by rfl) ms (by decide +kernel)
            (pa_cons (pe_lst (pa_cons (pe_ix ix_tup (pv 1) (pv 7) (fun _ _ => rfl)) (StX.pa_star (pe_ix ix_list (pv 4) (pv 7) (fun _ _ => rfl)) pa_nil))) pa_nil)) pa_nil)) pa_nil)))
        (pss_one (ps_expr (pe_bm PySem.F.plainAttrs_list PySem.F.slot_list_append PySem.F.type_list_append mt_append (pv 6) (pa_cons (pe_op op_sub (pv 2) (pe_minD (by rfl) mm (by rfl) hu64
            (pa_cons (pe_lc (own := [("v", 9)]) (g := gName 9) (by rfl) scBoo.nd (pi_list (pe_ix ix_list (pv 4) (pv 7) (fun _ _ => rfl))) (blkOk_by (own := [("v", 9)]) (N := booN) (sc := defScope sBoo) (by decide +kernel)) (fun _ _ _ _ _ => pg_name (i := 9) scBoo.nd rfl (Or.inl rfl)) (fun _ _ _ _ _ => pts_nil) (fun _ _ _ _ _ => pe_dget hu (pv 3) (pv 9) (fun _ _ => rfl))) pa_nil)
            (pk_cons (pv 2) pk_nil))) pa_nil))))))
      (pss_cons (ps_asg (pe_un un_neg pe_int) (pg_sub (pv 6) pe_int set_list))
      (pss_one (ps_ret (pe_tup (pa_cons (pe_callTy call_tuple_of (by rfl) mt (by decide +kernel) (pa_cons (pv 5) pa_nil)) (pa_cons (pe_callTy call_tuple_of (by rfl) mt (by decide +kernel) (pa_cons (pv 6) pa_nil)) pa_nil)))))))))))), ?_⟩
    refine ⟨_, rfl, _, .inr (.inl ⟨_, hT, rfl⟩), ?_⟩
    by_cases c0 : os = []
    · subst c0
      refine iteT ⟨Nat.zero_le _, fun t1 n1 => ⟨(by show 1 ≤ sizeLine; decide), fun t2 n2 => ⟨1, rfl, (by show 1 ≤ sizeLine; decide), fun t3 n3 => ⟨(by show 2 ≤ sizeLine; decide), fun t4 n4 => ?_⟩⟩⟩⟩
      have u1 := same_upd (o := .tup []) n1
      have u2 := same_upd (o := .tup [V.ref t1]) n2
      have u3 := same_upd (o := .tup [V.int (-1)]) n3
      have u4 := same_upd (o := .tup [V.ref t2, V.ref t3]) n4
      refine q _ t4 t2 t3 [t1] (u1.trans (u2.trans (u3.trans u4))) upd_same (SqT.of (u4 _ _ (u3 _ _ upd_same))) (.cons (SqT.of (u4 _ _ (u3 _ _ (u2 _ _ upd_same)))) .nil) (SqT.of (u4 _ _ upd_same))
    · have np : 0 < os.length := List.length_pos_iff.mpr c0
      have em : (!(os.map V.int).isEmpty) = true := by cases os with
        | nil => exact absurd rfl c0
        | cons _ _ => rfl
      rw [em]
      refine iteF ⟨_, rfl, t, _, rfl, .inr hT, _, _, rfl, rfl, _, rfl, t, _, rfl, hT, fun pd npd => ?_⟩
      refine dc_it (walk_enT (K := K) (a := t) (xs := os.map V.int)) (fun i H' => Same H H' ∧ ∃ kvs : List (Key × V), H' pd = some (.dK kvs) ∧ kvs.map (·.1) = (os.take i).map Sum.inl ∧ ∀ j v, j < i → os[j]? = some v → valV kvs (Sum.inl v : Key) = some (.int (j : Nat)))
        ⟨same_upd npd, [], upd_same, by rw [List.take_zero]; rfl, fun j v hj => by omega⟩ (fun i H' _ h => same_sqT h.1 hT) ?_ ?_
      · rintro i x H1 H' hi ⟨sm, kvs, hpd, hk, hv⟩ ⟨T1, v1, v2, rfl, nT, rfl, e1, e2⟩
        cases e1
        have e2 : (os.map V.int)[i]? = some v2 := e2
        rw [List.getElem?_map] at e2
        cases ek : os[i]? with
        | none => rw [ek] at e2; cases e2
        | some k =>
          rw [ek] at e2
          cases e2
          have pT : pd ≠ T1 := fun z => by rw [← z, hpd] at nT; cases nT
          have sT := same_upd (o := .tup [.int (i : Nat), V.int k]) nT
          have tk := L2.take_next ek
          have nk : k ∉ os.take i := fun z => by
            have nd2 := ndo
            rw [← List.take_append_drop (i + 1) os, tk] at nd2
            exact absurd rfl ((List.nodup_append.mp (List.nodup_append.mp nd2).1).2.2 _ z _ (List.mem_singleton.mpr rfl))
          have lk : kvs.length ≤ 60 := by
            have := congrArg List.length hk
            rw [List.length_map, List.length_map, List.length_take] at this
            omega
          refine ⟨T1, _, rfl, SqT.of upd_same, rfl, _, _, rfl, _, _, rfl, rfl, rfl, _, rfl, _, rfl, kvs, Sum.inl k, rfl, sT _ _ hpd, small1000 (by omega), same_put (same_put sm (sm.free nT)) npd, _, upd_same, by rw [putK_keys hk nk, tk], fun j v hj hjv => ?_⟩
          rw [valV_put]
          by_cases cj : j = i
          · subst cj
            rw [ek] at hjv
            cases hjv
            rw [if_pos rfl]
          · have ne : ¬ (Sum.inl v : Key) = Sum.inl k := fun z => by
              have e := Sum.inl.inj z
              subst e
              exact cj (by
                obtain ⟨l1, e1⟩ := List.getElem?_eq_some_iff.mp hjv
                obtain ⟨l2, e2⟩ := List.getElem?_eq_some_iff.mp ek
                exact (List.getElem_inj ndo).mp (e1.trans e2.symm))
            rw [if_neg ne]
            exact hv j v (by omega) hjv
      · rintro H1 ⟨s1, kvs, hpd, hk, hv⟩
        have hval : ∀ v ∈ os, valV kvs (Sum.inl v : Key) = some (.int (plF os v)) := fun v hv2 => by
          obtain ⟨j, hj, e⟩ := List.getElem_of_mem hv2
          have ej : os[j]? = some v := by rw [List.getElem?_eq_getElem hj, e]
          rw [pl_at ndo ej]
          exact hv j v (by rw [List.length_map]; exact hj) ej
        refine ⟨_, rfl, _, rfl, g, t, os.length, qs, os, rfl, G.same s1, same_sqT s1 hT, vxo, lim, fun H2 ar aps s2 nar har nap apl => ?_⟩
        have s2' := s1.trans s2
        have hpd2 := s2 _ _ hpd
        refine ⟨Nat.zero_le _, fun b1 nb1 => ⟨Nat.zero_le _, fun p1 np1 => ?_⟩⟩
        have u1 := same_upd (o := .lst []) nb1
        have bp : b1 ≠ p1 := fun z => by rw [← z, upd_same] at np1; cases np1
        have np2 : H2 p1 = none := u1.free np1
        have u2 := same_upd (o := .lst []) np1
        refine ⟨_, rfl, t, _, rfl, .inr (same_sqT ((s2'.trans u1).trans u2) hT), _, rfl, by omega, by omega, by rw [List.length_map]; omega, by rw [List.length_map]; omega, ?_⟩
        have tn : (((os.map V.int).length : Int) - 0).toNat = os.length := by rw [List.length_map]; omega
        rw [tn]
        have aln : aps.length = os.length := by rw [apl.length, List.length_map, List.length_range]
        refine for_it walk_rangeC (fun i σ H' => ∃ (y7 : Option V) (bas : List Addr), σ = [some (.ref g), some (.ref t), some (V.int (((os.map V.int).length : Int) - 1)), some (.ref pd), some (.ref ar), some (.ref b1), some (.ref p1), y7, none, none] ∧ Same H2 H' ∧
          H' b1 = some (.lst (bas.map V.ref)) ∧ TupsAt K H' bas ((List.range i).map fun j => bagT os.length qs (ordF os) (os.length - 1 - j)) ∧ H' p1 = some (.lst (((List.range i).map fun j => (os.length : Int) - 1 - minT os.length qs (ordF os) (plF os) (os.length - 1 - j)).map V.int)))
          ⟨none, [], rfl, u1.trans u2, u2 _ _ upd_same, .nil, upd_same⟩ (fun _ _ _ _ _ => trivial) ?_ ?_
        · rintro i x σ H3 H' hi ⟨y7, bas, rfl, sm, hb, pb, hp⟩ ⟨rfl, hx⟩
          have hx : x = V.int (0 + ((os.length : Nat) : Int) - 1 + ((i : Nat) : Int) * (-1)) := hx
          have ee : (0 + ((os.length : Nat) : Int) - 1 + ((i : Nat) : Int) * (-1)) = ((os.length - 1 - i : Nat) : Int) := by omega
          rw [ee] at hx
          subst hx
          have hm : os.length - 1 - i < os.length := by omega
          generalize hmm : os.length - 1 - i = m at hm
          have em : os[m]? = some (ordF os m) := by
            unfold ordF
            rw [List.getD_eq_getElem?_getD, List.getElem?_eq_getElem hm]
            rfl
          have om : (os.map V.int)[m]? = some (.int (ordF os m)) := by rw [List.getElem?_map, em]; rfl
          obtain ⟨aa, haa⟩ : ∃ a, aps[m]? = some a := ⟨_, List.getElem?_eq_getElem (by omega)⟩
          have gaa : (aps.map V.ref)[m]? = some (.ref aa) := by rw [List.getElem?_map, haa]; rfl
          obtain ⟨c, hc, hca⟩ := paired_get apl haa
          have ec : c = arT os.length qs (ordF os) m := by
            rw [List.getElem?_map, List.getElem?_range hm] at hc
            exact (Option.some.inj hc).symm
          subst ec
          have O := ord_of pm
          have irr : ordF os m ∉ arT os.length qs (ordF os) m := fun z => rel_irr G.ok ((mem_arT G.ok).mp z) rfl
          have arl : (arT os.length qs (ordF os) m).length ≤ os.length := by
            unfold arT
            refine Nat.le_trans (List.length_filter_le _ _) ?_
            unfold vxs
            rw [List.length_map, List.length_range]
            exact Nat.le_refl _
          have lb := pb.length
          rw [List.length_map, List.length_range] at lb
          refine ⟨_, rfl, .inl ⟨rfl, _, SqL.of hb⟩, _, rfl, _, rfl, t, _, m, _, rfl, rfl, same_sqT (s2'.trans sm) hT, at_nat om, _, rfl, _, rfl, ar, _, m, _, rfl, rfl, SqL.of (sm _ _ har), at_nat gaa, aa, _, rfl, .inr (SqL.of (sm _ _ hca)), ?_, fun L nL => ?_⟩
          · show ((arT os.length qs (ordF os) m).map V.int ++ []).length + 1 ≤ sizeLine
            rw [List.append_nil, List.length_map]
            exact Nat.le_of_lt (small1000 (by omega))
          have hL : (upd H' L (.lst (V.int (ordF os m) :: ((arT os.length qs (ordF os) m).map V.int ++ [])))) L = some (.lst ((ordF os m :: arT os.length qs (ordF os) m).map V.int)) := by rw [upd_same, List.append_nil]; rfl
          have v1 : Same H' (upd H' L (.lst (V.int (ordF os m) :: ((arT os.length qs (ordF os) m).map V.int ++ [])))) := same_upd nL
          generalize (upd H' L (.lst (V.int (ordF os m) :: ((arT os.length qs (ordF os) m).map V.int ++ [])))) = H6 at hL v1 ⊢
          refine ⟨L, _, rfl, SqL.of hL, fun ns l2 pn le nl2 => ⟨l2, _, rfl, .inl ⟨SqL.of upd_same, fun T nT => ?_⟩⟩⟩
          have v2 := same_upd (o := .lst (ns.map V.int)) nl2
          have v3 := same_upd (o := .tup (ns.map V.int)) nT
          have hT9 : (upd (upd H6 l2 (.lst (ns.map V.int))) T (.tup (ns.map V.int))) T = some (.tup (ns.map V.int)) := upd_same
          have v4 := v1.trans (v2.trans v3)
          generalize (upd (upd H6 l2 (.lst (ns.map V.int))) T (.tup (ns.map V.int))) = H7 at hT9 v4 ⊢
          have nsn : ns.Nodup := pn.nodup_iff.mpr (List.nodup_cons.mpr ⟨irr, (List.Pairwise.imp (fun {a b} h e => by omega) ((vxs_lt os.length).filter _))⟩)
          have nse : ns = bagT os.length qs (ordF os) m := lt_ext (lt_of_le le nsn) ((vxs_lt os.length).filter _) fun k => by
            rw [pn.mem_iff, List.mem_cons, mem_bagT G.ok O hm, mem_arT G.ok]
          have hb7 := v4 _ _ hb
          have hp7 := v4 _ _ hp
          have nb2 : H2 b1 = none := nb1
          refine ⟨b1, _, _, rfl, rfl, hb7, by rw [List.length_map]; exact small1000 (by omega), ?_⟩
          have sm8 : Same H2 (upd H7 b1 (.lst (bas.map V.ref ++ [.ref T]))) := same_put (sm.trans v4) nb2
          have hb8 : (upd H7 b1 (.lst (bas.map V.ref ++ [.ref T]))) b1 = some (.lst ((bas ++ [T]).map V.ref)) := by rw [upd_same, List.map_append]; rfl
          have hp8 : (upd H7 b1 (.lst (bas.map V.ref ++ [.ref T]))) p1 = some (.lst (((List.range i).map fun j => (os.length : Int) - 1 - minT os.length qs (ordF os) (plF os) (os.length - 1 - j)).map V.int)) := by rw [upd_ne bp.symm]; exact hp7
          have bt : But b1 H7 (upd H7 b1 (.lst (bas.map V.ref ++ [.ref T]))) := (Same.but (Same.refl H7)).put
          have pb8 : TupsAt K (upd H7 b1 (.lst (bas.map V.ref ++ [.ref T]))) (bas ++ [T]) ((List.range (i + 1)).map fun j => bagT os.length qs (ordF os) (os.length - 1 - j)) := by
            rw [List.range_succ, List.map_append, List.map_singleton, hmm, ← nse]
            exact TupsAt.snoc (bt.sqTl hb7 (SqT.of hT9)) ((pb.same v4).but bt hb7)
          generalize (upd H7 b1 (.lst (bas.map V.ref ++ [.ref T]))) = H8 at sm8 hb8 hp8 pb8 ⊢
          refine ⟨_, rfl, .inl ⟨rfl, _, SqL.of hp8⟩, _, rfl, _, rfl, _, rfl, ar, _, m, _, rfl, rfl, SqL.of (sm8 _ _ har), at_nat gaa, aa, rfl, ⟨_, SqL.of (sm8 _ _ hca)⟩, fun D nD => ?_⟩
          refine lc_list (K := K) (a := aa) (xs := (arT os.length qs (ordF os) m).map V.int) (fun j H' => Same H8 H' ∧ H' D = some (.lst ((((arT os.length qs (ordF os) m).take j).map (plF os)).map V.int))) ⟨same_upd nD, upd_same⟩ (fun j H' _ h => SqL.of (h.1 _ _ (sm8 _ _ hca))) ?_ ?_
          · rintro j x H' hx ⟨sm9, hD⟩
            rw [List.getElem?_map] at hx
            cases ek : (arT os.length qs (ordF os) m)[j]? with
            | none => rw [ek] at hx; cases hx
            | some k =>
              rw [ek] at hx
              cases hx
              have km : k ∈ os := pm.mem_iff.mpr (mem_vxs.mpr (rel_vx G.ok ((mem_arT G.ok).mp (List.mem_of_getElem? ek))).2)
              have gk : DGet H' pd (kV (Sum.inl k)) (some (.int (plF os k))) := by
                have z := DGet.k (k := Sum.inl k) (sm9 _ _ (sm8 _ _ hpd2))
                rw [hval k km] at z
                exact z
              refine ⟨rfl, _, rfl, _, rfl, pd, _, rfl, gk, _, hD, ?_, same_put sm9 nD, ?_⟩
              · rw [List.length_map, List.length_map, List.length_take]
                exact small1000 (by omega)
              · rw [upd_same, L2.take_next ek, List.map_append, List.map_append]
                rfl
          · rintro H' ⟨sm9, hD⟩
            rw [List.length_map, List.take_length] at hD
            refine ⟨_, rfl, D, _, _, rfl, rfl, SqL.of hD, _, _, rfl, rfl, p1, _, _, rfl, rfl, sm9 _ _ hp8, ?_, ?_⟩
            · rw [List.length_map, List.length_map, List.length_range]
              exact small1000 (by omega)
            · have npH : H2 p1 = none := np2
              have hb9 := sm9 _ _ hb8
              have bt9 : But p1 H' (upd H' p1 (.lst (((List.range i).map fun j => (os.length : Int) - 1 - minT os.length qs (ordF os) (plF os) (os.length - 1 - j)).map V.int ++ [V.int (((os.map V.int).length : Int) - 1 - minOr (((os.map V.int).length : Int) - 1) ((arT os.length qs (ordF os) m).map (plF os)))]))) := (Same.but (Same.refl H')).put
              refine ⟨_, bas ++ [T], rfl, same_put (sm8.trans sm9) npH, by rw [upd_ne bp]; exact hb9, (pb8.same sm9).but bt9 (sm9 _ _ hp8), ?_⟩
              rw [upd_same, List.range_succ, List.map_append, List.map_append, List.map_singleton, hmm, List.length_map]
              rfl
        · rintro σ H3 ⟨y7, bas, rfl, sm, hb, pb, hp⟩
          refine ⟨1, rfl, _, rfl, p1, _, 0, 0, rfl, rfl, hp, ?_, ?_⟩
          · unfold ixN
            rw [List.length_map, List.length_map, List.length_range, if_pos (by omega), if_pos (by omega)]
            rfl
          have bt : ∀ o, But p1 H3 (upd H3 p1 o) := fun o => (Same.but (Same.refl H3)).put
          refine ⟨_, rfl, b1, _, rfl, .inl ⟨SqL.of (by rw [upd_ne bp]; exact hb), fun tb ntb => ?_⟩⟩
          have w1 := same_upd (o := .tup (bas.map V.ref)) ntb
          refine ⟨_, rfl, p1, _, rfl, .inl ⟨SqL.of (w1 _ _ upd_same), fun tp ntp => ⟨(by show 2 ≤ sizeLine; decide), fun r nr => ?_⟩⟩⟩
          have w2 := same_upd (o := .tup ((((List.range os.length).map fun j => (os.length : Int) - 1 - minT os.length qs (ordF os) (plF os) (os.length - 1 - j)).map V.int).set 0 (.int (-1)))) ntp
          have w3 := same_upd (o := .tup [V.ref tb, V.ref tp]) nr
          refine q _ r tb tp bas ?_ upd_same (SqT.of (w3 _ _ (w2 _ _ upd_same))) ?_ ?_
          · exact s1.trans (s2.trans ((same_put sm np2).trans (w1.trans (w2.trans w3))))
          · have e1 : bagsO qs os = (List.range os.length).map fun j => bagT os.length qs (ordF os) (os.length - 1 - j) := by
              unfold bagsO
              rw [if_neg c0]
              rfl
            rw [e1]
            exact ((pb.but (bt _) hp).same w1).same (w2.trans w3)
          · have e2 : (parsO qs os).map V.int = (((List.range os.length).map fun j => (os.length : Int) - 1 - minT os.length qs (ordF os) (plF os) (os.length - 1 - j)).map V.int).set 0 (.int (-1)) := by
              rw [← List.map_set, set0_map]
              unfold parsO
              rw [if_neg c0]
              rfl
            rw [e2]
            exact SqT.of (w3 _ _ upd_same)
end
end Sm

set_option Elab.async false
set_option linter.all false
set_option maxRecDepth 100000
set_option maxHeartbeats 4000000
namespace Sm
open PySem PySem.Spec PyProof.Rows L2
abbrev sIsi : Stmt := topS 31
abbrev sCel : Stmt := topS 32
abbrev sMix : Stmt := topS 33
abbrev sDig : Stmt := topS 34
abbrev sEds : Stmt := topS 35
abbrev sOrd : Stmt := topS 36
def spIsi : Sp := fun vs H Q _ => ∃ i : Int, vs = [.int i] ∧ Q (.bl true) H
def spCel (K : PySem.W.Frag) : Sp := fun vs H Q _ => ∃ (a : Addr) (ns : List Int) (k : Nat), vs = [.ref a, .int k] ∧ SqL K H a (ns.map V.int) ∧ ∀ x : Int, Q (.int x) H
def spMix : Sp := fun vs H Q _ => ∃ (c : Int) (k : Nat), vs = [.int c, .int k] ∧ ∀ x : Int, Q (.int x) H
def spDig (K : PySem.W.Frag) : Sp := fun vs H Q _ => ∃ (c : Int) (n m : Nat), vs = [.int c, .int n, .int m] ∧ n ≤ 60 ∧ 0 < m ∧ m ≤ 1000 ∧
  ∀ (H' : Hp) (p : Addr) (ds : List Int), Same H H' → H p = none → H' p = some (.lst (ds.map V.int)) → ds.length = n → (∀ d ∈ ds, 0 ≤ d ∧ d < m) → Q (.ref p) H'
def spEds (K : PySem.W.Frag) : Sp := fun vs H Q _ => ∃ (c : Int) (m : Nat), vs = [.int c, .int m] ∧ m ≤ 9 ∧
  ∀ (H' : Hp) (r e : Addr) (n : Nat) (as : List Addr) (es : List Pr), Same H H' → H' r = some (.tup [.int n, .ref e]) → H' e = some (.lst (as.map V.ref)) → PairsAt K H' as es → n ≤ m → es.Sublist (pairsL n) → Q (.ref r) H'
def spOrd (K : PySem.W.Frag) : Sp := fun vs H Q _ => ∃ (c : Int) (n : Nat), vs = [.int c, .int n] ∧ n ≤ 60 ∧
  ∀ (H' : Hp) (p : Addr) (os : List Int), Same H H' → H p = none → H' p = some (.lst (os.map V.int)) → os.Perm (vxs n) → Q (.ref p) H'
theorem pairs_few {n : Nat} (h : n ≤ 9) : (pairsL n).length ≤ 36 := by
  have z : ((List.range 10).all fun n => decide ((pairsL n).length ≤ 36)) = true := by decide +kernel
  exact of_decide_eq_true (List.all_eq_true.mp z n (List.mem_range.mpr (by omega)))
theorem pairs_pre {n u j : Nat} (hu : u < n) : ((List.range u).flatMap fun u => rowP n u).length + ((rowP n u).take j).length ≤ (pairsL n).length := by
  have e : List.range n = List.range u ++ (u :: (List.range' (u + 1) (n - u - 1))) := by
    have h1 : n = u + (1 + (n - u - 1)) := by omega
    rw [List.range_eq_range', List.range_eq_range']
    conv => lhs; rw [h1]
    rw [← List.range'_append_1, ← List.range'_append_1]
    simp
  unfold pairsL
  rw [e, List.flatMap_append, List.flatMap_cons, List.length_append, List.length_append]
  rw [List.length_take]
  omega
section
variable {P : Program} {w : World} {K : PySem.W.Frag} {mg : Str → Option Value} {base : Heap}
theorem scIsi : FnScope ["actual"] ["actual"] (defScope sIsi) := ⟨rfl, rfl, rfl, by decide +kernel, rfl, by decide +kernel, by decide +kernel⟩
theorem ok_isi {f : Addr} {fd : FuncData} (F : Fun K "_law_is_integer" "_law_is_integer" sIsi f fd) (T : TxA mg) : FnOk P w K mg base CX0 1 f fd ["actual"] spIsi := by
  refine F.ok scIsi (fun vs H Q E h => ?_) (fun cdv A outer s H vs Q E hr h => ?_)
  · obtain ⟨i, rfl, _⟩ := h
    rfl
  · obtain ⟨i, rfl, q⟩ := h
    refine ⟨_, pss_one (ps_ret (pe_and (pe_callB call_isi (by rfl) T.isi (by decide +kernel) (pa_cons (pv 0) (pa_cons (pe_bltn (v := .ty "int") (by rfl) T.int (by decide +kernel) rfl) pa_nil)))
      (pe_one (pe_not (pe_callB call_isi (by rfl) T.isi (by decide +kernel) (pa_cons (pv 0) (pa_cons (pe_bltn (v := .ty "bool") (by rfl) T.bool (by decide +kernel) rfl) pa_nil))))))), ?_⟩
    refine ⟨_, rfl, .int i, .ty "int", .type "int", .type "int", true, rfl, .ty "int", .base (.int i), kit_ty (by decide +kernel), true, rfl, iteT ?_⟩
    exact ⟨_, rfl, .int i, .ty "bool", .type "int", .type "bool", false, rfl, .ty "bool", .base (.int i), kit_ty (by decide +kernel), false, rfl, q⟩
theorem scCel : FnScope ["script", "k"] ["script", "k"] (defScope sCel) := ⟨rfl, rfl, rfl, by decide +kernel, rfl, by decide +kernel, by decide +kernel⟩
theorem ok_cel {f : Addr} {fd : FuncData} (F : Fun K "_law_cell" "_law_cell" sCel f fd) (ml : mg "len" = none) : FnOk P w K mg base CX0 1 f fd ["script", "k"] (spCel K) := by
  refine F.ok scCel (fun vs H Q E h => ?_) (fun cdv A outer s H vs Q E hr h => ?_)
  · obtain ⟨a, ns, k, rfl, _⟩ := h
    rfl
  · obtain ⟨a, ns, k, rfl, hS, q⟩ := h
    refine ⟨_, pss_cons (ps_if (pt_cmpR op_lt (pv 1) (pe_callB call_len_seq (by rfl) ml PySem.boot_len (pa_cons (pv 0) pa_nil)) (nomark _)) (pss_one (ps_ret (pe_ix ix_list (pv 0) (pv 1) (fun _ _ => rfl)))) pss_nil) (pss_one (ps_ret pe_int)), ?_⟩
    refine ⟨_, rfl, _, rfl, a, _, rfl, .inl hS, _, _, rfl, rfl, _, rfl, ?_⟩
    refine ite2 (fun c => ?_) (fun _ => q 0)
    have hk : k < ns.length := by
      have z := of_decide_eq_true c
      rw [List.length_map] at z
      omega
    exact ⟨_, rfl, _, rfl, a, _, k, _, rfl, rfl, hS, at_nat (v := V.int ns[k]) (by rw [List.getElem?_map, List.getElem?_eq_getElem hk]; rfl), q _⟩
theorem scMix : FnScope ["cell", "k", "first", "second"] ["cell", "k"] (defScope sMix) := ⟨rfl, rfl, rfl, by decide +kernel, rfl, by decide +kernel, by decide +kernel⟩
theorem ok_mix {f : Addr} {fd : FuncData} (F : Fun K "_law_mixed" "_law_mixed" sMix f fd) (mi : mg "int" = none) : FnOk P w K mg base CX0 1 f fd ["cell", "k"] spMix := by
  refine F.ok scMix (fun vs H Q E h => ?_) (fun cdv A outer s H vs Q E hr h => ?_)
  · obtain ⟨c, k, rfl, _⟩ := h
    rfl
  · obtain ⟨c, k, rfl, q⟩ := h
    refine ⟨_, pss_cons (ps_set (i := 2) scMix.nd rfl (.inl rfl) (pe_op op_mod (pe_callTy call_int1 (by rfl) mi (by decide +kernel) (pa_cons (pe_op op_add (pe_op op_add (pe_op op_mul (pe_callTy call_int1 (by rfl) mi (by decide +kernel) (pa_cons (pv 0) pa_nil)) pe_int) (pe_op op_mul (pv 1) pe_int)) pe_int) pa_nil)) pe_int))
      (pss_cons (ps_set (i := 3) scMix.nd rfl (.inl rfl) (pe_op op_mod (pe_callTy call_int1 (by rfl) mi (by decide +kernel) (pa_cons (pe_op op_add (pe_op op_add (pe_op op_mul (pv 2) pe_int) (pe_op op_mul (pe_op op_add (pv 1) pe_int) pe_int)) pe_int) pa_nil)) pe_int))
      (pss_one (ps_ret (pe_op op_fdiv (pv 3) pe_int)))), ?_⟩
    refine ⟨_, rfl, .inl ⟨_, rfl, _, _, rfl, rfl, .inr ⟨by decide, by decide⟩, ?_⟩⟩
    refine ⟨_, rfl, _, _, rfl, rfl, .inr ⟨by decide, by decide⟩, _, _, rfl, rfl, _, _, rfl, rfl, .inl ⟨_, rfl, _, _, rfl, rfl, (by show (0 : Int) < 2147483647; decide), ?_⟩⟩
    refine ⟨_, rfl, _, _, rfl, rfl, .inr ⟨by decide, by decide⟩, ?_⟩
    refine ⟨_, rfl, _, _, rfl, rfl, _, _, rfl, rfl, .inr ⟨by decide, by decide⟩, _, _, rfl, rfl, _, _, rfl, rfl, .inl ⟨_, rfl, _, _, rfl, rfl, (by show (0 : Int) < 2147483563; decide), ?_⟩⟩
    exact ⟨_, rfl, _, _, rfl, rfl, ⟨by decide, by decide⟩, q _⟩
theorem scDig : FnScope ["cell", "count", "many", "digits", "k"] ["cell", "count", "many"] (defScope sDig) := ⟨rfl, rfl, rfl, by decide +kernel, rfl, by decide +kernel, by decide +kernel⟩
theorem ok_dig {f fM : Addr} {fd fdM : FuncData} (F : Fun K "_law_digits" "_law_digits" sDig f fd) (mr : mg "range" = none) (mi : mg "int" = none)
    (GM : FnOk P w K mg base CX0 1 fM fdM ["cell", "k"] spMix) (kM : PySem.W.keepIn K (.ref fM) = true) (bM : Binds K fdM ["cell", "k"] []) (gM : mg "_law_mixed" = some (.ref fM)) :
    FnOk P w K mg base CX0 2 f fd ["cell", "count", "many"] (spDig K) := by
  refine F.ok scDig (fun vs H Q E h => ?_) (fun cdv A outer s H vs Q E hr h => ?_)
  · obtain ⟨c, n, m, rfl, _⟩ := h
    rfl
  · obtain ⟨c, n, m, rfl, hn, m0, m1, q⟩ := h
    have hr1 : Room 1 _ := hr.mono (by decide)
    have toNat : ((n : Nat) : Int).toNat = n := by omega
    refine ⟨_, pss_cons (ps_set (i := 3) scDig.nd rfl (.inl rfl) (pe_lst pa_nil))
      (pss_cons (ps_if (pt_cmpR op_lt (pv 0) (pe_op op_pow pe_int pe_int) (nomark _))
        (pss_cons (ps_for PassesOwn.never rfl (pi_range1 rfl mr (pa_cons (pv 1) pa_nil)) (pg_name (i := 4) scDig.nd rfl (.inl rfl))
          (pss_one (ps_expr (pe_bm PySem.F.plainAttrs_list PySem.F.slot_list_append PySem.F.type_list_append mt_append (pv 3) (pa_cons (pe_op op_mod (pe_callTy call_int1 (by rfl) mi (by decide +kernel) (pa_cons (pe_call GM hr1 (by rfl) gM kM bM .nil pass0 (pa_cons (pv 0) (pa_cons (pv 4) pa_nil))) pa_nil)) (pv 2)) pa_nil)))))
        (pss_one (ps_ret (pv 3)))) pss_nil)
      (pss_cons (ps_for PassesOwn.never rfl (pi_range1 rfl mr (pa_cons (pv 1) pa_nil)) (pg_name (i := 4) scDig.nd rfl (.inl rfl))
        (pss_cons (ps_expr (pe_bm PySem.F.plainAttrs_list PySem.F.slot_list_append PySem.F.type_list_append mt_append (pv 3) (pa_cons (pe_op op_mod (pe_callTy call_int1 (by rfl) mi (by decide +kernel) (pa_cons (pv 0) pa_nil)) (pv 2)) pa_nil)))
        (pss_one (ps_set (i := 0) scDig.nd rfl (.inl rfl) (pe_op op_fdiv (pv 0) (pv 2))))))
      (pss_one (ps_ret (pv 3))))), ?_⟩
    refine ⟨Nat.zero_le _, fun p np => ?_⟩
    have s1 := same_upd (o := .lst []) np
    have md : ∀ x : Int, 0 ≤ x % (m : Int) ∧ x % (m : Int) < m := fun x => ⟨Int.emod_nonneg _ (by omega), Int.emod_lt_of_pos _ (by omega)⟩
    have more : ∀ {ds : List Int} (x : Int), (∀ d ∈ ds, 0 ≤ d ∧ d < (m : Int)) → ∀ d ∈ ds ++ [x % (m : Int)], 0 ≤ d ∧ d < (m : Int) := fun x h d hd => by
      rcases List.mem_append.mp hd with z | z
      · exact h d z
      · rw [List.mem_singleton.mp z]
        exact md x
    refine ⟨_, rfl, _, _, rfl, rfl, ⟨by decide, by decide, by decide⟩, _, _, rfl, rfl, _, rfl, ?_⟩
    refine ite2 (fun _ => ?_) (fun _ => ?_)
    · refine ⟨_, rfl, n, rfl, by omega, by omega, ?_⟩
      rw [toNat]
      refine for_range (lo := 0) (n := n) (fun i σ H' => ∃ (y4 : Option V) (ds : List Int), σ = [some (.int c), some (.int n), some (.int m), some (.ref p), y4] ∧ Same H H' ∧ H' p = some (.lst (ds.map V.int)) ∧ ds.length = i ∧ ∀ d ∈ ds, 0 ≤ d ∧ d < (m : Int))
        ⟨none, [], rfl, s1, upd_same, rfl, fun d hd => by cases hd⟩ ?_ ?_
      · rintro i σ H' hi ⟨y4, ds, rfl, sm, hp, hl, hd⟩
        have e0 : (0 : Int) + (i : Int) = (i : Int) := by omega
        rw [e0]
        refine ⟨_, rfl, .inl ⟨rfl, _, SqL.of hp⟩, _, rfl, _, rfl, c, i, rfl, fun x => ?_⟩
        refine .inl ⟨_, rfl, _, rfl, _, _, rfl, rfl, (by omega : (0 : Int) < (m : Int)), p, _, _, rfl, rfl, hp, by rw [List.length_map]; exact small1000 (by omega), ?_⟩
        exact ⟨_, ds ++ [x % (m : Int)], rfl, same_put sm np, by rw [upd_same, List.map_append]; rfl, by rw [List.length_append, hl]; rfl, more x hd⟩
      · rintro σ H' ⟨y4, ds, rfl, sm, hp, hl, hd⟩
        exact ⟨_, rfl, q H' p ds sm np hp hl hd⟩
    · refine ⟨_, rfl, n, rfl, by omega, by omega, ?_⟩
      rw [toNat]
      refine for_range (lo := 0) (n := n) (fun i σ H' => ∃ (y4 : Option V) (c : Int) (ds : List Int), σ = [some (.int c), some (.int n), some (.int m), some (.ref p), y4] ∧ Same H H' ∧ H' p = some (.lst (ds.map V.int)) ∧ ds.length = i ∧ ∀ d ∈ ds, 0 ≤ d ∧ d < (m : Int))
        ⟨none, c, [], rfl, s1, upd_same, rfl, fun d hd => by cases hd⟩ ?_ ?_
      · rintro i σ H' hi ⟨y4, c, ds, rfl, sm, hp, hl, hd⟩
        refine ⟨_, rfl, .inl ⟨rfl, _, SqL.of hp⟩, _, rfl, .inl ⟨_, rfl, _, rfl, _, _, rfl, rfl, (by omega : (0 : Int) < (m : Int)), p, _, _, rfl, rfl, hp, by rw [List.length_map]; exact small1000 (by omega), ?_⟩⟩
        refine ⟨_, rfl, _, rfl, _, _, rfl, rfl, ⟨by omega, by omega⟩, ?_⟩
        exact ⟨_, c / (m : Int), ds ++ [c % (m : Int)], rfl, same_put sm np, by rw [upd_same, List.map_append]; rfl, by rw [List.length_append, hl]; rfl, more c hd⟩
      · rintro σ H' ⟨y4, c, ds, rfl, sm, hp, hl, hd⟩
        exact ⟨_, rfl, q H' p ds sm np hp hl hd⟩
theorem scEds : FnScope ["cell", "most", "digits", "size", "found", "at", "u", "v"] ["cell", "most"] (defScope sEds) := ⟨rfl, rfl, rfl, by decide +kernel, rfl, by decide +kernel, by decide +kernel⟩
theorem ok_eds {f fD : Addr} {fd fdD : FuncData} (F : Fun K "_law_edges" "_law_edges" sEds f fd) (mr : mg "range" = none)
    (GD : FnOk P w K mg base CX0 2 fD fdD ["cell", "count", "many"] (spDig K)) (kD : PySem.W.keepIn K (.ref fD) = true) (bD : Binds K fdD ["cell", "count", "many"] []) (gD : mg "_law_digits" = some (.ref fD)) :
    FnOk P w K mg base CX0 3 f fd ["cell", "most"] (spEds K) := by
  refine F.ok scEds (fun vs H Q E h => ?_) (fun cdv A outer s H vs Q E hr h => ?_)
  · obtain ⟨c, m, rfl, _⟩ := h
    rfl
  · obtain ⟨c, m, rfl, hm, q⟩ := h
    have hr2 : Room 2 _ := hr.mono (by decide)
    refine ⟨_, pss_cons (ps_set (i := 2) scEds.nd rfl (.inl rfl) (pe_call GD hr2 (by rfl) gD kD bD .nil pass0 (pa_cons (pv 0) (pa_cons pe_int (pa_cons pe_int pa_nil)))))
      (pss_cons (ps_set (i := 3) scEds.nd rfl (.inl rfl) (pe_op op_mod (pe_ix ix_list (pv 2) pe_int (fun _ _ => rfl)) (pe_op op_add (pv 1) pe_int)))
      (pss_cons (ps_par (i := 4) (j := 5) (by rfl) scEds.nd rfl rfl (by decide) rfl rfl (pa_cons (pe_lst pa_nil) (pa_cons pe_int pa_nil)) (by rfl))
      (pss_cons (ps_for PassesOwn.never rfl (pi_range1 rfl mr (pa_cons (pv 3) pa_nil)) (pg_name (i := 6) scEds.nd rfl (.inl rfl))
        (pss_one (ps_for PassesOwn.never rfl (pi_range2 (by rfl) mr (pa_cons (pe_op op_add (pv 6) pe_int) (pa_cons (pv 3) pa_nil))) (pg_name (i := 7) scEds.nd rfl (.inl rfl))
          (pss_cons (ps_if (pt_cmpR op_lt (pe_op op_mod (pe_ix ix_list (pv 2) (pv 5) (fun _ _ => rfl)) pe_int) (pe_op op_add pe_int (pe_op op_mod (pe_ix ix_list (pv 2) pe_int (fun _ _ => rfl)) pe_int)) (nomark _))
            (pss_one (ps_expr (pe_bm PySem.F.plainAttrs_list PySem.F.slot_list_append PySem.F.type_list_append mt_append (pv 4) (pa_cons (pe_tup (pa_cons (pv 6) (pa_cons (pv 7) pa_nil))) pa_nil)))) pss_nil)
          (pss_one (ps_set (i := 5) scEds.nd rfl (.inl rfl) (pe_op op_add (pv 5) pe_int)))))))
      (pss_one (ps_ret (pe_tup (pa_cons (pv 3) (pa_cons (pv 4) pa_nil)))))))), ?_⟩
    refine ⟨_, rfl, c, 40, 60, rfl, by decide, by decide, by decide, fun H1 d ds s1 nd hd1 hdl hdd => ?_⟩
    have dget : ∀ k : Nat, k < 40 → ∃ x, (ds.map V.int)[k]? = some (.int x) := fun k hk => ⟨_, by rw [List.getElem?_map, List.getElem?_eq_getElem (by omega)]; rfl⟩
    obtain ⟨x0, hx0⟩ := dget 0 (by decide)
    obtain ⟨x1, hx1⟩ := dget 1 (by decide)
    refine ⟨_, rfl, d, _, 0, _, rfl, rfl, SqL.of hd1, at_nat (k := 0) hx0, _, rfl, _, _, rfl, rfl, _, _, rfl, rfl, (by omega : (0 : Int) < (m : Int) + 1), ?_⟩
    obtain ⟨n, hn, hnm⟩ : ∃ n : Nat, x0 % ((m : Int) + 1) = n ∧ n ≤ m := by
      have a := Int.emod_nonneg x0 (show ((m : Int) + 1) ≠ 0 by omega)
      have b := Int.emod_lt_of_pos x0 (show (0 : Int) < (m : Int) + 1 by omega)
      exact ⟨(x0 % ((m : Int) + 1)).toNat, by omega, by omega⟩
    dsimp only
    rw [hn]
    refine ⟨Nat.zero_le _, fun p np => ⟨_, _, rfl, ?_⟩⟩
    have s2 := same_upd (o := .lst []) np
    have npH := s1.free np
    have few := pairs_few (n := n) (by omega)
    refine ⟨_, rfl, n, rfl, by omega, by omega, ?_⟩
    have toNat : ((n : Nat) : Int).toNat = n := by omega
    rw [toNat]
    refine for_range (lo := 0) (n := n) (fun u σ H' => ∃ (y6 y7 : Option V) (as : List Addr) (es : List Pr), σ = [some (.int c), some (.int m), some (.ref d), some (.int n), some (.ref p), some (.int ((2 + ((List.range u).flatMap fun u => rowP n u).length : Nat) : Int)), y6, y7] ∧ Same H1 H' ∧ H' p = some (.lst (as.map V.ref)) ∧
      PairsAt K H' as es ∧ es.Sublist ((List.range u).flatMap fun u => rowP n u) ∧ ∀ a ∈ as, a ≠ p)
      ⟨none, none, [], [], rfl, s2, upd_same, .nil, List.Sublist.refl _, fun a ha => by cases ha⟩ ?_ ?_
    · rintro u σ H' hu ⟨y6, y7, as, es, rfl, sm, ep, pa, sub, na⟩
      refine ⟨_, rfl, _, _, rfl, rfl, _, rfl, (0 + (u : Int) + 1), n, rfl, ⟨by omega, by omega, by omega, by omega⟩, ?_⟩
      have toN : ((n : Int) - (0 + (u : Int) + 1)).toNat = n - (u + 1) := by omega
      rw [toN]
      refine for_range (lo := (0 + (u : Int) + 1)) (n := n - (u + 1)) (fun j σ H' => ∃ (y7 : Option V) (as : List Addr) (es : List Pr), σ = [some (.int c), some (.int m), some (.ref d), some (.int n), some (.ref p), some (.int ((2 + (((List.range u).flatMap fun u => rowP n u).length + ((rowP n u).take j).length) : Nat) : Int)), some (.int (0 + (u : Int))), y7] ∧ Same H1 H' ∧ H' p = some (.lst (as.map V.ref)) ∧
        PairsAt K H' as es ∧ es.Sublist (((List.range u).flatMap fun u => rowP n u) ++ (rowP n u).take j) ∧ ∀ a ∈ as, a ≠ p)
        ⟨_, as, es, rfl, sm, ep, pa, by rw [List.take_zero, List.append_nil]; exact sub, na⟩ ?_ ?_
      · rintro j σ H' hj ⟨y7, as, es, rfl, sm, ep, pa, sub, na⟩
        have pre := pairs_pre (n := n) (j := j + 1) hu
        have e1 : (rowP n u)[j]? = some ((u : Int), ((u + 1 + j : Nat) : Int)) := by
          unfold rowP
          rw [List.getElem?_map, List.getElem?_range hj]
          rfl
        have tk : (rowP n u).take (j + 1) = (rowP n u).take j ++ [((u : Int), ((u + 1 + j : Nat) : Int))] := L2.take_next e1
        rw [tk, List.length_append, List.length_singleton] at pre
        have hd' := sm _ _ hd1
        obtain ⟨xa, hxa⟩ := dget (2 + (((List.range u).flatMap fun u => rowP n u).length + ((rowP n u).take j).length)) (by omega)
        have nxt : ((2 + (((List.range u).flatMap fun u => rowP n u).length + ((rowP n u).take j).length) : Nat) : Int) + 1 = ((2 + (((List.range u).flatMap fun u => rowP n u).length + ((rowP n u).take (j + 1)).length) : Nat) : Int) := by
          rw [tk, List.length_append, List.length_singleton]
          omega
        refine ⟨_, rfl, _, rfl, d, _, _, _, rfl, rfl, SqL.of hd', at_nat hxa, _, _, rfl, rfl, (by show (0 : Int) < 6; decide), ?_⟩
        refine ⟨_, rfl, d, _, 1, _, rfl, rfl, SqL.of hd', at_nat (k := 1) hx1, _, _, rfl, rfl, (by show (0 : Int) < 5; decide), _, _, rfl, rfl, _, _, rfl, rfl, _, rfl, ?_⟩
        refine ite2 (fun _ => ?_) (fun _ => ?_)
        · refine ⟨_, rfl, .inl ⟨rfl, _, SqL.of ep⟩, _, rfl, _, rfl, (by show 2 ≤ sizeLine; decide), fun t nt => ?_⟩
          have pt : p ≠ t := fun z => by rw [← z, ep] at nt; cases nt
          have st : Same H' (upd H' t (.tup [.int (0 + (u : Int)), .int (0 + (u : Int) + 1 + (j : Int))])) := same_upd nt
          have len : as.length ≤ 36 := by
            have z := pa.length
            have z2 := sub.length_le
            rw [List.length_append] at z2
            omega
          refine ⟨p, _, _, rfl, rfl, st _ _ ep, by rw [List.length_map]; exact small1000 (by omega), ?_⟩
          have bt : But p H' (upd (upd H' t (.tup [.int (0 + (u : Int)), .int (0 + (u : Int) + 1 + (j : Int))])) p (.lst (as.map V.ref ++ [.ref t]))) := (Same.but st).put
          refine ⟨_, rfl, _, _, rfl, rfl, ?_⟩
          refine ⟨_, as ++ [t], es ++ [((u : Int), ((u + 1 + j : Nat) : Int))], (by rw [← nxt]; rfl), same_put (same_put sm (sm.free nt)) np, by rw [upd_same, List.map_append]; rfl, ?_, ?_, fun a ha => ?_⟩
          · refine PairsAt.snoc ?_ (bt.pairs ep pa)
            refine SqT.of ?_
            rw [upd_ne pt.symm, upd_same]
            have a1 : (0 : Int) + (u : Int) = (u : Int) := by omega
            have a2 : (u : Int) + 1 + (j : Int) = ((u + 1 + j : Nat) : Int) := by omega
            rw [a1, a2]
          · rw [tk, ← List.append_assoc]
            exact sub.append (List.Sublist.refl _)
          · rcases List.mem_append.mp ha with z | z
            · exact na a z
            · rw [List.mem_singleton.mp z]; exact pt.symm
        · refine ⟨_, rfl, _, _, rfl, rfl, ?_⟩
          refine ⟨_, as, es, (by rw [← nxt]; rfl), sm, ep, pa, ?_, na⟩
          rw [tk, ← List.append_assoc]
          exact sub.trans (List.sublist_append_left _ _)
      · rintro σ H' ⟨y7, as, es, rfl, sm, ep, pa, sub, na⟩
        rw [List.take_of_length_le (by rw [rowP_len]; omega)] at sub ⊢
        refine ⟨some (.int (0 + (u : Int))), y7, as, es, ?_, sm, ep, pa, ?_, na⟩
        · rw [List.range_succ, List.flatMap_append, List.flatMap_singleton, List.length_append]
        · rw [List.range_succ, List.flatMap_append, List.flatMap_singleton]
          exact sub
    · rintro σ H' ⟨y6, y7, as, es, rfl, sm, ep, pa, sub, na⟩
      refine ⟨_, rfl, _, rfl, (by show 2 ≤ sizeLine; decide), fun r nr => ?_⟩
      have s3 := same_upd (o := .tup [.int n, .ref p]) nr
      exact q _ r p n as es (s1.trans (sm.trans s3)) upd_same (s3 _ _ ep) (pa.same s3) hnm sub
theorem scOrd : FnScope ["cell", "size", "left", "order", "digit"] ["cell", "size"] (defScope sOrd) := ⟨rfl, rfl, rfl, by decide +kernel, rfl, by decide +kernel, by decide +kernel⟩
theorem ok_ord {f fD : Addr} {fd fdD : FuncData} (F : Fun K "_law_order" "_law_order" sOrd f fd)
    (GD : FnOk P w K mg base CX0 2 fD fdD ["cell", "count", "many"] (spDig K)) (kD : PySem.W.keepIn K (.ref fD) = true) (bD : Binds K fdD ["cell", "count", "many"] []) (gD : mg "_law_digits" = some (.ref fD))
    (mli : mg "list" = none) (mr : mg "range" = none) (ml : mg "len" = none) :
    FnOk P w K mg base CX0 3 f fd ["cell", "size"] (spOrd K) := by
  refine F.ok scOrd (fun vs H Q E h => ?_) (fun cdv A outer s H vs Q E hr h => ?_)
  · obtain ⟨c, n, rfl, _⟩ := h
    rfl
  · obtain ⟨c, n, rfl, hn, q⟩ := h
    have hr2 : Room 2 _ := hr.mono (by decide)
    refine ⟨_, pss_cons (ps_par (i := 2) (j := 3) (by rfl) scOrd.nd rfl rfl (by decide) rfl rfl (pa_cons (pe_listRg rfl (by rfl) mli (prg_1 (by rfl) mr (pv 1))) (pa_cons (pe_lst pa_nil) pa_nil)) (by rfl))
      (pss_cons (ps_for PassesOwn.never rfl (pi_list (pe_call GD hr2 (by rfl) gD kD bD .nil pass0 (pa_cons (pv 0) (pa_cons (pv 1) (pa_cons pe_int pa_nil))))) (pg_name (i := 4) scOrd.nd rfl (.inl rfl))
        (pss_one (ps_expr (pe_bm PySem.F.plainAttrs_list PySem.F.slot_list_append PySem.F.type_list_append mt_append (pv 3)
          (pa_cons (pe_bm PySem.F.plainAttrs_list PySem.F.slot_list_pop PySem.F.type_list_pop mt_popAt (pv 2) (pa_cons (pe_op op_mod (pv 4) (pe_callB call_len_seq (by rfl) ml PySem.boot_len (pa_cons (pv 2) pa_nil))) pa_nil)) pa_nil)))))
      (pss_one (ps_ret (pv 3)))), ?_⟩
    refine ⟨_, rfl, n, rfl, RgOk.of_le (by omega) (by omega) (by omega) (by omega), fun l nl => ⟨Nat.zero_le _, fun o no => ⟨_, _, rfl, ?_⟩⟩⟩
    have s1 := same_upd (o := .lst (rgV 0 (n : Int))) nl
    have s2 := same_upd (o := .lst []) no
    have lo : l ≠ o := fun z => by rw [← z, upd_same] at no; cases no
    have noH : H o = none := s1.free no
    refine ⟨_, rfl, _, rfl, c, n, 720, rfl, hn, by decide, by decide, fun H1 d ds s3 ndd hd1 hdl hdd => ?_⟩
    have hl1 := s3 _ _ (s2 _ _ (show (upd H l (.lst (rgV 0 (n : Int)))) l = _ from upd_same))
    have ho1 := s3 _ _ (show (upd (upd H l (.lst (rgV 0 (n : Int)))) o (.lst [])) o = _ from upd_same)
    have dl : d ≠ l := fun z => by rw [z, s2 _ _ (show (upd H l (.lst (rgV 0 (n : Int)))) l = _ from upd_same)] at ndd; cases ndd
    have do' : d ≠ o := fun z => by rw [z, upd_same] at ndd; cases ndd
    rw [rg_vxs] at hl1
    have ndH : H d = none := (s1.trans s2).free ndd
    refine ⟨d, rfl, ⟨_, SqL.of hd1⟩, for_list (K := K) (a := d) (xs := ds.map V.int) (fun t σ H' => ∃ (y4 : Option V) (os ls : List Int), σ = [some (.int c), some (.int n), some (.ref l), some (.ref o), y4] ∧ Same H H' ∧ H' d = some (.lst (ds.map V.int)) ∧ H' o = some (.lst (os.map V.int)) ∧ H' l = some (.lst (ls.map V.int)) ∧
      (os ++ ls).Perm (vxs n) ∧ ls.length + t = n) ⟨none, [], vxs n, rfl, (s1.trans s2).trans s3, hd1, ho1, hl1, List.Perm.refl _, by unfold vxs; rw [List.length_map, List.length_range]; rfl⟩ (fun t σ H' _ ⟨_, _, _, _, _, h, _⟩ => SqL.of h) ?_ ?_⟩
    · rintro t x σ H' hx ⟨y4, os, ls, rfl, sm, hd', ho, hl, pm, len⟩
      rw [List.getElem?_map] at hx
      cases ek : ds[t]? with
      | none => rw [ek] at hx; cases hx
      | some x =>
        rw [ek] at hx
        cases hx
        have ht : t < n := by rw [← hdl]; exact (List.getElem?_eq_some_iff.mp ek).1
        have lpos : 0 < ls.length := by omega
        refine ⟨_, rfl, .inl ⟨rfl, _, SqL.of ho⟩, _, rfl, .inl ⟨rfl, _, SqL.of hl⟩, ?_⟩
        refine ⟨_, rfl, _, rfl, l, _, rfl, .inl (SqL.of hl), _, _, rfl, rfl, (by show (0 : Int) < ((ls.map V.int).length : Int); rw [List.length_map]; omega), ?_⟩
        dsimp only
        rw [List.length_map]
        have m1 : 0 ≤ x % (ls.length : Int) := Int.emod_nonneg _ (by omega)
        have m2 : x % (ls.length : Int) < ls.length := Int.emod_lt_of_pos _ (by omega)
        obtain ⟨k, hk⟩ : ∃ k : Nat, x % (ls.length : Int) = k := ⟨(x % (ls.length : Int)).toNat, by omega⟩
        rw [hk] at m2 ⊢
        have kl : k < ls.length := by omega
        have ek2 : ls[k]? = some ls[k] := List.getElem?_eq_getElem kl
        have six : seqIndex? (k : Int) (ls.map V.int).length = some k := by
          unfold seqIndex?
          rw [List.length_map]
          simp
          omega
        refine ⟨l, _, (k : Int), k, .int ls[k], rfl, rfl, hl, by omega, by omega, six, by rw [List.getElem?_map, ek2]; rfl, ?_⟩
        have ev : (ls.map V.int).eraseIdx k = (ls.eraseIdx k).map V.int := by
          rw [List.eraseIdx_eq_take_drop_succ, List.eraseIdx_eq_take_drop_succ, List.map_append, List.map_take, List.map_drop]
        rw [ev]
        have lo2 : os.length ≤ n := by
          have z := pm.length_eq
          rw [List.length_append] at z
          unfold vxs at z
          rw [List.length_map, List.length_range] at z
          omega
        refine ⟨o, _, _, rfl, rfl, by rw [upd_ne lo.symm]; exact ho, by rw [List.length_map]; exact small1000 (by omega), ?_⟩
        refine ⟨_, os ++ [ls[k]], ls.eraseIdx k, rfl, same_put (same_put sm nl) noH, by rw [upd_ne do', upd_ne dl]; exact hd', by rw [upd_same, List.map_append]; rfl, by rw [upd_ne lo, upd_same], ?_, by rw [List.length_eraseIdx_of_lt kl]; omega⟩
        rw [List.append_assoc]
        exact (List.Perm.append_left os (erase_perm ek2)).trans pm
    · rintro σ H' ⟨y4, os, ls, rfl, sm, hd', ho, hl, pm, len⟩
      rw [List.length_map, hdl] at len
      have z : ls = [] := List.eq_nil_of_length_eq_zero (by omega)
      subst z
      rw [List.append_nil] at pm
      exact ⟨_, rfl, q H' o os sm noH ho pm⟩
end
end Sm

set_option Elab.async false
set_option linter.all false
set_option maxRecDepth 100000
set_option maxHeartbeats 4000000
namespace Sm
open PySem PySem.Spec PyProof.Rows L2
abbrev sNr : Stmt := topS 38
abbrev sLc : Stmt := topS 39
def nearR (n : Nat) (R : Rel) (u : Int) : List Int := (vxs n).filter fun v => R u v
theorem nearR_lt (n : Nat) (R : Rel) (u : Int) : (nearR n R u).Pairwise (· < ·) := (vxs_lt n).filter _
theorem mem_nearR {n : Nat} {R : Rel} (h : RelOk n R) {u v : Int} : v ∈ nearR n R u ↔ R u v = true := by
  unfold nearR
  rw [List.mem_filter, mem_vxs]
  exact ⟨fun z => z.2, fun z => ⟨(h.vx _ _ z).2, z⟩⟩
theorem nearR_len (n : Nat) (R : Rel) (u : Int) : (nearR n R u).length ≤ n := by
  unfold nearR
  refine Nat.le_trans (List.length_filter_le _ _) ?_
  unfold vxs
  rw [List.length_map, List.length_range]
  exact Nat.le_refl _
theorem lnear_R {n : Nat} {es : List Pr} (ok : ∀ q ∈ es, Okp n q) (u : Int) : (vxs n).filter (fun v => decide ((if v < u then v else u, if v > u then v else u) ∈ es)) = nearR n (r0 es) u := by
  unfold nearR
  refine List.filter_congr fun v hv => ?_
  rw [Bool.eq_iff_iff, decide_eq_true_eq, mm_mem ok, mem_near, r0_iff]
theorem inS_at {X : Cx} {K : PySem.W.Frag} (hK : X.K = K) : OpR X (compareOp .In) (rIn K false) := by
  subst hK
  exact op_in_seq
def spNr (K : PySem.W.Frag) : Sp := fun vs H Q _ => ∃ (n : Nat) (e : Addr) (as : List Addr) (es : List Pr), vs = [.int n, .ref e] ∧ n ≤ 60 ∧ SqL K H e (as.map V.ref) ∧ PairsAt K H as es ∧ (∀ q ∈ es, Okp n q) ∧
  ∀ (H' : Hp) (p : Addr) (ps : List Addr), Same H H' → H p = none → H' p = some (.lst (ps.map V.ref)) → (∀ a ∈ ps, a ≠ p) → ListsAt H' ps ((List.range n).map fun (u : Nat) => nearR n (r0 es) u) → Q (.ref p) H'
def spLc (K : PySem.W.Frag) : Sp := fun vs H Q _ => ∃ (n : Nat) (e t : Addr) (as : List Addr) (es : List Pr) (G : List Int), vs = [.int n, .ref e, .ref t] ∧ n ≤ 60 ∧ SqL K H e (as.map V.ref) ∧ PairsAt K H as es ∧ (∀ q ∈ es, Okp n q) ∧ SqT K H t (G.map V.int) ∧
  ∀ (H' : Hp) (f : Addr) (ps : List Addr), Same H H' → H f = none → H' f = some (.lst (ps.map V.ref)) → TupsAt K H' ps (compG n es G n) → Q (.ref f) H'
/-- who is left when all that the vertices below j reach is gone -/
structure Left (n : Nat) (es : List Pr) (G : List Int) (j : Nat) (ls : List Int) : Prop where
  srt : ls.Pairwise (· < ·)
  mem : ∀ v, v ∈ ls ↔ Vx n v ∧ v ∉ G ∧ ¬ ∃ w : Nat, w < j ∧ Rch (cutE es G) w v
theorem comp_skip {n : Nat} {es : List Pr} {G : List Int} {j : Nat} {ls : List Int} (L : Left n es G j ls) : ∀ d, (∀ u : Nat, j ≤ u → u < j + d → (u : Int) ∉ ls) → j + d ≤ n → compG n es G (j + d) = compG n es G j
  | 0, _, _ => rfl
  | d + 1, h, hn => by
    have ih := comp_skip L d (fun u a b => h u a (by omega)) (by omega)
    have z := h (j + d) (by omega) (by omega)
    rw [show j + (d + 1) = (j + d) + 1 by omega, compG_no, ih]
    by_cases c : ((j + d : Nat) : Int) ∈ G
    · exact .inl c
    · right
      have y : ∃ w : Nat, w < j ∧ Rch (cutE es G) w ((j + d : Nat) : Int) := Classical.byContradiction fun nx => z ((L.mem _).mpr ⟨by unfold Vx; omega, c, nx⟩)
      obtain ⟨w, hw, r⟩ := y
      exact ⟨w, by omega, r⟩
/-- the least one that is left begins the next component -/
theorem left_next {n : Nat} {es : List Pr} {G : List Int} {j : Nat} {ls : List Int} {x : Int} {r : List Int} (hj : j ≤ n) (L : Left n es G j ls) (e : ls = x :: r) :
    ∃ k : Nat, x = k ∧ j ≤ k ∧ k < n ∧ compG n es G (k + 1) = compG n es G j ++ [compL n (cutE es G) x] ∧ ∀ v, (Vx n v ∧ v ∉ G ∧ ¬ ∃ w : Nat, w < k + 1 ∧ Rch (cutE es G) w v) ↔ (v ∈ ls ∧ ¬ Rch (cutE es G) x v) := by
  have hx : x ∈ ls := by rw [e]; exact List.mem_cons_self
  obtain ⟨vx, xG, xn⟩ := (L.mem x).mp hx
  have least : ∀ y ∈ ls, x ≤ y := fun y hy => by
    rw [e] at hy
    rcases List.mem_cons.mp hy with z | z
    · omega
    · have s := L.srt
      rw [e] at s
      have := (List.pairwise_cons.mp s).1 y z
      omega
  obtain ⟨k, rfl⟩ : ∃ k : Nat, x = k := ⟨x.toNat, by unfold Vx at vx; omega⟩
  have kn : k < n := by unfold Vx at vx; omega
  have jk : j ≤ k := by
    by_cases c : j ≤ k
    · exact c
    · exact absurd ⟨k, by omega, .refl⟩ xn
  have sk : compG n es G k = compG n es G j := by
    have z := comp_skip L (k - j) (fun u a b hu => by have := least _ hu; omega) (by omega)
    rw [show j + (k - j) = k by omega] at z
    exact z
  have low : ∀ (w : Nat) (v : Int), w < k → Rch (cutE es G) w v → v ∉ G → ∃ w' : Nat, w' < j ∧ Rch (cutE es G) w' v := fun w v hw r vG => by
    by_cases c : w < j
    · exact ⟨w, c, r⟩
    · by_cases cg : (w : Int) ∈ G
      · have := r.stuck cg
        exact absurd (this ▸ cg) vG
      · have nl : (w : Int) ∉ ls := fun z => by have := least _ z; omega
        have y : ∃ w' : Nat, w' < j ∧ Rch (cutE es G) w' w := Classical.byContradiction fun nx => nl ((L.mem _).mpr ⟨by unfold Vx; omega, cg, nx⟩)
        obtain ⟨w', hw', r'⟩ := y
        exact ⟨w', hw', r'.trans r⟩
  refine ⟨k, rfl, jk, kn, ?_, fun v => ?_⟩
  · rw [compG_yes xG (fun ⟨w, hw, r⟩ => xn (low w _ hw r xG)), sk]
  · constructor
    · rintro ⟨h1, h2, h3⟩
      exact ⟨(L.mem v).mpr ⟨h1, h2, fun ⟨w, hw, r⟩ => h3 ⟨w, by omega, r⟩⟩, fun r => h3 ⟨k, by omega, r⟩⟩
    · rintro ⟨h1, h2⟩
      obtain ⟨a, b, c⟩ := (L.mem v).mp h1
      refine ⟨a, b, fun ⟨w, hw, r⟩ => ?_⟩
      by_cases cw : w = k
      · subst cw
        exact h2 r
      · exact c (low w v (by omega) r b)
section
variable {P : Program} {w : World} {K : PySem.W.Frag} {mg : Str → Option Value} {base : Heap}
abbrev nrN : List Str := ["size", "edges", "near", "u", "v"]
theorem scNr : FnScope nrN ["size", "edges"] (defScope sNr) := ⟨rfl, rfl, rfl, by decide +kernel, rfl, by decide +kernel, by decide +kernel⟩
theorem ok_nr {f : Addr} {fd : FuncData} (F : Fun K "_law_near" "_law_near" sNr f fd) (mr : mg "range" = none) (mi : mg "min" = none) (mx : mg "max" = none) : FnOk P w K mg base CX0 1 f fd ["size", "edges"] (spNr K) := by
  refine F.ok scNr (fun vs H Q E h => ?_) (fun cdv A outer s H vs Q E hr h => ?_)
  · obtain ⟨n, e, as, es, rfl, _⟩ := h
    rfl
  · obtain ⟨n, e, as, es, rfl, hn, hE, hP, ok, q⟩ := h
    have toNat : ((n : Nat) : Int).toNat = n := by omega
    refine ⟨_, pss_cons (ps_set (i := 2) scNr.nd rfl (.inl rfl) (pe_lst pa_nil))
      (pss_cons (ps_for PassesOwn.never rfl (pi_range1 rfl mr (pa_cons (pv 0) pa_nil)) (pg_name (i := 3) scNr.nd rfl (.inr rfl))
        (pss_one (ps_expr (pe_bm PySem.F.plainAttrs_list PySem.F.slot_list_append PySem.F.type_list_append mt_append (pv 2)
          (pa_cons (pe_lc (own := [("v", 4)]) (g := gName 4) (by rfl) scNr.nd (pi_range1 rfl mr (pa_cons (pv 0) pa_nil)) (blkOk_by (own := [("v", 4)]) (N := nrN) (sc := defScope sNr) (by decide +kernel)) (fun _ _ _ _ _ => pg_name (i := 4) scNr.nd rfl (Or.inl rfl))
            (fun _ _ _ _ _ => pts_one (pt_cmpR (inD_at rfl rfl (u65 hr)) (pe_tup (pa_cons (pe_callB (call_min2 rfl) (by rfl) mi (by decide +kernel) (pa_cons (pv 3) (pa_cons (pv 4) pa_nil))) (pa_cons (pe_callB (call_max2 rfl) (by rfl) mx (by decide +kernel) (pa_cons (pv 3) (pa_cons (pv 4) pa_nil))) pa_nil))) (pv 1) (by rfl)))
            (fun _ _ _ _ _ => pv 4)) pa_nil)))))
      (pss_one (ps_ret (pv 2)))), ?_⟩
    refine ⟨Nat.zero_le _, fun p np => ?_⟩
    have s1 := same_upd (o := .lst []) np
    refine ⟨_, rfl, n, rfl, by omega, by omega, ?_⟩
    rw [toNat]
    refine for_range (lo := 0) (n := n) (fun u σ H' => ∃ (y3 : Option V) (ps : List Addr), σ = [some (.int n), some (.ref e), some (.ref p), y3, none] ∧ Same H H' ∧ H' p = some (.lst (ps.map V.ref)) ∧ (∀ a ∈ ps, a ≠ p) ∧ ListsAt H' ps ((List.range u).map fun (u : Nat) => nearR n (r0 es) u))
      ⟨none, [], rfl, s1, upd_same, (fun a ha => by cases ha), .nil⟩ ?_ ?_
    · rintro u σ H' hu ⟨y3, ps, rfl, sm, hp, na, pl⟩
      have e0 : (0 : Int) + (u : Int) = (u : Int) := by omega
      rw [e0]
      refine ⟨_, rfl, .inl ⟨rfl, _, SqL.of hp⟩, _, rfl, n, rfl, by omega, by omega, fun D nD => ?_⟩
      rw [toNat]
      have pD' : p ≠ D := fun z => by rw [← z, hp] at nD; cases nD
      refine lc_range (lo := 0) (n := n) (fun m H7 => Same H' H7 ∧ H7 D = some (.lst ((((vxs n).take m).filter fun v => decide ((if v < (u : Int) then v else (u : Int), if v > (u : Int) then v else (u : Int)) ∈ es)).map V.int))) ⟨same_upd nD, upd_same⟩ ?_ ?_
      · rintro m H7 hm ⟨s7, hD⟩
        have e1 : (0 : Int) + (m : Int) = (m : Int) := by omega
        rw [e1]
        have sH7 := sm.trans s7
        have ek : (vxs n)[m]? = some (m : Int) := by
          unfold vxs
          rw [List.getElem?_map, List.getElem?_range hm]
          rfl
        have tk := L2.take_next ek
        refine ⟨rfl, _, rfl, _, rfl, _, _, rfl, _, rfl, _, rfl, _, _, rfl, (by show 2 ≤ sizeLine; decide), fun t nt => ?_⟩
        have st := same_upd (o := .tup [V.int (if (m : Int) < (u : Int) then (m : Int) else (u : Int)), V.int (if (m : Int) > (u : Int) then (m : Int) else (u : Int))]) nt
        refine ⟨_, rfl, pD (if (m : Int) < (u : Int) then (m : Int) else (u : Int), if (m : Int) > (u : Int) then (m : Int) else (u : Int)), es.map pD, dp_pair (SqT.of upd_same), .lst ((sH7.trans st).seq hE) (dp_pairs (hP.same (sH7.trans st))), pD_shaped _, pDs_shapedL _, _, rfl, ?_⟩
        rw [pDs_any]
        by_cases c : (if (m : Int) < (u : Int) then (m : Int) else (u : Int), if (m : Int) > (u : Int) then (m : Int) else (u : Int)) ∈ es
        · rw [decide_eq_true c]
          refine iteT ⟨_, rfl, _, st _ _ hD, ?_, same_put (s7.trans st) nD, ?_⟩
          · rw [List.length_map]
            have z1 := List.length_filter_le (fun v => decide ((if v < (u : Int) then v else (u : Int), if v > (u : Int) then v else (u : Int)) ∈ es)) ((vxs n).take m)
            have z2 : ((vxs n).take m).length ≤ m := by rw [List.length_take]; omega
            exact small1000 (by omega)
          · rw [upd_same, tk, List.filter_append, List.map_append, flt1 (p := fun v : Int => decide ((if v < (u : Int) then v else (u : Int), if v > (u : Int) then v else (u : Int)) ∈ es)) (a := (m : Int)) (decide_eq_true c)]
            rfl
        · rw [decide_eq_false c]
          refine iteF ⟨s7.trans st, ?_⟩
          rw [st _ _ hD, tk, List.filter_append, flt0 (p := fun v : Int => decide ((if v < (u : Int) then v else (u : Int), if v > (u : Int) then v else (u : Int)) ∈ es)) (a := (m : Int)) (decide_eq_false c), List.append_nil]
      · rintro H7 ⟨s7, hD⟩
        have vl : (vxs n).length = n := by unfold vxs; rw [List.length_map, List.length_range]
        rw [List.take_of_length_le (by omega), lnear_R ok] at hD
        have psl : ps.length ≤ 60 := by
          have z := pl.length
          rw [List.length_map, List.length_range] at z
          omega
        refine ⟨p, _, _, rfl, rfl, s7 _ _ hp, by rw [List.length_map]; exact small1000 (by omega), ?_⟩
        refine ⟨_, ps ++ [D], rfl, same_put (sm.trans s7) np, by rw [upd_same, List.map_append]; rfl, fun a ha => ?_, ?_⟩
        · rcases List.mem_append.mp ha with z | z
          · exact na a z
          · rw [List.mem_singleton.mp z]; exact pD'.symm
        · rw [List.range_succ, List.map_append, List.map_singleton]
          exact ListsAt.snoc (by rw [upd_ne pD'.symm]; exact hD) (ListsAt.keep2 (f := p) (fun b c ne e => by rw [upd_ne ne]; exact s7 _ _ e) na pl)
    · rintro σ H' ⟨y3, ps, rfl, sm, hp, na, pl⟩
      exact ⟨_, rfl, q H' p ps sm np hp na pl⟩
end
end Sm

set_option Elab.async false
set_option linter.all false
set_option maxRecDepth 100000
set_option maxHeartbeats 4000000
namespace Sm
open PySem PySem.Spec PyProof.Rows L2
section
variable {P : Program} {w : World} {K : PySem.W.Frag} {mg : Str → Option Value} {base : Heap}
abbrev lcN : List Str := ["size", "edges", "gone", "near", "left", "found", "turn", "piece", "k", "v"]
theorem scLc : FnScope lcN ["size", "edges", "gone"] (defScope sLc) := ⟨rfl, rfl, rfl, by decide +kernel, rfl, by decide +kernel, by decide +kernel⟩
theorem flt_take {l : List Int} {p : Int → Bool} {i : Nat} {k : Int} (h : l[i]? = some k) : (l.take (i + 1)).filter p = (l.take i).filter p ++ (if p k = true then [k] else []) := by
  rw [L2.take_next h, List.filter_append, List.filter_cons, List.filter_nil]
theorem flt_few {l : List Int} {p : Int → Bool} {i m : Nat} (h : l.length ≤ m) (hm : m ≤ 200) : (((l.take i).filter p).map V.int).length < sizeLine := by
  rw [List.length_map]
  refine small1000 ?_
  have := List.length_filter_le p (l.take i)
  rw [List.length_take] at this
  omega
theorem ok_lc {f fN : Addr} {fd fdN : FuncData} (F : Fun K "_law_components" "_law_components" sLc f fd)
    (GN : FnOk P w K mg base CX0 1 fN fdN ["size", "edges"] (spNr K)) (kN : PySem.W.keepIn K (.ref fN) = true) (bN : Binds K fdN ["size", "edges"] []) (gN : mg "_law_near" = some (.ref fN))
    (mr : mg "range" = none) (ml : mg "len" = none) (mt : mg "tuple" = none) (ms : mg "sorted" = none) :
    FnOk P w K mg base CX0 2 f fd ["size", "edges", "gone"] (spLc K) := by
  refine F.ok scLc (fun vs H Q E h => ?_) (fun cdv A outer s H vs Q E hr h => ?_)
  · obtain ⟨n, e, t, as, es, G, rfl, _⟩ := h
    rfl
  · obtain ⟨n, e, t, as, es, G, rfl, hn, hE, hP, ok, hT, q⟩ := h
    have hr1 : Room 1 _ := hr.mono (by decide)
    have toNat : ((n : Nat) : Int).toNat = n := by omega
    have RO : RelOk n (r0 es) := relOk ok (fun _ => 0) 0
    refine ⟨_, pss_cons (ps_set (i := 3) scLc.nd rfl (.inl rfl) (pe_call GN hr1 (by rfl) gN kN bN .nil pass0 (pa_cons (pv 0) (pa_cons (pv 1) pa_nil))))
      (pss_cons (ps_asg (pe_tup (pa_cons (pe_lc (own := [("v", 9)]) (g := gName 9) (by rfl) scLc.nd (pi_range1 rfl mr (pa_cons (pv 0) pa_nil)) (blkOk_by (own := [("v", 9)]) (N := lcN) (sc := defScope sLc) (by decide +kernel)) (fun _ _ _ _ _ => pg_name (i := 9) scLc.nd rfl (Or.inl rfl))
            (fun _ _ _ _ _ => pts_one (pt_cmpR (notInS_at rfl) (pv 9) (pv 2) (by rfl))) (fun _ _ _ _ _ => pv 9)) (pa_cons (pe_lst pa_nil) pa_nil)))
          (pg_tup rfl (pgs_cons (pg_name (i := 4) scLc.nd rfl (.inr rfl)) (pgs_cons (pg_name (i := 5) scLc.nd rfl (.inl rfl)) pgs_nil))))
      (pss_cons (ps_for PassesOwn.never rfl (pi_range1 rfl mr (pa_cons (pv 0) pa_nil)) (pg_name (i := 6) scLc.nd rfl (.inl rfl))
        (pss_one (ps_if (pt_cmpR op_gt (pe_callB call_len_seq (by rfl) ml PySem.boot_len (pa_cons (pv 4) pa_nil)) pe_int (nomark _))
          (pss_cons (ps_set (i := 7) scLc.nd rfl (.inr rfl) (pe_lst (pa_cons (pe_ix ix_list (pv 4) pe_int (fun _ _ => rfl)) pa_nil)))
          (pss_cons (ps_for PassesOwn.never rfl (pi_range1 rfl mr (pa_cons (pv 0) pa_nil)) (pg_name (i := 8) scLc.nd rfl (.inl rfl))
            (pss_one (ps_if (pt_cmpR op_lt (pv 8) (pe_callB call_len_seq (by rfl) ml PySem.boot_len (pa_cons (pv 7) pa_nil)) (nomark _))
              (pss_one (ps_set (i := 7) scLc.nd rfl (.inr rfl) (pe_op op_cat (pv 7) (pe_lc (own := [("v", 9)]) (g := gName 9) (by rfl) scLc.nd (pi_list (pe_ix ix_list (pv 3) (pe_ix ix_list (pv 7) (pv 8) (fun _ _ => rfl)) (fun _ _ => rfl))) (blkOk_by (own := [("v", 9)]) (N := lcN) (sc := defScope sLc) (by decide +kernel)) (fun _ _ _ _ _ => pg_name (i := 9) scLc.nd rfl (Or.inl rfl))
                (fun _ _ _ _ _ => pts_one (PW.pt (pw_and (pt_cmpR (inS_at rfl) (pv 9) (pv 4) (by rfl)) (pw_and1 (pt_cmpR (notInS_at rfl) (pv 9) (pv 7) (by rfl)))))) (fun _ _ _ _ _ => pv 9))))) pss_nil)))
          (pss_cons (ps_expr (pe_bm PySem.F.plainAttrs_list PySem.F.slot_list_append PySem.F.type_list_append mt_append (pv 5) (pa_cons (pe_callTy call_tuple_of (by rfl) mt (by decide +kernel) (pa_cons (pe_callB cr_sortedI (by rfl) ms (by decide +kernel) (pa_cons (pv 7) pa_nil)) pa_nil)) pa_nil)))
          (pss_one (ps_set (i := 4) scLc.nd rfl (.inr rfl) (pe_lc (own := [("v", 9)]) (g := gName 9) (by rfl) scLc.nd (pi_list (pv 4)) (blkOk_by (own := [("v", 9)]) (N := lcN) (sc := defScope sLc) (by decide +kernel)) (fun _ _ _ _ _ => pg_name (i := 9) scLc.nd rfl (Or.inl rfl))
            (fun _ _ _ _ _ => pts_one (pt_cmpR (notInS_at rfl) (pv 9) (pv 7) (by rfl))) (fun _ _ _ _ _ => pv 9))))))) pss_nil)))
      (pss_one (ps_ret (pv 5))))), ?_⟩
    refine ⟨_, rfl, _, rfl, n, e, as, es, rfl, hn, hE, hP, ok, fun H1 nr nps s1 nnr hnr nna npl => ?_⟩
    -- who is left at first
    refine ⟨_, rfl, n, rfl, by omega, by omega, fun l0 nl0 => ?_⟩
    rw [toNat]
    refine lc_range (lo := 0) (n := n) (fun m H7 => Same H1 H7 ∧ H7 l0 = some (.lst ((((vxs n).take m).filter fun v => decide (v ∉ G)).map V.int))) ⟨same_upd nl0, upd_same⟩ ?_ ?_
    · rintro m H7 hm ⟨s7, hl⟩
      have e1 : (0 : Int) + (m : Int) = (m : Int) := by omega
      rw [e1]
      have ek : (vxs n)[m]? = some (m : Int) := by
        unfold vxs
        rw [List.getElem?_map, List.getElem?_range hm]
        rfl
      have vl : (vxs n).length ≤ n := by unfold vxs; rw [List.length_map, List.length_range]; exact Nat.le_refl _
      refine ⟨rfl, _, rfl, _, rfl, t, G.map V.int, rfl, .inr (same_sqT (s1.trans s7) hT), rfl, flat_ints _, _, rfl, iteNIn (fun c => ?_) (fun c => ?_)⟩
      · refine ⟨_, rfl, _, hl, flt_few vl (by omega), same_put s7 nl0, ?_⟩
        rw [upd_same, flt_take ek, if_pos (decide_eq_true c), List.map_append]
        rfl
      · refine ⟨s7, ?_⟩
        rw [flt_take ek, if_neg (by simp [c]), List.append_nil]
        exact hl
    rintro H2 ⟨s2, hl0⟩
    have vl : (vxs n).length = n := by unfold vxs; rw [List.length_map, List.length_range]
    rw [List.take_of_length_le (by omega)] at hl0
    refine ⟨Nat.zero_le _, fun f1 nf1 => ⟨(by show 2 ≤ sizeLine; decide), fun T1 nT1 => ?_⟩⟩
    have u1 := same_upd (o := .lst []) nf1
    have u2 := same_upd (o := .tup [V.ref l0, V.ref f1]) nT1
    have fT : f1 ≠ T1 := fun z => by rw [← z, upd_same] at nT1; cases nT1
    have nf1H : H f1 = none := (s1.trans s2).free nf1
    refine ⟨T1, _, rfl, SqT.of upd_same, rfl, _, _, rfl, _, _, rfl, rfl, ?_⟩
    have hf1 : (upd (upd H2 f1 (.lst [])) T1 (.tup [V.ref l0, V.ref f1])) f1 = some (.lst []) := by rw [upd_ne fT, upd_same]
    have hl1 := u2 _ _ (u1 _ _ hl0)
    have s3 := s1.trans (s2.trans (u1.trans u2))
    have s3' := s2.trans (u1.trans u2)
    have nf1N : H1 f1 = none := s2.free nf1
    generalize (upd (upd H2 f1 (.lst [])) T1 (.tup [V.ref l0, V.ref f1])) = H3 at hf1 hl1 s3 s3' ⊢
    have L0 : Left n es G 0 ((vxs n).filter fun v => decide (v ∉ G)) := ⟨(vxs_lt n).filter _, fun v => by
      rw [List.mem_filter, mem_vxs, decide_eq_true_eq]
      exact ⟨fun h => ⟨h.1, h.2, fun ⟨w, hw, _⟩ => by omega⟩, fun h => ⟨h.1, h.2.1⟩⟩⟩
    refine ⟨_, rfl, n, rfl, by omega, by omega, ?_⟩
    rw [toNat]
    refine for_range (lo := 0) (n := n) (fun i σ H' => ∃ (y6 y7 y8 : Option V) (l : Addr) (ls : List Int) (ps : List Addr) (j : Nat), σ = [some (.int n), some (.ref e), some (.ref t), some (.ref nr), some (.ref l), some (.ref f1), y6, y7, y8, none] ∧ Same H1 H' ∧ l ≠ f1 ∧ H' l = some (.lst (ls.map V.int)) ∧ H' f1 = some (.lst (ps.map V.ref)) ∧
      j ≤ n ∧ Left n es G j ls ∧ TupsAt K H' ps (compG n es G j) ∧ (i ≤ j ∨ ls = []))
      ⟨none, none, none, l0, _, [], 0, rfl, s3', (fun z => by rw [z] at hl0; rw [hl0] at nf1; cases nf1), hl1, hf1, Nat.zero_le _, L0, .nil, .inl (Nat.le_refl _)⟩ ?_ ?_
    · rintro i σ H' hi ⟨y6, y7, y8, l, ls, ps, j, rfl, sm, lf, hl, hf, hj, L, pt, hij⟩
      have lsn : ls.length ≤ n := few_vx (List.Pairwise.imp (fun {a b} h e => by omega) L.srt) fun k hk => ((L.mem k).mp hk).1
      refine ⟨_, rfl, l, _, rfl, .inl (SqL.of hl), _, _, rfl, rfl, _, rfl, ?_⟩
      cases hls : ls with
      | nil =>
        subst hls
        refine iteD (by simp) ?_
        exact ⟨_, _, _, l, [], ps, j, rfl, sm, lf, hl, hf, hj, L, pt, .inr rfl⟩
      | cons x r =>
        rw [← hls]
        refine iteY (by rw [hls]; simp) ?_
        obtain ⟨k, rfl, jk, kn, hcomp, hmem⟩ := left_next hj L hls
        have hx : (k : Int) ∈ ls := by rw [hls]; exact List.mem_cons_self
        obtain ⟨vk, kG, knr⟩ := (L.mem _).mp hx
        have x0 : (ls.map V.int)[0]? = some (.int (k : Int)) := by rw [hls]; rfl
        have okc : ∀ q ∈ cutE es G, Okp n q := fun q hq => ok q (mem_cutE.mp hq).1
        refine ⟨_, rfl, l, _, 0, _, rfl, rfl, SqL.of hl, at_nat (k := 0) x0, (by show 1 ≤ sizeLine; decide), fun p0 np0 => ?_⟩
        have v1 := same_upd (o := .lst [V.int (k : Int)]) np0
        have hp0 : (upd H' p0 (.lst [V.int (k : Int)])) p0 = some (.lst ([(k : Int)].map V.int)) := upd_same
        have smA : Same H' (upd H' p0 (.lst [V.int (k : Int)])) := v1
        generalize (upd H' p0 (.lst [V.int (k : Int)])) = HA at hp0 smA ⊢
        refine ⟨_, rfl, n, rfl, by omega, by omega, ?_⟩
        rw [toNat]
        -- the piece
        refine for_range (lo := 0) (n := n) (fun d σ H5 => ∃ (y8 : Option V) (p : Addr) (pc : List Int), σ = [some (.int n), some (.ref e), some (.ref t), some (.ref nr), some (.ref l), some (.ref f1), some (.int (0 + (i : Int))), some (.ref p), y8, none] ∧ Same H' H5 ∧ H5 p = some (.lst (pc.map V.int)) ∧
          pc.Nodup ∧ (k : Int) ∈ pc ∧ (∀ v ∈ pc, v ∈ ls ∧ Rch (cutE es G) k v) ∧ ∀ y ∈ pc.take d, ∀ v ∈ nearOf es y, v ∈ ls → v ∈ pc)
          ⟨_, p0, [(k : Int)], rfl, smA, hp0, by simp, List.mem_singleton.mpr rfl, fun v hv => by rw [List.mem_singleton.mp hv]; exact ⟨hx, .refl⟩, fun y hy => by rw [List.take_zero] at hy; cases hy⟩ ?_ ?_
        · rintro d σ H5 hd ⟨y8, p, pc, rfl, s5, hp, nd, hkp, hpc, hcl⟩
          have e0 : (0 : Int) + (d : Int) = (d : Int) := by omega
          rw [e0]
          have pcn : pc.length ≤ n := few_vx nd fun v hv => ((L.mem v).mp (hpc v hv).1).1
          refine ⟨_, rfl, _, rfl, p, _, rfl, .inl (SqL.of hp), _, _, rfl, rfl, _, rfl, ?_⟩
          refine ite2 (fun c => ?_) (fun c => ?_)
          · have hdl : d < pc.length := by
              have z := of_decide_eq_true c
              rw [List.length_map] at z
              omega
            have ey : pc[d]? = some pc[d] := List.getElem?_eq_getElem hdl
            generalize pc[d] = y at ey
            have ymem := List.mem_of_getElem? ey
            have vy := ((L.mem y).mp (hpc y ymem).1).1
            obtain ⟨u, rfl⟩ : ∃ u : Nat, y = u := ⟨y.toNat, by unfold Vx at vy; omega⟩
            have hu : u < n := by unfold Vx at vy; omega
            have py : (pc.map V.int)[d]? = some (.int (u : Int)) := by rw [List.getElem?_map, ey]; rfl
            have nl := npl.length
            rw [List.length_map, List.length_range] at nl
            obtain ⟨na, hna⟩ : ∃ a, nps[u]? = some a := ⟨_, List.getElem?_eq_getElem (by omega)⟩
            have gna : (nps.map V.ref)[u]? = some (.ref na) := by rw [List.getElem?_map, hna]; rfl
            obtain ⟨c2, hc2, hca⟩ := paired_get npl hna
            have ec : c2 = nearR n (r0 es) u := by
              rw [List.getElem?_map, List.getElem?_range hu] at hc2
              exact (Option.some.inj hc2).symm
            subst ec
            have sG := sm.trans s5
            have hnrl := nearR_len n (r0 es) u
            have hl5 := s5 _ _ hl
            refine ⟨_, rfl, _, rfl, _, rfl, _, rfl, p, _, d, _, rfl, rfl, SqL.of hp, at_nat py, nr, _, u, _, rfl, rfl, SqL.of (sG _ _ hnr), at_nat gna, na, rfl, ⟨_, SqL.of (sG _ _ hca)⟩, fun D nD => ?_⟩
            refine lc_list (K := K) (a := na) (xs := (nearR n (r0 es) u).map V.int) (fun m H7 => Same H5 H7 ∧ H7 D = some (.lst ((((nearR n (r0 es) u).take m).filter fun v => decide (v ∈ ls) && decide (v ∉ pc)).map V.int))) ⟨same_upd nD, upd_same⟩ (fun m H7 _ h => SqL.of (h.1 _ _ (sG _ _ hca))) ?_ ?_
            · rintro m x H7 hx7 ⟨s7, hD⟩
              rw [List.getElem?_map] at hx7
              cases ez : (nearR n (r0 es) u)[m]? with
              | none => rw [ez] at hx7; cases hx7
              | some z =>
                rw [ez] at hx7
                cases hx7
                have no : ∀ {b : Bool}, (decide (z ∈ ls) && decide (z ∉ pc)) = b → b = false → Same H5 H7 ∧ H7 D = some (.lst ((((nearR n (r0 es) u).take (m + 1)).filter fun v => decide (v ∈ ls) && decide (v ∉ pc)).map V.int)) := fun h1 h2 => by
                  refine ⟨s7, ?_⟩
                  rw [flt_take ez, h1, h2]
                  simp only [Bool.false_eq_true, if_false, List.append_nil]
                  exact hD
                refine ⟨rfl, _, rfl, _, rfl, l, ls.map V.int, rfl, .inl (SqL.of (s7 _ _ hl5)), rfl, flat_ints _, _, rfl, iteIn (fun c1 => ?_) (fun c1 => iteF (no rfl (by simp [c1])))⟩
                refine ⟨_, rfl, _, rfl, p, pc.map V.int, rfl, .inl (SqL.of (s7 _ _ hp)), rfl, flat_ints _, _, rfl, iteNIn (fun c2 => ?_) (fun c2 => no rfl (by simp [c2]))⟩
                refine ⟨_, rfl, _, hD, flt_few hnrl (by omega), same_put s7 nD, ?_⟩
                rw [upd_same, flt_take ez, if_pos (by simp [c1, c2]), List.map_append]
                rfl
            · rintro H7 ⟨s7, hD⟩
              rw [List.length_map, List.take_length] at hD
              have tl := List.length_filter_le (fun v => decide (v ∈ ls) && decide (v ∉ pc)) (nearR n (r0 es) u)
              refine ⟨p, D, _, _, rfl, rfl, s7 _ _ hp, hD, ?_, fun p2 np2 => ?_⟩
              · rw [List.length_map, List.length_map, sizeLine_eq]
                omega
              have mnew : ∀ v, v ∈ (nearR n (r0 es) u).filter (fun v => decide (v ∈ ls) && decide (v ∉ pc)) ↔ v ∈ nearOf es u ∧ v ∈ ls ∧ v ∉ pc := fun v => by
                rw [List.mem_filter, Bool.and_eq_true, decide_eq_true_eq, decide_eq_true_eq, mem_nearR RO, r0_iff, mem_near]
              have hy := hpc _ ymem
              refine ⟨_, p2, pc ++ (nearR n (r0 es) u).filter (fun v => decide (v ∈ ls) && decide (v ∉ pc)), rfl, same_put (s5.trans s7) ((s5.trans s7).free np2), by rw [upd_same, List.map_append], ?_, List.mem_append_left _ hkp, fun v hv => ?_, fun y hy2 v hv1 hv2 => ?_⟩
              · refine List.nodup_append.mpr ⟨nd, List.Pairwise.imp (fun {a b} h e => by omega) ((nearR_lt n _ _).filter _), fun a ha b hb e => ?_⟩
                subst e
                exact ((mnew _).mp hb).2.2 ha
              · rcases List.mem_append.mp hv with z | z
                · exact hpc v z
                · obtain ⟨a1, a2, a3⟩ := (mnew v).mp z
                  exact ⟨a2, .step hy.2 (near_cut.mpr ⟨a1, ((L.mem _).mp hy.1).2.1, ((L.mem v).mp a2).2.1⟩)⟩
              · rw [List.take_append_of_le_length (by omega), L2.take_next ey] at hy2
                rcases List.mem_append.mp hy2 with z | z
                · exact List.mem_append_left _ (hcl y z v hv1 hv2)
                · rw [List.mem_singleton.mp z] at hv1
                  by_cases c3 : v ∈ pc
                  · exact List.mem_append_left _ c3
                  · exact List.mem_append_right _ ((mnew v).mpr ⟨hv1, hv2, c3⟩)
          · refine ⟨_, p, pc, rfl, s5, hp, nd, hkp, hpc, fun y hy v hv1 hv2 => ?_⟩
            have hdl : pc.length ≤ d := by
              have z := of_decide_eq_false (Bool.eq_false_iff.mpr c)
              rw [List.length_map] at z
              omega
            rw [List.take_of_length_le (by omega)] at hy
            exact hcl y (by rw [List.take_of_length_le hdl]; exact hy) v hv1 hv2
        · rintro σ H5 ⟨y8, p, pc, rfl, s5, hp, nd, hkp, hpc, hcl⟩
          have pcn : pc.length ≤ n := few_vx nd fun v hv => ((L.mem v).mp (hpc v hv).1).1
          rw [List.take_of_length_le pcn] at hcl
          have mpc : ∀ v, v ∈ pc ↔ Rch (cutE es G) k v := fun v => by
            refine ⟨fun hv => (hpc v hv).2, fun hr2 => ?_⟩
            induction hr2 with
            | refl => exact hkp
            | @step a b hra hnb ih =>
              obtain ⟨h1, h2, h3⟩ := near_cut.mp hnb
              refine hcl a ih b h1 ((L.mem b).mpr ⟨near_vx ok h1, h3, fun ⟨w, hw, rw'⟩ => knr ⟨w, hw, ?_⟩⟩)
              exact rw'.trans (Rch.symm (.step hra hnb))
          have sG := sm.trans s5
          have hf5 := s5 _ _ hf
          have hl5 := s5 _ _ hl
          refine ⟨_, rfl, .inl ⟨rfl, _, SqL.of hf5⟩, _, rfl, p, pc, rfl, SqL.of hp, fun ns l2 pn le nl2 => ⟨l2, _, rfl, .inl ⟨SqL.of upd_same, fun T nT => ?_⟩⟩⟩
          have v2 := same_upd (o := .lst (ns.map V.int)) nl2
          have v3 := same_upd (o := .tup (ns.map V.int)) nT
          have hT9 : (upd (upd H5 l2 (.lst (ns.map V.int))) T (.tup (ns.map V.int))) T = some (.tup (ns.map V.int)) := upd_same
          have v4 := v2.trans v3
          generalize (upd (upd H5 l2 (.lst (ns.map V.int))) T (.tup (ns.map V.int))) = H7 at hT9 v4 ⊢
          have nse : ns = compL n (cutE es G) (k : Int) := lt_ext (lt_of_le le (pn.nodup_iff.mpr nd)) (compL_lt n _ _) fun v => by
            rw [pn.mem_iff, mpc, mem_compL okc vk]
          have psl : ps.length ≤ 60 := by
            have z := pt.length
            have c1 : (compG n es G j).length ≤ j := by
              unfold compG
              rw [List.length_map]
              exact Nat.le_trans (List.length_filter_le _ _) (by rw [List.length_range]; exact Nat.le_refl _)
            omega
          have hf7 := v4 _ _ hf5
          refine ⟨f1, _, _, rfl, rfl, hf7, by rw [List.length_map]; exact small1000 (by omega), ?_⟩
          have bt : But f1 H7 (upd H7 f1 (.lst (ps.map V.ref ++ [.ref T]))) := (Same.but (Same.refl H7)).put
          have sm8 : Same H1 (upd H7 f1 (.lst (ps.map V.ref ++ [.ref T]))) := same_put (sG.trans v4) nf1N
          have hf8 : (upd H7 f1 (.lst (ps.map V.ref ++ [.ref T]))) f1 = some (.lst ((ps ++ [T]).map V.ref)) := by rw [upd_same, List.map_append]; rfl
          have hl8 : (upd H7 f1 (.lst (ps.map V.ref ++ [.ref T]))) l = some (.lst (ls.map V.int)) := by rw [upd_ne lf]; exact v4 _ _ hl5
          have pf : p ≠ f1 := fun z => by
            rw [z] at hp
            rw [hp] at hf5
            have e9 := congrArg (fun o => match o with | some (HO.lst xs) => xs | _ => []) hf5
            cases hpcc : pc with
            | nil => rw [hpcc] at hkp; cases hkp
            | cons a b =>
              have e10 : pc.map V.int = ps.map V.ref := e9
              rw [hpcc] at e10
              cases ps with
              | nil => cases e10
              | cons _ _ => cases e10
          have hp8 : (upd H7 f1 (.lst (ps.map V.ref ++ [.ref T]))) p = some (.lst (pc.map V.int)) := by rw [upd_ne pf]; exact v4 _ _ hp
          have pt8 : TupsAt K (upd H7 f1 (.lst (ps.map V.ref ++ [.ref T]))) (ps ++ [T]) (compG n es G (k + 1)) := by
            rw [hcomp, ← nse]
            exact TupsAt.snoc (bt.sqTl hf7 (SqT.of hT9)) ((pt.same (s5.trans v4)).but bt hf7)
          generalize (upd H7 f1 (.lst (ps.map V.ref ++ [.ref T]))) = H8 at sm8 hf8 hl8 hp8 pt8 ⊢
          refine ⟨_, rfl, l, rfl, ⟨_, SqL.of hl8⟩, fun D nD => ?_⟩
          have Df : D ≠ f1 := fun z => by rw [z, hf8] at nD; cases nD
          refine lc_list (K := K) (a := l) (xs := ls.map V.int) (fun m H9 => Same H8 H9 ∧ H9 D = some (.lst (((ls.take m).filter fun v => decide (v ∉ pc)).map V.int))) ⟨same_upd nD, upd_same⟩ (fun m H9 _ h => SqL.of (h.1 _ _ hl8)) ?_ ?_
          · rintro m x H9 hx9 ⟨s9, hD⟩
            rw [List.getElem?_map] at hx9
            cases ez : ls[m]? with
            | none => rw [ez] at hx9; cases hx9
            | some z =>
              rw [ez] at hx9
              cases hx9
              refine ⟨rfl, _, rfl, _, rfl, p, pc.map V.int, rfl, .inl (SqL.of (s9 _ _ hp8)), rfl, flat_ints _, _, rfl, iteNIn (fun c => ?_) (fun c => ?_)⟩
              · refine ⟨_, rfl, _, hD, flt_few lsn (by omega), same_put s9 nD, ?_⟩
                rw [upd_same, flt_take ez, if_pos (decide_eq_true c), List.map_append]
                rfl
              · refine ⟨s9, ?_⟩
                rw [flt_take ez, if_neg (by simp [c]), List.append_nil]
                exact hD
          · rintro H9 ⟨s9, hD⟩
            rw [List.length_map, List.take_length] at hD
            refine ⟨_, _, _, D, ls.filter fun v => decide (v ∉ pc), ps ++ [T], k + 1, rfl, sm8.trans s9, Df, hD, s9 _ _ hf8, kn, ⟨L.srt.filter _, fun v => ?_⟩, pt8.same s9, ?_⟩
            · rw [List.mem_filter, decide_eq_true_eq, mpc, hmem v]
            · rcases hij with h | h
              · exact .inl (by omega)
              · rw [h] at hls; cases hls
    · rintro σ H' ⟨y6, y7, y8, l, ls, ps, j, rfl, sm, lf, hl, hf, hj, L, pt, hij⟩
      refine ⟨_, rfl, q H' f1 ps (s1.trans sm) nf1H hf ?_⟩
      have ej : compG n es G n = compG n es G j := by
        rcases hij with h | h
        · rw [show j = n by omega]
        · have z := comp_skip L (n - j) (fun u _ _ hu => by rw [h] at hu; cases hu) (by omega)
          rw [show j + (n - j) = n by omega] at z
          exact z
      rw [ej]
      exact pt
end
end Sm

set_option Elab.async false
set_option linter.all false
set_option maxRecDepth 100000
set_option maxHeartbeats 4000000
namespace Sm
open PySem PySem.Spec PyProof.Rows L2
abbrev sLd : Stmt := topS 40
def spLd (K : PySem.W.Frag) : Sp := fun vs H Q _ => ∃ (n : Nat) (e t : Addr) (as : List Addr) (es : List Pr) (os : List Int), vs = [.int n, .ref e, .ref t] ∧ n ≤ 60 ∧ SqL K H e (as.map V.ref) ∧ PairsAt K H as es ∧ (∀ q ∈ es, Okp n q) ∧ SqT K H t (os.map V.int) ∧ os.Perm (vxs n) ∧
  ∀ (H' : Hp) (p : Addr), Same H H' → H p = none → H' p = some (.lst ((degs n es os).map V.int)) → Q (.ref p) H'
theorem slA_at {X : Cx} {K : PySem.W.Frag} (hK : X.K = K) : SlR X (rSlA K) := by
  subst hK
  exact sl_tupA
/-- still there after t steps -/
def Alv (n : Nat) (os : List Int) (t : Nat) (w : Int) : Prop := Vx n w ∧ w ∉ os.take t
/-- what the list of a vertex knows -/
structure Kn (n : Nat) (R : Rel) (al : Int → Prop) (u : Int) (N : List Int) : Prop where
  nd : N.Nodup
  vx : ∀ w ∈ N, Vx n w
  mem : al u → ∀ w, al w → (w ∈ N ↔ R u w = true)
def KnL (H : Hp) (nps : List Addr) (p : Nat → List Int → Prop) : Prop := ∀ (u : Nat) (a : Addr), nps[u]? = some a → ∃ N : List Int, H a = some (.lst (N.map V.int)) ∧ p u N
theorem KnL.same {H H' : Hp} {nps : List Addr} {p : Nat → List Int → Prop} (s : Same H H') (h : KnL H nps p) : KnL H' nps p := fun u a e => by
  obtain ⟨N, h1, h2⟩ := h u a e
  exact ⟨N, s _ _ h1, h2⟩
theorem ord_at {os : List Int} {t : Nat} {v : Int} (h : os[t]? = some v) : ordF os t = v := by
  unfold ordF
  rw [List.getD_eq_getElem?_getD, h]
  rfl
theorem dead_at {n : Nat} {es : List Pr} {os : List Int} {t : Nat} {u w : Int} (h : relT es (ordF os) t u w = true) (ht : t ≤ os.length) : u ∉ os.take t ∧ w ∉ os.take t := by
  have key : ∀ z : Int, z ∈ os.take t → ∃ s, s < t ∧ ordF os s = z := fun z hz => by
    obtain ⟨s, hs, e⟩ := List.getElem_of_mem hz
    rw [List.length_take] at hs
    refine ⟨s, by omega, ?_⟩
    rw [List.getElem_take] at e
    exact ord_at (by rw [List.getElem?_eq_getElem (by omega), e])
  refine ⟨fun z => ?_, fun z => ?_⟩
  · obtain ⟨s, hs, e⟩ := key _ z
    exact (rel_dead h hs).1 e.symm
  · obtain ⟨s, hs, e⟩ := key _ z
    exact (rel_dead h hs).2 e.symm
section
variable {P : Program} {w : World} {K : PySem.W.Frag} {mg : Str → Option Value} {base : Heap}
abbrev ldN : List Str := ["size", "edges", "order", "near", "found", "at", "v", "around", "u", "w"]
theorem scLd : FnScope ldN ["size", "edges", "order"] (defScope sLd) := ⟨rfl, rfl, rfl, by decide +kernel, rfl, by decide +kernel, by decide +kernel⟩
theorem ok_ld {f fN : Addr} {fd fdN : FuncData} (F : Fun K "_law_degrees" "_law_degrees" sLd f fd)
    (GN : FnOk P w K mg base CX0 1 fN fdN ["size", "edges"] (spNr K)) (kN : PySem.W.keepIn K (.ref fN) = true) (bN : Binds K fdN ["size", "edges"] []) (gN : mg "_law_near" = some (.ref fN))
    (mr : mg "range" = none) (ml : mg "len" = none) :
    FnOk P w K mg base CX0 2 f fd ["size", "edges", "order"] (spLd K) := by
  refine F.ok scLd (fun vs H Q E h => ?_) (fun cdv A outer s H vs Q E hr h => ?_)
  · obtain ⟨n, e, t, as, es, os, rfl, _⟩ := h
    rfl
  · obtain ⟨n, e, t, as, es, os, rfl, hn, hE, hP, ok, hT, pm, q⟩ := h
    have hr1 : Room 1 _ := hr.mono (by decide)
    have toNat : ((n : Nat) : Int).toNat = n := by omega
    obtain ⟨vxo, ndo, lo⟩ := vx_perm pm
    refine ⟨_, pss_cons (ps_set (i := 3) scLd.nd rfl (.inr rfl) (pe_call GN hr1 (by rfl) gN kN bN .nil pass0 (pa_cons (pv 0) (pa_cons (pv 1) pa_nil))))
      (pss_cons (ps_set (i := 4) scLd.nd rfl (.inl rfl) (pe_lst pa_nil))
      (pss_cons (ps_for PassesOwn.never rfl (pi_range1 rfl mr (pa_cons (pv 0) pa_nil)) (pg_name (i := 5) scLd.nd rfl (.inr rfl))
        (pss_cons (ps_set (i := 6) scLd.nd rfl (.inl rfl) (pe_ix ix_tup (pv 2) (pv 5) (fun _ _ => rfl)))
        (pss_cons (ps_setLc (i := 7) (own := [("u", 8)]) (g := gName 8) (by rfl) scLd.nd rfl rfl (sw_true rfl rfl rfl (by decide +kernel)) (pi_list (pe_ix ix_list (pv 3) (pv 6) (fun _ _ => rfl))) (blkOk_by (own := [("u", 8)]) (N := ldN) (sc := defScope sLd) (by decide +kernel)) (fun _ _ _ _ _ => pg_name (i := 8) scLd.nd rfl (Or.inl rfl))
            (fun _ _ _ _ _ => pts_one (pt_cmpR (notInS_at rfl) (pv 8) (pe_slice (slA_at (K := K) rfl) (pv 2) po_none (po_some (pv 5))) (by rfl))) (fun _ _ _ _ _ => pv 8))
        (pss_cons (ps_expr (pe_bm PySem.F.plainAttrs_list PySem.F.slot_list_append PySem.F.type_list_append mt_append (pv 4) (pa_cons (pe_callB call_len_seq (by rfl) ml PySem.boot_len (pa_cons (pv 7) pa_nil)) pa_nil)))
        (pss_one (ps_for PassesOwn.never rfl (pi_list (pv 7)) (pg_name (i := 8) scLd.nd rfl (.inr rfl))
          (pss_one (ps_asg (pe_op op_cat (pe_ix ix_list (pv 3) (pv 8) (fun _ _ => rfl)) (pe_lc (own := [("w", 9)]) (g := gName 9) (by rfl) scLd.nd (pi_list (pv 7)) (blkOk_by (own := [("w", 9)]) (N := ldN) (sc := defScope sLd) (by decide +kernel)) (fun _ _ _ _ _ => pg_name (i := 9) scLd.nd rfl (Or.inl rfl))
              (fun _ _ _ _ _ => pts_one (PW.pt (pw_and (pt_cmpR op_ne (pv 9) (pv 8) (nomark _)) (pw_and1 (pt_cmpR (notInS_at rfl) (pv 9) (pe_ix (ix_at (K := K) rfl) (pv 3) (pv 8) (fun _ _ => rfl)) (by rfl)))))) (fun _ _ _ _ _ => pv 9)))
            (pg_sub (pv 3) (pv 8) set_list)))))))))
      (pss_one (ps_ret (pv 4))))), ?_⟩
    refine ⟨_, rfl, _, rfl, n, e, as, es, rfl, hn, hE, hP, ok, fun H1 nr nps0 s1 nnr0 hnr nna0 npl => ?_⟩
    refine ⟨Nat.zero_le _, fun f1 nf1 => ?_⟩
    have u1 := same_upd (o := .lst []) nf1
    have nf1H : H f1 = none := s1.free nf1
    have frn : f1 ≠ nr := fun z => by rw [z, hnr] at nf1; cases nf1
    have nl := npl.length
    rw [List.length_map, List.length_range] at nl
    have K0 : KnL (upd H1 f1 (.lst [])) nps0 (fun u N => Kn n (relT es (ordF os) 0) (Alv n os 0) u N) := fun u a ea => by
      obtain ⟨c, hc, hca⟩ := paired_get npl ea
      have hu : u < n := by rw [← nl]; exact (List.getElem?_eq_some_iff.mp ea).1
      rw [List.getElem?_map, List.getElem?_range hu] at hc
      have RO : RelOk n (r0 es) := relOk ok (fun _ => 0) 0
      refine ⟨c, u1 _ _ hca, ?_⟩
      have ec := (Option.some.inj hc).symm
      subst ec
      exact ⟨List.Pairwise.imp (fun {a b} h e => by omega) (nearR_lt n _ _), fun w hw => mem_vxs.mp (List.mem_filter.mp hw).1, fun _ w _ => mem_nearR RO⟩
    refine ⟨_, rfl, n, rfl, by omega, by omega, ?_⟩
    rw [toNat]
    refine for_range (lo := 0) (n := n) (fun i σ H' => ∃ (y5 y6 y7 y8 : Option V) (nps : List Addr), σ = [some (.int n), some (.ref e), some (.ref t), some (.ref nr), some (.ref f1), y5, y6, y7, y8, none] ∧ Same H H' ∧ H' f1 = some (.lst (((List.range i).map fun t => ((arT n es (ordF os) t).length : Int)).map V.int)) ∧
      H' nr = some (.lst (nps.map V.ref)) ∧ nps.length = n ∧ (∀ a ∈ nps, a ≠ nr ∧ a ≠ f1) ∧ KnL H' nps (fun u N => Kn n (relT es (ordF os) i) (Alv n os i) u N))
      ⟨none, none, none, none, nps0, rfl, s1.trans u1, upd_same, u1 _ _ hnr, nl, fun a ha => ⟨nna0 a ha, fun z => by
        obtain ⟨u, hu, e9⟩ := List.getElem_of_mem ha
        obtain ⟨c, hc, hca⟩ := paired_get npl (show nps0[u]? = some a by rw [List.getElem?_eq_getElem hu, e9])
        rw [z, nf1] at hca
        cases hca⟩, K0⟩ ?_ ?_
    · rintro i σ H' hi ⟨y5, y6, y7, y8, nps, rfl, sm, hf, hnr', nln, nna, KL⟩
      have e0 : (0 : Int) + (i : Int) = (i : Int) := by omega
      rw [e0]
      have eo : os[i]? = some os[i] := List.getElem?_eq_getElem (by omega)
      generalize os[i] = v at eo
      have vv := vxo v (List.mem_of_getElem? eo)
      obtain ⟨v, rfl⟩ : ∃ k : Nat, v = k := ⟨v.toNat, by unfold Vx at vv; omega⟩
      have hv : v < n := by unfold Vx at vv; omega
      have ov : ordF os i = (v : Int) := ord_at eo
      have gov : (os.map V.int)[i]? = some (.int (v : Int)) := by rw [List.getElem?_map, eo]; rfl
      have tk := L2.take_next eo
      have vnt : (v : Int) ∉ os.take i := fun z => by
        have nd2 := ndo
        rw [← List.take_append_drop (i + 1) os, tk] at nd2
        exact absurd rfl ((List.nodup_append.mp (List.nodup_append.mp nd2).1).2.2 _ z _ (List.mem_singleton.mpr rfl))
      have alv : Alv n os i v := ⟨vv, vnt⟩
      have RO := relOk ok (ordF os) i
      have alS : ∀ w, Alv n os (i + 1) w ↔ Alv n os i w ∧ w ≠ v := fun w => by
        unfold Alv
        rw [tk, List.mem_append, List.mem_singleton, not_or, and_assoc]
      obtain ⟨na, hna⟩ : ∃ a, nps[v]? = some a := ⟨_, List.getElem?_eq_getElem (by omega)⟩
      have gna : (nps.map V.ref)[v]? = some (.ref na) := by rw [List.getElem?_map, hna]; rfl
      obtain ⟨N, hN, kn⟩ := KL v na hna
      have Nl : N.length ≤ n := few_vx kn.nd kn.vx
      have frel : relT es (ordF os) (i + 1) = elim (relT es (ordF os) i) v := by
        show elim (relT es (ordF os) i) (ordF os i) = _
        rw [ov]
      refine ⟨_, rfl, _, rfl, t, _, i, _, rfl, rfl, same_sqT sm hT, at_nat gov, ?_⟩
      refine ⟨_, rfl, _, rfl, nr, _, v, _, rfl, rfl, SqL.of hnr', at_nat gna, na, rfl, ⟨_, SqL.of hN⟩, fun D nD => ?_⟩
      refine lc_list (K := K) (a := na) (xs := N.map V.int) (fun m H7 => Same H' H7 ∧ H7 D = some (.lst (((N.take m).filter fun u => decide (u ∉ os.take i)).map V.int))) ⟨same_upd nD, upd_same⟩ (fun m H7 _ h => SqL.of (h.1 _ _ hN)) ?_ ?_
      · rintro m x H7 hx7 ⟨s7, hD⟩
        rw [List.getElem?_map] at hx7
        cases ez : N[m]? with
        | none => rw [ez] at hx7; cases hx7
        | some z =>
          rw [ez] at hx7
          cases hx7
          have sG := sm.trans s7
          refine ⟨rfl, _, rfl, _, rfl, _, rfl, _, rfl, t, os.map V.int, rfl, same_sqT sG hT, fun wh => ?_, fun _ T nT => ?_⟩
          · have w2 := wh.2
            rw [HT.sIx_nat, List.length_map, lo] at w2
            omega
          have sT := same_upd (o := .tup (cutV (os.map V.int) none (some (i : Int)))) nT
          refine ⟨T, (os.take i).map V.int, rfl, .inr (SqT.of (by rw [upd_same, cut_take])), rfl, flat_ints _, _, rfl, iteNIn (fun c => ?_) (fun c => ?_)⟩
          · refine ⟨_, rfl, _, sT _ _ hD, flt_few Nl (by omega), same_put (s7.trans sT) nD, ?_⟩
            rw [upd_same, flt_take ez, if_pos (decide_eq_true c), List.map_append]
            rfl
          · refine ⟨s7.trans sT, ?_⟩
            rw [flt_take ez, if_neg (by simp [c]), List.append_nil]
            exact sT _ _ hD
      · rintro H7 ⟨s7, hD⟩
        rw [List.length_map, List.take_length] at hD
        have Dnr : D ≠ nr := fun z => by rw [z, hnr'] at nD; cases nD
        have Df : D ≠ f1 := fun z => by rw [z, hf] at nD; cases nD
        have Dnps : ∀ a ∈ nps, D ≠ a := fun a ha z => by
          obtain ⟨u, hu, e9⟩ := List.getElem_of_mem ha
          obtain ⟨N9, h9, _⟩ := KL u a (by rw [List.getElem?_eq_getElem hu, e9])
          rw [← z, nD] at h9
          cases h9
        generalize hA : (N.filter fun u => decide (u ∉ os.take i)) = A at hD
        have And : A.Nodup := by rw [← hA]; exact kn.nd.filter _
        have Amem : ∀ w, w ∈ A ↔ relT es (ordF os) i v w = true := fun w => by
          rw [← hA, List.mem_filter, decide_eq_true_eq]
          constructor
          · rintro ⟨h1, h2⟩
            exact (kn.mem alv w ⟨kn.vx w h1, h2⟩).mp h1
          · intro hw
            have h2 := (dead_at (n := n) hw (by omega)).2
            exact ⟨(kn.mem alv w ⟨(RO.vx _ _ hw).2, h2⟩).mpr hw, h2⟩
        have Avx : ∀ w ∈ A, Vx n w := fun w hw => (RO.vx _ _ ((Amem w).mp hw)).2
        have Al : A.length ≤ n := few_vx And Avx
        have Alen : (A.length : Int) = ((arT n es (ordF os) i).length : Int) := by
          have pA : A.Perm (arT n es (ordF os) i) := by
            have ndA : (arT n es (ordF os) i).Nodup := List.Pairwise.imp (fun {a b} h e => by omega) ((vxs_lt n).filter _)
            refine (List.perm_ext_iff_of_nodup And ndA).mpr fun w => ?_
            rw [Amem, mem_arT ok, ov]
          rw [pA.length_eq]
        refine ⟨_, rfl, .inl ⟨rfl, _, SqL.of (s7 _ _ hf)⟩, _, rfl, D, _, rfl, .inl (SqL.of hD), f1, _, _, rfl, rfl, s7 _ _ hf, ?_, ?_⟩
        · rw [List.length_map, List.length_map, List.length_range]
          exact small1000 (by omega)
        rw [List.length_map, Alen]
        have hf8 : (upd H7 f1 (.lst (((List.range i).map fun t => ((arT n es (ordF os) t).length : Int)).map V.int ++ [V.int ((arT n es (ordF os) i).length : Int)]))) f1 = some (.lst (((List.range (i + 1)).map fun t => ((arT n es (ordF os) t).length : Int)).map V.int)) := by
          rw [upd_same, List.range_succ, List.map_append, List.map_append]
          rfl
        have sm8 : Same H (upd H7 f1 (.lst (((List.range i).map fun t => ((arT n es (ordF os) t).length : Int)).map V.int ++ [V.int ((arT n es (ordF os) i).length : Int)]))) := same_put (sm.trans s7) nf1H
        have hD8 : (upd H7 f1 (.lst (((List.range i).map fun t => ((arT n es (ordF os) t).length : Int)).map V.int ++ [V.int ((arT n es (ordF os) i).length : Int)]))) D = some (.lst (A.map V.int)) := by rw [upd_ne Df]; exact hD
        have hnr8 : (upd H7 f1 (.lst (((List.range i).map fun t => ((arT n es (ordF os) t).length : Int)).map V.int ++ [V.int ((arT n es (ordF os) i).length : Int)]))) nr = some (.lst (nps.map V.ref)) := by rw [upd_ne frn.symm]; exact s7 _ _ hnr'
        have KL8 : KnL (upd H7 f1 (.lst (((List.range i).map fun t => ((arT n es (ordF os) t).length : Int)).map V.int ++ [V.int ((arT n es (ordF os) i).length : Int)]))) nps (fun u N => Kn n (relT es (ordF os) i) (Alv n os i) u N) := fun u a ea => by
          obtain ⟨N9, h9, k9⟩ := KL u a ea
          exact ⟨N9, by rw [upd_ne (nna a (List.mem_of_getElem? ea)).2]; exact s7 _ _ h9, k9⟩
        generalize (upd H7 f1 (.lst (((List.range i).map fun t => ((arT n es (ordF os) t).length : Int)).map V.int ++ [V.int ((arT n es (ordF os) i).length : Int)]))) = H8 at hf8 sm8 hD8 hnr8 KL8 ⊢
        refine ⟨_, rfl, D, rfl, ⟨_, SqL.of hD8⟩, for_list (K := K) (a := D) (xs := A.map V.int) (fun j σ H9 => ∃ (y8 : Option V) (nps : List Addr), σ = [some (.int n), some (.ref e), some (.ref t), some (.ref nr), some (.ref f1), some (.int (i : Int)), some (.int (v : Int)), some (.ref D), y8, none] ∧ Same H H9 ∧
          H9 f1 = some (.lst (((List.range (i + 1)).map fun t => ((arT n es (ordF os) t).length : Int)).map V.int)) ∧ H9 D = some (.lst (A.map V.int)) ∧ H9 nr = some (.lst (nps.map V.ref)) ∧ nps.length = n ∧ (∀ a ∈ nps, a ≠ nr ∧ a ≠ f1) ∧
          KnL H9 nps (fun u N => Kn n (if (u : Int) ∈ A.take j then relT es (ordF os) (i + 1) else relT es (ordF os) i) (if (u : Int) ∈ A.take j then Alv n os (i + 1) else Alv n os i) u N))
          ⟨y8, nps, rfl, sm8, hf8, hD8, hnr8, nln, nna, fun u a ea => by simpa using KL8 u a ea⟩ (fun j σ H9 _ ⟨_, _, _, _, _, h, _⟩ => SqL.of h) ?_ ?_⟩
        · rintro j x σ H9 hx9 ⟨y8, nps, rfl, sm9, hf9, hD9, hnr9, nln, nna, KL9⟩
          rw [List.getElem?_map] at hx9
          cases eu : A[j]? with
          | none => rw [eu] at hx9; cases hx9
          | some u =>
            rw [eu] at hx9
            cases hx9
            have uA := List.mem_of_getElem? eu
            have vu := Avx u uA
            obtain ⟨u, rfl⟩ : ∃ k : Nat, u = k := ⟨u.toNat, by unfold Vx at vu; omega⟩
            have hu : u < n := by unfold Vx at vu; omega
            have Rvu := (Amem _).mp uA
            have nut : (u : Int) ∉ A.take j := fun z => by
              have nd2 := And
              rw [← List.take_append_drop (j + 1) A, L2.take_next eu] at nd2
              exact absurd rfl ((List.nodup_append.mp (List.nodup_append.mp nd2).1).2.2 _ z _ (List.mem_singleton.mpr rfl))
            obtain ⟨ua, hua⟩ : ∃ a, nps[u]? = some a := ⟨_, List.getElem?_eq_getElem (by omega)⟩
            have gua : (nps.map V.ref)[u]? = some (.ref ua) := by rw [List.getElem?_map, hua]; rfl
            obtain ⟨N, hN, kn⟩ := KL9 u ua hua
            simp only [nut, if_false] at kn
            have Nl : N.length ≤ n := few_vx kn.nd kn.vx
            have aLu : Alv n os i u := ⟨vu, (dead_at (n := n) Rvu (by omega)).2⟩
            refine ⟨_, rfl, _, rfl, nr, _, u, _, rfl, rfl, SqL.of hnr9, at_nat gua, ?_⟩
            refine ⟨_, rfl, D, rfl, ⟨_, SqL.of hD9⟩, fun D2 nD2 => ?_⟩
            refine lc_list (K := K) (a := D) (xs := A.map V.int) (fun m H10 => Same H9 H10 ∧ H10 D2 = some (.lst (((A.take m).filter fun w => decide (w ≠ (u : Int)) && decide (w ∉ N)).map V.int))) ⟨same_upd nD2, upd_same⟩ (fun m H10 _ h => SqL.of (h.1 _ _ hD9)) ?_ ?_
            · rintro m x H10 hx10 ⟨s10, hD2⟩
              rw [List.getElem?_map] at hx10
              cases ez : A[m]? with
              | none => rw [ez] at hx10; cases hx10
              | some z =>
                rw [ez] at hx10
                cases hx10
                have no : (decide (z ≠ u) && decide (z ∉ N)) = false → Same H9 H10 ∧ H10 D2 = some (.lst (((A.take (m + 1)).filter fun w => decide (w ≠ (u : Int)) && decide (w ∉ N)).map V.int)) := fun h1 => by
                  refine ⟨s10, ?_⟩
                  rw [flt_take ez, h1]
                  simp only [Bool.false_eq_true, if_false, List.append_nil]
                  exact hD2
                refine ⟨rfl, _, rfl, _, rfl, rfl, _, rfl, ?_⟩
                by_cases c1 : z = u
                · refine iteNS (by rw [c1]) (iteF (no (by simp [c1])))
                · refine iteN (fun y => c1 (V.int.inj y)) ?_
                  refine ⟨_, rfl, _, rfl, _, rfl, nr, _, u, _, rfl, rfl, SqL.of (s10 _ _ hnr9), at_nat gua, ua, N.map V.int, rfl, .inl (SqL.of (s10 _ _ hN)), rfl, flat_ints _, _, rfl, iteNIn (fun c2 => ?_) (fun c2 => no (by simp [c2]))⟩
                  refine ⟨_, rfl, _, hD2, flt_few Al (by omega), same_put s10 nD2, ?_⟩
                  rw [upd_same, flt_take ez, if_pos (by simp [c1, c2]), List.map_append]
                  rfl
            · rintro H10 ⟨s10, hD2⟩
              rw [List.length_map, List.take_length] at hD2
              have tl := List.length_filter_le (fun w => decide (w ≠ (u : Int)) && decide (w ∉ N)) A
              have mnew : ∀ w, w ∈ A.filter (fun w => decide (w ≠ (u : Int)) && decide (w ∉ N)) ↔ w ∈ A ∧ w ≠ u ∧ w ∉ N := fun w => by
                rw [List.mem_filter, Bool.and_eq_true, decide_eq_true_eq, decide_eq_true_eq]
              refine ⟨ua, D2, _, _, rfl, rfl, s10 _ _ hN, hD2, ?_, fun p2 np2 => ?_⟩
              · rw [List.length_map, List.length_map, sizeLine_eq]
                omega
              have s11 := same_upd (o := .lst (N.map V.int ++ (A.filter fun w => decide (w ≠ (u : Int)) && decide (w ∉ N)).map V.int)) np2
              have p2nr : p2 ≠ nr := fun z => by rw [z, s10 _ _ hnr9] at np2; cases np2
              have p2f : p2 ≠ f1 := fun z => by rw [z, s10 _ _ hf9] at np2; cases np2
              have p2D : p2 ≠ D := fun z => by rw [z, s10 _ _ hD9] at np2; cases np2
              have nnr : H nr = none := nnr0
              refine ⟨_, rfl, _, rfl, nr, _, u, u, rfl, rfl, s11 _ _ (s10 _ _ hnr9), ?_, ?_⟩
              · unfold ixN
                rw [List.length_map, nln, if_pos (by omega), if_pos (by omega), Int.toNat_natCast]
              refine ⟨_, nps.set u p2, rfl, same_put (sm9.trans (s10.trans s11)) nnr, by rw [upd_ne frn]; exact s11 _ _ (s10 _ _ hf9), by rw [upd_ne Dnr]; exact s11 _ _ (s10 _ _ hD9), by rw [upd_same, List.map_set], by rw [List.length_set]; exact nln, fun a ha => ?_, fun u2 a ea => ?_⟩
              · rcases List.mem_or_eq_of_mem_set ha with z | z
                · exact nna a z
                · rw [z]; exact ⟨p2nr, p2f⟩
              · by_cases cu : u2 = u
                · subst cu
                  rw [List.getElem?_set_self (by omega)] at ea
                  cases ea
                  have uin : (u2 : Int) ∈ A.take (j + 1) := by rw [L2.take_next eu]; simp
                  simp only [uin, if_true]
                  refine ⟨N ++ A.filter (fun w => decide (w ≠ (u2 : Int)) && decide (w ∉ N)), by rw [upd_ne p2nr, upd_same, List.map_append], ⟨?_, fun w hw => ?_, fun _ w aw => ?_⟩⟩
                  · refine List.nodup_append.mpr ⟨kn.nd, And.filter _, fun a ha b hb e9 => ?_⟩
                    subst e9
                    exact ((mnew _).mp hb).2.2 ha
                  · rcases List.mem_append.mp hw with z | z
                    · exact kn.vx w z
                    · exact Avx w ((mnew w).mp z).1
                  · obtain ⟨aw1, wv⟩ := (alS w).mp aw
                    rw [frel, elim_iff, List.mem_append, mnew, kn.mem aLu w aw1, Amem]
                    have uv : (u2 : Int) ≠ v := fun z => by rw [z, RO.irr] at Rvu; cases Rvu
                    constructor
                    · rintro (h1 | ⟨h1, h2, h3⟩)
                      · exact ⟨uv, wv, (fun z => by rw [← z, RO.irr] at h1; cases h1), .inl h1⟩
                      · exact ⟨uv, wv, fun z => h2 z.symm, .inr ⟨Rvu, h1⟩⟩
                    · rintro ⟨_, _, h3, h4 | ⟨_, h4⟩⟩
                      · exact .inl h4
                      · by_cases c5 : relT es (ordF os) i u2 w = true
                        · exact .inl c5
                        · exact .inr ⟨h4, fun z => h3 z.symm, fun z => c5 z⟩
                · rw [List.getElem?_set_ne (fun z => cu z.symm)] at ea
                  obtain ⟨N9, h9, k9⟩ := KL9 u2 a ea
                  have same_in : ((u2 : Int) ∈ A.take (j + 1)) = ((u2 : Int) ∈ A.take j) := by
                    rw [L2.take_next eu]
                    refine propext ?_
                    rw [List.mem_append, List.mem_singleton]
                    exact ⟨fun h => h.elim id fun z => by omega, .inl⟩
                  refine ⟨N9, by rw [upd_ne (nna a (List.mem_of_getElem? ea)).1]; exact s11 _ _ (s10 _ _ h9), ?_⟩
                  simp only [same_in]
                  exact k9
        · rintro σ H9 ⟨y8, nps, rfl, sm9, hf9, hD9, hnr9, nln, nna, KL9⟩
          rw [List.length_map, List.take_length] at KL9
          refine ⟨_, _, _, _, nps, rfl, sm9, hf9, hnr9, nln, nna, fun u a ea => ?_⟩
          obtain ⟨N9, h9, k9⟩ := KL9 u a ea
          refine ⟨N9, h9, ?_⟩
          by_cases c : (u : Int) ∈ A
          · simp only [c, if_true] at k9
            exact k9
          · simp only [c, if_false] at k9
            refine ⟨k9.nd, k9.vx, fun au w aw => ?_⟩
            obtain ⟨au1, uv⟩ := (alS _).mp au
            obtain ⟨aw1, wv⟩ := (alS _).mp aw
            rw [k9.mem au1 w aw1, frel, elim_iff]
            have nR : ¬ relT es (ordF os) i v u = true := fun z => c ((Amem _).mpr z)
            constructor
            · intro h1
              exact ⟨uv, wv, (fun z => by rw [← z, RO.irr] at h1; cases h1), .inl h1⟩
            · rintro ⟨_, _, _, h4 | ⟨h4, _⟩⟩
              · exact h4
              · exact absurd h4 nR
    · rintro σ H' ⟨y5, y6, y7, y8, nps, rfl, sm, hf, hnr', nln, nna, KL⟩
      refine ⟨_, rfl, q H' f1 sm nf1H ?_⟩
      unfold degs
      rw [lo]
      exact hf
end
end Sm

set_option Elab.async false
set_option linter.all false
set_option maxRecDepth 100000
set_option maxHeartbeats 4000000
namespace Sm
open PySem PySem.Spec PyProof.Rows L2
abbrev sBo : Stmt := topS 37
def spBo (K : PySem.W.Frag) : Sp := fun vs H Q _ => ∃ (n : Nat) (e t : Addr) (as : List Addr) (es : List Pr) (os : List Int), vs = [.int n, .ref e, .ref t] ∧ n ≤ 60 ∧ SqL K H e (as.map V.ref) ∧ PairsAt K H as es ∧ (∀ q ∈ es, Okp n q) ∧ SqL K H t (os.map V.int) ∧ os.Perm (vxs n) ∧
  ∀ (H' : Hp) (r tb tp : Addr) (ps : List Addr), Same H H' → H' r = some (.tup [.ref tb, .ref tp]) → SqT K H' tb (ps.map V.ref) → TupsAt K H' ps (bagsO es os) → SqT K H' tp ((parsO es os).map V.int) → Q (.ref r) H'
section
variable {X : Cx}
theorem index_at {K : PySem.W.Frag} {o e : Expr} {apos cpos : Pos} {to : TE} {t : TA} (hK : X.K = K) (ho : PE X o to) (ha : PA X [e] t)
    (hbase : attributeBase o "index" X.env (eval o X.env) = eval o X.env := by rfl)
    (hfew : ((backTo cpos (starEach [e] X.env)).all (fun x => !x.1) && (backToKw cpos (keywordEach [] X.env)).all (fun x => x.1.isSome)
      && decide (([e] : List Expr).length + ([] : List Keyword).length + (if ([] : List Keyword).isEmpty then 0 else 1) < 30)) = true := by rfl)
    (hline : (apos.endLine == cpos.line) = true := by rfl) (hs : starEach [e] X.env = (false, eval e X.env) :: starEach [] X.env := by rfl) (hplain : (backTo cpos (starEach [] X.env)).any (·.1) = false := by rfl) :
    PE X (.Call (.Attribute o "index" apos) [e] [] cpos) (tBM K "list" (rIndex K) to t) := by
  subst hK
  exact pe_bm PySem.F.plainAttrs_list PySem.F.slot_list_index PySem.F.type_list_index mt_index ho ha hbase hfew hline hs hplain
end
theorem sqT_upK {K : PySem.W.Frag} {H : Hp} {p a : Addr} {o : HO} {kvs : List (Key × V)} {xs : List V} (hp : H p = some (.dK kvs)) (h : SqT K H a xs) : SqT K (upd H p o) a xs := by
  rcases h with (h | ⟨o', h⟩) | h
  · exact .inl (.inl (by rw [upd_ne (fun z => by rw [z, hp] at h; cases h)]; exact h))
  · exact .inl (.inr ⟨o', by rw [upd_ne (fun z => by rw [z, hp] at h; cases h)]; exact h⟩)
  · exact .inr h
theorem TupsAt.upK {K : PySem.W.Frag} {H : Hp} {p : Addr} {o : HO} {kvs : List (Key × V)} (hp : H p = some (.dK kvs)) : ∀ {as : List Addr} {cs : List (List Int)}, TupsAt K H as cs → TupsAt K (upd H p o) as cs
  | _, _, .nil => .nil
  | _, _, .cons h t => .cons (sqT_upK hp h) (TupsAt.upK hp t)
/-- what stands while the order is gone through -/
structure BoS (K : PySem.W.Frag) (n : Nat) (nd b1 p1 nb : Addr) (kvs : List (Key × V)) (bas : List Addr) (cs : List (List Int)) (prs : List Int) (p : Nat → List Int → Prop) (H : Hp) : Prop where
  hnd : H nd = some (.dK kvs)
  keys : kvs.map (·.1) = (vxs n).map Sum.inl
  kn : ∀ u : Nat, u < n → ∃ (a : Addr) (N : List Int), valV kvs (Sum.inl (u : Int) : Key) = some (.ref a) ∧ H a = some (.lst (N.map V.int)) ∧ a ≠ b1 ∧ a ≠ p1 ∧ p u N
  hb : H b1 = some (.lst (bas.map V.ref))
  pb : TupsAt K H bas cs
  hp : H p1 = some (.lst (prs.map V.int))
  hn : ∃ kvs2 : List (Key × V), H nb = some (.dK kvs2) ∧ kvs2.length ≤ cs.length
  bp : b1 ≠ p1
  nn : nd ≠ nb
theorem BoS.same {K : PySem.W.Frag} {n : Nat} {nd b1 p1 nb : Addr} {kvs : List (Key × V)} {bas : List Addr} {cs : List (List Int)} {prs : List Int} {p : Nat → List Int → Prop} {H H' : Hp} (s : Same H H') (h : BoS K n nd b1 p1 nb kvs bas cs prs p H) : BoS K n nd b1 p1 nb kvs bas cs prs p H' := by
  refine ⟨s _ _ h.hnd, h.keys, fun u hu => ?_, s _ _ h.hb, h.pb.same s, s _ _ h.hp, ?_, h.bp, h.nn⟩
  · obtain ⟨a, N, h1, h2, h3⟩ := h.kn u hu
    exact ⟨a, N, h1, s _ _ h2, h3⟩
  · obtain ⟨k2, h1, h2⟩ := h.hn
    exact ⟨k2, s _ _ h1, h2⟩
theorem BoS.imp {K : PySem.W.Frag} {n : Nat} {nd b1 p1 nb : Addr} {kvs : List (Key × V)} {bas : List Addr} {cs : List (List Int)} {prs : List Int} {p p' : Nat → List Int → Prop} {H : Hp} (h : BoS K n nd b1 p1 nb kvs bas cs prs p H) (hp : ∀ u N, u < n → p u N → p' u N) : BoS K n nd b1 p1 nb kvs bas cs prs p' H :=
  ⟨h.hnd, h.keys, fun u hu => by
    obtain ⟨a, N, h1, h2, h3, h4, h5⟩ := h.kn u hu
    exact ⟨a, N, h1, h2, h3, h4, hp u N hu h5⟩, h.hb, h.pb, h.hp, h.hn, h.bp, h.nn⟩
/-- a new list for one vertex -/
theorem BoS.put {K : PySem.W.Frag} {n : Nat} {nd b1 p1 nb : Addr} {kvs : List (Key × V)} {bas : List Addr} {cs : List (List Int)} {prs : List Int} {p p' : Nat → List Int → Prop} {H : Hp} (h : BoS K n nd b1 p1 nb kvs bas cs prs p H) {u : Nat} (hu : u < n) {l : Addr} {N : List Int}
    (hl : H l = some (.lst (N.map V.int))) (lb : l ≠ b1) (lp : l ≠ p1) (p1' : p' u N) (p2' : ∀ w N, w ≠ u → p w N → p' w N) :
    BoS K n nd b1 p1 nb (putK kvs (Sum.inl (u : Int)) (.ref l)) bas cs prs p' (upd H nd (.dK (putK kvs (Sum.inl (u : Int)) (.ref l)))) := by
  have ne : ∀ {b : Addr} {xs : List V}, H b = some (.lst xs) → b ≠ nd := fun {b xs} e z => by rw [z, h.hnd] at e; cases e
  have kin : (putK kvs (Sum.inl (u : Int) : Key) (.ref l)).map (·.1) = kvs.map (·.1) := by
    have hm : (kvs.any fun kv => decide (kv.1 = (Sum.inl (u : Int) : Key))) = true := by
      have z := valV_keys h.keys (u : Int)
      have e : decide ((u : Int) ∈ vxs n) = true := decide_eq_true (mem_vxs.mpr (by unfold Vx; omega))
      rw [e] at z
      unfold valV at z
      rw [Option.isSome_map, List.find?_isSome] at z
      obtain ⟨x, hx, hd⟩ := z
      exact List.any_eq_true.mpr ⟨x, hx, hd⟩
    unfold putK
    rw [if_pos hm, List.map_map]
    refine List.map_congr_left fun kv _ => ?_
    show (if kv.1 = (Sum.inl (u : Int) : Key) then (kv.1, V.ref l) else kv).1 = kv.1
    split <;> rfl
  refine ⟨upd_same, kin.trans h.keys, fun w hw => ?_, by rw [upd_ne (ne h.hb)]; exact h.hb, h.pb.upK h.hnd, by rw [upd_ne (ne h.hp)]; exact h.hp, ?_, h.bp, h.nn⟩
  · rw [valV_put]
    by_cases c : w = u
    · subst c
      rw [if_pos rfl]
      exact ⟨l, N, rfl, by rw [upd_ne (ne hl)]; exact hl, lb, lp, p1'⟩
    · rw [if_neg (fun z => c (by have := Sum.inl.inj z; omega))]
      obtain ⟨a, M, h1, h2, h3, h4, h5⟩ := h.kn w hw
      exact ⟨a, M, h1, by rw [upd_ne (ne h2)]; exact h2, h3, h4, p2' w M c h5⟩
  · obtain ⟨k2, h1, h2⟩ := h.hn
    exact ⟨k2, by rw [upd_ne h.nn.symm]; exact h1, h2⟩
theorem BoS.bag {K : PySem.W.Frag} {n : Nat} {nd b1 p1 nb : Addr} {kvs : List (Key × V)} {bas : List Addr} {cs : List (List Int)} {prs : List Int} {p : Nat → List Int → Prop} {H : Hp} (h : BoS K n nd b1 p1 nb kvs bas cs prs p H) {T : Addr} {c : List Int} (hT : SqT K H T (c.map V.int))
    {k2 : List (Key × V)} (h2 : H nb = some (.dK k2)) (hl : k2.length ≤ cs.length) (k : Key) (v : V) (bnb : b1 ≠ nb) :
    BoS K n nd b1 p1 nb kvs (bas ++ [T]) (cs ++ [c]) prs p (upd (upd H b1 (.lst (bas.map V.ref ++ [.ref T]))) nb (.dK (putK k2 k v))) := by
  have nnb : ∀ {b : Addr} {xs : List V}, H b = some (.lst xs) → b ≠ nb := fun {b xs} e z => by rw [z, h2] at e; cases e
  have ndb : nd ≠ b1 := fun z => by have e := h.hb; rw [← z, h.hnd] at e; cases e
  have hnb' : (upd H b1 (.lst (bas.map V.ref ++ [.ref T]))) nb = some (.dK k2) := by rw [upd_ne bnb.symm]; exact h2
  have bt : But b1 H (upd H b1 (.lst (bas.map V.ref ++ [.ref T]))) := (Same.but (Same.refl H)).put
  refine ⟨by rw [upd_ne h.nn, upd_ne ndb]; exact h.hnd, h.keys, fun u hu => ?_, by rw [upd_ne bnb, upd_same, List.map_append]; rfl, ?_, by rw [upd_ne (nnb h.hp), upd_ne h.bp.symm]; exact h.hp, ⟨_, upd_same, ?_⟩, h.bp, h.nn⟩
  · obtain ⟨a, N, e1, e2, e3, e4, e5⟩ := h.kn u hu
    exact ⟨a, N, e1, by rw [upd_ne (nnb e2), upd_ne e3]; exact e2, e3, e4, e5⟩
  · exact (TupsAt.snoc (bt.sqTl h.hb hT) (h.pb.but bt h.hb)).upK hnb'
  · have := length_putK k2 k v
    rw [List.length_append, List.length_singleton]
    omega
theorem BoS.par {K : PySem.W.Frag} {n : Nat} {nd b1 p1 nb : Addr} {kvs : List (Key × V)} {bas : List Addr} {cs : List (List Int)} {prs : List Int} {p : Nat → List Int → Prop} {H : Hp} (h : BoS K n nd b1 p1 nb kvs bas cs prs p H) (x : Int) :
    BoS K n nd b1 p1 nb kvs bas cs (prs ++ [x]) p (upd H p1 (.lst (prs.map V.int ++ [.int x]))) := by
  have bt : But p1 H (upd H p1 (.lst (prs.map V.int ++ [.int x]))) := (Same.but (Same.refl H)).put
  refine ⟨by rw [upd_ne (fun z => by have e := h.hp; rw [← z, h.hnd] at e; cases e)]; exact h.hnd, h.keys, fun u hu => ?_, by rw [upd_ne h.bp]; exact h.hb, h.pb.but bt h.hp, by rw [upd_same, List.map_append]; rfl, ?_, h.bp, h.nn⟩
  · obtain ⟨a, N, e1, e2, e3, e4, e5⟩ := h.kn u hu
    exact ⟨a, N, e1, by rw [upd_ne e4]; exact e2, e3, e4, e5⟩
  · obtain ⟨k2, h1, h2⟩ := h.hn
    exact ⟨k2, by rw [upd_ne (fun z => by have e := h.hp; rw [← z, h1] at e; cases e)]; exact h1, h2⟩
theorem rev_map {α : Type} (n : Nat) (f : Nat → α) : ((List.range n).map f).reverse = (List.range n).map fun i => f (n - 1 - i) := by
  refine List.ext_getElem? fun i => ?_
  by_cases h : i < n
  · rw [List.getElem?_reverse (by rw [List.length_map, List.length_range]; exact h), List.length_map, List.length_range, List.getElem?_map, List.getElem?_map, List.getElem?_range h, List.getElem?_range (by omega)]
    rfl
  · rw [List.getElem?_eq_none (by rw [List.length_reverse, List.length_map, List.length_range]; omega), List.getElem?_eq_none (by rw [List.length_map, List.length_range]; omega)]
theorem cut_drop1 {xs : List V} : cutV xs (some 1) none = xs.drop 1 := by
  unfold cutV
  have e : HT.sIx xs.length 0 (some 1) = min 1 xs.length := HT.sIx_nat _ _ 1
  rw [e, HT.sIx_none]
  by_cases h : 1 ≤ xs.length
  · rw [Nat.min_eq_left h, List.take_of_length_le (by rw [List.length_drop]; exact Nat.le_refl _)]
  · have z : xs = [] := List.eq_nil_of_length_eq_zero (by omega)
    subst z
    rfl
end Sm

set_option Elab.async false
set_option linter.all false
set_option maxRecDepth 100000
set_option maxHeartbeats 8000000
namespace Sm
open PySem PySem.Spec PyProof.Rows L2
theorem vxs_succ (u : Nat) : vxs (u + 1) = vxs u ++ [(u : Int)] := by
  unfold vxs
  rw [List.range_succ, List.map_append]
  rfl
theorem nodup_take {os : List Int} (nd : os.Nodup) {i : Nat} {v : Int} (h : os[i]? = some v) : v ∉ os.take i := fun z => by
  rw [← List.take_append_drop (i + 1) os, L2.take_next h] at nd
  exact absurd rfl ((List.nodup_append.mp (List.nodup_append.mp nd).1).2.2 _ z _ (List.mem_singleton.mpr rfl))
theorem pl_index {os : List Int} {v : Int} (hv : v ∈ os) : ∃ j : Nat, plF os v = j ∧ (os.map V.int)[j]? = some (.int v) ∧ ∀ (m : Nat) (z' : V), m < j → (os.map V.int)[m]? = some z' → eqV z' (.int v) = false := by
  have l1 := List.idxOf_lt_length_iff.mpr hv
  have e1 : os[os.idxOf v] = v := List.getElem_idxOf l1
  refine ⟨os.idxOf v, rfl, by rw [List.getElem?_map, List.getElem?_eq_getElem l1, e1]; rfl, fun m z' hm hz => ?_⟩
  rw [List.getElem?_map] at hz
  cases ek : os[m]? with
  | none => rw [ek] at hz; cases hz
  | some y =>
    rw [ek] at hz
    cases hz
    have ne : y ≠ v := fun z => by
      subst z
      obtain ⟨h3, h4⟩ := List.getElem?_eq_some_iff.mp ek
      have h5 := List.not_of_lt_findIdx (p := (· == y)) (xs := os) (i := m) hm
      rw [h4] at h5
      simp at h5
    show (y == v) = false
    exact beq_eq_false_iff_ne.mpr ne
theorem tups_rev {K : PySem.W.Frag} {H : Hp} : ∀ {as : List Addr} {cs : List (List Int)}, TupsAt K H as cs → TupsAt K H as.reverse cs.reverse
  | _, _, .nil => .nil
  | _, _, .cons h t => by
    rw [List.reverse_cons, List.reverse_cons]
    exact TupsAt.snoc h (tups_rev t)
/-- no number twice in a row: what is left of an ascending list -/
structure Dd (xs : List Int) (k : Nat) (res : List Int) : Prop where
  srt : res.Pairwise (· < ·)
  mem : ∀ y, y ∈ res ↔ y ∈ xs.take k
theorem Dd.more {xs res : List Int} {k : Nat} {x : Int} (le : xs.Pairwise (· ≤ ·)) (h : xs[k]? = some x) (d : Dd xs k res) (hx : k = 0 ∨ ∃ y, xs[k - 1]? = some y ∧ x ≠ y) : Dd xs (k + 1) (res ++ [x]) := by
  have tk := L2.take_next h
  have ord : ∀ (i j : Nat) (a b : Int), i ≤ j → xs[i]? = some a → xs[j]? = some b → a ≤ b := fun i j a b hij ha hb => by
    rcases Nat.lt_or_ge i j with lt | ge
    · obtain ⟨l1, e1⟩ := List.getElem?_eq_some_iff.mp ha
      obtain ⟨l2, e2⟩ := List.getElem?_eq_some_iff.mp hb
      have := List.pairwise_iff_getElem.mp le i j l1 l2 lt
      rw [e1, e2] at this
      exact this
    · have e : i = j := by omega
      subst e
      rw [ha] at hb
      cases hb
      exact Int.le_refl _
  have lt : ∀ y ∈ xs.take k, y < x := fun y hy => by
    obtain ⟨i, hi, e⟩ := List.getElem_of_mem hy
    rw [List.length_take] at hi
    rw [List.getElem_take] at e
    have ei : xs[i]? = some y := by rw [List.getElem?_eq_getElem (by omega), e]
    rcases hx with hx | ⟨z, hz, ne⟩
    · omega
    · have a := ord i (k - 1) y z (by omega) ei hz
      have b := ord (k - 1) k z x (by omega) hz h
      omega
  refine ⟨List.pairwise_append.mpr ⟨d.srt, by simp, fun a ha b hb => ?_⟩, fun y => ?_⟩
  · rw [List.mem_singleton.mp hb]
    exact lt a ((d.mem a).mp ha)
  · rw [tk, List.mem_append, List.mem_append, d.mem]
theorem Dd.skip {xs res : List Int} {k : Nat} {x : Int} (h : xs[k]? = some x) (d : Dd xs k res) (hk : 0 < k) (hx : xs[k - 1]? = some x) : Dd xs (k + 1) res := by
  refine ⟨d.srt, fun y => ?_⟩
  rw [d.mem, L2.take_next h, List.mem_append, List.mem_singleton]
  refine ⟨.inl, fun z => z.elim id fun e => ?_⟩
  rw [e]
  refine List.mem_of_getElem? (i := k - 1) ?_
  rw [List.getElem?_take, if_pos (by omega)]
  exact hx
section
variable {P : Program} {w : World} {K : PySem.W.Frag} {mg : Str → Option Value} {base : Heap}
abbrev boN : List Str := ["size", "edges", "order", "near", "u", "v", "bags", "parents", "numbers", "at", "around", "turned", "w", "k", "one"]
theorem scBo : FnScope boN ["size", "edges", "order"] (defScope sBo) := ⟨rfl, rfl, rfl, by decide +kernel, rfl, by decide +kernel, by decide +kernel⟩
theorem ok_bo {f : Addr} {fd : FuncData} (F : Fun K "_law_by_order" "_law_by_order" sBo f fd) (mr : mg "range" = none) (mi : mg "min" = none) (mx : mg "max" = none) (mt : mg "tuple" = none) (ms : mg "sorted" = none) (ml : mg "len" = none) :
    FnOk P w K mg base CX0 1 f fd ["size", "edges", "order"] (spBo K) := by
  refine F.ok scBo (fun vs H Q E h => ?_) (fun cdv A outer s H vs Q E hr h => ?_)
  · obtain ⟨n, e, t, as, es, os, rfl, _⟩ := h
    rfl
  · obtain ⟨n, e, t, as, es, os, rfl, hn, hE, hP, ok, hT, pm, q⟩ := h
    have hu := hu_of hr
    have hu64 : _ + 64 < cLine := hr.units
    have toNat : ((n : Nat) : Int).toNat = n := by omega
    obtain ⟨vxo, ndo, lo⟩ := vx_perm pm
    refine ⟨_, pss_cons (ps_set (i := 3) scBo.nd rfl (.inr rfl) pe_dnewK)
      (pss_cons (ps_for PassesOwn.never rfl (pi_range1 rfl mr (pa_cons (pv 0) pa_nil)) (pg_name (i := 4) scBo.nd rfl (.inr rfl))
        (pss_one (ps_dput hu (pv 3) (pv 4) (pe_lc (own := [("v", 5)]) (g := gName 5) (by rfl) scBo.nd (pi_range1 rfl mr (pa_cons (pv 0) pa_nil)) (blkOk_by (own := [("v", 5)]) (N := boN) (sc := defScope sBo) (by decide +kernel)) (fun _ _ _ _ _ => pg_name (i := 5) scBo.nd rfl (Or.inl rfl))
            (fun _ _ _ _ _ => pts_one (pt_cmpR (inD_at rfl rfl (u65 hr)) (pe_tup (pa_cons (pe_callB (call_min2 rfl) (by rfl) mi (by decide +kernel) (pa_cons (pv 4) (pa_cons (pv 5) pa_nil))) (pa_cons (pe_callB (call_max2 rfl) (by rfl) mx (by decide +kernel) (pa_cons (pv 4) (pa_cons (pv 5) pa_nil))) pa_nil))) (pv 1) (by rfl)))
            (fun _ _ _ _ _ => pv 5)) rfl)))
      (pss_cons (ps_par3 (i := 6) (j := 7) (l := 8) (by rfl) scBo.nd rfl rfl rfl (by decide) (by decide) (by decide) rfl rfl rfl (pa_cons (pe_lst pa_nil) (pa_cons (pe_lst pa_nil) (pa_cons pe_dnewK pa_nil))) (by rfl))
      (pss_cons (ps_for PassesOwn.never rfl (pi_range1 rfl mr (pa_cons (pv 0) pa_nil)) (pg_name (i := 9) scBo.nd rfl (.inl rfl))
        (pss_cons (ps_set (i := 5) scBo.nd rfl (.inr rfl) (pe_ix ix_list (pv 2) (pv 9) (fun _ _ => rfl)))
        (pss_cons (ps_set (i := 10) scBo.nd rfl (.inl rfl) (pe_dget hu (pv 3) (pv 5) (fun _ _ => rfl)))
        (pss_cons (ps_expr (pe_bm PySem.F.plainAttrs_list PySem.F.slot_list_append PySem.F.type_list_append mt_append (pv 6) (pa_cons (pe_callTy call_tuple_of (by rfl) mt (by decide +kernel) (pa_cons (pe_callB cr_sortedI (by rfl) ms (by decide +kernel) (pa_cons (pe_op op_cat (pv 10) (pe_lst (pa_cons (pv 5) pa_nil))) pa_nil)) pa_nil)) pa_nil)))
        (pss_cons (ps_dput hu (pv 8) (pv 5) (pv 9) rfl)
        (pss_cons (ps_for PassesOwn.never rfl (pi_list (pv 10)) (pg_name (i := 4) scBo.nd rfl (.inr rfl))
          (pss_cons (ps_dput hu (pv 3) (pv 4) (pe_callB cr_sortedI (by rfl) ms (by decide +kernel) (pa_cons (pe_lc (own := [("w", 12)]) (g := gName 12) (by rfl) scBo.nd (pi_list (pe_op op_cat (pe_dget hu (pv 3) (pv 4) (fun _ _ => rfl)) (pv 10))) (blkOk_by (own := [("w", 12)]) (N := boN) (sc := defScope sBo) (by decide +kernel)) (fun _ _ _ _ _ => pg_name (i := 12) scBo.nd rfl (Or.inl rfl))
              (fun _ _ _ _ _ => pts_one (pt_cmpR (notInS_at rfl) (pv 12) (pe_tup (pa_cons (pv 4) (pa_cons (pv 5) pa_nil))) (by rfl))) (fun _ _ _ _ _ => pv 12)) pa_nil)) rfl)
          (pss_one (ps_dput hu (pv 3) (pv 4) (pe_lc (own := [("k", 13)]) (g := gName 13) (by rfl) scBo.nd (pi_range1 rfl mr (pa_cons (pe_callB call_len_seq (by rfl) ml PySem.boot_len (pa_cons (pe_dget hu (pv 3) (pv 4) (fun _ _ => rfl)) pa_nil)) pa_nil)) (blkOk_by (own := [("k", 13)]) (N := boN) (sc := defScope sBo) (by decide +kernel)) (fun _ _ _ _ _ => pg_name (i := 13) scBo.nd rfl (Or.inl rfl))
              (fun _ _ _ _ _ => pts_one (PW.pt (pw_or (pt_cmpR op_eq (pv 13) pe_int (nomark _)) (pw_or1 (pt_cmpR op_ne (pe_ix (ix_at (K := K) rfl) (pe_dget hu (pv 3) (pv 4) (fun _ _ => rfl)) (pv 13) (fun _ _ => rfl)) (pe_ix (ix_at (K := K) rfl) (pe_dget hu (pv 3) (pv 4) (fun _ _ => rfl)) (pe_op op_sub (pv 13) pe_int) (fun _ _ => rfl)) (by rfl))))))
              (fun _ _ _ _ _ => pe_ix (ix_at (K := K) rfl) (pe_dget hu (pv 3) (pv 4) (fun _ _ => rfl)) (pv 13) (fun _ _ => rfl))) rfl))))
        (pss_one (ps_expr (pe_bm PySem.F.plainAttrs_list PySem.F.slot_list_append PySem.F.type_list_append mt_append (pv 7) (pa_cons (pe_minD (by rfl) mi (by rfl) hu64
            (pa_cons (pe_lc (own := [("u", 4)]) (g := gName 4) (by rfl) scBo.nd (pi_list (pv 10)) (blkOk_by (own := [("u", 4)]) (N := boN) (sc := defScope sBo) (by decide +kernel)) (fun _ _ _ _ _ => pg_name (i := 4) scBo.nd rfl (Or.inl rfl)) (fun _ _ _ _ _ => pts_nil) (fun _ _ _ _ _ => index_at (K := K) rfl (pv 2) (pa_cons (pv 4) pa_nil))) pa_nil)
            (pk_cons (pe_op op_sub (pv 0) pe_int) pk_nil)) pa_nil))))))))))
      (pss_cons (ps_if (pt_cmpR op_eq (pv 0) pe_int (nomark _)) (pss_one (ps_ret (pe_tup (pa_cons (pe_tup (pa_cons (pe_tup pa_nil) pa_nil)) (pa_cons (pe_tup (pa_cons (pe_un un_neg pe_int) pa_nil)) pa_nil))))) pss_nil)
      (pss_cons (ps_set (i := 11) scBo.nd rfl (.inl rfl) (pe_callTy call_tuple_of (by rfl) mt (by decide +kernel) (pa_cons (pe_lc (own := [("one", 14)]) (g := gName 14) (by rfl) scBo.nd (pi_list (pe_revL (pv 7))) (blkOk_by (own := [("one", 14)]) (N := boN) (sc := defScope sBo) (by decide +kernel)) (fun _ _ _ _ _ => pg_name (i := 14) scBo.nd rfl (Or.inl rfl)) (fun _ _ _ _ _ => pts_nil)
          (fun _ _ _ _ _ => pe_op op_sub (pe_op op_sub (pv 0) pe_int) (pv 14))) pa_nil)))
      (pss_one (ps_ret (pe_tup (pa_cons (pe_callTy call_tuple_of (by rfl) mt (by decide +kernel) (pa_cons (pe_revL (pv 6)) pa_nil)) (pa_cons (pe_op op_catA (pe_tup (pa_cons (pe_un un_neg pe_int) pa_nil)) (pe_slice sl_tupA (pv 11) (po_some pe_int) po_none)) pa_nil)))))))))), ?_⟩
    intro nd nnd
    have s1 := same_upd (o := .dK []) nnd
    refine ⟨_, rfl, n, rfl, by omega, by omega, ?_⟩
    rw [toNat]
    have RO : RelOk n (r0 es) := relOk ok (fun _ => 0) 0
    refine for_range (lo := 0) (n := n) (fun u σ H' => ∃ (y4 : Option V) (kvs : List (Key × V)), σ = [some (.int n), some (.ref e), some (.ref t), some (.ref nd), y4, none, none, none, none, none, none, none, none, none, none] ∧ Same H H' ∧ H' nd = some (.dK kvs) ∧ kvs.map (·.1) = (vxs u).map Sum.inl ∧
      ∀ w : Nat, w < u → ∃ a, valV kvs (Sum.inl (w : Int) : Key) = some (.ref a) ∧ H' a = some (.lst ((nearR n (r0 es) w).map V.int)))
      ⟨none, [], rfl, s1, upd_same, rfl, fun w hw => by omega⟩ ?_ ?_
    · rintro u σ H' hu2 ⟨y4, kvs, rfl, sm, hnd, hk, hv⟩
      have e0 : (0 : Int) + (u : Int) = (u : Int) := by omega
      rw [e0]
      refine ⟨_, rfl, n, rfl, by omega, by omega, fun D nD => ?_⟩
      rw [toNat]
      have Dnd : D ≠ nd := fun z => by rw [z, hnd] at nD; cases nD
      refine lc_range (lo := 0) (n := n) (fun m H7 => Same H' H7 ∧ H7 D = some (.lst ((((vxs n).take m).filter fun v => decide ((if v < (u : Int) then v else (u : Int), if v > (u : Int) then v else (u : Int)) ∈ es)).map V.int))) ⟨same_upd nD, upd_same⟩ ?_ ?_
      · rintro m H7 hm ⟨s7, hD⟩
        have e1 : (0 : Int) + (m : Int) = (m : Int) := by omega
        rw [e1]
        have sH7 := sm.trans s7
        have ek : (vxs n)[m]? = some (m : Int) := by
          unfold vxs
          rw [List.getElem?_map, List.getElem?_range hm]
          rfl
        have vl : (vxs n).length ≤ n := by unfold vxs; rw [List.length_map, List.length_range]; exact Nat.le_refl _
        refine ⟨rfl, _, rfl, _, rfl, _, _, rfl, _, rfl, _, rfl, _, _, rfl, (by show 2 ≤ sizeLine; decide), fun T nT => ?_⟩
        have st := same_upd (o := .tup [V.int (if (m : Int) < (u : Int) then (m : Int) else (u : Int)), V.int (if (m : Int) > (u : Int) then (m : Int) else (u : Int))]) nT
        refine ⟨_, rfl, pD (if (m : Int) < (u : Int) then (m : Int) else (u : Int), if (m : Int) > (u : Int) then (m : Int) else (u : Int)), es.map pD, dp_pair (SqT.of upd_same), .lst ((sH7.trans st).seq hE) (dp_pairs (hP.same (sH7.trans st))), pD_shaped _, pDs_shapedL _, _, rfl, ?_⟩
        rw [pDs_any]
        by_cases c : (if (m : Int) < (u : Int) then (m : Int) else (u : Int), if (m : Int) > (u : Int) then (m : Int) else (u : Int)) ∈ es
        · rw [decide_eq_true c]
          refine iteT ⟨_, rfl, _, st _ _ hD, flt_few vl (by omega), same_put (s7.trans st) nD, ?_⟩
          rw [upd_same, flt_take ek, if_pos (decide_eq_true c), List.map_append]
          rfl
        · rw [decide_eq_false c]
          refine iteF ⟨s7.trans st, ?_⟩
          rw [flt_take ek, decide_eq_false c]
          simp only [Bool.false_eq_true, if_false, List.append_nil]
          exact st _ _ hD
      · rintro H7 ⟨s7, hD⟩
        have vl : (vxs n).length = n := by unfold vxs; rw [List.length_map, List.length_range]
        rw [List.take_of_length_le (by omega), lnear_R ok] at hD
        have hnd7 := s7 _ _ hnd
        have lk : kvs.length = u := by
          have z := congrArg List.length hk
          rw [List.length_map, List.length_map] at z
          unfold vxs at z
          rw [List.length_map, List.length_range] at z
          exact z
        have nin : (u : Int) ∉ vxs u := fun z => by
          have := mem_vxs.mp z
          unfold Vx at this
          omega
        refine ⟨_, rfl, _, rfl, nd, _, rfl, DPut.k (k := Sum.inl (u : Int)) hnd7 (small1000 (by omega)), ?_⟩
        refine ⟨_, _, rfl, same_put (sm.trans s7) nnd, upd_same, ?_, fun w hw => ?_⟩
        · rw [putK_keys hk nin, vxs_succ]
        · rw [valV_put]
          by_cases c : w = u
          · subst c
            rw [if_pos rfl]
            exact ⟨D, rfl, by rw [upd_ne Dnd]; exact hD⟩
          · rw [if_neg (fun z => c (by have := Sum.inl.inj z; omega))]
            obtain ⟨a, h1, h2⟩ := hv w (by omega)
            have ha := s7 _ _ h2
            exact ⟨a, h1, by rw [upd_ne (fun z => by rw [z, hnd7] at ha; cases ha)]; exact ha⟩
    rintro σ H2 ⟨y4, kvs0, rfl, sm2, hnd2, hk0, hv0⟩
    refine ⟨Nat.zero_le _, fun b1 nb1 => ⟨Nat.zero_le _, fun p1 np1 => fun nb nnb => ⟨_, _, _, rfl, ?_⟩⟩⟩
    have u1 := same_upd (o := .lst []) nb1
    have u2 := same_upd (o := .lst []) np1
    have u3 := same_upd (o := .dK []) nnb
    have bp : b1 ≠ p1 := fun z => by rw [← z, upd_same] at np1; cases np1
    have bnb : b1 ≠ nb := fun z => by rw [← z, u2 _ _ upd_same] at nnb; cases nnb
    have pnb : p1 ≠ nb := fun z => by rw [← z, upd_same] at nnb; cases nnb
    have ndnb : nd ≠ nb := fun z => by rw [← z, u2 _ _ (u1 _ _ hnd2)] at nnb; cases nnb
    have nb1H : H b1 = none := sm2.free nb1
    have np1H : H p1 = none := sm2.free (u1.free np1)
    have nnbH : H nb = none := sm2.free (u1.free (u2.free nnb))
    have sm3 := sm2.trans (u1.trans (u2.trans u3))
    have B0 : BoS K n nd b1 p1 nb kvs0 [] [] [] (fun u N => Alv n os 0 u → N = nearR n (relT es (ordF os) 0) u) (upd (upd (upd H2 b1 (.lst [])) p1 (.lst [])) nb (.dK [])) := by
      refine ⟨u3 _ _ (u2 _ _ (u1 _ _ hnd2)), hk0, fun u hu => ?_, u3 _ _ (u2 _ _ upd_same), .nil, u3 _ _ upd_same, ⟨[], upd_same, Nat.le_refl _⟩, bp, ndnb⟩
      obtain ⟨a, h1, h2⟩ := hv0 u hu
      refine ⟨a, _, h1, u3 _ _ (u2 _ _ (u1 _ _ h2)), (fun z => by rw [z, nb1] at h2; cases h2), (fun z => by have y := u1.free np1; rw [z, y] at h2; cases h2), fun _ => rfl⟩
    generalize (upd (upd (upd H2 b1 (.lst [])) p1 (.lst [])) nb (.dK [])) = H3 at sm3 B0 ⊢
    refine ⟨_, rfl, n, rfl, by omega, by omega, ?_⟩
    rw [toNat]
    refine for_range (lo := 0) (n := n) (fun i σ H' => ∃ (y4 y5 y9 y10 : Option V) (kvs : List (Key × V)) (bas : List Addr), σ = [some (.int n), some (.ref e), some (.ref t), some (.ref nd), y4, y5, some (.ref b1), some (.ref p1), some (.ref nb), y9, y10, none, none, none, none] ∧ Same H H' ∧
      BoS K n nd b1 p1 nb kvs bas ((List.range i).map fun t => bagT n es (ordF os) t) ((List.range i).map fun t => minT n es (ordF os) (plF os) t) (fun u N => Alv n os i u → N = nearR n (relT es (ordF os) i) u) H')
      ⟨_, none, none, none, kvs0, [], rfl, sm3, B0⟩ ?_ ?_
    · rintro i σ H' hi ⟨y4, y5, y9, y10, kvs, bas, rfl, sm, B⟩
      have e0 : (0 : Int) + (i : Int) = (i : Int) := by omega
      rw [e0]
      have eo : os[i]? = some os[i] := List.getElem?_eq_getElem (by omega)
      generalize os[i] = v at eo
      have vv := vxo v (List.mem_of_getElem? eo)
      obtain ⟨v, rfl⟩ : ∃ k : Nat, v = k := ⟨v.toNat, by unfold Vx at vv; omega⟩
      have hv : v < n := by unfold Vx at vv; omega
      have ov : ordF os i = (v : Int) := ord_at eo
      have gov : (os.map V.int)[i]? = some (.int (v : Int)) := by rw [List.getElem?_map, eo]; rfl
      have tk := L2.take_next eo
      have vnt := nodup_take ndo eo
      have alv : Alv n os i v := ⟨vv, vnt⟩
      have RI := relOk ok (ordF os) i
      have O : Ord n (ordF os) := by have z := ord_of (os := os) (by rw [lo]; exact pm); rw [lo] at z; exact z
      have alS : ∀ w, Alv n os (i + 1) w ↔ Alv n os i w ∧ w ≠ v := fun w => by
        unfold Alv
        rw [tk, List.mem_append, List.mem_singleton, not_or, and_assoc]
      have frel : relT es (ordF os) (i + 1) = elim (relT es (ordF os) i) v := by
        show elim (relT es (ordF os) i) (ordF os i) = _
        rw [ov]
      obtain ⟨av, A, ha1, ha2, ha3, ha4, ha5⟩ := B.kn v hv
      have eA := ha5 alv
      have Amem : ∀ w, w ∈ A ↔ relT es (ordF os) i v w = true := fun w => by rw [eA, mem_nearR RI]
      have Alt : A.Pairwise (· < ·) := by rw [eA]; exact nearR_lt n _ _
      have And : A.Nodup := List.Pairwise.imp (fun {a b} h e => by omega) Alt
      have Al : A.length ≤ n := by rw [eA]; exact nearR_len n _ _
      have eAT : A = arT n es (ordF os) i := by
        rw [eA]
        unfold arT nearR
        rw [ov]
      have gv : DGet H' nd (kV (Sum.inl (v : Int))) (some (.ref av)) := by
        have z := DGet.k (k := Sum.inl (v : Int)) B.hnd
        rw [ha1] at z
        exact z
      refine ⟨_, rfl, _, rfl, t, _, i, _, rfl, rfl, sm.seq hT, at_nat gov, ?_⟩
      refine ⟨_, rfl, _, rfl, nd, _, rfl, gv, ?_⟩
      refine ⟨_, rfl, .inl ⟨rfl, _, SqL.of B.hb⟩, _, rfl, _, rfl, (by show 1 ≤ sizeLine; decide), fun L1 nL1 => ?_⟩
      have w1 := same_upd (o := .lst [V.int (v : Int)]) nL1
      refine ⟨av, L1, _, _, rfl, rfl, w1 _ _ ha2, upd_same, ?_, fun L2a nL2 => ?_⟩
      · rw [List.length_map, List.length_singleton, sizeLine_eq]
        omega
      have w2 := same_upd (o := .lst (A.map V.int ++ [V.int (v : Int)])) nL2
      have hL2 : (upd (upd H' L1 (.lst [V.int (v : Int)])) L2a (.lst (A.map V.int ++ [V.int (v : Int)]))) L2a = some (.lst ((A ++ [(v : Int)]).map V.int)) := by rw [upd_same, List.map_append]; rfl
      refine ⟨L2a, _, rfl, SqL.of hL2, fun ns l2 pn le nl2 => ⟨l2, _, rfl, .inl ⟨SqL.of upd_same, fun T nT => ?_⟩⟩⟩
      have w3 := same_upd (o := .lst (ns.map V.int)) nl2
      have w4 := same_upd (o := .tup (ns.map V.int)) nT
      have hT9 : (upd (upd (upd (upd H' L1 (.lst [V.int (v : Int)])) L2a (.lst (A.map V.int ++ [V.int (v : Int)]))) l2 (.lst (ns.map V.int))) T (.tup (ns.map V.int))) T = some (.tup (ns.map V.int)) := upd_same
      have w5 := w1.trans (w2.trans (w3.trans w4))
      generalize (upd (upd (upd (upd H' L1 (.lst [V.int (v : Int)])) L2a (.lst (A.map V.int ++ [V.int (v : Int)]))) l2 (.lst (ns.map V.int))) T (.tup (ns.map V.int))) = H7 at hT9 w5 ⊢
      have vA : (v : Int) ∉ A := fun z => by have := (Amem _).mp z; rw [RI.irr] at this; cases this
      have nsn : ns.Nodup := pn.nodup_iff.mpr (List.nodup_append.mpr ⟨And, by simp, fun a ha b hb e9 => by rw [List.mem_singleton.mp hb] at e9; exact vA (e9 ▸ ha)⟩)
      have nse : ns = bagT n es (ordF os) i := lt_ext (lt_of_le le nsn) ((vxs_lt n).filter _) fun k => by
        rw [pn.mem_iff, List.mem_append, List.mem_singleton, mem_bagT ok O hi, ov, Amem, or_comm]
      have B7 := B.same w5
      obtain ⟨k2, hk2, hl2⟩ := B7.hn
      rw [List.length_map, List.length_range] at hl2
      have bl : bas.length = i := by rw [B.pb.length, List.length_map, List.length_range]
      refine ⟨b1, _, _, rfl, rfl, B7.hb, by rw [List.length_map]; exact small1000 (by omega), ?_⟩
      have hnb8 : (upd H7 b1 (.lst (bas.map V.ref ++ [.ref T]))) nb = some (.dK k2) := by rw [upd_ne bnb.symm]; exact hk2
      refine ⟨_, rfl, _, rfl, _, rfl, nb, _, rfl, DPut.k (k := Sum.inl (v : Int)) hnb8 (small1000 (by omega)), ?_⟩
      have sm9 : Same H (upd (upd H7 b1 (.lst (bas.map V.ref ++ [.ref T]))) nb (.dK (putK k2 (Sum.inl (v : Int)) (.int (i : Int))))) := same_put (same_put (sm.trans w5) nb1H) nnbH
      have B9 : BoS K n nd b1 p1 nb kvs (bas ++ [T]) ((List.range (i + 1)).map fun t => bagT n es (ordF os) t) ((List.range i).map fun t => minT n es (ordF os) (plF os) t) (fun u N => Alv n os i u → N = nearR n (relT es (ordF os) i) u) (upd (upd H7 b1 (.lst (bas.map V.ref ++ [.ref T]))) nb (.dK (putK k2 (Sum.inl (v : Int)) (.int (i : Int))))) := by
        have z := B7.bag (SqT.of hT9) hk2 (by rw [List.length_map, List.length_range]; exact hl2) (Sum.inl (v : Int)) (.int (i : Int)) bnb
        rw [List.range_succ, List.map_append, List.map_singleton, ← nse]
        exact z
      have hav9 : (upd (upd H7 b1 (.lst (bas.map V.ref ++ [.ref T]))) nb (.dK (putK k2 (Sum.inl (v : Int)) (.int (i : Int))))) av = some (.lst (A.map V.int)) := by
        have h7 := w5 _ _ ha2
        rw [upd_ne (fun z => by rw [z, hk2] at h7; cases h7), upd_ne ha3]
        exact h7
      generalize (upd (upd H7 b1 (.lst (bas.map V.ref ++ [.ref T]))) nb (.dK (putK k2 (Sum.inl (v : Int)) (.int (i : Int))))) = H9 at sm9 B9 hav9 ⊢
      refine ⟨_, rfl, av, rfl, ⟨_, SqL.of hav9⟩, for_list (K := K) (a := av) (xs := A.map V.int) (fun j σ H10 => ∃ (y4 : Option V) (kvs : List (Key × V)), σ = [some (.int n), some (.ref e), some (.ref t), some (.ref nd), y4, some (.int (v : Int)), some (.ref b1), some (.ref p1), some (.ref nb), some (.int (i : Int)), some (.ref av), none, none, none, none] ∧ Same H H10 ∧ H10 av = some (.lst (A.map V.int)) ∧
        BoS K n nd b1 p1 nb kvs (bas ++ [T]) ((List.range (i + 1)).map fun t => bagT n es (ordF os) t) ((List.range i).map fun t => minT n es (ordF os) (plF os) t) (fun u N => Alv n os i u → u ≠ v → N = if (u : Int) ∈ A.take j then nearR n (relT es (ordF os) (i + 1)) u else nearR n (relT es (ordF os) i) u) H10)
        ⟨_, kvs, rfl, sm9, hav9, B9.imp fun u N _ h au _ => by rw [List.take_zero, if_neg (by simp)]; exact h au⟩ (fun j σ H10 _ ⟨_, _, _, _, h, _⟩ => SqL.of h) ?_ ?_⟩
      · rintro j x σ H10 hx10 ⟨y4, kvs, rfl, sm10, hav, B⟩
        rw [List.getElem?_map] at hx10
        cases eu : A[j]? with
        | none => rw [eu] at hx10; cases hx10
        | some u =>
          rw [eu] at hx10
          cases hx10
          have uA := List.mem_of_getElem? eu
          have Rvu := (Amem _).mp uA
          have vu := (RI.vx _ _ Rvu).2
          obtain ⟨u, rfl⟩ : ∃ k : Nat, u = k := ⟨u.toNat, by unfold Vx at vu; omega⟩
          have hu2 : u < n := by unfold Vx at vu; omega
          have uv : u ≠ v := fun z => by rw [z, RI.irr] at Rvu; cases Rvu
          have nut := nodup_take And eu
          have aLu : Alv n os i u := ⟨vu, (dead_at (n := n) Rvu (by omega)).2⟩
          obtain ⟨ua, N, h1, h2, h3, h4, h5⟩ := B.kn u hu2
          have eN : N = nearR n (relT es (ordF os) i) u := by
            have z := h5 aLu uv
            rw [if_neg nut] at z
            exact z
          have Nl : N.length ≤ n := by rw [eN]; exact nearR_len n _ _
          have kvl : kvs.length = n := by
            have z := congrArg List.length B.keys
            rw [List.length_map, List.length_map] at z
            unfold vxs at z
            rw [List.length_map, List.length_range] at z
            exact z
          have gu : DGet H10 nd (kV (Sum.inl (u : Int))) (some (.ref ua)) := by
            have z := DGet.k (k := Sum.inl (u : Int)) B.hnd
            rw [h1] at z
            exact z
          refine ⟨_, rfl, _, rfl, nd, _, rfl, gu, _, rfl, ua, av, _, _, rfl, rfl, h2, hav, ?_, fun L nL => ⟨L, rfl, ⟨_, SqL.of upd_same⟩, fun D nD => ?_⟩⟩
          · rw [List.length_map, List.length_map, sizeLine_eq]
            omega
          have x1 := same_upd (o := .lst (N.map V.int ++ A.map V.int)) nL
          have hL : (upd H10 L (.lst (N.map V.int ++ A.map V.int))) L = some (.lst ((N ++ A).map V.int)) := by rw [upd_same, List.map_append]
          have eNA : N.map V.int ++ A.map V.int = (N ++ A).map V.int := (List.map_append ..).symm
          generalize (upd H10 L (.lst (N.map V.int ++ A.map V.int))) = H11 at x1 hL nD ⊢
          have NAl : (N ++ A).length ≤ 120 := by rw [List.length_append]; omega
          refine lc_list (K := K) (a := L) (xs := (N ++ A).map V.int) (fun m H12 => Same H11 H12 ∧ H12 D = some (.lst ((((N ++ A).take m).filter fun w => decide (w ∉ [(u : Int), (v : Int)])).map V.int))) ⟨same_upd nD, upd_same⟩ (fun m H12 _ h => SqL.of (h.1 _ _ hL)) ?_ ?_
          · rintro m x H12 hx12 ⟨s12, hD⟩
            rw [List.getElem?_map] at hx12
            cases ez : (N ++ A)[m]? with
            | none => rw [ez] at hx12; cases hx12
            | some z =>
              rw [ez] at hx12
              cases hx12
              refine ⟨rfl, _, rfl, _, rfl, _, rfl, (by show 2 ≤ sizeLine; decide), fun T2 nT2 => ?_⟩
              have sT := same_upd (o := .tup [V.int (u : Int), V.int (v : Int)]) nT2
              refine ⟨T2, [(u : Int), (v : Int)].map V.int, rfl, .inr (SqT.of upd_same), rfl, rfl, _, rfl, iteNIn (fun c => ?_) (fun c => ?_)⟩
              · refine ⟨_, rfl, _, sT _ _ hD, flt_few NAl (by omega), same_put (s12.trans sT) nD, ?_⟩
                rw [upd_same, flt_take ez, if_pos (decide_eq_true c), List.map_append]
                rfl
              · refine ⟨s12.trans sT, ?_⟩
                rw [flt_take ez, if_neg (fun h => (of_decide_eq_true h) c), List.append_nil]
                exact sT _ _ hD
          · rintro H12 ⟨s12, hD⟩
            rw [List.length_map, List.take_length] at hD
            generalize hX : ((N ++ A).filter fun w => decide (w ∉ [(u : Int), (v : Int)])) = X at hD
            have Xmem : ∀ w, w ∈ X ↔ relT es (ordF os) (i + 1) u w = true := fun w => by
              rw [← hX, List.mem_filter, decide_eq_true_eq, List.mem_append, eN, mem_nearR RI, Amem, frel, elim_iff]
              constructor
              · rintro ⟨h6, h7⟩
                have wu : w ≠ u := fun z => h7 (by rw [z]; simp)
                have wv : w ≠ v := fun z => h7 (by rw [z]; simp)
                exact ⟨fun z => uv (by omega), wv, fun z => wu z.symm, h6.imp id fun z => ⟨Rvu, z⟩⟩
              · rintro ⟨h6, h7, h8, h9⟩
                refine ⟨h9.imp id fun z => z.2, fun z => ?_⟩
                rcases List.mem_cons.mp z with y | y
                · exact h8 y.symm
                · exact h7 (List.mem_singleton.mp y)
            have Xl : X.length ≤ 120 := by rw [← hX]; exact Nat.le_trans (List.length_filter_le _ _) NAl
            refine ⟨D, X, rfl, SqL.of hD, fun ns2 l3 pn2 le2 nl3 => ?_⟩
            have ns2l : ns2.length ≤ 120 := by rw [pn2.length_eq]; exact Xl
            have x3 := same_upd (o := .lst (ns2.map V.int)) nl3
            have x4 := x1.trans (s12.trans x3)
            have B13 := B.same x4
            have hl3 : (upd H12 l3 (.lst (ns2.map V.int))) l3 = some (.lst (ns2.map V.int)) := upd_same
            have l3b : l3 ≠ b1 := fun z => by rw [z, (B.same (x1.trans s12)).hb] at nl3; cases nl3
            have l3p : l3 ≠ p1 := fun z => by rw [z, (B.same (x1.trans s12)).hp] at nl3; cases nl3
            have hav13 := x4 _ _ hav
            generalize (upd H12 l3 (.lst (ns2.map V.int))) = H13 at x4 B13 hl3 hav13 ⊢
            refine ⟨_, rfl, _, rfl, nd, _, rfl, DPut.k (k := Sum.inl (u : Int)) B13.hnd (small1000 (by omega)), ?_⟩
            have B14 := B13.put (p' := fun w N => (w = u → N = ns2) ∧ (w ≠ u → (Alv n os i w → w ≠ v → N = if (w : Int) ∈ A.take j then nearR n (relT es (ordF os) (i + 1)) w else nearR n (relT es (ordF os) i) w))) hu2 hl3 l3b l3p ⟨fun _ => rfl, fun z => absurd rfl z⟩ fun w N hw hp => ⟨fun z => absurd z hw, fun _ => hp⟩
            have sm14 : Same H (upd H13 nd (.dK (putK kvs (Sum.inl (u : Int)) (.ref l3)))) := same_put (sm10.trans x4) nnd
            have hl14 : (upd H13 nd (.dK (putK kvs (Sum.inl (u : Int)) (.ref l3)))) l3 = some (.lst (ns2.map V.int)) := by rw [upd_ne (fun z => by rw [z, B13.hnd] at hl3; cases hl3)]; exact hl3
            have hav14 : (upd H13 nd (.dK (putK kvs (Sum.inl (u : Int)) (.ref l3)))) av = some (.lst (A.map V.int)) := by rw [upd_ne (fun z => by rw [z, B13.hnd] at hav13; cases hav13)]; exact hav13
            have gv14 : valV (putK kvs (Sum.inl (u : Int) : Key) (.ref l3)) (Sum.inl (u : Int) : Key) = some (.ref l3) := by rw [valV_put, if_pos rfl]
            generalize (upd H13 nd (.dK (putK kvs (Sum.inl (u : Int)) (.ref l3)))) = H14 at B14 sm14 hl14 hav14 ⊢
            generalize (putK kvs (Sum.inl (u : Int)) (.ref l3)) = kvs3 at B14 gv14
            have kvl3 : kvs3.length = n := by
              have z := congrArg List.length B14.keys
              rw [List.length_map, List.length_map] at z
              unfold vxs at z
              rw [List.length_map, List.length_range] at z
              exact z
            have g14 : ∀ {H15 : Hp}, Same H14 H15 → DGet H15 nd (kV (Sum.inl (u : Int))) (some (.ref l3)) := fun s15 => by
              have z := DGet.k (k := Sum.inl (u : Int)) (s15 _ _ B14.hnd)
              rw [gv14] at z
              exact z
            refine ⟨_, rfl, _, rfl, nd, _, rfl, g14 (Same.refl H14), l3, _, rfl, .inl (SqL.of hl14), _, rfl, by omega, by rw [List.length_map]; omega, fun D2 nD2 => ?_⟩
            have tn : (((ns2.map V.int).length : Nat) : Int).toNat = ns2.length := by rw [List.length_map]; omega
            rw [tn]
            refine lc_range (lo := 0) (n := ns2.length) (fun m H15 => Same H14 H15 ∧ ∃ res : List Int, H15 D2 = some (.lst (res.map V.int)) ∧ res.length ≤ m ∧ Dd ns2 m res) ⟨same_upd nD2, [], upd_same, Nat.le_refl _, ⟨List.Pairwise.nil, fun y => by rw [List.take_zero]⟩⟩ ?_ ?_
            · rintro m H15 hm ⟨s15, res, hD2, rl, dd⟩
              have e1 : (0 : Int) + (m : Int) = (m : Int) := by omega
              rw [e1]
              have hl15 := s15 _ _ hl14
              have ex : ns2[m]? = some ns2[m] := List.getElem?_eq_getElem hm
              generalize ns2[m] = x at ex
              have gx : (ns2.map V.int)[m]? = some (.int x) := by rw [List.getElem?_map, ex]; rfl
              have app : (m = 0 ∨ ∃ y, ns2[m - 1]? = some y ∧ x ≠ y) → Same H14 (upd H15 D2 (.lst (res.map V.int ++ [V.int x]))) ∧ ∃ res : List Int, (upd H15 D2 (.lst (res.map V.int ++ [V.int x]))) D2 = (upd H15 D2 (.lst (res.map V.int ++ [V.int x]))) D2 ∧ True := fun _ => ⟨same_put s15 nD2, res, rfl, trivial⟩
              refine ⟨rfl, _, rfl, rfl, _, rfl, ?_⟩
              have take_it : (m = 0 ∨ ∃ y, ns2[m - 1]? = some y ∧ x ≠ y) → tOp (rIxL K) (tDGet (tVar 3) (tVar 4)) (tVar 13) [some (.int n), some (.ref e), some (.ref t), some (.ref nd), some (.int (u : Int)), some (.int (v : Int)), some (.ref b1), some (.ref p1), some (.ref nb), some (.int (i : Int)), some (.ref av), none, none, some (.int (m : Int)), none] H15 fun y H4 => ∃ acc, H4 D2 = some (.lst acc) ∧ acc.length < sizeLine ∧ (Same H14 (upd H4 D2 (.lst (acc ++ [y]))) ∧ ∃ res : List Int, (upd H4 D2 (.lst (acc ++ [y]))) D2 = some (.lst (res.map V.int)) ∧ res.length ≤ m + 1 ∧ Dd ns2 (m + 1) res) := fun hx => by
                refine ⟨_, rfl, _, rfl, nd, _, rfl, g14 s15, _, rfl, l3, _, m, _, rfl, rfl, SqL.of hl15, at_nat gx, _, hD2, ?_, same_put s15 nD2, res ++ [x], ?_, ?_, dd.more le2 ex hx⟩
                · rw [List.length_map]
                  exact small1000 (by omega)
                · rw [upd_same, List.map_append]
                  rfl
                · rw [List.length_append, List.length_singleton]
                  omega
              by_cases c0 : m = 0
              · rw [decide_eq_true (by rw [c0]; rfl)]
                exact iteT (iteT (take_it (.inl c0)))
              · rw [decide_eq_false (fun z => c0 (by have := V.int.inj z; omega))]
                refine iteF ?_
                have ey : ns2[m - 1]? = some ns2[m - 1] := List.getElem?_eq_getElem (by omega)
                generalize ns2[m - 1] = y at ey
                have gy : (ns2.map V.int)[m - 1]? = some (.int y) := by rw [List.getElem?_map, ey]; rfl
                have em1 : (m : Int) - 1 = ((m - 1 : Nat) : Int) := by omega
                refine ⟨_, rfl, _, rfl, nd, _, rfl, g14 s15, _, rfl, l3, _, m, _, rfl, rfl, SqL.of hl15, at_nat gx, _, rfl, _, rfl, nd, _, rfl, g14 s15, _, rfl, _, _, rfl, rfl, l3, _, (m : Int) - 1, _, rfl, rfl, SqL.of hl15, by rw [em1]; exact at_nat gy, rfl, _, rfl, ?_⟩
                by_cases c1 : x = y
                · refine iteNS (by rw [c1]) ⟨s15, res, hD2, by omega, dd.skip ex (by omega) (by rw [c1]; exact ey)⟩
                · exact iteN (fun z => c1 (V.int.inj z)) (take_it (.inr ⟨y, ey, c1⟩))
            · rintro H15 ⟨s15, res, hD2, rl, dd⟩
              have eres : res = nearR n (relT es (ordF os) (i + 1)) u := lt_ext dd.srt (nearR_lt n _ _) fun w => by
                rw [dd.mem, List.take_length, pn2.mem_iff, Xmem, mem_nearR (relOk ok (ordF os) (i + 1))]
              have B15 := B14.same s15
              have D2b : D2 ≠ b1 := fun z => by rw [z, B14.hb] at nD2; cases nD2
              have D2p : D2 ≠ p1 := fun z => by rw [z, B14.hp] at nD2; cases nD2
              have hav15 := s15 _ _ hav14
              refine ⟨_, rfl, _, rfl, nd, _, rfl, DPut.k (k := Sum.inl (u : Int)) B15.hnd (small1000 (by omega)), ?_⟩
              refine ⟨_, _, rfl, same_put (sm14.trans s15) nnd, by rw [upd_ne (fun z => by rw [z, B15.hnd] at hav15; cases hav15)]; exact hav15, B15.put hu2 hD2 D2b D2p (fun _ _ => ?_) fun w N hw hp aw wv => ?_⟩
              · rw [if_pos (by rw [L2.take_next eu]; simp)]
                exact eres
              · have z := hp.2 hw aw wv
                rw [z, L2.take_next eu]
                have e3 : ((w : Int) ∈ A.take j ++ [(u : Int)]) ↔ (w : Int) ∈ A.take j := by
                  rw [List.mem_append, List.mem_singleton]
                  exact ⟨fun h => h.elim id fun z => by omega, .inl⟩
                by_cases c2 : (w : Int) ∈ A.take j
                · rw [if_pos c2, if_pos (e3.mpr c2)]
                · rw [if_neg c2, if_neg (fun z => c2 (e3.mp z))]
      · rintro σ H10 ⟨y4, kvs, rfl, sm10, hav, B⟩
        rw [List.length_map, List.take_length] at B
        refine ⟨_, rfl, .inl ⟨rfl, _, SqL.of B.hp⟩, _, rfl, av, rfl, ⟨_, SqL.of hav⟩, fun D nD => ?_⟩
        refine lc_list (K := K) (a := av) (xs := A.map V.int) (fun m H11 => Same H10 H11 ∧ H11 D = some (.lst (((A.take m).map (plF os)).map V.int))) ⟨same_upd nD, upd_same⟩ (fun m H11 _ h => SqL.of (h.1 _ _ hav)) ?_ ?_
        · rintro m x H11 hx11 ⟨s11, hD⟩
          rw [List.getElem?_map] at hx11
          cases ez : A[m]? with
          | none => rw [ez] at hx11; cases hx11
          | some z =>
            rw [ez] at hx11
            cases hx11
            have zo : z ∈ os := pm.mem_iff.mpr (mem_vxs.mpr (RI.vx _ _ ((Amem z).mp (List.mem_of_getElem? ez))).2)
            obtain ⟨jj, e1, e2, e3⟩ := pl_index zo
            have sT := (sm10.trans s11).seq hT
            refine ⟨rfl, _, rfl, .inl ⟨rfl, _, sT⟩, _, rfl, t, os.map V.int, .int z, jj, .int z, rfl, rfl, sT, rfl, flat_ints _, e2, (by show (z == z) = true; simp), e3, _, hD, ?_, same_put s11 nD, ?_⟩
            · rw [List.length_map, List.length_map, List.length_take]
              exact small1000 (by omega)
            · rw [upd_same, L2.take_next ez, List.map_append, List.map_append, ← e1]
              rfl
        · rintro H11 ⟨s11, hD⟩
          rw [List.length_map, List.take_length] at hD
          have B11 := B.same s11
          refine ⟨_, rfl, _, _, rfl, rfl, D, _, _, rfl, rfl, SqL.of hD, p1, _, _, rfl, rfl, B11.hp, ?_, ?_⟩
          · rw [List.length_map, List.length_map, List.length_range]
            exact small1000 (by omega)
          · refine ⟨_, _, _, _, kvs, bas ++ [T], rfl, same_put (sm10.trans s11) np1H, ?_⟩
            have z := B11.par (minOr ((n : Int) - 1) (A.map (plF os)))
            have em : minOr ((n : Int) - 1) (A.map (plF os)) = minT n es (ordF os) (plF os) i := by rw [eAT]; rfl
            have e8 : ((List.range (i + 1)).map fun t => minT n es (ordF os) (plF os) t) = ((List.range i).map fun t => minT n es (ordF os) (plF os) t) ++ [minOr ((n : Int) - 1) (A.map (plF os))] := by
              rw [List.range_succ, List.map_append, em]
              rfl
            rw [e8]
            refine BoS.imp z fun u N hu5 (h : Alv n os i u → u ≠ v → N = if (u : Int) ∈ A then nearR n (relT es (ordF os) (i + 1)) u else nearR n (relT es (ordF os) i) u) au => ?_
            · obtain ⟨au1, uv⟩ := (alS _).mp au
              have uv' : u ≠ v := fun z => uv (by rw [z])
              have y := h au1 uv'
              by_cases c : (u : Int) ∈ A
              · rw [if_pos c] at y
                exact y
              · rw [if_neg c] at y
                rw [y, frel]
                unfold nearR
                refine List.filter_congr fun w hw => ?_
                have vw := mem_vxs.mp hw
                have nR : relT es (ordF os) i v u = false := by
                  cases e9 : relT es (ordF os) i v u with
                  | false => rfl
                  | true => exact absurd ((Amem _).mpr e9) c
                obtain ⟨w, rfl⟩ : ∃ k : Nat, w = k := ⟨w.toNat, by unfold Vx at vw; omega⟩
                exact elim_keep RI uv' nR w
    · rintro σ H4 ⟨y4, y5, y9, y10, kvs, bas, rfl, sm4, B⟩
      have lb : bas.length = n := by rw [B.pb.length, List.length_map, List.length_range]
      refine ⟨_, rfl, rfl, _, rfl, ?_⟩
      by_cases c0 : n = 0
      · subst c0
        have eo : os = [] := List.eq_nil_of_length_eq_zero lo
        subst eo
        refine iteY rfl ⟨Nat.zero_le _, fun t1 n1 => ⟨(by show 1 ≤ sizeLine; decide), fun t2 n2 => ⟨1, rfl, (by show 1 ≤ sizeLine; decide), fun t3 n3 => ⟨(by show 2 ≤ sizeLine; decide), fun t4 n4 => ?_⟩⟩⟩⟩
        have u1 := same_upd (o := .tup []) n1
        have u2 := same_upd (o := .tup [V.ref t1]) n2
        have u3 := same_upd (o := .tup [V.int (-1)]) n3
        have u4 := same_upd (o := .tup [V.ref t2, V.ref t3]) n4
        exact q _ t4 t2 t3 [t1] (sm4.trans (u1.trans (u2.trans (u3.trans u4)))) upd_same (SqT.of (u4 _ _ (u3 _ _ upd_same))) (.cons (SqT.of (u4 _ _ (u3 _ _ (u2 _ _ upd_same)))) .nil) (SqT.of (u4 _ _ upd_same))
      · have c1 : os ≠ [] := fun z => c0 (by rw [← lo, z]; rfl)
        rw [decide_eq_false (fun z => c0 (by have := V.int.inj z; omega))]
        refine iteF ?_
        refine ⟨_, rfl, p1, _, rfl, SqL.of B.hp, fun L nL => ⟨L, rfl, ⟨_, SqL.of upd_same⟩, fun D nD => ?_⟩⟩
        have x1 := same_upd (o := .lst (((((List.range n).map fun t => minT n es (ordF os) (plF os) t).map V.int)).reverse)) nL
        have hL : (upd H4 L (.lst (((((List.range n).map fun t => minT n es (ordF os) (plF os) t).map V.int)).reverse))) L = some (.lst (((List.range n).map fun i => minT n es (ordF os) (plF os) (n - 1 - i)).map V.int)) := by
          rw [upd_same, ← List.map_reverse, rev_map]
        generalize (upd H4 L (.lst (((((List.range n).map fun t => minT n es (ordF os) (plF os) t).map V.int)).reverse))) = H5 at x1 hL nD ⊢
        refine lc_list (K := K) (a := L) (xs := ((List.range n).map fun i => minT n es (ordF os) (plF os) (n - 1 - i)).map V.int) (fun m H6 => Same H5 H6 ∧ H6 D = some (.lst ((((List.range n).take m).map fun i => (n : Int) - 1 - minT n es (ordF os) (plF os) (n - 1 - i)).map V.int))) ⟨same_upd nD, upd_same⟩ (fun m H6 _ h => SqL.of (h.1 _ _ hL)) ?_ ?_
        · rintro m x H6 hx6 ⟨s6, hD⟩
          rw [List.getElem?_map, List.getElem?_map] at hx6
          cases ez : (List.range n)[m]? with
          | none => rw [ez] at hx6; cases hx6
          | some z =>
            rw [ez] at hx6
            cases hx6
            refine ⟨rfl, _, rfl, _, _, rfl, rfl, _, rfl, _, _, rfl, rfl, _, hD, ?_, same_put s6 nD, ?_⟩
            · rw [List.length_map, List.length_map, List.length_take, List.length_range]
              exact small1000 (by omega)
            · rw [upd_same, L2.take_next ez, List.map_append, List.map_append]
              rfl
        · rintro H6 ⟨s6, hD⟩
          have tl : (List.range n).take ((((List.range n).map fun i => minT n es (ordF os) (plF os) (n - 1 - i)).map V.int).length) = List.range n := by
            rw [List.length_map, List.length_map, List.take_length]
          rw [tl] at hD
          refine ⟨D, _, rfl, .inl ⟨SqL.of hD, fun T nT => ?_⟩⟩
          have x7 := same_upd (o := .tup (((List.range n).map fun i => (n : Int) - 1 - minT n es (ordF os) (plF os) (n - 1 - i)).map V.int)) nT
          have hT7 : (upd H6 T (.tup (((List.range n).map fun i => (n : Int) - 1 - minT n es (ordF os) (plF os) (n - 1 - i)).map V.int))) T = some (.tup (((List.range n).map fun i => (n : Int) - 1 - minT n es (ordF os) (plF os) (n - 1 - i)).map V.int)) := upd_same
          have x8 := x1.trans (s6.trans x7)
          generalize (upd H6 T (.tup (((List.range n).map fun i => (n : Int) - 1 - minT n es (ordF os) (plF os) (n - 1 - i)).map V.int))) = H7 at x8 hT7 ⊢
          have B7 := B.same x8
          refine ⟨_, rfl, b1, _, rfl, SqL.of B7.hb, fun L2a nL2 => ⟨L2a, _, rfl, .inl ⟨SqL.of upd_same, fun tb ntb => ?_⟩⟩⟩
          have y1 := same_upd (o := .lst ((bas.map V.ref).reverse)) nL2
          have y2 := same_upd (o := .tup ((bas.map V.ref).reverse)) ntb
          have htb : (upd (upd H7 L2a (.lst ((bas.map V.ref).reverse))) tb (.tup ((bas.map V.ref).reverse))) tb = some (.tup (bas.reverse.map V.ref)) := by rw [upd_same, List.map_reverse]
          have y3 := y1.trans y2
          have pb8 : TupsAt K (upd (upd H7 L2a (.lst ((bas.map V.ref).reverse))) tb (.tup ((bas.map V.ref).reverse))) bas.reverse (bagsO es os) := by
            have z := B7.pb.same y3
            have e1 : bagsO es os = ((List.range n).map fun t => bagT n es (ordF os) t).reverse := by
              unfold bagsO
              rw [if_neg c1, rev_map, lo]
              rfl
            rw [e1]
            exact tups_rev z
          have hT8 := y3 _ _ hT7
          have sm8 : Same H (upd (upd H7 L2a (.lst ((bas.map V.ref).reverse))) tb (.tup ((bas.map V.ref).reverse))) := sm4.trans (x8.trans y3)
          generalize (upd (upd H7 L2a (.lst ((bas.map V.ref).reverse))) tb (.tup ((bas.map V.ref).reverse))) = H8 at htb pb8 hT8 sm8 ⊢
          refine ⟨1, rfl, (by show 1 ≤ sizeLine; decide), fun T1 nT1 => ?_⟩
          have z1 := same_upd (o := .tup [V.int (-1)]) nT1
          have hT1 : (upd H8 T1 (.tup [V.int (-1)])) T1 = some (.tup [V.int (-1)]) := upd_same
          generalize (upd H8 T1 (.tup [V.int (-1)])) = H9 at z1 hT1 ⊢
          have ll : ((((List.range n).map fun i => (n : Int) - 1 - minT n es (ordF os) (plF os) (n - 1 - i)).map V.int)).length = n := by rw [List.length_map, List.length_map, List.length_range]
          have eP : (parsO es os).map V.int = V.int (-1) :: (((List.range n).map fun i => (n : Int) - 1 - minT n es (ordF os) (plF os) (n - 1 - i)).map V.int).drop 1 := by
            have e2 : parsO es os = ((List.range n).map fun i => (n : Int) - 1 - minT n es (ordF os) (plF os) (n - 1 - i)).set 0 (-1) := by
              unfold parsO
              rw [if_neg c1, set0_map, lo]
              rfl
            rw [e2, ← List.map_drop]
            have ne : ((List.range n).map fun i => (n : Int) - 1 - minT n es (ordF os) (plF os) (n - 1 - i)) ≠ [] := fun z => by
              have := congrArg List.length z
              rw [List.length_map, List.length_range] at this
              exact c0 this
            cases hc : ((List.range n).map fun i => (n : Int) - 1 - minT n es (ordF os) (plF os) (n - 1 - i)) with
            | nil => exact absurd hc ne
            | cons a b => rfl
          have fin : ∀ (Hz : Hp) (tp : Addr), Same H9 Hz → SqT K Hz tp ((parsO es os).map V.int) → 2 ≤ sizeLine ∧ ∀ r, Hz r = none → Q (.ref r) (upd Hz r (.tup [.ref tb, .ref tp])) := fun Hz tp sz hz => by
            refine ⟨by decide, fun r nr => ?_⟩
            have w1 := same_upd (o := .tup [V.ref tb, V.ref tp]) nr
            exact q _ r tb tp bas.reverse (sm8.trans (z1.trans (sz.trans w1))) upd_same (SqT.of (w1 _ _ (sz _ _ (z1 _ _ htb)))) (((pb8.same z1).same sz).same w1) (same_sqT w1 hz)
          refine ⟨_, rfl, 1, rfl, T, _, rfl, SqT.of (z1 _ _ hT8), fun wh => ?_, fun _ T2 nT2 => ?_⟩
          · have w2 : HT.sIx _ 0 (some ((1 : Nat) : Int)) = 0 := wh.1
            rw [HT.sIx_nat, ll] at w2
            omega
          rw [cut_drop1]
          have z2 := same_upd (o := .tup ((((List.range n).map fun i => (n : Int) - 1 - minT n es (ordF os) (plF os) (n - 1 - i)).map V.int).drop 1)) nT2
          have hT2 : (upd H9 T2 (.tup ((((List.range n).map fun i => (n : Int) - 1 - minT n es (ordF os) (plF os) (n - 1 - i)).map V.int).drop 1))) T2 = some (.tup ((((List.range n).map fun i => (n : Int) - 1 - minT n es (ordF os) (plF os) (n - 1 - i)).map V.int).drop 1)) := upd_same
          generalize (upd H9 T2 (.tup ((((List.range n).map fun i => (n : Int) - 1 - minT n es (ordF os) (plF os) (n - 1 - i)).map V.int).drop 1))) = Ha at z2 hT2 ⊢
          refine ⟨T1, T2, [V.int (-1)], _, rfl, rfl, SqT.of (z2 _ _ hT1), SqT.of hT2, ?_, fun z => (by cases z), fun _ ye => ?_, fun _ _ T3 nT3 => ?_⟩
          · rw [List.length_drop, ll, List.length_singleton, sizeLine_eq]
            omega
          · refine fin Ha T1 z2 ?_
            rw [eP, ye]
            exact SqT.of (z2 _ _ hT1)
          · refine fin _ T3 (z2.trans (same_upd nT3)) ?_
            rw [eP]
            exact SqT.of upd_same
end
end Sm

set_option Elab.async false
set_option linter.all false
set_option maxRecDepth 100000
set_option maxHeartbeats 8000000
namespace Sm
open PySem PySem.Spec PyProof.Rows L2
abbrev sLaw : Stmt := topS 41
abbrev lawN : List Str := ["script", "size", "edges", "graph", "gone", "found", "order", "told", "bags", "parents"]
def spLaw (K : PySem.W.Frag) : Sp := fun vs H Q _ => ∃ (a : Addr) (ns : List Int), vs = [.ref a] ∧ SqL K H a (ns.map V.int) ∧ ns.length ≤ 63 ∧ ∀ H', Q (.bl true) H'
def tsD (cs : List (List Int)) : List PyData := cs.map fun c => .tuple (c.map PyData.int)
theorem tsD_at {K : PySem.W.Frag} {H : Hp} : ∀ {ps : List Addr} {cs : List (List Int)}, TupsAt K H ps cs → DpAll K H (ps.map V.ref) (tsD cs)
  | _, _, .nil => .nil
  | _, _, .cons h t => .cons (.tup h (dp_ints _)) (tsD_at t)
theorem tsD_lay : ∀ cs, PyData.canLayAll0 (tsD cs) = true
  | [] => by simp [tsD, PyData.canLayAll0]
  | c :: cs => by
    have z := tsD_lay cs
    unfold tsD at z
    simp only [tsD, List.map_cons, PyData.canLayAll0, PyData.canLay0, ints_lay, z]
    rfl
theorem tsD_depth : ∀ cs, PyData.depthAll (tsD cs) ≤ 1
  | [] => by simp [tsD, PyData.depthAll]
  | c :: cs => by
    have z := tsD_depth cs
    have y := ints_depth c
    unfold tsD at z
    simp only [tsD, List.map_cons, PyData.depthAll, PyData.depth]
    omega
theorem tsD_eqv : ∀ cs, PyData.eqvAll (tsD cs) (tsD cs) = true
  | [] => by simp [tsD, PyData.eqvAll]
  | c :: cs => by
    have z := tsD_eqv cs
    unfold tsD at z
    simp only [tsD, List.map_cons, PyData.eqvAll, PyData.eqv, ints_eqv, z]
    rfl
theorem tsL_shaped (cs : List (List Int)) : SeqAt.shaped (.list (tsD cs)) = true := by
  have h1 := tsD_depth cs
  have h2 := tsD_lay cs
  unfold SeqAt.shaped
  rw [Bool.and_eq_true]
  refine ⟨by simp only [PyData.canLay0]; exact h2, decide_eq_true ?_⟩
  simp only [PyData.depth]
  omega
def bpD (cs : List (List Int)) (ps : List Int) : PyData := .tuple [.tuple (tsD cs), .tuple (ps.map PyData.int)]
theorem bpD_shaped (cs : List (List Int)) (ps : List Int) : SeqAt.shaped (bpD cs ps) = true := by
  have h1 := tsD_depth cs
  have h2 := tsD_lay cs
  have h3 := ints_depth ps
  have h4 := ints_lay ps
  unfold SeqAt.shaped bpD
  rw [Bool.and_eq_true]
  refine ⟨by simp only [PyData.canLay0, PyData.canLayAll0, h2, h4]; rfl, decide_eq_true ?_⟩
  simp only [PyData.depth, PyData.depthAll]
  omega
theorem bpD_eqv (cs : List (List Int)) (ps : List Int) : PyData.eqv (bpD cs ps) (bpD cs ps) = true := by
  unfold bpD
  simp only [PyData.eqv, PyData.eqvAll, tsD_eqv, ints_eqv]
  rfl
theorem tsL_eqv (cs : List (List Int)) : PyData.eqv (.list (tsD cs)) (.list (tsD cs)) = true := by
  simp only [PyData.eqv]
  exact tsD_eqv cs
theorem good_o {n : Nat} {es : List Pr} {os : List Int} (ok : ∀ q ∈ es, Okp n q) (pm : os.Perm (vxs n)) : Good n es (bagsO es os) (parsO es os) := by
  obtain ⟨h1, h2, h3⟩ := vx_perm pm
  unfold bagsO parsO
  by_cases c : os = []
  · subst c
    have n0 : n = 0 := by rw [← h3]; rfl
    subst n0
    rw [if_pos rfl, if_pos rfl]
    have ne : es = [] := by
      cases es with
      | nil => rfl
      | cons q r =>
        obtain ⟨a, b, d⟩ := ok q List.mem_cons_self
        omega
    subst ne
    refine ⟨rfl, rfl, fun b hb => ?_, fun i p hi hp => ?_, fun v hv => ?_, (fun q hq => by cases hq), fun v hv => ?_⟩
    · rw [List.mem_singleton.mp hb]
      exact ⟨List.Pairwise.nil, fun k hk => by cases hk⟩
    · have := (List.getElem?_eq_some_iff.mp hp).1
      simp at this
      omega
    · unfold Vx at hv; omega
    · unfold Vx at hv; omega
  · rw [if_neg c, if_neg c, h3]
    have O := ord_of (os := os) (by rw [h3]; exact pm)
    rw [h3] at O
    refine good_order ok O (fun t ht => ?_) (by rw [← h3]; exact List.length_pos_iff.mpr c)
    refine pl_at h2 ?_
    unfold ordF
    rw [List.getD_eq_getElem?_getD, List.getElem?_eq_getElem (by omega)]
    rfl
theorem bags_len {n : Nat} {es : List Pr} {os : List Int} (pm : os.Perm (vxs n)) (hn : n ≤ 59) : (bagsO es os).length ≤ 60 := by
  obtain ⟨h1, h2, h3⟩ := vx_perm pm
  unfold bagsO
  by_cases c : os = []
  · rw [if_pos c]; decide
  · rw [if_neg c]
    unfold bagsL
    rw [List.length_map, List.length_range]
    omega
theorem bags_ne {es : List Pr} {os : List Int} : bagsO es os ≠ [] := by
  unfold bagsO
  by_cases c : os = []
  · rw [if_pos c]; simp
  · rw [if_neg c]
    unfold bagsL
    intro z
    have := congrArg List.length z
    rw [List.length_map, List.length_range] at this
    exact c (List.eq_nil_of_length_eq_zero this)
/-- the width of these bags is the greatest degree -/
theorem width_o {n : Nat} {es : List Pr} {os : List Int} (ok : ∀ q ∈ es, Okp n q) (pm : os.Perm (vxs n)) {m : Int} (h1 : m ∈ (bagsO es os).map (fun b => (b.length : Int))) (h2 : ∀ y ∈ (bagsO es os).map (fun b => (b.length : Int)), y ≤ m) : m - 1 = maxOr (-1) (degs n es os) := by
  obtain ⟨v1, v2, v3⟩ := vx_perm pm
  by_cases c : os = []
  · subst c
    unfold bagsO at h1
    rw [if_pos rfl] at h1
    have := List.mem_singleton.mp h1
    rw [this]
    rfl
  · have O := ord_of (os := os) (by rw [v3]; exact pm)
    rw [v3] at O
    have len : ∀ t, t < n → ((bagT n es (ordF os) t).length : Int) = ((arT n es (ordF os) t).length : Int) + 1 := fun t ht => by
      have nd1 : (bagT n es (ordF os) t).Nodup := List.Pairwise.imp (fun {a b} h e => by omega) ((vxs_lt n).filter _)
      have nd2 : (arT n es (ordF os) t).Nodup := List.Pairwise.imp (fun {a b} h e => by omega) ((vxs_lt n).filter _)
      have p : (bagT n es (ordF os) t).Perm (ordF os t :: arT n es (ordF os) t) := by
        refine (List.perm_ext_iff_of_nodup nd1 (List.nodup_cons.mpr ⟨fun z => rel_irr ok ((mem_arT ok).mp z) rfl, nd2⟩)).mpr fun w => ?_
        rw [mem_bagT ok O ht, List.mem_cons, mem_arT ok]
      rw [p.length_eq, List.length_cons]
      omega
    have eb : bagsO es os = bagsL n es (ordF os) := by
      unfold bagsO
      rw [if_neg c, v3]
    rw [eb] at h1 h2
    have np : 0 < n := by rw [← v3]; exact List.length_pos_iff.mpr c
    unfold degs
    rw [v3]
    unfold bagsL at h1 h2
    rw [List.map_map] at h1 h2
    obtain ⟨i, hi, e⟩ := List.mem_map.mp h1
    have hi' := List.mem_range.mp hi
    have em : m = ((arT n es (ordF os) (n - 1 - i)).length : Int) + 1 := by
      rw [← e, ← len _ (by omega)]
      rfl
    have ub : ∀ t, t < n → ((arT n es (ordF os) t).length : Int) + 1 ≤ m := fun t ht => by
      refine h2 _ (List.mem_map.mpr ⟨n - 1 - t, List.mem_range.mpr (by omega), ?_⟩)
      rw [← len t ht]
      show ((bagT n es (ordF os) (n - 1 - (n - 1 - t))).length : Int) = _
      rw [show n - 1 - (n - 1 - t) = t by omega]
    rcases maxOr_spec (d := -1) (l := (List.range n).map fun t => ((arT n es (ordF os) t).length : Int)) with ⟨h, _⟩ | ⟨h3, h4⟩
    · have := congrArg List.length h
      rw [List.length_map, List.length_range] at this
      exact absurd this (by simp; omega)
    · obtain ⟨t, ht, e2⟩ := List.mem_map.mp h3
      have a := ub t (List.mem_range.mp ht)
      have b := h4 _ (List.mem_map.mpr ⟨n - 1 - i, List.mem_range.mpr (by omega), rfl⟩)
      omega
end Sm

set_option Elab.async false
set_option linter.all false
set_option maxRecDepth 100000
set_option maxHeartbeats 8000000
namespace Sm
open PySem PySem.Spec PyProof.Rows L2
section
variable {P : Program} {w : World} {K : PySem.W.Frag} {mg : Str → Option Value} {base : Heap}
theorem scLaw : FnScope lawN ["script"] (defScope sLaw) := ⟨rfl, rfl, rfl, by decide +kernel, rfl, by decide +kernel, by decide +kernel⟩
theorem ok_law {f C CB fI fE fC fO fP fL fW fS fD fB fG fF fT : Addr} {fd fdI fdE fdC fdO fdP fdL fdW fdS fdD fdB fdG fdF fdT : FuncData} (F : Fun K "law" "law" sLaw f fd) (T : TxG K mg C)
    (GI : FnOk P w K mg base (L2.CX P w) 4 fI fdI ["self", "size", "edges"] (spInit K C CB)) (M : Mk K C fI) (bI : Binds K fdI ["self", "size", "edges"] [])
    (GE : FnOk P w K mg base CX0 3 fE fdE ["cell", "most"] (spEds K)) (kE : PySem.W.keepIn K (.ref fE) = true) (bE : Binds K fdE ["cell", "most"] []) (gE : mg "_law_edges" = some (.ref fE))
    (GC : FnOk P w K mg base CX0 1 fC fdC ["script", "k"] (spCel K)) (kC : PySem.W.keepIn K (.ref fC) = true) (bC : Binds K fdC ["script", "k"] []) (gC : mg "_law_cell" = some (.ref fC))
    (GO : FnOk P w K mg base CX0 3 fO fdO ["cell", "size"] (spOrd K)) (kO : PySem.W.keepIn K (.ref fO) = true) (bO : Binds K fdO ["cell", "size"] []) (gO : mg "_law_order" = some (.ref fO))
    (GP : FnOk P w K mg base CX0 7 fP fdP ["graph", "without"] (spCmp K C)) (kP : PySem.W.keepIn K (.ref fP) = true) (bP : Binds K fdP ["graph", "without"] []) (gP : mg "components" = some (.ref fP))
    (GL : FnOk P w K mg base CX0 2 fL fdL ["size", "edges", "gone"] (spLc K)) (kL : PySem.W.keepIn K (.ref fL) = true) (bL : Binds K fdL ["size", "edges", "gone"] []) (gL : mg "_law_components" = some (.ref fL))
    (GW : FnOk P w K mg base CX0 7 fW fdW ["graph", "order"] (spOw K C)) (kW : PySem.W.keepIn K (.ref fW) = true) (bW : Binds K fdW ["graph", "order"] []) (gW : mg "order_width" = some (.ref fW))
    (GS : FnOk P w K mg base CX0 1 fS fdS ["actual"] spIsi) (kS : PySem.W.keepIn K (.ref fS) = true) (bS : Binds K fdS ["actual"] []) (gS : mg "_law_is_integer" = some (.ref fS))
    (GD : FnOk P w K mg base CX0 2 fD fdD ["size", "edges", "order"] (spLd K)) (kD : PySem.W.keepIn K (.ref fD) = true) (bD : Binds K fdD ["size", "edges", "order"] []) (gD : mg "_law_degrees" = some (.ref fD))
    (GB : FnOk P w K mg base CX0 7 fB fdB ["graph", "order"] (spBoo K C)) (kB : PySem.W.keepIn K (.ref fB) = true) (bB : Binds K fdB ["graph", "order"] []) (gB : mg "bags_of_order" = some (.ref fB))
    (GG : FnOk P w K mg base CX0 1 fG fdG ["size", "edges", "order"] (spBo K)) (kG : PySem.W.keepIn K (.ref fG) = true) (bG : Binds K fdG ["size", "edges", "order"] []) (gG : mg "_law_by_order" = some (.ref fG))
    (GF : FnOk P w K mg base CX0 5 fF fdF ["graph", "bags", "parents"] (spFt K C)) (kF : PySem.W.keepIn K (.ref fF) = true) (bF : Binds K fdF ["graph", "bags", "parents"] []) (gF : mg "fault" = some (.ref fF))
    (GT : FnOk P w K mg base CX0 1 fT fdT ["bags"] (spWof K)) (kT : PySem.W.keepIn K (.ref fT) = true) (bT : Binds K fdT ["bags"] []) (gT : mg "width_of" = some (.ref fT))
    (mt : mg "tuple" = none) (mi : mg "int" = none) (mli : mg "list" = none) (mis : mg "isinstance" = none) (mx : mg "max" = none) :
    FnOk P w K mg base CX0 8 f fd ["script"] (spLaw K) := by
  refine F.ok scLaw (fun vs H Q E h => ?_) (fun cdv A outer s H vs Q E hr h => ?_)
  · obtain ⟨a, ns, rfl, _⟩ := h
    rfl
  · obtain ⟨a, ns, rfl, hS, hlen, q⟩ := h
    have hr1 : Room 1 _ := hr.mono (by decide)
    have hr2 : Room 2 _ := hr.mono (by decide)
    have hr3 : Room 3 _ := hr.mono (by decide)
    have hr4 : Room 4 _ := hr.mono (by decide)
    have hr5 : Room 5 _ := hr.mono (by decide)
    have hr7 : Room 7 _ := hr.mono (by decide)
    have hu : _ + 64 < cLine := hr.units
    refine ⟨_, pss_cons (ps_asg (pe_call GE hr3 (by rfl) gE kE bE .nil pass0 (pa_cons (pe_call GC hr1 (by rfl) gC kC bC .nil pass0 (pa_cons (pv 0) (pa_cons pe_int pa_nil))) (pa_cons pe_int pa_nil))) (pg_tup (by rfl) (pgs_cons (pg_name (i := 1) scLaw.nd rfl (.inl rfl)) (pgs_cons (pg_name (i := 2) scLaw.nd rfl (.inl rfl)) pgs_nil))))
      (pss_cons (ps_set (i := 3) scLaw.nd rfl (.inl rfl) (pe_make M GI hr5 (by rfl) T.g bI .nil passL (pa_cons (pv 1) (pa_cons (pv 2) pa_nil))))
      (pss_cons (ps_set (i := 4) scLaw.nd rfl (.inl rfl) (pe_callTy call_tuple_of (by rfl) mt (by decide +kernel) (pa_cons (pe_slice sl_list (pe_call GO hr3 (by rfl) gO kO bO .nil pass0 (pa_cons (pe_call GC hr1 (by rfl) gC kC bC .nil pass0 (pa_cons (pv 0) (pa_cons pe_int pa_nil))) (pa_cons (pv 1) pa_nil))) po_none
          (po_some (pe_op op_mod (pe_callTy call_int1 (by rfl) mi (by decide +kernel) (pa_cons (pe_call GC hr1 (by rfl) gC kC bC .nil pass0 (pa_cons (pv 0) (pa_cons pe_int pa_nil))) pa_nil)) (pe_op op_add (pv 1) pe_int)))) pa_nil)))
      (pss_cons (ps_set (i := 5) scLaw.nd rfl (.inl rfl) (pe_call GP hr7 (by rfl) gP kP bP .nil pass0 (pa_cons (pv 3) (pa_cons (pv 4) pa_nil))))
      (pss_cons (ps_if (PW.pt (pw_or (pt_not (pt_val (pe_callB call_isi (by rfl) mis (by decide +kernel) (pa_cons (pv 5) (pa_cons (pe_bltn (v := .ty "list") (by rfl) mli (by decide +kernel) rfl) pa_nil)))))
          (pw_or1 (pt_cmpR (op_neD hu) (pv 5) (pe_call GL hr2 (by rfl) gL kL bL .nil pass0 (pa_cons (pv 1) (pa_cons (pv 2) (pa_cons (pv 4) pa_nil)))) (nomark _))))) (pss_one (ps_ret pe_bl)) pss_nil)
      (pss_cons (ps_set (i := 6) scLaw.nd rfl (.inl rfl) (pe_callTy call_tuple_of (by rfl) mt (by decide +kernel) (pa_cons (pe_call GO hr3 (by rfl) gO kO bO .nil pass0 (pa_cons (pe_call GC hr1 (by rfl) gC kC bC .nil pass0 (pa_cons (pv 0) (pa_cons pe_int pa_nil))) (pa_cons (pv 1) pa_nil))) pa_nil)))
      (pss_cons (ps_set (i := 7) scLaw.nd rfl (.inl rfl) (pe_call GW hr7 (by rfl) gW kW bW .nil pass0 (pa_cons (pv 3) (pa_cons (pv 6) pa_nil))))
      (pss_cons (ps_if (PW.pt (pw_or (pt_not (pt_val (pe_call GS hr1 (by rfl) gS kS bS .nil pass0 (pa_cons (pv 7) pa_nil))))
          (pw_or1 (pt_cmpR op_ne (pv 7) (pe_maxD (by rfl) mx (by rfl) hu (pa_cons (pe_call GD hr2 (by rfl) gD kD bD .nil pass0 (pa_cons (pv 1) (pa_cons (pv 2) (pa_cons (pv 6) pa_nil)))) pa_nil) (pk_cons (pe_un un_neg pe_int) pk_nil)) (nomark _))))) (pss_one (ps_ret pe_bl)) pss_nil)
      (pss_cons (ps_asg (pe_call GB hr7 (by rfl) gB kB bB .nil pass0 (pa_cons (pv 3) (pa_cons (pv 6) pa_nil))) (pg_tup (by rfl) (pgs_cons (pg_name (i := 8) scLaw.nd rfl (.inl rfl)) (pgs_cons (pg_name (i := 9) scLaw.nd rfl (.inl rfl)) pgs_nil))))
      (pss_cons (ps_if (PW.pt (pw_or (pt_cmpR (op_neD hu) (pe_tup (pa_cons (pv 8) (pa_cons (pv 9) pa_nil))) (pe_call GG hr1 (by rfl) gG kG bG .nil pass0 (pa_cons (pv 1) (pa_cons (pv 2) (pa_cons (pe_callTy call_list_of (by rfl) mli (by decide +kernel) (pa_cons (pv 6) pa_nil)) pa_nil)))) (nomark _))
          (pw_or1 (pt_cmp (pc_notN (pe_call GF hr5 (by rfl) gF kF bF .nil pass0 (pa_cons (pv 3) (pa_cons (pv 8) (pa_cons (pv 9) pa_nil))))))))) (pss_one (ps_ret pe_bl)) pss_nil)
      (pss_one (ps_ret (pe_cmpR op_eq (pe_call GT hr1 (by rfl) gT kT bT .nil pass0 (pa_cons (pv 8) pa_nil)) (pv 7) (nomark _))))))))))))), ?_⟩
    refine ⟨_, rfl, a, ns, 0, rfl, hS, fun c0 => ⟨c0, 9, rfl, by decide, fun H1 r e n as es s1 hr1' he1 pa1 hn sub => ?_⟩⟩
    have okp : ∀ q ∈ es, Okp n q := fun q hq => mem_pairs (sub.subset hq)
    have lts : es.Pairwise lexlt := (pairsL_lt n).sublist sub
    have nds : es.Nodup := List.Pairwise.imp (fun {p q} h e9 => by
      subst e9
      have z : SrtO.lexB p p = true := h
      unfold SrtO.lexB at z
      simp at z) lts
    have few : es.length ≤ 36 := Nat.le_trans sub.length_le (pairs_few hn)
    refine ⟨r, _, rfl, SqT.of hr1', rfl, _, _, rfl, _, _, rfl, rfl, ?_⟩
    refine ⟨_, rfl, _, rfl, fun g dg ng ndg nedg => ?_⟩
    have sg : Same H1 (upd (upd H1 dg (.own g)) g (.ins C dg [])) := same_put (same_upd ndg) ng
    refine ⟨g, dg, (n : Int), e, _, evs es, rfl, upd_same, SqL.of (sg _ _ he1), ev_pairs (pa1.same sg), by rw [evs, List.length_map]; omega, fun hbad => ?_, fun ps hps H2 qs bt pm ga _ => ⟨rfl, ?_⟩⟩
    · rw [mk_evs (by omega) okp nds] at hbad
      cases hbad
    rw [mk_evs (by omega) okp nds] at hps
    cases hps
    have qe : qs = es := lex_eq ga.srt lts pm
    subst qe
    have s12 : Same H1 H2 := fun b o h => bt b o (sg b o h) (ne_of_none h ng)
    have ga : GraphAt K C H2 g n qs := ga
    have S2 := s1.trans s12
    -- gone
    refine ⟨_, rfl, a, ns, 1, rfl, S2.seq hS, fun c1 => ⟨_, rfl, c1, n, rfl, by omega, fun H3 po os s3 npo hpo pmo => ?_⟩⟩
    have S3 := S2.trans s3
    refine ⟨_, rfl, a, ns, 2, rfl, S3.seq hS, fun c2 => .inl ⟨_, rfl, _, rfl, _, _, rfl, rfl, _, _, rfl, rfl, (by omega : (0 : Int) < (n : Int) + 1), ?_⟩⟩
    obtain ⟨m, hm, hmn⟩ : ∃ m : Nat, c2 % ((n : Int) + 1) = m ∧ m ≤ n := by
      have x := Int.emod_nonneg c2 (show ((n : Int) + 1) ≠ 0 by omega)
      have y := Int.emod_lt_of_pos c2 (show (0 : Int) < (n : Int) + 1 by omega)
      exact ⟨(c2 % ((n : Int) + 1)).toNat, by omega, by omega⟩
    refine ⟨_, rfl, po, _, rfl, SqL.of hpo, fun l4 nl4 => ?_⟩
    dsimp only
    rw [hm, cut_take]
    obtain ⟨vxo, ndo, lo⟩ := vx_perm pmo
    have s4 := same_upd (o := .lst ((os.take m).map V.int)) nl4
    have hl4 : (upd H3 l4 (.lst ((os.take m).map V.int))) l4 = some (.lst ((os.take m).map V.int)) := upd_same
    refine ⟨l4, _, rfl, .inl ⟨SqL.of hl4, fun tg ntg => ?_⟩⟩
    have s5 := same_upd (o := .tup ((os.take m).map V.int)) ntg
    have htg : (upd (upd H3 l4 (.lst ((os.take m).map V.int))) tg (.tup ((os.take m).map V.int))) tg = some (.tup ((os.take m).map V.int)) := upd_same
    have s35 := s4.trans s5
    generalize (upd (upd H3 l4 (.lst ((os.take m).map V.int))) tg (.tup ((os.take m).map V.int))) = H5 at htg s35 ⊢
    have hG := ga.same (s3.trans s35)
    have S5 := S3.trans s35
    have e15 := s12.trans (s3.trans s35)
    generalize hgo : os.take m = G at htg
    have ndG : G.Nodup := by rw [← hgo]; exact ndo.sublist (List.take_sublist _ _)
    have vxG : ∀ k ∈ G, Vx n k := fun k hk => vxo k (by rw [← hgo] at hk; exact List.mem_of_mem_take hk)
    -- components
    refine ⟨_, rfl, _, rfl, g, tg, n, qs, G, rfl, hG, SqT.of htg, ndG, vxG, fun H6 f6 ps6 s6 nf6 hf6 pt6 => ?_⟩
    have S6 := S5.trans s6
    have e16 := e15.trans s6
    refine ⟨_, rfl, _, .ty "list", .type "list", .type "list", true, rfl, .ty "list", .base (.lst hf6), kit_ty (by decide +kernel), true, rfl, iteF ?_⟩
    refine ⟨_, rfl, _, rfl, _, rfl, _, rfl, n, e, tg, as, qs, G, rfl, by omega, SqL.of (e16 _ _ he1), pa1.same e16, okp, SqT.of (s6 _ _ htg), fun H7 f7 ps7 s7 nf7 hf7 pt7 => ?_⟩
    refine ⟨.list (tsD (compG n qs G n)), .list (tsD (compG n qs G n)), .lst (SqL.of (s7 _ _ hf6)) (tsD_at (pt6.same s7)), .lst (SqL.of hf7) (tsD_at pt7), tsL_shaped _, tsL_shaped _, _, rfl, ?_⟩
    rw [tsL_eqv]
    refine iteF ?_
    -- order
    have S7 := S6.trans s7
    refine ⟨_, rfl, a, ns, 3, rfl, S7.seq hS, fun c3 => ⟨_, rfl, c3, n, rfl, by omega, fun H8 po8 os s8 npo8 hpo8 pm8 => ?_⟩⟩
    refine ⟨po8, _, rfl, .inl ⟨SqL.of hpo8, fun to nto => ?_⟩⟩
    have s9 := same_upd (o := .tup (os.map V.int)) nto
    have hto : (upd H8 to (.tup (os.map V.int))) to = some (.tup (os.map V.int)) := upd_same
    have s79 := s8.trans s9
    generalize (upd H8 to (.tup (os.map V.int))) = H9 at hto s79 ⊢
    obtain ⟨vxo8, ndo8, lo8⟩ := vx_perm pm8
    have hG9 := hG.same (s6.trans (s7.trans s79))
    have e19 := e16.trans (s7.trans s79)
    refine ⟨_, rfl, _, rfl, g, to, n, qs, os, rfl, hG9, SqT.of hto, vxo8, by omega, fun H10 s10 => ?_⟩
    have e110 := e19.trans s10
    have hto10 := s10 _ _ hto
    refine ⟨_, rfl, _, rfl, true, rfl, iteF ?_⟩
    refine ⟨_, rfl, _, rfl, _, rfl, _, rfl, n, e, to, as, qs, os, rfl, by omega, SqL.of (e110 _ _ he1), pa1.same e110, okp, SqT.of hto10, pm8, fun H11 p11 s11 np11 hp11 => ?_⟩
    refine ⟨1, rfl, p11, _, -1, rfl, rfl, SqL.of hp11, rfl, _, rfl, iteNS rfl ?_⟩
    have hG11 := hG9.same (s10.trans s11)
    have e111 := e110.trans s11
    have hto11 := s11 _ _ hto10
    -- bags
    refine ⟨_, rfl, _, rfl, g, to, n, qs, os, rfl, hG11, SqT.of hto11, pm8, fun H12 r12 tb tp ps12 s12' hr12 htb hpt htp => ?_⟩
    refine ⟨r12, _, rfl, SqT.of hr12, rfl, _, _, rfl, _, _, rfl, rfl, ?_⟩
    refine ⟨_, rfl, _, rfl, (by show 2 ≤ sizeLine; decide), fun t13 nt13 => ?_⟩
    have s13 := same_upd (o := .tup [V.ref tb, V.ref tp]) nt13
    have ht13 : (upd H12 t13 (.tup [V.ref tb, V.ref tp])) t13 = some (.tup [V.ref tb, V.ref tp]) := upd_same
    generalize (upd H12 t13 (.tup [V.ref tb, V.ref tp])) = H13 at s13 ht13 ⊢
    have e113 := e111.trans (s12'.trans s13)
    refine ⟨_, rfl, _, rfl, _, rfl, to, _, rfl, .inr (SqT.of (s13 _ _ (s12' _ _ hto11))), fun l14 nl14 => ?_⟩
    have s14 := same_upd (o := .lst (os.map V.int)) nl14
    have hl14 : (upd H13 l14 (.lst (os.map V.int))) l14 = some (.lst (os.map V.int)) := upd_same
    generalize (upd H13 l14 (.lst (os.map V.int))) = H14 at s14 hl14 ⊢
    have e114 := e113.trans s14
    refine ⟨n, e, l14, as, qs, os, rfl, by omega, SqL.of (e114 _ _ he1), pa1.same e114, okp, SqL.of hl14, pm8, fun H15 r15 tb15 tp15 ps15 s15 hr15 htb15 hpt15 htp15 => ?_⟩
    have s1315 := s14.trans s15
    have s1215 := s13.trans s1315
    refine ⟨bpD (bagsO qs os) (parsO qs os), bpD (bagsO qs os) (parsO qs os), .tup (SqT.of (s1315 _ _ ht13)) (.cons (.tup (same_sqT s1215 htb) (tsD_at (hpt.same s1215))) (.cons (.tup (same_sqT s1215 htp) (dp_ints _)) .nil)),
      .tup (SqT.of hr15) (.cons (.tup htb15 (tsD_at hpt15)) (.cons (.tup htp15 (dp_ints _)) .nil)), bpD_shaped _ _, bpD_shaped _ _, _, rfl, ?_⟩
    rw [bpD_eqv]
    refine iteF ?_
    have hG15 := hG11.same (s12'.trans s1215)
    have few60 : (bagsO qs os).length ≤ 60 := bags_len pm8 (by omega)
    refine ⟨_, rfl, _, rfl, _, rfl, g, tb, tp, n, qs, ps12, bagsO qs os, parsO qs os, rfl, hG15, same_sqT s1215 htb, hpt.same s1215, same_sqT s1215 htp, good_o okp pm8, few60, fun H16 s16 => ⟨_, rfl, iteF ?_⟩⟩
    refine ⟨_, rfl, tb, ps12, bagsO qs os, rfl, same_sqT s16 (same_sqT s1215 htb), (hpt.same s1215).same s16, bags_ne, few60, fun H17 m s17 hm1 hm2 => ?_⟩
    refine ⟨_, rfl, rfl, ?_⟩
    rw [width_o okp pm8 hm1 hm2, decide_eq_true rfl]
    exact q H17
end
end Sm

set_option Elab.async false
set_option linter.all false
set_option maxRecDepth 100000
set_option maxHeartbeats 8000000
namespace Sm
open PySem PySem.Spec PyProof.Rows L2
theorem all_mk {l : PySem.W.OpenLaw} {w : World} {K : PySem.W.Frag} {h : Heap} {mg : Str → Option Value} {fa C CB : Addr} {tm : Tok} (X : K.In h) (G : h.Ns mainGlobals mg) (hfa : mg "law" = some (.ref fa))
    {fNum : Addr} {odNum anNum : Option Addr} {slNum : Array (Option Value)} {ocNum kVNum dcNum pmNum cdNum ctNum : Value}
    {fVtx : Addr} {odVtx anVtx : Option Addr} {slVtx : Array (Option Value)} {ocVtx kVVtx dcVtx pmVtx cdVtx ctVtx : Value}
    {fEdg : Addr} {odEdg anEdg : Option Addr} {slEdg : Array (Option Value)} {ocEdg kVEdg dcEdg pmEdg cdEdg ctEdg : Value}
    {fAsc : Addr} {odAsc anAsc : Option Addr} {slAsc : Array (Option Value)} {ocAsc kVAsc dcAsc pmAsc cdAsc ctAsc : Value}
    {fNls : Addr} {odNls anNls : Option Addr} {slNls : Array (Option Value)} {ocNls kVNls dcNls pmNls cdNls ctNls : Value}
    {fRch : Addr} {odRch anRch : Option Addr} {slRch : Array (Option Value)} {ocRch kVRch dcRch pmRch cdRch ctRch : Value}
    {fPcw : Addr} {odPcw anPcw : Option Addr} {slPcw : Array (Option Value)} {ocPcw kVPcw dcPcw pmPcw cdPcw ctPcw : Value}
    {fMsk : Addr} {odMsk anMsk : Option Addr} {slMsk : Array (Option Value)} {ocMsk kVMsk dcMsk pmMsk cdMsk ctMsk : Value}
    {fMem : Addr} {odMem anMem : Option Addr} {slMem : Array (Option Value)} {ocMem kVMem dcMem pmMem cdMem ctMem : Value}
    {fNgh : Addr} {odNgh anNgh : Option Addr} {slNgh : Array (Option Value)} {ocNgh kVNgh dcNgh pmNgh cdNgh ctNgh : Value}
    {fCmp : Addr} {odCmp anCmp : Option Addr} {slCmp : Array (Option Value)} {ocCmp kVCmp dcCmp pmCmp cdCmp ctCmp : Value}
    {fOw : Addr} {odOw anOw : Option Addr} {slOw : Array (Option Value)} {ocOw kVOw dcOw pmOw cdOw ctOw : Value}
    {fAio : Addr} {odAio anAio : Option Addr} {slAio : Array (Option Value)} {ocAio kVAio dcAio pmAio cdAio ctAio : Value}
    {fTkn : Addr} {odTkn anTkn : Option Addr} {slTkn : Array (Option Value)} {ocTkn kVTkn dcTkn pmTkn cdTkn ctTkn : Value}
    {fBoo : Addr} {odBoo anBoo : Option Addr} {slBoo : Array (Option Value)} {ocBoo kVBoo dcBoo pmBoo cdBoo ctBoo : Value}
    {fFt : Addr} {odFt anFt : Option Addr} {slFt : Array (Option Value)} {ocFt kVFt dcFt pmFt cdFt ctFt : Value}
    {fHf : Addr} {odHf anHf : Option Addr} {slHf : Array (Option Value)} {ocHf kVHf dcHf pmHf cdHf ctHf : Value}
    {fBw : Addr} {odBw anBw : Option Addr} {slBw : Array (Option Value)} {ocBw kVBw dcBw pmBw cdBw ctBw : Value}
    {fFb : Addr} {odFb anFb : Option Addr} {slFb : Array (Option Value)} {ocFb kVFb dcFb pmFb cdFb ctFb : Value}
    {fIop : Addr} {odIop anIop : Option Addr} {slIop : Array (Option Value)} {ocIop kVIop dcIop pmIop cdIop ctIop : Value}
    {fWof : Addr} {odWof anWof : Option Addr} {slWof : Array (Option Value)} {ocWof kVWof dcWof pmWof cdWof ctWof : Value}
    {fIsi : Addr} {odIsi anIsi : Option Addr} {slIsi : Array (Option Value)} {ocIsi kVIsi dcIsi pmIsi cdIsi ctIsi : Value}
    {fCel : Addr} {odCel anCel : Option Addr} {slCel : Array (Option Value)} {ocCel kVCel dcCel pmCel cdCel ctCel : Value}
    {fMix : Addr} {odMix anMix : Option Addr} {slMix : Array (Option Value)} {ocMix kVMix dcMix pmMix cdMix ctMix : Value}
    {fDig : Addr} {odDig anDig : Option Addr} {slDig : Array (Option Value)} {ocDig kVDig dcDig pmDig cdDig ctDig : Value}
    {fEds : Addr} {odEds anEds : Option Addr} {slEds : Array (Option Value)} {ocEds kVEds dcEds pmEds cdEds ctEds : Value}
    {fOrd : Addr} {odOrd anOrd : Option Addr} {slOrd : Array (Option Value)} {ocOrd kVOrd dcOrd pmOrd cdOrd ctOrd : Value}
    {fBo : Addr} {odBo anBo : Option Addr} {slBo : Array (Option Value)} {ocBo kVBo dcBo pmBo cdBo ctBo : Value}
    {fNr : Addr} {odNr anNr : Option Addr} {slNr : Array (Option Value)} {ocNr kVNr dcNr pmNr cdNr ctNr : Value}
    {fLc : Addr} {odLc anLc : Option Addr} {slLc : Array (Option Value)} {ocLc kVLc dcLc pmLc cdLc ctLc : Value}
    {fLd : Addr} {odLd anLd : Option Addr} {slLd : Array (Option Value)} {ocLd kVLd dcLd pmLd cdLd ctLd : Value}
    {fLaw : Addr} {odLaw anLaw : Option Addr} {slLaw : Array (Option Value)} {ocLaw kVLaw dcLaw pmLaw cdLaw ctLaw : Value}
    {fInit : Addr} {odInit anInit : Option Addr} {slInit : Array (Option Value)} {ocInit kVInit dcInit pmInit cdInit ctInit : Value}
    {fNear : Addr} {odNear anNear : Option Addr} {slNear : Array (Option Value)} {ocNear kVNear dcNear pmNear cdNear ctNear : Value}
    {fChk : Addr} {odChk anChk : Option Addr} {slChk : Array (Option Value)} {ocChk kVChk dcChk pmChk cdChk ctChk : Value}
    (aC : PySem.W.nsIn K mainGlobals "Graph" = some (some (.ref C)))
    (aB : PySem.W.nsIn K mainGlobals "BadGraph" = some (some (.ref CB)))
    (aNum : PySem.W.nsIn K mainGlobals "is_number" = some (some (.ref fNum)))
    (aVtx : PySem.W.nsIn K mainGlobals "is_vertex" = some (some (.ref fVtx)))
    (aEdg : PySem.W.nsIn K mainGlobals "is_edge" = some (some (.ref fEdg)))
    (aAsc : PySem.W.nsIn K mainGlobals "is_ascending" = some (some (.ref fAsc)))
    (aNls : PySem.W.nsIn K mainGlobals "near_lists" = some (some (.ref fNls)))
    (aRch : PySem.W.nsIn K mainGlobals "reached" = some (some (.ref fRch)))
    (aPcw : PySem.W.nsIn K mainGlobals "pieces_without" = some (some (.ref fPcw)))
    (aMsk : PySem.W.nsIn K mainGlobals "mask_of" = some (some (.ref fMsk)))
    (aMem : PySem.W.nsIn K mainGlobals "members" = some (some (.ref fMem)))
    (aNgh : PySem.W.nsIn K mainGlobals "neighbours" = some (some (.ref fNgh)))
    (aCmp : PySem.W.nsIn K mainGlobals "components" = some (some (.ref fCmp)))
    (aOw : PySem.W.nsIn K mainGlobals "order_width" = some (some (.ref fOw)))
    (aAio : PySem.W.nsIn K mainGlobals "around_in_order" = some (some (.ref fAio)))
    (aTkn : PySem.W.nsIn K mainGlobals "taken_away" = some (some (.ref fTkn)))
    (aBoo : PySem.W.nsIn K mainGlobals "bags_of_order" = some (some (.ref fBoo)))
    (aFt : PySem.W.nsIn K mainGlobals "fault" = some (some (.ref fFt)))
    (aHf : PySem.W.nsIn K mainGlobals "have_form" = some (some (.ref fHf)))
    (aBw : PySem.W.nsIn K mainGlobals "bags_with" = some (some (.ref fBw)))
    (aFb : PySem.W.nsIn K mainGlobals "first_bag" = some (some (.ref fFb)))
    (aIop : PySem.W.nsIn K mainGlobals "is_one_part" = some (some (.ref fIop)))
    (aWof : PySem.W.nsIn K mainGlobals "width_of" = some (some (.ref fWof)))
    (aIsi : PySem.W.nsIn K mainGlobals "_law_is_integer" = some (some (.ref fIsi)))
    (aCel : PySem.W.nsIn K mainGlobals "_law_cell" = some (some (.ref fCel)))
    (aMix : PySem.W.nsIn K mainGlobals "_law_mixed" = some (some (.ref fMix)))
    (aDig : PySem.W.nsIn K mainGlobals "_law_digits" = some (some (.ref fDig)))
    (aEds : PySem.W.nsIn K mainGlobals "_law_edges" = some (some (.ref fEds)))
    (aOrd : PySem.W.nsIn K mainGlobals "_law_order" = some (some (.ref fOrd)))
    (aBo : PySem.W.nsIn K mainGlobals "_law_by_order" = some (some (.ref fBo)))
    (aNr : PySem.W.nsIn K mainGlobals "_law_near" = some (some (.ref fNr)))
    (aLc : PySem.W.nsIn K mainGlobals "_law_components" = some (some (.ref fLc)))
    (aLd : PySem.W.nsIn K mainGlobals "_law_degrees" = some (some (.ref fLd)))
    (aLaw : PySem.W.nsIn K mainGlobals "law" = some (some (.ref fLaw)))
    (aInit : PySem.W.findIn K (.ref C) "__init__" = some (some (.ref fInit)))
    (iInit : PySem.W.isFn K (.ref fInit) = true)
    (aNear : PySem.W.findIn K (.ref C) "near" = some (some (.ref fNear)))
    (iNear : PySem.W.isFn K (.ref fNear) = true)
    (aChk : PySem.W.findIn K (.ref C) "_check_vertex" = some (some (.ref fChk)))
    (iChk : PySem.W.isFn K (.ref fChk) = true)
    (lNum : K.lookup fNum = some ⟨ocNum, odNum, .func (PySem.W.fnOf "is_number" "is_number" (defArgs sNum) (defBody sNum) (defScope sNum) .none kVNum dcNum pmNum anNum cdNum ctNum), slNum⟩)
    (cNum : PySem.W.codeIn K cdNum "is_number" = true)
    (kNum : PySem.W.keepIn K (.ref fNum) = true)
    (lVtx : K.lookup fVtx = some ⟨ocVtx, odVtx, .func (PySem.W.fnOf "is_vertex" "is_vertex" (defArgs sVtx) (defBody sVtx) (defScope sVtx) .none kVVtx dcVtx pmVtx anVtx cdVtx ctVtx), slVtx⟩)
    (cVtx : PySem.W.codeIn K cdVtx "is_vertex" = true)
    (kVtx : PySem.W.keepIn K (.ref fVtx) = true)
    (lEdg : K.lookup fEdg = some ⟨ocEdg, odEdg, .func (PySem.W.fnOf "is_edge" "is_edge" (defArgs sEdg) (defBody sEdg) (defScope sEdg) .none kVEdg dcEdg pmEdg anEdg cdEdg ctEdg), slEdg⟩)
    (cEdg : PySem.W.codeIn K cdEdg "is_edge" = true)
    (kEdg : PySem.W.keepIn K (.ref fEdg) = true)
    (lAsc : K.lookup fAsc = some ⟨ocAsc, odAsc, .func (PySem.W.fnOf "is_ascending" "is_ascending" (defArgs sAsc) (defBody sAsc) (defScope sAsc) .none kVAsc dcAsc pmAsc anAsc cdAsc ctAsc), slAsc⟩)
    (cAsc : PySem.W.codeIn K cdAsc "is_ascending" = true)
    (kAsc : PySem.W.keepIn K (.ref fAsc) = true)
    (lNls : K.lookup fNls = some ⟨ocNls, odNls, .func (PySem.W.fnOf "near_lists" "near_lists" (defArgs sNls) (defBody sNls) (defScope sNls) .none kVNls dcNls pmNls anNls cdNls ctNls), slNls⟩)
    (cNls : PySem.W.codeIn K cdNls "near_lists" = true)
    (kNls : PySem.W.keepIn K (.ref fNls) = true)
    (lRch : K.lookup fRch = some ⟨ocRch, odRch, .func (PySem.W.fnOf "reached" "reached" (defArgs sRch) (defBody sRch) (defScope sRch) .none kVRch dcRch pmRch anRch cdRch ctRch), slRch⟩)
    (cRch : PySem.W.codeIn K cdRch "reached" = true)
    (kRch : PySem.W.keepIn K (.ref fRch) = true)
    (lPcw : K.lookup fPcw = some ⟨ocPcw, odPcw, .func (PySem.W.fnOf "pieces_without" "pieces_without" (defArgs sPcw) (defBody sPcw) (defScope sPcw) .none kVPcw dcPcw pmPcw anPcw cdPcw ctPcw), slPcw⟩)
    (cPcw : PySem.W.codeIn K cdPcw "pieces_without" = true)
    (kPcw : PySem.W.keepIn K (.ref fPcw) = true)
    (lMsk : K.lookup fMsk = some ⟨ocMsk, odMsk, .func (PySem.W.fnOf "mask_of" "mask_of" (defArgs sMsk) (defBody sMsk) (defScope sMsk) .none kVMsk dcMsk pmMsk anMsk cdMsk ctMsk), slMsk⟩)
    (cMsk : PySem.W.codeIn K cdMsk "mask_of" = true)
    (kMsk : PySem.W.keepIn K (.ref fMsk) = true)
    (lMem : K.lookup fMem = some ⟨ocMem, odMem, .func (PySem.W.fnOf "members" "members" (defArgs sMem) (defBody sMem) (defScope sMem) .none kVMem dcMem pmMem anMem cdMem ctMem), slMem⟩)
    (cMem : PySem.W.codeIn K cdMem "members" = true)
    (kMem : PySem.W.keepIn K (.ref fMem) = true)
    (lNgh : K.lookup fNgh = some ⟨ocNgh, odNgh, .func (PySem.W.fnOf "neighbours" "neighbours" (defArgs sNgh) (defBody sNgh) (defScope sNgh) .none kVNgh dcNgh pmNgh anNgh cdNgh ctNgh), slNgh⟩)
    (cNgh : PySem.W.codeIn K cdNgh "neighbours" = true)
    (kNgh : PySem.W.keepIn K (.ref fNgh) = true)
    (lCmp : K.lookup fCmp = some ⟨ocCmp, odCmp, .func (PySem.W.fnOf "components" "components" (defArgs sCmp) (defBody sCmp) (defScope sCmp) .none kVCmp dcCmp pmCmp anCmp cdCmp ctCmp), slCmp⟩)
    (cCmp : PySem.W.codeIn K cdCmp "components" = true)
    (kCmp : PySem.W.keepIn K (.ref fCmp) = true)
    (lOw : K.lookup fOw = some ⟨ocOw, odOw, .func (PySem.W.fnOf "order_width" "order_width" (defArgs sOw) (defBody sOw) (defScope sOw) .none kVOw dcOw pmOw anOw cdOw ctOw), slOw⟩)
    (cOw : PySem.W.codeIn K cdOw "order_width" = true)
    (kOw : PySem.W.keepIn K (.ref fOw) = true)
    (lAio : K.lookup fAio = some ⟨ocAio, odAio, .func (PySem.W.fnOf "around_in_order" "around_in_order" (defArgs sAio) (defBody sAio) (defScope sAio) .none kVAio dcAio pmAio anAio cdAio ctAio), slAio⟩)
    (cAio : PySem.W.codeIn K cdAio "around_in_order" = true)
    (kAio : PySem.W.keepIn K (.ref fAio) = true)
    (lTkn : K.lookup fTkn = some ⟨ocTkn, odTkn, .func (PySem.W.fnOf "taken_away" "taken_away" (defArgs sTkn) (defBody sTkn) (defScope sTkn) .none kVTkn dcTkn pmTkn anTkn cdTkn ctTkn), slTkn⟩)
    (cTkn : PySem.W.codeIn K cdTkn "taken_away" = true)
    (kTkn : PySem.W.keepIn K (.ref fTkn) = true)
    (lBoo : K.lookup fBoo = some ⟨ocBoo, odBoo, .func (PySem.W.fnOf "bags_of_order" "bags_of_order" (defArgs sBoo) (defBody sBoo) (defScope sBoo) .none kVBoo dcBoo pmBoo anBoo cdBoo ctBoo), slBoo⟩)
    (cBoo : PySem.W.codeIn K cdBoo "bags_of_order" = true)
    (kBoo : PySem.W.keepIn K (.ref fBoo) = true)
    (lFt : K.lookup fFt = some ⟨ocFt, odFt, .func (PySem.W.fnOf "fault" "fault" (defArgs sFt) (defBody sFt) (defScope sFt) .none kVFt dcFt pmFt anFt cdFt ctFt), slFt⟩)
    (cFt : PySem.W.codeIn K cdFt "fault" = true)
    (kFt : PySem.W.keepIn K (.ref fFt) = true)
    (lHf : K.lookup fHf = some ⟨ocHf, odHf, .func (PySem.W.fnOf "have_form" "have_form" (defArgs sHf) (defBody sHf) (defScope sHf) .none kVHf dcHf pmHf anHf cdHf ctHf), slHf⟩)
    (cHf : PySem.W.codeIn K cdHf "have_form" = true)
    (kHf : PySem.W.keepIn K (.ref fHf) = true)
    (lBw : K.lookup fBw = some ⟨ocBw, odBw, .func (PySem.W.fnOf "bags_with" "bags_with" (defArgs sBw) (defBody sBw) (defScope sBw) .none kVBw dcBw pmBw anBw cdBw ctBw), slBw⟩)
    (cBw : PySem.W.codeIn K cdBw "bags_with" = true)
    (kBw : PySem.W.keepIn K (.ref fBw) = true)
    (lFb : K.lookup fFb = some ⟨ocFb, odFb, .func (PySem.W.fnOf "first_bag" "first_bag" (defArgs sFb) (defBody sFb) (defScope sFb) .none kVFb dcFb pmFb anFb cdFb ctFb), slFb⟩)
    (cFb : PySem.W.codeIn K cdFb "first_bag" = true)
    (kFb : PySem.W.keepIn K (.ref fFb) = true)
    (lIop : K.lookup fIop = some ⟨ocIop, odIop, .func (PySem.W.fnOf "is_one_part" "is_one_part" (defArgs sIop) (defBody sIop) (defScope sIop) .none kVIop dcIop pmIop anIop cdIop ctIop), slIop⟩)
    (cIop : PySem.W.codeIn K cdIop "is_one_part" = true)
    (kIop : PySem.W.keepIn K (.ref fIop) = true)
    (lWof : K.lookup fWof = some ⟨ocWof, odWof, .func (PySem.W.fnOf "width_of" "width_of" (defArgs sWof) (defBody sWof) (defScope sWof) .none kVWof dcWof pmWof anWof cdWof ctWof), slWof⟩)
    (cWof : PySem.W.codeIn K cdWof "width_of" = true)
    (kWof : PySem.W.keepIn K (.ref fWof) = true)
    (lIsi : K.lookup fIsi = some ⟨ocIsi, odIsi, .func (PySem.W.fnOf "_law_is_integer" "_law_is_integer" (defArgs sIsi) (defBody sIsi) (defScope sIsi) .none kVIsi dcIsi pmIsi anIsi cdIsi ctIsi), slIsi⟩)
    (cIsi : PySem.W.codeIn K cdIsi "_law_is_integer" = true)
    (kIsi : PySem.W.keepIn K (.ref fIsi) = true)
    (lCel : K.lookup fCel = some ⟨ocCel, odCel, .func (PySem.W.fnOf "_law_cell" "_law_cell" (defArgs sCel) (defBody sCel) (defScope sCel) .none kVCel dcCel pmCel anCel cdCel ctCel), slCel⟩)
    (cCel : PySem.W.codeIn K cdCel "_law_cell" = true)
    (kCel : PySem.W.keepIn K (.ref fCel) = true)
    (lMix : K.lookup fMix = some ⟨ocMix, odMix, .func (PySem.W.fnOf "_law_mixed" "_law_mixed" (defArgs sMix) (defBody sMix) (defScope sMix) .none kVMix dcMix pmMix anMix cdMix ctMix), slMix⟩)
    (cMix : PySem.W.codeIn K cdMix "_law_mixed" = true)
    (kMix : PySem.W.keepIn K (.ref fMix) = true)
    (lDig : K.lookup fDig = some ⟨ocDig, odDig, .func (PySem.W.fnOf "_law_digits" "_law_digits" (defArgs sDig) (defBody sDig) (defScope sDig) .none kVDig dcDig pmDig anDig cdDig ctDig), slDig⟩)
    (cDig : PySem.W.codeIn K cdDig "_law_digits" = true)
    (kDig : PySem.W.keepIn K (.ref fDig) = true)
    (lEds : K.lookup fEds = some ⟨ocEds, odEds, .func (PySem.W.fnOf "_law_edges" "_law_edges" (defArgs sEds) (defBody sEds) (defScope sEds) .none kVEds dcEds pmEds anEds cdEds ctEds), slEds⟩)
    (cEds : PySem.W.codeIn K cdEds "_law_edges" = true)
    (kEds : PySem.W.keepIn K (.ref fEds) = true)
    (lOrd : K.lookup fOrd = some ⟨ocOrd, odOrd, .func (PySem.W.fnOf "_law_order" "_law_order" (defArgs sOrd) (defBody sOrd) (defScope sOrd) .none kVOrd dcOrd pmOrd anOrd cdOrd ctOrd), slOrd⟩)
    (cOrd : PySem.W.codeIn K cdOrd "_law_order" = true)
    (kOrd : PySem.W.keepIn K (.ref fOrd) = true)
    (lBo : K.lookup fBo = some ⟨ocBo, odBo, .func (PySem.W.fnOf "_law_by_order" "_law_by_order" (defArgs sBo) (defBody sBo) (defScope sBo) .none kVBo dcBo pmBo anBo cdBo ctBo), slBo⟩)
    (cBo : PySem.W.codeIn K cdBo "_law_by_order" = true)
    (kBo : PySem.W.keepIn K (.ref fBo) = true)
    (lNr : K.lookup fNr = some ⟨ocNr, odNr, .func (PySem.W.fnOf "_law_near" "_law_near" (defArgs sNr) (defBody sNr) (defScope sNr) .none kVNr dcNr pmNr anNr cdNr ctNr), slNr⟩)
    (cNr : PySem.W.codeIn K cdNr "_law_near" = true)
    (kNr : PySem.W.keepIn K (.ref fNr) = true)
    (lLc : K.lookup fLc = some ⟨ocLc, odLc, .func (PySem.W.fnOf "_law_components" "_law_components" (defArgs sLc) (defBody sLc) (defScope sLc) .none kVLc dcLc pmLc anLc cdLc ctLc), slLc⟩)
    (cLc : PySem.W.codeIn K cdLc "_law_components" = true)
    (kLc : PySem.W.keepIn K (.ref fLc) = true)
    (lLd : K.lookup fLd = some ⟨ocLd, odLd, .func (PySem.W.fnOf "_law_degrees" "_law_degrees" (defArgs sLd) (defBody sLd) (defScope sLd) .none kVLd dcLd pmLd anLd cdLd ctLd), slLd⟩)
    (cLd : PySem.W.codeIn K cdLd "_law_degrees" = true)
    (kLd : PySem.W.keepIn K (.ref fLd) = true)
    (lLaw : K.lookup fLaw = some ⟨ocLaw, odLaw, .func (PySem.W.fnOf "law" "law" (defArgs sLaw) (defBody sLaw) (defScope sLaw) .none kVLaw dcLaw pmLaw anLaw cdLaw ctLaw), slLaw⟩)
    (cLaw : PySem.W.codeIn K cdLaw "law" = true)
    (kLaw : PySem.W.keepIn K (.ref fLaw) = true)
    (lInit : K.lookup fInit = some ⟨ocInit, odInit, .func (PySem.W.fnOf "__init__" "Graph.__init__" (defArgs sInit) (defBody sInit) (defScope sInit) .none kVInit dcInit pmInit anInit cdInit ctInit), slInit⟩)
    (cInit : PySem.W.codeIn K cdInit "Graph.__init__" = true)
    (kInit : PySem.W.keepIn K (.ref fInit) = true)
    (lNear : K.lookup fNear = some ⟨ocNear, odNear, .func (PySem.W.fnOf "near" "Graph.near" (defArgs sNear) (defBody sNear) (defScope sNear) .none kVNear dcNear pmNear anNear cdNear ctNear), slNear⟩)
    (cNear : PySem.W.codeIn K cdNear "Graph.near" = true)
    (kNear : PySem.W.keepIn K (.ref fNear) = true)
    (lChk : K.lookup fChk = some ⟨ocChk, odChk, .func (PySem.W.fnOf "_check_vertex" "Graph._check_vertex" (defArgs sChk) (defBody sChk) (defScope sChk) .none kVChk dcChk pmChk anChk cdChk ctChk), slChk⟩)
    (cChk : PySem.W.codeIn K cdChk "Graph._check_vertex" = true)
    (kChk : PySem.W.keepIn K (.ref fChk) = true)
    (pg : PySem.W.plainGet K C Str.empty = true)
    (hd : PySem.W.hasDictIn K C = true)
    (po : PySem.W.plainOver K C = true)
    (sa : PySem.W.findIn K (.ref C) "__setattr__" = some (some (.builtin "object.__setattr__")))
    (mk : PySem.W.makesIn K C = true)
    (kc : PySem.W.keepIn K (.ref C) = true)
    (nS : PySem.W.findIn K (.ref C) "size" = some none)
    (nE : PySem.W.findIn K (.ref C) "edges" = some none)
    (nN : PySem.W.findIn K (.ref C) "_near" = some none)
    (xB : PySem.W.excIn K CB [.type "ValueError", .type "Exception", .type "BaseException", .type "object"] "ValueError.__new__" = true)
    (kB : PySem.W.keepIn K (.ref CB) = true)
    (bB : PySem.W.subIn K (.ref CB) (.type "BaseException") = some true)
    (tB : PySem.W.typeIn K (.ref CB) = some (.type "type"))
    (aM : PySem.W.nsIn K mainGlobals "MOST_VERTICES" = some (some (.int 60 tm)))
    (z_isinstance : PySem.W.nsIn K mainGlobals "isinstance" = some none)
    (z_int : PySem.W.nsIn K mainGlobals "int" = some none)
    (z_bool : PySem.W.nsIn K mainGlobals "bool" = some none)
    (z_tuple : PySem.W.nsIn K mainGlobals "tuple" = some none)
    (z_len : PySem.W.nsIn K mainGlobals "len" = some none)
    (z_set : PySem.W.nsIn K mainGlobals "set" = some none)
    (z_sorted : PySem.W.nsIn K mainGlobals "sorted" = some none)
    (z_range : PySem.W.nsIn K mainGlobals "range" = some none)
    (z_list : PySem.W.nsIn K mainGlobals "list" = some none)
    (z_enumerate : PySem.W.nsIn K mainGlobals "enumerate" = some none)
    (z_min : PySem.W.nsIn K mainGlobals "min" = some none)
    (z_max : PySem.W.nsIn K mainGlobals "max" = some none)
    (z_sum : PySem.W.nsIn K mainGlobals "sum" = some none)
    (z_reversed : PySem.W.nsIn K mainGlobals "reversed" = some none)
    : ∃ fd : FuncData, (∀ (s : Shared) (v : Value), BindsTo s fd ⟨[v], []⟩ [("script", v)]) ∧ ∀ base : Heap, K.In base → base.Ns mainGlobals mg → FnOk l.prog w K mg base CX0 8 fa fd ["script"] (spLaw K) := by
  have e := hfa.symm.trans (PySem.W.mg_of X G aLaw)
  cases e
  have m_isinstance := PySem.W.mg_none_of X G z_isinstance
  have m_int := PySem.W.mg_none_of X G z_int
  have m_bool := PySem.W.mg_none_of X G z_bool
  have m_tuple := PySem.W.mg_none_of X G z_tuple
  have m_len := PySem.W.mg_none_of X G z_len
  have m_set := PySem.W.mg_none_of X G z_set
  have m_sorted := PySem.W.mg_none_of X G z_sorted
  have m_range := PySem.W.mg_none_of X G z_range
  have m_list := PySem.W.mg_none_of X G z_list
  have m_enumerate := PySem.W.mg_none_of X G z_enumerate
  have m_min := PySem.W.mg_none_of X G z_min
  have m_max := PySem.W.mg_none_of X G z_max
  have m_sum := PySem.W.mg_none_of X G z_sum
  have m_reversed := PySem.W.mg_none_of X G z_reversed
  have FNum := fun_mk (st := sNum) lNum cNum kNum
  have bNum := FNum.binds (ps := ["value"]) fun _ _ _ _ _ _ us hl => match us, hl with | [_], _ => rfl
  have FVtx := fun_mk (st := sVtx) lVtx cVtx kVtx
  have bVtx := FVtx.binds (ps := ["value", "size"]) fun _ _ _ _ _ _ us hl => match us, hl with | [_, _], _ => rfl
  have FEdg := fun_mk (st := sEdg) lEdg cEdg kEdg
  have bEdg := FEdg.binds (ps := ["value", "size"]) fun _ _ _ _ _ _ us hl => match us, hl with | [_, _], _ => rfl
  have FAsc := fun_mk (st := sAsc) lAsc cAsc kAsc
  have bAsc := FAsc.binds (ps := ["value", "size"]) fun _ _ _ _ _ _ us hl => match us, hl with | [_, _], _ => rfl
  have FNls := fun_mk (st := sNls) lNls cNls kNls
  have bNls := FNls.binds (ps := ["size", "edges"]) fun _ _ _ _ _ _ us hl => match us, hl with | [_, _], _ => rfl
  have FRch := fun_mk (st := sRch) lRch cRch kRch
  have bRch := FRch.binds (ps := ["graph", "start", "seen"]) fun _ _ _ _ _ _ us hl => match us, hl with | [_, _, _], _ => rfl
  have FPcw := fun_mk (st := sPcw) lPcw cPcw kPcw
  have bPcw := FPcw.binds (ps := ["graph", "gone"]) fun _ _ _ _ _ _ us hl => match us, hl with | [_, _], _ => rfl
  have FMsk := fun_mk (st := sMsk) lMsk cMsk kMsk
  have bMsk := FMsk.binds (ps := ["vertices"]) fun _ _ _ _ _ _ us hl => match us, hl with | [_], _ => rfl
  have FMem := fun_mk (st := sMem) lMem cMem kMem
  have bMem := FMem.binds (ps := ["mask"]) fun _ _ _ _ _ _ us hl => match us, hl with | [_], _ => rfl
  have FNgh := fun_mk (st := sNgh) lNgh cNgh kNgh
  have bNgh := FNgh.binds (ps := ["graph"]) fun _ _ _ _ _ _ us hl => match us, hl with | [_], _ => rfl
  have FCmp := fun_mk (st := sCmp) lCmp cCmp kCmp
  have bCmp := FCmp.binds (ps := ["graph", "without"]) fun _ _ _ _ _ _ us hl => match us, hl with | [_, _], _ => rfl
  have FOw := fun_mk (st := sOw) lOw cOw kOw
  have bOw := FOw.binds (ps := ["graph", "order"]) fun _ _ _ _ _ _ us hl => match us, hl with | [_, _], _ => rfl
  have FAio := fun_mk (st := sAio) lAio cAio kAio
  have bAio := FAio.binds (ps := ["graph", "order"]) fun _ _ _ _ _ _ us hl => match us, hl with | [_, _], _ => rfl
  have FTkn := fun_mk (st := sTkn) lTkn cTkn kTkn
  have bTkn := FTkn.binds (ps := ["near", "vertex"]) fun _ _ _ _ _ _ us hl => match us, hl with | [_, _], _ => rfl
  have FBoo := fun_mk (st := sBoo) lBoo cBoo kBoo
  have bBoo := FBoo.binds (ps := ["graph", "order"]) fun _ _ _ _ _ _ us hl => match us, hl with | [_, _], _ => rfl
  have FFt := fun_mk (st := sFt) lFt cFt kFt
  have bFt := FFt.binds (ps := ["graph", "bags", "parents"]) fun _ _ _ _ _ _ us hl => match us, hl with | [_, _, _], _ => rfl
  have FHf := fun_mk (st := sHf) lHf cHf kHf
  have bHf := FHf.binds (ps := ["graph", "bags", "parents"]) fun _ _ _ _ _ _ us hl => match us, hl with | [_, _, _], _ => rfl
  have FBw := fun_mk (st := sBw) lBw cBw kBw
  have bBw := FBw.binds (ps := ["graph", "bags"]) fun _ _ _ _ _ _ us hl => match us, hl with | [_, _], _ => rfl
  have FFb := fun_mk (st := sFb) lFb cFb kFb
  have bFb := FFb.binds (ps := ["lying", "u", "v"]) fun _ _ _ _ _ _ us hl => match us, hl with | [_, _, _], _ => rfl
  have FIop := fun_mk (st := sIop) lIop cIop kIop
  have bIop := FIop.binds (ps := ["numbers", "parents"]) fun _ _ _ _ _ _ us hl => match us, hl with | [_, _], _ => rfl
  have FWof := fun_mk (st := sWof) lWof cWof kWof
  have bWof := FWof.binds (ps := ["bags"]) fun _ _ _ _ _ _ us hl => match us, hl with | [_], _ => rfl
  have FIsi := fun_mk (st := sIsi) lIsi cIsi kIsi
  have bIsi := FIsi.binds (ps := ["actual"]) fun _ _ _ _ _ _ us hl => match us, hl with | [_], _ => rfl
  have FCel := fun_mk (st := sCel) lCel cCel kCel
  have bCel := FCel.binds (ps := ["script", "k"]) fun _ _ _ _ _ _ us hl => match us, hl with | [_, _], _ => rfl
  have FMix := fun_mk (st := sMix) lMix cMix kMix
  have bMix := FMix.binds (ps := ["cell", "k"]) fun _ _ _ _ _ _ us hl => match us, hl with | [_, _], _ => rfl
  have FDig := fun_mk (st := sDig) lDig cDig kDig
  have bDig := FDig.binds (ps := ["cell", "count", "many"]) fun _ _ _ _ _ _ us hl => match us, hl with | [_, _, _], _ => rfl
  have FEds := fun_mk (st := sEds) lEds cEds kEds
  have bEds := FEds.binds (ps := ["cell", "most"]) fun _ _ _ _ _ _ us hl => match us, hl with | [_, _], _ => rfl
  have FOrd := fun_mk (st := sOrd) lOrd cOrd kOrd
  have bOrd := FOrd.binds (ps := ["cell", "size"]) fun _ _ _ _ _ _ us hl => match us, hl with | [_, _], _ => rfl
  have FBo := fun_mk (st := sBo) lBo cBo kBo
  have bBo := FBo.binds (ps := ["size", "edges", "order"]) fun _ _ _ _ _ _ us hl => match us, hl with | [_, _, _], _ => rfl
  have FNr := fun_mk (st := sNr) lNr cNr kNr
  have bNr := FNr.binds (ps := ["size", "edges"]) fun _ _ _ _ _ _ us hl => match us, hl with | [_, _], _ => rfl
  have FLc := fun_mk (st := sLc) lLc cLc kLc
  have bLc := FLc.binds (ps := ["size", "edges", "gone"]) fun _ _ _ _ _ _ us hl => match us, hl with | [_, _, _], _ => rfl
  have FLd := fun_mk (st := sLd) lLd cLd kLd
  have bLd := FLd.binds (ps := ["size", "edges", "order"]) fun _ _ _ _ _ _ us hl => match us, hl with | [_, _, _], _ => rfl
  have FLaw := fun_mk (st := sLaw) lLaw cLaw kLaw
  have bLaw := FLaw.binds (ps := ["script"]) fun _ _ _ _ _ _ us hl => match us, hl with | [_], _ => rfl
  have FInit := fun_mk (st := sInit) lInit cInit kInit
  have bInit := FInit.binds (ps := ["self", "size", "edges"]) fun _ _ _ _ _ _ us hl => match us, hl with | [_, _, _], _ => rfl
  have FNear := fun_mk (st := sNear) lNear cNear kNear
  have bNear := FNear.binds (ps := ["self", "u"]) fun _ _ _ _ _ _ us hl => match us, hl with | [_, _], _ => rfl
  have FChk := fun_mk (st := sChk) lChk cChk kChk
  have bChk := FChk.binds (ps := ["self", "value"]) fun _ _ _ _ _ _ us hl => match us, hl with | [_, _], _ => rfl
  have gNum := PySem.W.mg_of X G aNum
  have gVtx := PySem.W.mg_of X G aVtx
  have gEdg := PySem.W.mg_of X G aEdg
  have gAsc := PySem.W.mg_of X G aAsc
  have gNls := PySem.W.mg_of X G aNls
  have gRch := PySem.W.mg_of X G aRch
  have gPcw := PySem.W.mg_of X G aPcw
  have gMsk := PySem.W.mg_of X G aMsk
  have gMem := PySem.W.mg_of X G aMem
  have gNgh := PySem.W.mg_of X G aNgh
  have gCmp := PySem.W.mg_of X G aCmp
  have gOw := PySem.W.mg_of X G aOw
  have gAio := PySem.W.mg_of X G aAio
  have gTkn := PySem.W.mg_of X G aTkn
  have gBoo := PySem.W.mg_of X G aBoo
  have gFt := PySem.W.mg_of X G aFt
  have gHf := PySem.W.mg_of X G aHf
  have gBw := PySem.W.mg_of X G aBw
  have gFb := PySem.W.mg_of X G aFb
  have gIop := PySem.W.mg_of X G aIop
  have gWof := PySem.W.mg_of X G aWof
  have gIsi := PySem.W.mg_of X G aIsi
  have gCel := PySem.W.mg_of X G aCel
  have gMix := PySem.W.mg_of X G aMix
  have gDig := PySem.W.mg_of X G aDig
  have gEds := PySem.W.mg_of X G aEds
  have gOrd := PySem.W.mg_of X G aOrd
  have gBo := PySem.W.mg_of X G aBo
  have gNr := PySem.W.mg_of X G aNr
  have gLc := PySem.W.mg_of X G aLc
  have gLd := PySem.W.mg_of X G aLd
  have gLaw := PySem.W.mg_of X G aLaw
  have TA : TxA mg := ⟨m_isinstance, m_int, m_bool, m_tuple, m_len⟩
  have T : TxG K mg C := ⟨⟨pg, hd, po, sa⟩, nS, nE, nN, PySem.W.mg_of X G aC⟩
  have B : TxE K mg "BadGraph" CB := ⟨PySem.W.mg_of X G aB, xB, kB, bB, tB⟩
  have M : Mk K C fInit := ⟨mk, aInit, iInit, kc⟩
  refine ⟨PySem.W.fnOf "law" "law" (defArgs sLaw) (defBody sLaw) (defScope sLaw) .none kVLaw dcLaw pmLaw anLaw cdLaw ctLaw, fun s v => .of_eq rfl, fun base _ _ => ?_⟩
  have GN : FnOk l.prog w K mg base CX0 1 fNum _ ["value"] spNum := ok_num FNum TA
  have GV : FnOk l.prog w K mg base CX0 2 fVtx _ ["value", "size"] spVtx := ok_vtx FVtx FNum bNum gNum TA
  have GE : FnOk l.prog w K mg base CX0 3 fEdg _ ["value", "size"] (spEdg K) := ok_edg FEdg GV kVtx bVtx gVtx TA
  have GL : FnOk l.prog w K mg base CX0 1 fNls _ ["size", "edges"] (spNls K) := ok_nls FNls m_range
  have GI : FnOk l.prog w K mg base (L2.CX l.prog w) 4 fInit _ ["self", "size", "edges"] (spInit K C CB) := ok_init FInit T B GN gNum kNum bNum GE gEdg kEdg bEdg GL gNls kNls bNls (PySem.W.mg_of X G aM) m_set m_tuple m_sorted
  have GK : FnOk l.prog w K mg base (L2.CX l.prog w) 3 fChk _ ["self", "value"] (spChk K C CB) := ok_chk FChk T B GV kVtx bVtx gVtx
  have mChk : Meth K C "_check_vertex" fChk := ⟨aChk, iChk, kChk⟩
  have GNe : FnOk l.prog w K mg base (L2.CX l.prog w) 4 fNear _ ["self", "u"] (spNear K C CB) := ok_near FNear T GK mChk bChk m_list
  have mNear : Meth K C "near" fNear := ⟨aNear, iNear, kNear⟩
  have GRc : FnOk l.prog w K mg base (L2.CX l.prog w) 5 fRch _ ["graph", "start", "seen"] (spRch K C) := ok_rch FRch T GNe mNear bNear m_sorted
  have GPw : FnOk l.prog w K mg base (L2.CX l.prog w) 6 fPcw _ ["graph", "gone"] (spPcw K C) := ok_pcw FPcw T GRc kRch bRch gRch m_range
  have GMs : FnOk l.prog w K mg base CX0 1 fMsk _ ["vertices"] (spMsk K) := ok_msk FMsk m_sum
  have GMe : FnOk l.prog w K mg base CX0 1 fMem _ ["mask"] spMem := ok_mem FMem m_range
  have GNg : FnOk l.prog w K mg base CX0 5 fNgh _ ["graph"] (spNgh K C) := ok_ngh FNgh T GMs kMsk bMsk gMsk GNe mNear bNear m_range
  have GTk : FnOk l.prog w K mg base CX0 1 fTkn _ ["near", "vertex"] (spTkn K) := ok_tkn FTkn m_enumerate
  have GAi : FnOk l.prog w K mg base CX0 6 fAio _ ["graph", "order"] (spAio K C) := ok_aio FAio GNg kNgh bNgh gNgh GMe kMem bMem gMem GTk kTkn bTkn gTkn
  have GCm : FnOk l.prog w K mg base CX0 7 fCmp _ ["graph", "without"] (spCmp K C) := ok_cmp FCmp GPw kPcw bPcw gPcw m_tuple
  have GOw : FnOk l.prog w K mg base CX0 7 fOw _ ["graph", "order"] (spOw K C) := ok_ow FOw GAi kAio bAio gAio m_len m_max
  have GWo : FnOk l.prog w K mg base CX0 1 fWof _ ["bags"] (spWof K) := ok_wof FWof m_len m_max
  have GAs : FnOk l.prog w K mg base CX0 3 fAsc _ ["value", "size"] (spAsc K) := ok_asc FAsc TA GV kVtx bVtx gVtx
  have GHf : FnOk l.prog w K mg base CX0 4 fHf _ ["graph", "bags", "parents"] (spHf K C) := ok_hf FHf T TA m_enumerate GN kNum bNum gNum GV kVtx bVtx gVtx GAs kAsc bAsc gAsc
  have GBw : FnOk l.prog w K mg base CX0 1 fBw _ ["graph", "bags"] (spBw K C) := ok_bw FBw T m_enumerate m_range
  have GFb : FnOk l.prog w K mg base CX0 1 fFb _ ["lying", "u", "v"] (spFb K) := ok_fb FFb
  have GIp : FnOk l.prog w K mg base CX0 1 fIop _ ["numbers", "parents"] (spIop K) := ok_iop FIop m_len
  have GFt : FnOk l.prog w K mg base CX0 5 fFt _ ["graph", "bags", "parents"] (spFt K C) := ok_ft FFt T m_range GHf kHf bHf gHf GBw kBw bBw gBw GFb kFb bFb gFb GIp kIop bIop gIop
  have GBo : FnOk l.prog w K mg base CX0 7 fBoo _ ["graph", "order"] (spBoo K C) := ok_boo FBoo GAi kAio bAio gAio m_len m_enumerate m_reversed m_range m_tuple m_sorted m_min
  have GIs : FnOk l.prog w K mg base CX0 1 fIsi _ ["actual"] spIsi := ok_isi FIsi TA
  have GCe : FnOk l.prog w K mg base CX0 1 fCel _ ["script", "k"] (spCel K) := ok_cel FCel m_len
  have GMi : FnOk l.prog w K mg base CX0 1 fMix _ ["cell", "k"] spMix := ok_mix FMix m_int
  have GDi : FnOk l.prog w K mg base CX0 2 fDig _ ["cell", "count", "many"] (spDig K) := ok_dig FDig m_range m_int GMi kMix bMix gMix
  have GEd : FnOk l.prog w K mg base CX0 3 fEds _ ["cell", "most"] (spEds K) := ok_eds FEds m_range GDi kDig bDig gDig
  have GOr : FnOk l.prog w K mg base CX0 3 fOrd _ ["cell", "size"] (spOrd K) := ok_ord FOrd GDi kDig bDig gDig m_list m_range m_len
  have GLb : FnOk l.prog w K mg base CX0 1 fBo _ ["size", "edges", "order"] (spBo K) := ok_bo FBo m_range m_min m_max m_tuple m_sorted m_len
  have GNr : FnOk l.prog w K mg base CX0 1 fNr _ ["size", "edges"] (spNr K) := ok_nr FNr m_range m_min m_max
  have GLc : FnOk l.prog w K mg base CX0 2 fLc _ ["size", "edges", "gone"] (spLc K) := ok_lc FLc GNr kNr bNr gNr m_range m_len m_tuple m_sorted
  have GLd : FnOk l.prog w K mg base CX0 2 fLd _ ["size", "edges", "order"] (spLd K) := ok_ld FLd GNr kNr bNr gNr m_range m_len
  exact ok_law FLaw T GI M bInit GEd kEds bEds gEds GCe kCel bCel gCel GOr kOrd bOrd gOrd GCm kCmp bCmp gCmp GLc kLc bLc gLc GOw kOw bOw gOw GIs kIsi bIsi gIsi GLd kLd bLd gLd GBo kBoo bBoo gBoo GLb kBo bBo gBo GFt kFt bFt gFt GWo kWof bWof gWof m_tuple m_int m_list m_isinstance m_max
end Sm

open PySem PySem.W PyProof.Rows
set_option Elab.async false
set_option maxRecDepth 100000 in
set_option maxHeartbeats 0 in
theorem PySem.Challenge.cw_smallwidth_k20_components_and_orders_holds : PySem.Challenge.rw_smallwidth_k20_components_and_orders.Holds := by
  w_on; o_law; k_head; (case hw => w_witness2)
  k_fill
  refine L2.walk_of (l := PySem.Challenge.rw_smallwidth_k20_components_and_orders) (n := 63) (k := 8) (x := "script") (CX := fun _ => L2.CX0) (sp := fun w => Sm.spLaw _) rfl (by decide) rfl ⟨rfl, by decide, by decide⟩ (fun w h Y => PySem.W.kIn_of Y) ?F (fun _ _ a ns hl _ hS => ⟨a, ns, rfl, hS, hl, fun _ => rfl⟩) (fun _ _ _ _ _ h => h)
  case F =>
    intro w mg fa h KX G hmg
    refine' Sm.all_mk KX G hmg ?aC ?aB ?aNum ?aVtx ?aEdg ?aAsc ?aNls ?aRch ?aPcw ?aMsk ?aMem ?aNgh ?aCmp ?aOw ?aAio ?aTkn ?aBoo ?aFt ?aHf ?aBw ?aFb ?aIop ?aWof ?aIsi ?aCel ?aMix ?aDig ?aEds ?aOrd ?aBo ?aNr ?aLc ?aLd ?aLaw ?aInit ?iInit ?aNear ?iNear ?aChk ?iChk ?lNum ?cNum ?kNum ?lVtx ?cVtx ?kVtx ?lEdg ?cEdg ?kEdg ?lAsc ?cAsc ?kAsc ?lNls ?cNls ?kNls ?lRch ?cRch ?kRch ?lPcw ?cPcw ?kPcw ?lMsk ?cMsk ?kMsk ?lMem ?cMem ?kMem ?lNgh ?cNgh ?kNgh ?lCmp ?cCmp ?kCmp ?lOw ?cOw ?kOw ?lAio ?cAio ?kAio ?lTkn ?cTkn ?kTkn ?lBoo ?cBoo ?kBoo ?lFt ?cFt ?kFt ?lHf ?cHf ?kHf ?lBw ?cBw ?kBw ?lFb ?cFb ?kFb ?lIop ?cIop ?kIop ?lWof ?cWof ?kWof ?lIsi ?cIsi ?kIsi ?lCel ?cCel ?kCel ?lMix ?cMix ?kMix ?lDig ?cDig ?kDig ?lEds ?cEds ?kEds ?lOrd ?cOrd ?kOrd ?lBo ?cBo ?kBo ?lNr ?cNr ?kNr ?lLc ?cLc ?kLc ?lLd ?cLd ?kLd ?lLaw ?cLaw ?kLaw ?lInit ?cInit ?kInit ?lNear ?cNear ?kNear ?lChk ?cChk ?kChk ?pg ?hd ?po ?sa ?mk ?kc ?nS ?nE ?nN ?xB ?kB ?bB ?tB ?aM ?z_isinstance ?z_int ?z_bool ?z_tuple ?z_len ?z_set ?z_sorted ?z_range ?z_list ?z_enumerate ?z_min ?z_max ?z_sum ?z_reversed
    (case aC => first | k_is | rfl)
    (case aB => first | k_is | rfl)
    (case aNum => first | k_is | rfl)
    (case aVtx => first | k_is | rfl)
    (case aEdg => first | k_is | rfl)
    (case aAsc => first | k_is | rfl)
    (case aNls => first | k_is | rfl)
    (case aRch => first | k_is | rfl)
    (case aPcw => first | k_is | rfl)
    (case aMsk => first | k_is | rfl)
    (case aMem => first | k_is | rfl)
    (case aNgh => first | k_is | rfl)
    (case aCmp => first | k_is | rfl)
    (case aOw => first | k_is | rfl)
    (case aAio => first | k_is | rfl)
    (case aTkn => first | k_is | rfl)
    (case aBoo => first | k_is | rfl)
    (case aFt => first | k_is | rfl)
    (case aHf => first | k_is | rfl)
    (case aBw => first | k_is | rfl)
    (case aFb => first | k_is | rfl)
    (case aIop => first | k_is | rfl)
    (case aWof => first | k_is | rfl)
    (case aIsi => first | k_is | rfl)
    (case aCel => first | k_is | rfl)
    (case aMix => first | k_is | rfl)
    (case aDig => first | k_is | rfl)
    (case aEds => first | k_is | rfl)
    (case aOrd => first | k_is | rfl)
    (case aBo => first | k_is | rfl)
    (case aNr => first | k_is | rfl)
    (case aLc => first | k_is | rfl)
    (case aLd => first | k_is | rfl)
    (case aLaw => first | k_is | rfl)
    (case aInit => first | k_is | rfl)
    (case iInit => first | k_is | rfl)
    (case aNear => first | k_is | rfl)
    (case iNear => first | k_is | rfl)
    (case aChk => first | k_is | rfl)
    (case iChk => first | k_is | rfl)
    (case lNum => first | k_is | rfl)
    (case cNum => first | k_is | rfl)
    (case kNum => first | k_is | rfl)
    (case lVtx => first | k_is | rfl)
    (case cVtx => first | k_is | rfl)
    (case kVtx => first | k_is | rfl)
    (case lEdg => first | k_is | rfl)
    (case cEdg => first | k_is | rfl)
    (case kEdg => first | k_is | rfl)
    (case lAsc => first | k_is | rfl)
    (case cAsc => first | k_is | rfl)
    (case kAsc => first | k_is | rfl)
    (case lNls => first | k_is | rfl)
    (case cNls => first | k_is | rfl)
    (case kNls => first | k_is | rfl)
    (case lRch => first | k_is | rfl)
    (case cRch => first | k_is | rfl)
    (case kRch => first | k_is | rfl)
    (case lPcw => first | k_is | rfl)
    (case cPcw => first | k_is | rfl)
    (case kPcw => first | k_is | rfl)
    (case lMsk => first | k_is | rfl)
    (case cMsk => first | k_is | rfl)
    (case kMsk => first | k_is | rfl)
    (case lMem => first | k_is | rfl)
    (case cMem => first | k_is | rfl)
    (case kMem => first | k_is | rfl)
    (case lNgh => first | k_is | rfl)
    (case cNgh => first | k_is | rfl)
    (case kNgh => first | k_is | rfl)
    (case lCmp => first | k_is | rfl)
    (case cCmp => first | k_is | rfl)
    (case kCmp => first | k_is | rfl)
    (case lOw => first | k_is | rfl)
    (case cOw => first | k_is | rfl)
    (case kOw => first | k_is | rfl)
    (case lAio => first | k_is | rfl)
    (case cAio => first | k_is | rfl)
    (case kAio => first | k_is | rfl)
    (case lTkn => first | k_is | rfl)
    (case cTkn => first | k_is | rfl)
    (case kTkn => first | k_is | rfl)
    (case lBoo => first | k_is | rfl)
    (case cBoo => first | k_is | rfl)
    (case kBoo => first | k_is | rfl)
    (case lFt => first | k_is | rfl)
    (case cFt => first | k_is | rfl)
    (case kFt => first | k_is | rfl)
    (case lHf => first | k_is | rfl)
    (case cHf => first | k_is | rfl)
    (case kHf => first | k_is | rfl)
    (case lBw => first | k_is | rfl)
    (case cBw => first | k_is | rfl)
    (case kBw => first | k_is | rfl)
    (case lFb => first | k_is | rfl)
    (case cFb => first | k_is | rfl)
    (case kFb => first | k_is | rfl)
    (case lIop => first | k_is | rfl)
    (case cIop => first | k_is | rfl)
    (case kIop => first | k_is | rfl)
    (case lWof => first | k_is | rfl)
    (case cWof => first | k_is | rfl)
    (case kWof => first | k_is | rfl)
    (case lIsi => first | k_is | rfl)
    (case cIsi => first | k_is | rfl)
    (case kIsi => first | k_is | rfl)
    (case lCel => first | k_is | rfl)
    (case cCel => first | k_is | rfl)
    (case kCel => first | k_is | rfl)
    (case lMix => first | k_is | rfl)
    (case cMix => first | k_is | rfl)
    (case kMix => first | k_is | rfl)
    (case lDig => first | k_is | rfl)
    (case cDig => first | k_is | rfl)
    (case kDig => first | k_is | rfl)
    (case lEds => first | k_is | rfl)
    (case cEds => first | k_is | rfl)
    (case kEds => first | k_is | rfl)
    (case lOrd => first | k_is | rfl)
    (case cOrd => first | k_is | rfl)
    (case kOrd => first | k_is | rfl)
    (case lBo => first | k_is | rfl)
    (case cBo => first | k_is | rfl)
    (case kBo => first | k_is | rfl)
    (case lNr => first | k_is | rfl)
    (case cNr => first | k_is | rfl)
    (case kNr => first | k_is | rfl)
    (case lLc => first | k_is | rfl)
    (case cLc => first | k_is | rfl)
    (case kLc => first | k_is | rfl)
    (case lLd => first | k_is | rfl)
    (case cLd => first | k_is | rfl)
    (case kLd => first | k_is | rfl)
    (case lLaw => first | k_is | rfl)
    (case cLaw => first | k_is | rfl)
    (case kLaw => first | k_is | rfl)
    (case lInit => first | k_is | rfl)
    (case cInit => first | k_is | rfl)
    (case kInit => first | k_is | rfl)
    (case lNear => first | k_is | rfl)
    (case cNear => first | k_is | rfl)
    (case kNear => first | k_is | rfl)
    (case lChk => first | k_is | rfl)
    (case cChk => first | k_is | rfl)
    (case kChk => first | k_is | rfl)
    (case pg => first | k_is | rfl)
    (case hd => first | k_is | rfl)
    (case po => first | k_is | rfl)
    (case sa => first | k_is | rfl)
    (case mk => first | k_is | rfl)
    (case kc => first | k_is | rfl)
    (case nS => first | k_is | rfl)
    (case nE => first | k_is | rfl)
    (case nN => first | k_is | rfl)
    (case xB => first | k_is | k_exc | decide +kernel)
    (case kB => first | k_is | rfl)
    (case bB => first | k_is | rfl)
    (case tB => first | k_is | rfl)
    (case aM => first | k_is | rfl)
    (case z_isinstance => first | k_is | rfl)
    (case z_int => first | k_is | rfl)
    (case z_bool => first | k_is | rfl)
    (case z_tuple => first | k_is | rfl)
    (case z_len => first | k_is | rfl)
    (case z_set => first | k_is | rfl)
    (case z_sorted => first | k_is | rfl)
    (case z_range => first | k_is | rfl)
    (case z_list => first | k_is | rfl)
    (case z_enumerate => first | k_is | rfl)
    (case z_min => first | k_is | rfl)
    (case z_max => first | k_is | rfl)
    (case z_sum => first | k_is | rfl)
    (case z_reversed => first | k_is | rfl)

