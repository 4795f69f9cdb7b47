import PyProof.Rows.All
import Wide.All
import OpenK.AllK
import Wide.FinOn
import HandS.ForMost
import HandS.IsInst
import HandS.TupAny
import HandS.TupMul
import HandS.Wide
import HandS.Codes
import PySem.Challenge.RW_tearboard_k09_rows_with_the_shortest_rou
set_option Elab.async false
set_option linter.all false
set_option maxRecDepth 100000
set_option maxHeartbeats 4000000
namespace TB
open PySem PySem.Spec PyProof.Rows L2
def topS (i : Nat) : Stmt := PySem.Challenge.pw_tearboard_k09_rows_with_the_shortest_rou.main.body.getD i (.Pass ⟨0, 0, 0, 0⟩)
/-! heaps -/
theorem same_upd {H : Hp} {p : Addr} {o : HO} (h : H p = none) : Same H (upd H p o) := fun b x e => by
  rw [upd_ne (ne_of_none e h)]
  exact e
/-- all that was tracked is as it was, but at b -/
def Off (b : Addr) (H H' : Hp) : Prop := ∀ a o, a ≠ b → H a = some o → H' a = some o
theorem Off.refl {b : Addr} {H : Hp} : Off b H H := fun _ _ _ h => h
theorem Off.trans {b : Addr} {H H1 H2 : Hp} (x : Off b H H1) (y : Off b H1 H2) : Off b H H2 := fun a o n h => y a o n (x a o n h)
theorem Off.same {b : Addr} {H H' : Hp} (x : Same H H') : Off b H H' := fun a o _ h => x a o h
theorem Off.upd {b : Addr} {H : Hp} {o : HO} : Off b H (upd H b o) := fun a x n h => by
  rw [upd_ne n]
  exact h
theorem Off.seqL {K : PySem.W.Frag} {b : Addr} {H H' : Hp} {a : Addr} {xs : List V} (x : Off b H H') (n : a ≠ b) (h : H a = some (.lst xs)) : H' a = some (.lst xs) := x a _ n h
/-- the bag of drawn numbers -/
structure Bag (H : Hp) (b c : Addr) : Prop where
  ex : ∃ (cells : List Int) (at' rest seed : Int), H b = some (.lst [.ref c, .int at', .int rest, .int seed]) ∧ H c = some (.lst (cells.map V.int)) ∧ 0 ≤ at' ∧ 0 ≤ rest ∧ 0 ≤ seed ∧ seed < 1000000000000 ∧ c ≠ b
theorem Bag.same {H H' : Hp} {b c : Addr} (h : Bag H b c) (x : Same H H') : Bag H' b c := by
  obtain ⟨cells, a, r, s, h1, h2, h3⟩ := h.ex
  exact ⟨cells, a, r, s, x _ _ h1, x _ _ h2, h3⟩
theorem Bag.ne {H : Hp} {b c p : Addr} (h : Bag H b c) (n : H p = none) : p ≠ b ∧ p ≠ c := by
  obtain ⟨cells, a, r, s, h1, h2, h3⟩ := h.ex
  exact ⟨(ne_of_none h1 n).symm, (ne_of_none h2 n).symm⟩
theorem Bag.upd {H : Hp} {b c p : Addr} {o : HO} (h : Bag H b c) (n : p ≠ b ∧ p ≠ c) : Bag (upd H p o) b c := by
  obtain ⟨cells, a, r, s, h1, h2, h3⟩ := h.ex
  refine ⟨cells, a, r, s, ?_, ?_, h3⟩
  · rw [upd_ne n.1.symm]
    exact h1
  · rw [upd_ne n.2.symm]
    exact h2
/-! ### _law_pull -/
abbrev sPull : Stmt := topS 9
theorem scPull : FnScope ["_law_bag_here", "_law_size", "_law_got", "_law_cell"] ["_law_bag_here", "_law_size"] (defScope sPull) := ⟨rfl, rfl, rfl, by decide +kernel, rfl, by decide +kernel, by decide +kernel⟩
def spPull : Sp := fun vs H Q _ => ∃ (b c : Addr) (size : Int), vs = [.ref b, .int size] ∧ Bag H b c ∧ 0 < size ∧ size.natAbs < 2 ^ 200 ∧
  ∀ H' r, Off b H H' → Bag H' b c → 0 ≤ r → r < size → Q (.int r) H'
section
variable {P : Program} {w : World} {K : PySem.W.Frag} {mg : Str → Option Value} {base : Heap}
theorem ok_pull {f : Addr} {fd : FuncData} {k : Nat} (F : Fun K "_law_pull" "_law_pull" sPull f fd) (ml : mg "len" = none) : FnOk P w K mg base CX0 (k + 1) f fd ["_law_bag_here", "_law_size"] spPull := by
  refine F.ok scPull (fun vs H Q E h => ?_) (fun cdv A outer s H vs Q E hr h => ?_)
  · obtain ⟨b, c, size, rfl, _⟩ := h
    rfl
  · obtain ⟨b, c, size, rfl, ⟨cells, at', rest, seed, hb, hc, ha, hr0, hs0, hs1, hcb⟩, hz, hzb, q⟩ := h
    refine ⟨_, pss_cons (ps_if (pt_cmpR op_ge (pe_ix ix_list (pv 0) pe_int (fun _ _ => rfl)) (pv 1) (nomark _))
        (pss_cons (ps_set (i := 2) scPull.nd rfl (.inl rfl) (pe_op op_mod (pe_ix ix_list (pv 0) pe_int (fun _ _ => rfl)) (pv 1)))
        (pss_cons (ps_asg (pe_op op_fdivW (pe_ix ix_list (pv 0) pe_int (fun _ _ => rfl)) (pv 1)) (pg_sub (pv 0) pe_int set_list))
        (pss_one (ps_ret (pv 2))))) pss_nil)
      (pss_cons (ps_set (i := 3) scPull.nd rfl (.inl rfl) pe_int)
      (pss_cons (ps_if (pt_cmpR op_lt (pe_ix ix_list (pv 0) pe_int (fun _ _ => rfl)) (pe_callB call_len_seq (by rfl) ml PySem.boot_len (pa_cons (pe_ix ix_list (pv 0) pe_int (fun _ _ => rfl)) pa_nil)) (nomark _))
        (pss_one (ps_set (i := 3) scPull.nd rfl (.inl rfl) (pe_ix ix_list (pe_ix ix_list (pv 0) pe_int (fun _ _ => rfl)) (pe_ix ix_list (pv 0) pe_int (fun _ _ => rfl)) (fun _ _ => rfl)))) pss_nil)
      (pss_cons (ps_asg (pe_op op_add (pe_ix ix_list (pv 0) pe_int (fun _ _ => rfl)) pe_int) (pg_sub (pv 0) pe_int set_list))
      (pss_cons (ps_if (pt_cmpR op_ge (pv 3) (pe_op op_pow pe_int pe_int) (nomark _))
        (pss_cons (ps_asg (pe_op op_fdivW (pv 3) (pv 1)) (pg_sub (pv 0) pe_int set_list))
        (pss_one (ps_ret (pe_op op_mod (pv 3) (pv 1))))) pss_nil)
      (pss_cons (ps_asg (pe_op op_mod (pe_op op_add (pe_op op_add (pe_op op_add (pe_op op_pow (pe_ix ix_list (pv 0) pe_int (fun _ _ => rfl)) pe_int) (pe_op op_mul pe_int (pe_ix ix_list (pv 0) pe_int (fun _ _ => rfl)))) (pe_op op_mod (pv 3) pe_int)) pe_int) pe_int) (pg_sub (pv 0) pe_int set_list))
      (pss_one (ps_ret (pe_op op_mod (pe_op op_add (pe_op op_fdivW (pe_ix ix_list (pv 0) pe_int (fun _ _ => rfl)) pe_int) (pv 3)) (pv 1))))))))), ?_⟩
    have hd : CDivW rest size := wide_div (b := 200) hz hzb (by decide) (by decide)
    -- if bag[2] >= size
    refine ⟨.ref b, rfl, b, _, 2, .int rest, rfl, rfl, .inl (.inl hb), atI_nat (j := 2) rfl, .int size, rfl, _, _, rfl, rfl, _, rfl, ite2 (fun e => ?_) (fun e => ?_)⟩
    · refine ⟨.ref b, rfl, b, _, 2, .int rest, rfl, rfl, .inl (.inl hb), atI_nat (j := 2) rfl, .int size, rfl, _, _, rfl, rfl, hz, ?_⟩
      refine ⟨.ref b, rfl, b, _, 2, .int rest, rfl, rfl, .inl (.inl hb), atI_nat (j := 2) rfl, .int size, rfl, _, _, rfl, rfl, hd, ?_⟩
      refine ⟨.ref b, rfl, b, _, 2, 2, rfl, rfl, hb, rfl, ?_⟩
      refine ⟨.int (rest % size), rfl, q _ _ Off.upd ⟨cells, at', rest / size, seed, upd_same, ?_, ha, Int.ediv_nonneg hr0 (by omega), hs0, hs1, hcb⟩ (Int.emod_nonneg _ (by omega)) (Int.emod_lt_of_pos _ hz)⟩
      rw [upd_ne hcb]
      exact hc
    · -- cell = 0; if bag[1] < len(bag[0])
      obtain ⟨j, rfl⟩ := Int.eq_ofNat_of_zero_le ha
      refine ⟨.ref b, rfl, b, _, 1, .int (j : Nat), rfl, rfl, .inl (.inl hb), atI_nat (j := 1) rfl, .ref b, rfl, b, _, 0, .ref c, rfl, rfl, .inl (.inl hb), atI_nat (j := 0) rfl, c, _, rfl, .inl (.inl (.inl hc)), _, _, rfl, rfl, _, rfl, ite2 (fun e2 => ?_) (fun e2 => ?_)⟩
      · have hl := of_decide_eq_true e2
        rw [List.length_map] at hl
        have hj : j < cells.length := by omega
        refine ⟨.ref b, rfl, b, _, 0, .ref c, rfl, rfl, .inl (.inl hb), atI_nat (j := 0) rfl, .ref b, rfl, b, _, 1, .int (j : Nat), rfl, rfl, .inl (.inl hb), atI_nat (j := 1) rfl, c, _, _, .int cells[j], rfl, rfl, .inl (.inl hc), atI_nat (j := j) (by rw [List.getElem?_map, List.getElem?_eq_getElem hj]; rfl), ?_⟩
        obtain ⟨cell, hcell⟩ : ∃ cell : Int, cell = cells[j] := ⟨_, rfl⟩
        rw [← hcell]
        -- bag[1] = bag[1] + 1
        refine ⟨.ref b, rfl, b, _, 1, .int (j : Nat), rfl, rfl, .inl (.inl hb), atI_nat (j := 1) rfl, _, _, rfl, rfl, ?_⟩
        refine ⟨.ref b, rfl, b, _, 1, 1, rfl, rfl, hb, rfl, ?_⟩
        have hb1 : (upd H b (.lst [.ref c, .int ((j : Int) + 1), .int rest, .int seed])) b = some (.lst [.ref c, .int ((j : Int) + 1), .int rest, .int seed]) := upd_same
        have hc1 : (upd H b (.lst [.ref c, .int ((j : Int) + 1), .int rest, .int seed])) c = some (.lst (cells.map V.int)) := by
          rw [upd_ne hcb]
          exact hc
        -- if cell >= 10 ** 18
        refine ⟨.int cell, rfl, 10, 18, rfl, rfl, ⟨by decide, by decide, by decide⟩, _, _, rfl, rfl, _, rfl, ite2 (fun e3 => ?_) (fun e3 => ?_)⟩
        · have h18 : (10 : Int) ^ (18 : Int).toNat ≤ cell := of_decide_eq_true e3
          have h0 : (0 : Int) ≤ 10 ^ (18 : Int).toNat := by decide
          refine ⟨.int cell, rfl, .int size, rfl, _, _, rfl, rfl, wide_div (b := 200) hz hzb (by decide) (by decide), ?_⟩
          refine ⟨.ref b, rfl, b, _, 2, 2, rfl, rfl, hb1, rfl, ?_⟩
          refine ⟨.int cell, rfl, .int size, rfl, _, _, rfl, rfl, hz, ?_⟩
          refine q _ _ (Off.upd.trans Off.upd) ⟨cells, (j : Int) + 1, cell / size, seed, upd_same, ?_, by omega, Int.ediv_nonneg (by omega) (by omega), hs0, hs1, hcb⟩ (Int.emod_nonneg _ (by omega)) (Int.emod_lt_of_pos _ hz)
          rw [upd_ne hcb]
          exact hc1
        · -- bag[3] = (bag[3] ** 5 + 69069 * bag[1] + cell % 1000003 + 7) % 2147483629
          have hp : CPow seed 5 := ⟨by decide, by decide, by omega⟩
          refine ⟨.ref b, rfl, b, _, 3, .int seed, rfl, rfl, .inl (.inl hb1), atI_nat (j := 3) rfl, _, _, rfl, rfl, hp, ?_⟩
          refine ⟨.ref b, rfl, b, _, 1, .int ((j : Int) + 1), rfl, rfl, .inl (.inl hb1), atI_nat (j := 1) rfl, _, _, rfl, rfl, .inl ⟨by decide, by decide⟩, _, _, rfl, rfl, ?_⟩
          refine ⟨.int cell, rfl, _, _, rfl, rfl, (show (0 : Int) < 1000003 by decide), _, _, rfl, rfl, _, _, rfl, rfl, _, _, rfl, rfl, (show (0 : Int) < 2147483629 by decide), ?_⟩
          refine ⟨.ref b, rfl, b, _, 3, 3, rfl, rfl, hb1, rfl, ?_⟩
          refine ⟨.ref b, rfl, b, _, 3, _, rfl, rfl, .inl (.inl upd_same), atI_nat (j := 3) rfl, _, _, rfl, rfl, wide_div (b := 200) (by decide) (by decide) (by decide) (by decide), .int cell, rfl, _, _, rfl, rfl, .int size, rfl, _, _, rfl, rfl, hz, ?_⟩
          refine q _ _ (Off.upd.trans Off.upd) ⟨cells, (j : Int) + 1, rest, _, upd_same, ?_, by omega, hr0, Int.emod_nonneg _ (by decide), Int.lt_trans (Int.emod_lt_of_pos _ (by decide)) (by decide), hcb⟩ (Int.emod_nonneg _ (by omega)) (Int.emod_lt_of_pos _ hz)
          rw [upd_ne hcb]
          exact hc1
      · obtain ⟨cell, hcell⟩ : ∃ cell : Int, cell = 0 := ⟨_, rfl⟩
        rw [show (V.int 0) = V.int cell by rw [hcell]]
        -- bag[1] = bag[1] + 1
        refine ⟨.ref b, rfl, b, _, 1, .int (j : Nat), rfl, rfl, .inl (.inl hb), atI_nat (j := 1) rfl, _, _, rfl, rfl, ?_⟩
        refine ⟨.ref b, rfl, b, _, 1, 1, rfl, rfl, hb, rfl, ?_⟩
        have hb1 : (upd H b (.lst [.ref c, .int ((j : Int) + 1), .int rest, .int seed])) b = some (.lst [.ref c, .int ((j : Int) + 1), .int rest, .int seed]) := upd_same
        have hc1 : (upd H b (.lst [.ref c, .int ((j : Int) + 1), .int rest, .int seed])) c = some (.lst (cells.map V.int)) := by
          rw [upd_ne hcb]
          exact hc
        -- if cell >= 10 ** 18
        refine ⟨.int cell, rfl, 10, 18, rfl, rfl, ⟨by decide, by decide, by decide⟩, _, _, rfl, rfl, _, rfl, ite2 (fun e3 => ?_) (fun e3 => ?_)⟩
        · have h18 : (10 : Int) ^ (18 : Int).toNat ≤ cell := of_decide_eq_true e3
          have h0 : (0 : Int) ≤ 10 ^ (18 : Int).toNat := by decide
          refine ⟨.int cell, rfl, .int size, rfl, _, _, rfl, rfl, wide_div (b := 200) hz hzb (by decide) (by decide), ?_⟩
          refine ⟨.ref b, rfl, b, _, 2, 2, rfl, rfl, hb1, rfl, ?_⟩
          refine ⟨.int cell, rfl, .int size, rfl, _, _, rfl, rfl, hz, ?_⟩
          refine q _ _ (Off.upd.trans Off.upd) ⟨cells, (j : Int) + 1, cell / size, seed, upd_same, ?_, by omega, Int.ediv_nonneg (by omega) (by omega), hs0, hs1, hcb⟩ (Int.emod_nonneg _ (by omega)) (Int.emod_lt_of_pos _ hz)
          rw [upd_ne hcb]
          exact hc1
        · -- bag[3] = (bag[3] ** 5 + 69069 * bag[1] + cell % 1000003 + 7) % 2147483629
          have hp : CPow seed 5 := ⟨by decide, by decide, by omega⟩
          refine ⟨.ref b, rfl, b, _, 3, .int seed, rfl, rfl, .inl (.inl hb1), atI_nat (j := 3) rfl, _, _, rfl, rfl, hp, ?_⟩
          refine ⟨.ref b, rfl, b, _, 1, .int ((j : Int) + 1), rfl, rfl, .inl (.inl hb1), atI_nat (j := 1) rfl, _, _, rfl, rfl, .inl ⟨by decide, by decide⟩, _, _, rfl, rfl, ?_⟩
          refine ⟨.int cell, rfl, _, _, rfl, rfl, (show (0 : Int) < 1000003 by decide), _, _, rfl, rfl, _, _, rfl, rfl, _, _, rfl, rfl, (show (0 : Int) < 2147483629 by decide), ?_⟩
          refine ⟨.ref b, rfl, b, _, 3, 3, rfl, rfl, hb1, rfl, ?_⟩
          refine ⟨.ref b, rfl, b, _, 3, _, rfl, rfl, .inl (.inl upd_same), atI_nat (j := 3) rfl, _, _, rfl, rfl, wide_div (b := 200) (by decide) (by decide) (by decide) (by decide), .int cell, rfl, _, _, rfl, rfl, .int size, rfl, _, _, rfl, rfl, hz, ?_⟩
          refine q _ _ (Off.upd.trans Off.upd) ⟨cells, (j : Int) + 1, rest, _, upd_same, ?_, by omega, hr0, Int.emod_nonneg _ (by decide), Int.lt_trans (Int.emod_lt_of_pos _ (by decide)) (by decide), hcb⟩ (Int.emod_nonneg _ (by omega)) (Int.emod_lt_of_pos _ hz)
          rw [upd_ne hcb]
          exact hc1
end
/-! ### _law_bag -/
abbrev sBag : Stmt := topS 8
theorem scBag : FnScope ["_law_script"] ["_law_script"] (defScope sBag) := ⟨rfl, rfl, rfl, by decide +kernel, rfl, by decide +kernel, by decide +kernel⟩
def spBag (K : PySem.W.Frag) : Sp := fun vs H Q _ => ∃ (a : Addr) (ns : List Int), vs = [.ref a] ∧ SqL K H a (ns.map V.int) ∧ ns.length ≤ 63 ∧
  ∀ H' b c, Same H H' → Bag H' b c → H b = none → Q (.ref b) H'
theorem cut_map (ns : List Int) (lo hi : Option Int) : ∃ ms : List Int, cutV (ns.map V.int) lo hi = ms.map V.int ∧ ms.length ≤ ns.length := by
  unfold cutV
  refine ⟨(ns.drop (HT.sIx (ns.map V.int).length 0 lo)).take (HT.sIx (ns.map V.int).length (ns.map V.int).length hi - HT.sIx (ns.map V.int).length 0 lo), ?_, ?_⟩
  · rw [List.map_take, List.map_drop]
  · rw [List.length_take, List.length_drop]
    omega
section
variable {P : Program} {w : World} {K : PySem.W.Frag} {mg : Str → Option Value} {base : Heap}
theorem ok_bag {f : Addr} {fd : FuncData} {k : Nat} (F : Fun K "_law_bag" "_law_bag" sBag f fd) (ml : mg "len" = none) (mli : mg "list" = none) : FnOk P w K mg base CX0 (k + 1) f fd ["_law_script"] (spBag K) := by
  refine F.ok scBag (fun vs H Q E h => ?_) (fun cdv A outer s H vs Q E hr h => ?_)
  · obtain ⟨a, ns, rfl, _⟩ := h
    rfl
  · obtain ⟨a, ns, rfl, hS, hlen, q⟩ := h
    refine ⟨_, pss_one (ps_ret (pe_lst (pa_cons (pe_callTy call_list_of (by rfl) mli (by decide +kernel) (pa_cons (pe_slice sl_list (pv 0) po_none (po_some pe_int)) pa_nil))
      (pa_cons pe_int (pa_cons pe_int (pa_cons (pe_op op_add pe_int (pe_callB call_len_seq (by rfl) ml PySem.boot_len (pa_cons (pe_slice sl_list (pv 0) po_none (po_some pe_int)) pa_nil))) pa_nil)))))), ?_⟩
    obtain ⟨ms, em, lm⟩ := cut_map ns none (some 63)
    refine ⟨.ref a, rfl, 63, rfl, a, _, rfl, hS, fun p np => ?_⟩
    rw [em]
    refine ⟨p, _, rfl, .inl (.inl (.inl upd_same)), fun l nl => ?_⟩
    have s1 : Same H (upd H p (.lst (ms.map V.int))) := same_upd np
    have s2 : Same (upd H p (.lst (ms.map V.int))) (upd (upd H p (.lst (ms.map V.int))) l (.lst (ms.map V.int))) := same_upd nl
    refine ⟨.ref a, rfl, 63, rfl, a, _, rfl, (s1.trans s2).seq hS, fun p2 np2 => ?_⟩
    rw [em]
    have s3 := same_upd (o := .lst (ms.map V.int)) np2
    refine ⟨p2, _, rfl, .inl (.inl (.inl upd_same)), _, _, rfl, rfl, (show (4 : Nat) ≤ sizeLine by decide), fun b nb => ?_⟩
    have s4 := same_upd (o := .lst [.ref l, .int 0, .int 0, .int (9463 + ((ms.map V.int).length : Nat))]) nb
    have hl : (upd (upd (upd (upd H p (.lst (ms.map V.int))) l (.lst (ms.map V.int))) p2 (.lst (ms.map V.int))) b (.lst [.ref l, .int 0, .int 0, .int (9463 + ((ms.map V.int).length : Nat))])) l = some (.lst (ms.map V.int)) := s4 _ _ (s3 _ _ upd_same)
    refine q _ b l (((s1.trans s2).trans s3).trans s4) ⟨ms, 0, 0, _, upd_same, hl, by decide, by decide, ?_, ?_, ?_⟩ (((s1.trans s2).trans s3).free nb)
    · omega
    · rw [List.length_map]
      omega
    · exact ne_of_none (s3 _ _ (upd_same (H := upd H p (.lst (ms.map V.int))) (a := l) (o := .lst (ms.map V.int)))) nb
end
/-! ### _law_of -/
abbrev sOf : Stmt := topS 10
theorem scOf : FnScope ["_law_bag_here", "_law_things"] ["_law_bag_here", "_law_things"] (defScope sOf) := ⟨rfl, rfl, rfl, by decide +kernel, rfl, by decide +kernel, by decide +kernel⟩
def spOf : Sp := fun vs H Q _ => ∃ (b c t : Addr) (xs : List V), vs = [.ref b, .ref t] ∧ Bag H b c ∧ H t = some (.lst xs) ∧ t ≠ b ∧ 0 < xs.length ∧ xs.length ≤ 1000 ∧
  ∀ H' v, Off b H H' → Bag H' b c → v ∈ xs → Q v H'
section
variable {P : Program} {w : World} {K : PySem.W.Frag} {mg : Str → Option Value} {base : Heap}
theorem ok_of {f fP : Addr} {fd fdP : FuncData} {k : Nat} (F : Fun K "_law_of" "_law_of" sOf f fd) (ml : mg "len" = none)
    (FP : Fun K "_law_pull" "_law_pull" sPull fP fdP) (bP : Binds K fdP ["_law_bag_here", "_law_size"] []) (gP : mg "_law_pull" = some (.ref fP)) : FnOk P w K mg base CX0 (k + 2) f fd ["_law_bag_here", "_law_things"] spOf := by
  have GP : FnOk P w K mg base CX0 (k + 1) fP fdP ["_law_bag_here", "_law_size"] spPull := ok_pull FP ml
  refine F.ok scOf (fun vs H Q E h => ?_) (fun cdv A outer s H vs Q E hr h => ?_)
  · obtain ⟨b, c, t, xs, rfl, _⟩ := h
    rfl
  · obtain ⟨b, c, t, xs, rfl, hB, hT, htb, h0, h1, q⟩ := h
    refine ⟨_, pss_one (ps_ret (pe_ix ix_list (pv 1) (pe_call GP hr (by rfl) gP FP.kp bP .nil pass0 (pa_cons (pv 0) (pa_cons (pe_callB call_len_seq (by rfl) ml PySem.boot_len (pa_cons (pv 1) pa_nil)) pa_nil))) (fun _ _ => rfl))), ?_⟩
    refine ⟨.ref t, rfl, .ref b, rfl, .ref t, rfl, t, xs, rfl, .inl (.inl (.inl hT)), b, c, _, rfl, hB, by omega, ?_, fun H' r off bag hr0 hr1 => ?_⟩
    · rw [Int.natAbs_natCast]
      exact Nat.lt_of_le_of_lt h1 (by decide)
    · obtain ⟨n, rfl⟩ := Int.eq_ofNat_of_zero_le hr0
      have hn : n < xs.length := by omega
      refine ⟨t, xs, _, xs[n], rfl, rfl, .inl (.inl (off _ _ htb hT)), atI_nat (List.getElem?_eq_getElem hn), ?_⟩
      exact q _ _ off bag (List.getElem_mem hn)
end
/-! ### _law_like -/
theorem Same.tup {K : PySem.W.Frag} {H H' : Hp} {a : Addr} {xs : List V} (e : Same H H') (h : SqT K H a xs) : SqT K H' a xs := by
  rcases h with (h | ⟨o, h⟩) | h
  · exact .inl (.inl (e _ _ h))
  · exact .inl (.inr ⟨o, e _ _ h⟩)
  · exact .inr h
theorem tyL {K : PySem.W.Frag} {H : Hp} {a : Addr} {xs : List V} (h : SqL K H a xs) : TyX K H (.ref a) (.type "list") := by
  rcases h with (h | ⟨o, h⟩) | ⟨o, its, n, h1, h2, h3⟩
  · exact .base (.lst h)
  · exact .base (.frz h)
  · exact .kList h1 h2
theorem tyT {K : PySem.W.Frag} {H : Hp} {a : Addr} {xs : List V} (h : SqT K H a xs) : TyX K H (.ref a) (.type "tuple") := by
  rcases h with (h | ⟨o, h⟩) | ⟨o, its, n, h1, h2, h3⟩
  · exact .base (.tup h)
  · exact .fTuple h
  · exact .kTuple h1 h2
theorem ix_any {K : PySem.W.Frag} {H : Hp} {a : Addr} {xs : List V} {i : Nat} {v : V} {Q : VK} (h : SqL K H a xs ∨ SqT K H a xs) (e : xs[i]? = some v) (q : Q v H) : rIx K (.ref a) (.int (i : Nat)) H Q := by
  rcases h with h | h
  · exact .inl ⟨a, xs, _, v, rfl, rfl, h, atI_nat e, q⟩
  · exact .inr (.inl ⟨a, xs, _, v, rfl, rfl, h, atI_nat e, q⟩)
/-- what was there before a new object was made stays, though that object changes -/
theorem Same.offUpd {H H' : Hp} {D : Addr} {o : HO} (e : Same H H') (n : H D = none) : Same H (upd H' D o) := fun b x h => by
  rw [upd_ne (ne_of_none h n)]
  exact e b x h
theorem yesT {σ : L2.St} {H : Hp} {A B : Hp → Prop} (h : A H) : tYes σ H (fun b H3 => if b = true then A H3 else B H3) := h
/-- the same data, of a depth below n -/
def Lk (K : PySem.W.Frag) (H : Hp) : Nat → V → V → Prop
  | 0, _, _ => False
  | n + 1, v, u => (v = u ∧ (v = .non ∨ (∃ b, v = .bl b) ∨ (∃ i, v = .int i) ∨ ∃ z, v = .str z)) ∨
    ∃ a b xs ys, v = .ref a ∧ u = .ref b ∧ ((SqL K H a xs ∧ SqL K H b ys) ∨ (SqT K H a xs ∧ SqT K H b ys)) ∧ xs.length = ys.length ∧ xs.length ≤ 1000 ∧ ∀ (i : Nat) (x y : V), xs[i]? = some x → ys[i]? = some y → Lk K H n x y
theorem Lk.same {K : PySem.W.Frag} {H H' : Hp} (e : Same H H') : ∀ (n : Nat) (v u : V), Lk K H n v u → Lk K H' n v u
  | 0, _, _, h => h
  | n + 1, v, u, h => by
    rcases h with h | ⟨a, b, xs, ys, e1, e2, h3, h4, h5, h6⟩
    · exact .inl h
    · refine .inr ⟨a, b, xs, ys, e1, e2, ?_, h4, h5, fun i x y p q => Lk.same e n x y (h6 i x y p q)⟩
      rcases h3 with ⟨p, q⟩ | ⟨p, q⟩
      · exact .inl ⟨e.seq p, e.seq q⟩
      · exact .inr ⟨Same.tup e p, Same.tup e q⟩
abbrev sLike : Stmt := topS 11
theorem scLike : FnScope ["_law_one", "_law_due", "_law_at"] ["_law_one", "_law_due"] (defScope sLike) := ⟨rfl, rfl, rfl, by decide +kernel, rfl, by decide +kernel, by decide +kernel⟩
def spLike (K : PySem.W.Frag) (n : Nat) : Sp := fun vs H Q _ => ∃ v u, vs = [v, u] ∧ Lk K H n v u ∧ ∀ H', Same H H' → Q (.bl true) H'
structure LkG (mg : Str → Option Value) : Prop where
  isi : mg "isinstance" = none
  tup : mg "tuple" = none
  lst : mg "list" = none
  len : mg "len" = none
  all : mg "all" = none
  rng : mg "range" = none
  bool : mg "bool" = none
  int : mg "int" = none
  str : mg "str" = none
section
variable {P : Program} {w : World} {K : PySem.W.Frag} {mg : Str → Option Value} {base : Heap}
theorem like_step {f : Addr} {fd : FuncData} {n : Nat} (F : Fun K "_law_like" "_law_like" sLike f fd) (b : Binds K fd ["_law_one", "_law_due"] []) (g : mg "_law_like" = some (.ref f)) (M : LkG mg)
    (G : FnOk P w K mg base CX0 n f fd ["_law_one", "_law_due"] (spLike K n)) : FnOk P w K mg base CX0 (n + 1) f fd ["_law_one", "_law_due"] (spLike K (n + 1)) := by
  refine F.ok scLike (fun vs H Q E h => ?_) (fun cdv A outer s H vs Q E hr h => ?_)
  · obtain ⟨v, u, rfl, _⟩ := h
    rfl
  · obtain ⟨v, u, rfl, hL, q⟩ := h
    refine ⟨_, pss_cons (ps_if (pt_val (pe_callB call_isiT (by rfl) M.isi (by decide +kernel) (pa_cons (pv 1) (pa_cons (pe_tup (pa_cons (pe_bltn (v := .ty "tuple") (by rfl) M.tup (by decide +kernel) rfl) (pa_cons (pe_bltn (v := .ty "list") (by rfl) M.lst (by decide +kernel) rfl) pa_nil))) pa_nil))))
        (pss_cons (ps_if (pt_cmpR op_ne (pe_callB call_isi (by rfl) M.isi (by decide +kernel) (pa_cons (pv 0) (pa_cons (pe_bltn (v := .ty "tuple") (by rfl) M.tup (by decide +kernel) rfl) pa_nil))) (pe_callB call_isi (by rfl) M.isi (by decide +kernel) (pa_cons (pv 1) (pa_cons (pe_bltn (v := .ty "tuple") (by rfl) M.tup (by decide +kernel) rfl) pa_nil))) (nomark _))
          (pss_one (ps_ret pe_bl)) pss_nil)
        (pss_cons (ps_if (PW.pt (pw_or (pt_not (pt_val (pe_callB call_isiT (by rfl) M.isi (by decide +kernel) (pa_cons (pv 0) (pa_cons (pe_tup (pa_cons (pe_bltn (v := .ty "tuple") (by rfl) M.tup (by decide +kernel) rfl) (pa_cons (pe_bltn (v := .ty "list") (by rfl) M.lst (by decide +kernel) rfl) pa_nil))) pa_nil)))))
            (pw_or1 (pt_cmpR op_ne (pe_callB call_len_seq (by rfl) M.len PySem.boot_len (pa_cons (pv 0) pa_nil)) (pe_callB call_len_seq (by rfl) M.len PySem.boot_len (pa_cons (pv 1) pa_nil)) (nomark _)))))
          (pss_one (ps_ret pe_bl)) pss_nil)
        (pss_one (ps_ret (pe_callB (cr_all rfl) (by rfl) M.all (by decide +kernel) (pa_cons (pe_lc (own := [("_law_at", 2)]) (g := gName 2) (tt := tYes) rfl scLike.nd (pi_range1 (by rfl) M.rng (pa_cons (pe_callB call_len_seq (by rfl) M.len PySem.boot_len (pa_cons (pv 1) pa_nil)) pa_nil))
            (blkOk_by (own := [("_law_at", 2)]) (N := ["_law_one", "_law_due", "_law_at"]) (sc := defScope sLike) (by decide +kernel)) (fun _ _ _ _ _ => pg_name (i := 2) scLike.nd rfl (Or.inl rfl)) (fun _ _ _ _ _ => pts_nil)
            (fun _ _ _ _ _ => pe_call G hr (by rfl) g F.kp b .nil pass0 (pa_cons (pe_ix (r := rIx K) ix_seq (pv 0) (pv 2) (fun _ _ => rfl)) (pa_cons (pe_ix (r := rIx K) ix_seq (pv 1) (pv 2) (fun _ _ => rfl)) pa_nil)))) pa_nil)))))) pss_nil)
      (pss_cons (ps_if (pt_val (pe_callB call_isi (by rfl) M.isi (by decide +kernel) (pa_cons (pv 1) (pa_cons (pe_bltn (v := .ty "bool") (by rfl) M.bool (by decide +kernel) rfl) pa_nil))))
        (pss_one (ps_ret (pe_and (pe_callB call_isi (by rfl) M.isi (by decide +kernel) (pa_cons (pv 0) (pa_cons (pe_bltn (v := .ty "bool") (by rfl) M.bool (by decide +kernel) rfl) pa_nil))) (pe_one (pe_cmpR op_eq (pv 0) (pv 1) (nomark _)))))) pss_nil)
      (pss_cons (ps_if (pt_val (pe_callB call_isi (by rfl) M.isi (by decide +kernel) (pa_cons (pv 1) (pa_cons (pe_bltn (v := .ty "int") (by rfl) M.int (by decide +kernel) rfl) pa_nil))))
        (pss_one (ps_ret (pe_and (pe_callB call_isi (by rfl) M.isi (by decide +kernel) (pa_cons (pv 0) (pa_cons (pe_bltn (v := .ty "int") (by rfl) M.int (by decide +kernel) rfl) pa_nil))) (pe_and (pe_not (pe_callB call_isi (by rfl) M.isi (by decide +kernel) (pa_cons (pv 0) (pa_cons (pe_bltn (v := .ty "bool") (by rfl) M.bool (by decide +kernel) rfl) pa_nil)))) (pe_one (pe_cmpR op_eq (pv 0) (pv 1) (nomark _))))))) pss_nil)
      (pss_cons (ps_if (pt_val (pe_callB call_isi (by rfl) M.isi (by decide +kernel) (pa_cons (pv 1) (pa_cons (pe_bltn (v := .ty "str") (by rfl) M.str (by decide +kernel) rfl) pa_nil))))
        (pss_one (ps_ret (pe_and (pe_callB call_isi (by rfl) M.isi (by decide +kernel) (pa_cons (pv 0) (pa_cons (pe_bltn (v := .ty "str") (by rfl) M.str (by decide +kernel) rfl) pa_nil))) (pe_one (pe_cmpR op_eq (pv 0) (pv 1) (nomark _)))))) pss_nil)
      (pss_one (ps_ret (pe_and (pe_cmp (pc_isN (pv 1)) rfl) (pe_one (pe_cmp (pc_isN (pv 0)) rfl)))))))), ?_⟩
    rcases hL with ⟨rfl, hs⟩ | ⟨a1, a2, xs, ys, rfl, rfl, h3, h4, h5, h6⟩
    · rcases hs with rfl | ⟨bb, rfl⟩ | ⟨i, rfl⟩ | ⟨z, rfl⟩
      · refine ⟨.non, rfl, (show (2 : Nat) ≤ sizeLine by decide), fun t nt => ⟨.non, t, _, .type "NoneType", [.type "tuple", .type "list"], false, rfl, upd_same, .cons (.ty _) (.cons (.ty _) .nil), .base .non, kitAny_cons (b := false) (kit_ty (by decide +kernel)) (fun _ => kitAny_cons (b := false) (kit_ty (by decide +kernel)) (fun _ => kitAny_nil) (fun e => nomatch e)) (fun e => nomatch e), _, rfl, iteF ?_⟩⟩
        refine ⟨.non, rfl, .non, _, _, _, false, rfl, .ty _, .base .non, kit_ty (by decide +kernel), _, rfl, iteF ?_⟩
        refine ⟨.non, rfl, .non, _, _, _, false, rfl, .ty _, .base .non, kit_ty (by decide +kernel), _, rfl, iteF ?_⟩
        refine ⟨.non, rfl, .non, _, _, _, false, rfl, .ty _, .base .non, kit_ty (by decide +kernel), _, rfl, iteF ?_⟩
        refine ⟨.non, rfl, _, rfl, iteT ⟨.non, rfl, ?_⟩⟩
        exact q _ (same_upd nt)
      · refine ⟨.bl bb, rfl, (show (2 : Nat) ≤ sizeLine by decide), fun t nt => ⟨.bl bb, t, _, .type "bool", [.type "tuple", .type "list"], false, rfl, upd_same, .cons (.ty _) (.cons (.ty _) .nil), .base (.bl bb), kitAny_cons (b := false) (kit_ty (by decide +kernel)) (fun _ => kitAny_cons (b := false) (kit_ty (by decide +kernel)) (fun _ => kitAny_nil) (fun e => nomatch e)) (fun e => nomatch e), _, rfl, iteF ?_⟩⟩
        refine ⟨.bl bb, rfl, .bl bb, _, _, _, true, rfl, .ty _, .base (.bl bb), kit_ty (by decide +kernel), _, rfl, iteT ?_⟩
        refine ⟨.bl bb, rfl, .bl bb, _, _, _, true, rfl, .ty _, .base (.bl bb), kit_ty (by decide +kernel), _, rfl, iteT ⟨.bl bb, rfl, .bl bb, rfl, rfl, ?_⟩⟩
        rw [decide_eq_true rfl]
        exact q _ (same_upd nt)
      · refine ⟨.int i, rfl, (show (2 : Nat) ≤ sizeLine by decide), fun t nt => ⟨.int i, t, _, .type "int", [.type "tuple", .type "list"], false, rfl, upd_same, .cons (.ty _) (.cons (.ty _) .nil), .base (.int i), kitAny_cons (b := false) (kit_ty (by decide +kernel)) (fun _ => kitAny_cons (b := false) (kit_ty (by decide +kernel)) (fun _ => kitAny_nil) (fun e => nomatch e)) (fun e => nomatch e), _, rfl, iteF ?_⟩⟩
        refine ⟨.int i, rfl, .int i, _, _, _, false, rfl, .ty _, .base (.int i), kit_ty (by decide +kernel), _, rfl, iteF ?_⟩
        refine ⟨.int i, rfl, .int i, _, _, _, true, rfl, .ty _, .base (.int i), kit_ty (by decide +kernel), _, rfl, iteT ?_⟩
        refine ⟨.int i, rfl, .int i, _, _, _, true, rfl, .ty _, .base (.int i), kit_ty (by decide +kernel), _, rfl, iteT ⟨.int i, rfl, .int i, _, _, _, false, rfl, .ty _, .base (.int i), kit_ty (by decide +kernel), _, rfl, _, rfl, iteT ⟨.int i, rfl, .int i, rfl, rfl, ?_⟩⟩⟩
        rw [decide_eq_true rfl]
        exact q _ (same_upd nt)
      · refine ⟨.str z, rfl, (show (2 : Nat) ≤ sizeLine by decide), fun t nt => ⟨.str z, t, _, .type "str", [.type "tuple", .type "list"], false, rfl, upd_same, .cons (.ty _) (.cons (.ty _) .nil), .base (.str z), kitAny_cons (b := false) (kit_ty (by decide +kernel)) (fun _ => kitAny_cons (b := false) (kit_ty (by decide +kernel)) (fun _ => kitAny_nil) (fun e => nomatch e)) (fun e => nomatch e), _, rfl, iteF ?_⟩⟩
        refine ⟨.str z, rfl, .str z, _, _, _, false, rfl, .ty _, .base (.str z), kit_ty (by decide +kernel), _, rfl, iteF ?_⟩
        refine ⟨.str z, rfl, .str z, _, _, _, false, rfl, .ty _, .base (.str z), kit_ty (by decide +kernel), _, rfl, iteF ?_⟩
        refine ⟨.str z, rfl, .str z, _, _, _, true, rfl, .ty _, .base (.str z), kit_ty (by decide +kernel), _, rfl, iteT ?_⟩
        refine ⟨.str z, rfl, .str z, _, _, _, true, rfl, .ty _, .base (.str z), kit_ty (by decide +kernel), _, rfl, iteT ⟨.str z, rfl, .str z, rfl, rfl, ?_⟩⟩
        rw [decide_eq_true rfl]
        exact q _ (same_upd nt)
    · obtain ⟨ty, bt, ht1, ht2, k2, k3, hq1, hq2⟩ : ∃ (ty : String) (bt : Bool), (∀ H', Same H H' → TyX K H' (.ref a1) (.type ty)) ∧ (∀ H', Same H H' → TyX K H' (.ref a2) (.type ty)) ∧ PySem.W.kitAny K (.type ty) [.type "tuple", .type "list"] = some true ∧ PySem.W.kitOne K (.type ty) (.type "tuple") = some bt ∧ (∀ H', Same H H' → SqL K H' a1 xs ∨ SqT K H' a1 xs) ∧ (∀ H', Same H H' → SqL K H' a2 ys ∨ SqT K H' a2 ys) := by
        rcases h3 with ⟨p1, p2⟩ | ⟨p1, p2⟩
        · exact ⟨"list", false, fun _ e => tyL (e.seq p1), fun _ e => tyL (e.seq p2), kitAny_cons (b := false) (kit_ty (by decide +kernel)) (fun _ => kitAny_cons (b := true) (kit_ty (by decide +kernel)) (fun e => nomatch e) (fun _ => rfl)) (fun e => nomatch e), kit_ty (by decide +kernel), fun _ e => .inl (e.seq p1), fun _ e => .inl (e.seq p2)⟩
        · exact ⟨"tuple", true, fun _ e => tyT (Same.tup e p1), fun _ e => tyT (Same.tup e p2), kitAny_cons (b := true) (kit_ty (by decide +kernel)) (fun e => nomatch e) (fun _ => rfl), kit_ty (by decide +kernel), fun _ e => .inr (Same.tup e p1), fun _ e => .inr (Same.tup e p2)⟩
      refine ⟨.ref a2, rfl, (show (2 : Nat) ≤ sizeLine by decide), fun t nt => ⟨.ref a2, t, _, .type ty, [.type "tuple", .type "list"], true, rfl, upd_same, .cons (.ty _) (.cons (.ty _) .nil), ht2 _ (same_upd nt), k2, _, rfl, iteT ?_⟩⟩
      have s1 : Same H (upd H t (.tup [.ty "tuple", .ty "list"])) := same_upd nt
      refine ⟨.ref a1, rfl, .ref a1, _, _, _, bt, rfl, .ty _, ht1 _ s1, k3, .ref a2, rfl, .ref a2, _, _, _, bt, rfl, .ty _, ht2 _ s1, k3, rfl, _, rfl, iteNS rfl ?_⟩
      refine ⟨.ref a1, rfl, (show (2 : Nat) ≤ sizeLine by decide), fun t2 nt2 => ⟨.ref a1, t2, _, .type ty, [.type "tuple", .type "list"], true, rfl, upd_same, .cons (.ty _) (.cons (.ty _) .nil), ht1 _ (s1.trans (same_upd nt2)), k2, _, rfl, iteF ?_⟩⟩
      have s2 := s1.trans (same_upd (o := .tup [.ty "tuple", .ty "list"]) nt2)
      generalize upd (upd H t (.tup [.ty "tuple", .ty "list"])) t2 (.tup [.ty "tuple", .ty "list"]) = H2 at s2 ⊢
      refine ⟨.ref a1, rfl, a1, xs, rfl, hq1 _ s2, .ref a2, rfl, a2, ys, rfl, hq2 _ s2, rfl, _, rfl, iteNS (by rw [h4]) ?_⟩
      refine ⟨.ref a2, rfl, a2, ys, rfl, hq2 _ s2, (ys.length : Nat), rfl, by omega, by omega, fun D nD => ?_⟩
      refine lc_range (lo := 0) (n := ((ys.length : Nat) : Int).toNat) (fun i H' => Same H2 H' ∧ H' D = some (.lst ((List.replicate i true).map V.bl))) ⟨same_upd nD, upd_same⟩ (fun i H' hi hP => ?_) (fun H' hP => ?_)
      · obtain ⟨sm, hD⟩ := hP
        have hi2 : i < ys.length := by omega
        have hi1 : i < xs.length := by omega
        have e0 : (0 : Int) + (i : Int) = (i : Nat) := by omega
        have s3 := s2.trans sm
        refine ⟨rfl, yesT ?_⟩
        refine ⟨.ref a1, rfl, .int (0 + i), rfl, ?_⟩
        rw [e0]
        refine ix_any (hq1 _ s3) (List.getElem?_eq_getElem hi1) ⟨.ref a2, rfl, _, rfl, ?_⟩
        refine ix_any (hq2 _ s3) (List.getElem?_eq_getElem hi2) ?_
        refine ⟨xs[i], ys[i], rfl, Lk.same s3 n _ _ (h6 i _ _ (List.getElem?_eq_getElem hi1) (List.getElem?_eq_getElem hi2)), fun H3 sm3 => ?_⟩
        refine ⟨_, sm3 _ _ hD, ?_, Same.offUpd (sm.trans sm3) nD, ?_⟩
        · rw [List.length_map, List.length_replicate]
          exact small1000 (by omega)
        · rw [upd_same, List.replicate_succ', List.map_append]
          rfl
      · obtain ⟨sm, hD⟩ := hP
        refine ⟨D, _, rfl, .inl (.inl hD), ?_⟩
        rw [show (List.replicate ((ys.length : Nat) : Int).toNat true).all id = true by simp]
        exact q _ (s2.trans sm)
theorem ok_like {f : Addr} {fd : FuncData} (F : Fun K "_law_like" "_law_like" sLike f fd) (b : Binds K fd ["_law_one", "_law_due"] []) (g : mg "_law_like" = some (.ref f)) (M : LkG mg) : ∀ n : Nat, FnOk P w K mg base CX0 n f fd ["_law_one", "_law_due"] (spLike K n)
  | 0 => ⟨fun vs H Q E h => by obtain ⟨v, u, _, h, _⟩ := h; exact h.elim, fun A outer s H args us vs Q E hr he hb hv h => by obtain ⟨v, u, _, h, _⟩ := h; exact h.elim⟩
  | n + 1 => like_step F b g M (ok_like F b g M n)
end
/-! ### rows: the mathematics -/
def cyc (t : List Int) (z : Int) : Int := t.getD (z % (t.length : Int)).toNat 0
def isP (t : List Int) (q : Nat) : Prop := t.length % q = 0 ∧ (List.replicate (t.length / q) (t.take q)).flatten = t
structure IsPer (t : List Int) (p : Nat) : Prop where
  pos : 1 ≤ p
  le : p ≤ t.length
  is : isP t p
  min : ∀ q, 1 ≤ q → q ≤ t.length → isP t q → p ≤ q
theorem IsPer.det {t : List Int} {p q : Nat} (a : IsPer t p) (b : IsPer t q) : p = q :=
  Nat.le_antisymm (a.min q b.pos b.le b.is) (b.min p a.pos a.le a.is)
theorem rep_get (u : List Int) : ∀ (m i : Nat), i < m * u.length → (List.replicate m u).flatten[i]? = u[i % u.length]?
  | 0, i, h => by omega
  | m + 1, i, h => by
    rw [List.replicate_succ, List.flatten_cons]
    by_cases hi : i < u.length
    · rw [List.getElem?_append_left hi, Nat.mod_eq_of_lt hi]
    · rw [List.getElem?_append_right (by omega), rep_get u m (i - u.length) (by rw [Nat.succ_mul] at h; omega), ← Nat.mod_eq_sub_mod (by omega)]
theorem rep_len (u : List Int) (m : Nat) : (List.replicate m u).flatten.length = m * u.length := by
  induction m with
  | zero => simp
  | succ m ih => rw [List.replicate_succ, List.flatten_cons, List.length_append, ih, Nat.succ_mul, Nat.add_comm]
theorem mod_lt (z : Int) {n : Nat} (h : 0 < n) : (z % (n : Int)).toNat < n := by
  have h1 := Int.emod_nonneg z (b := (n : Int)) (by omega)
  have h2 := Int.emod_lt_of_pos z (b := (n : Int)) (by omega)
  omega
theorem cyc_get {t : List Int} (h : 0 < t.length) (z : Int) : t[(z % (t.length : Int)).toNat]? = some (cyc t z) := by
  unfold cyc
  rw [List.getD_eq_getElem?_getD, List.getElem?_eq_getElem (mod_lt z h)]
  rfl
theorem cyc_nat {t : List Int} {i : Nat} (h : i < t.length) : t[i]? = some (cyc t i) := by
  have := cyc_get (t := t) (by omega) (i : Int)
  rw [Int.emod_eq_of_lt (by omega) (by omega), Int.toNat_natCast] at this
  exact this
theorem cyc_add (t : List Int) (z : Int) : cyc t (z + t.length) = cyc t z := by
  unfold cyc
  rw [Int.add_emod_right]
theorem cyc_mod (t : List Int) (z : Int) : cyc t (z % t.length) = cyc t z := by
  unfold cyc
  rw [Int.emod_emod_of_dvd _ (Int.dvd_refl _)]
theorem isP_cyc {t : List Int} {q : Nat} (h1 : 1 ≤ q) (h2 : q ≤ t.length) (h : isP t q) (z : Int) : cyc (t.take q) z = cyc t z := by
  obtain ⟨hm, hf⟩ := h
  have hn : 0 < t.length := by omega
  have hl : (t.take q).length = q := by rw [List.length_take]; omega
  have hd : q * (t.length / q) = t.length := by
    have := Nat.div_add_mod t.length q
    omega
  have hi := mod_lt z hn
  have e1 := cyc_get hn z
  have e3 := rep_get (t.take q) (t.length / q) _ (show (z % (t.length : Int)).toNat < t.length / q * (t.take q).length by rw [hl, Nat.mul_comm, hd]; exact hi)
  rw [hf, e1, hl] at e3
  have e4 : (z % (t.length : Int)).toNat % q = (z % (q : Int)).toNat := by
    have g1 := Int.emod_nonneg z (b := (t.length : Int)) (by omega)
    have g2 : ((z % (t.length : Int)).toNat : Int) = z % (t.length : Int) := Int.toNat_of_nonneg g1
    have g3 : z % (t.length : Int) % (q : Int) = z % (q : Int) := Int.emod_emod_of_dvd z (by exact_mod_cast Nat.dvd_of_mod_eq_zero hm)
    have g4 : (((z % (t.length : Int)).toNat % q : Nat) : Int) = z % (q : Int) := by rw [Int.natCast_emod, g2, g3]
    omega
  rw [e4] at e3
  have e5 := cyc_get (t := t.take q) (by omega) z
  rw [hl] at e5
  rw [e5] at e3
  exact (Option.some.inj e3).symm
theorem cyc_isP {t : List Int} {q : Nat} (h1 : 1 ≤ q) (h2 : q ≤ t.length) (hm : t.length % q = 0) (h : ∀ z : Int, cyc t (z + q) = cyc t z) : isP t q := by
  refine ⟨hm, ?_⟩
  have hl : (t.take q).length = q := by rw [List.length_take]; omega
  have hd : t.length / q * q = t.length := by
    have := Nat.div_add_mod t.length q
    rw [Nat.mul_comm]
    omega
  have hk : ∀ (k : Nat) (z : Int), cyc t (z + (k : Int) * q) = cyc t z := by
    intro k
    induction k with
    | zero => intro z; simp
    | succ k ih =>
      intro z
      rw [show z + ((k + 1 : Nat) : Int) * q = (z + (k : Int) * q) + q by rw [Int.natCast_add, Int.add_mul]; omega, h, ih]
  apply List.ext_getElem?
  intro i
  by_cases hi : i < t.length
  · rw [rep_get _ _ _ (by rw [hl, hd]; exact hi), hl, cyc_nat hi, List.getElem?_take, if_pos (Nat.mod_lt _ (by omega)), cyc_nat (Nat.lt_of_le_of_lt (Nat.mod_le _ _) hi)]
    have := hk (i / q) ((i % q : Nat) : Int)
    have e : ((i % q : Nat) : Int) + ((i / q : Nat) : Int) * q = i := by
      have := Nat.mod_add_div i q
      have h2 : ((i % q + q * (i / q) : Nat) : Int) = i := by rw [this]
      rw [Int.natCast_add, Int.natCast_mul] at h2
      rw [Int.mul_comm]
      exact h2
    rw [e] at this
    rw [this]
  · rw [List.getElem?_eq_none (by rw [rep_len, hl, hd]; omega), List.getElem?_eq_none (by omega)]
/-- w turned by s -/
def rot (w : List Int) (s : Int) : List Int := (List.range w.length).map fun (k : Nat) => cyc w ((k : Int) - s)
theorem rot_len (w : List Int) (s : Int) : (rot w s).length = w.length := by
  unfold rot
  rw [List.length_map, List.length_range]
theorem rot_get {w : List Int} {s : Int} {k : Nat} (h : k < w.length) : (rot w s)[k]? = some (cyc w ((k : Int) - s)) := by
  unfold rot
  rw [List.getElem?_map, List.getElem?_range h]
  rfl
theorem cyc_rot {w : List Int} (h : 0 < w.length) (s z : Int) : cyc (rot w s) z = cyc w (z - s) := by
  have e1 := cyc_get (t := rot w s) (by rw [rot_len]; exact h) z
  rw [rot_len, rot_get (mod_lt z h)] at e1
  rw [← Option.some.inj e1, Int.toNat_of_nonneg (Int.emod_nonneg _ (by omega)), ← cyc_mod w (z % _ - s), ← cyc_mod w (z - s), Int.emod_sub_emod]
theorem rot_zero (w : List Int) : rot w 0 = w := by
  apply List.ext_getElem?
  intro i
  by_cases hi : i < w.length
  · rw [rot_get hi, cyc_nat hi, Int.sub_zero]
  · rw [List.getElem?_eq_none (by rw [rot_len]; omega), List.getElem?_eq_none (by omega)]
theorem rot_cut {w : List Int} (h : 0 < w.length) (s : Int) : w.drop ((-s) % (w.length : Int)).toNat ++ w.take ((-s) % (w.length : Int)).toNat = rot w s := by
  have hs := mod_lt (-s) h
  have hs0 := Int.emod_nonneg (-s) (b := (w.length : Int)) (by omega)
  have key : ∀ (k j : Nat), ((j : Int) = k + (-s) % (w.length : Int) ∨ (j : Int) = k + (-s) % (w.length : Int) - w.length) → cyc w j = cyc w ((k : Int) - s) := by
    intro k j hj
    have e1 : cyc w ((k : Int) + (-s) % (w.length : Int)) = cyc w ((k : Int) - s) := by
      rw [← cyc_mod w ((k : Int) + (-s) % _), Int.add_emod_emod, cyc_mod, Int.sub_eq_add_neg]
    rcases hj with hj | hj
    · rw [hj, e1]
    · rw [hj, ← e1, ← cyc_add w ((k : Int) + _ - _)]
      congr 1
      omega
  apply List.ext_getElem?
  intro i
  by_cases hi : i < w.length
  · rw [rot_get hi]
    by_cases h2 : i < w.length - ((-s) % (w.length : Int)).toNat
    · rw [List.getElem?_append_left (by rw [List.length_drop]; exact h2), List.getElem?_drop, cyc_nat (by omega)]
      congr 1
      exact key i _ (.inl (by omega))
    · rw [List.getElem?_append_right (by rw [List.length_drop]; omega), List.length_drop, List.getElem?_take, if_pos (by omega), cyc_nat (by omega)]
      congr 1
      exact key i _ (.inr (by omega))
  · rw [List.getElem?_eq_none (by rw [List.length_append, List.length_drop, List.length_take]; omega), List.getElem?_eq_none (by rw [rot_len]; omega)]
/-- s notes at the end of the lead are the round's -/
def Tail (xs w : List Int) (s : Nat) : Prop := s ≤ xs.length ∧ ∀ j : Nat, j < s → xs[xs.length - 1 - j]? = some (cyc w (-1 - (j : Int)))
structure IsSpare (xs w : List Int) (s : Nat) : Prop where
  tail : Tail xs w s
  max : s < xs.length → xs[xs.length - 1 - s]? ≠ some (cyc w (-1 - (s : Int)))
theorem IsSpare.det {xs w : List Int} {s r : Nat} (a : IsSpare xs w s) (b : IsSpare xs w r) : s = r := by
  rcases Nat.lt_trichotomy s r with h | h | h
  · exact absurd (b.tail.2 s h) (a.max (Nat.lt_of_lt_of_le h b.tail.1))
  · exact h
  · exact absurd (a.tail.2 r h) (b.max (Nat.lt_of_lt_of_le h a.tail.1))
/-- the least row -/
def LR (xs ts c d : List Int) : Prop := (ts = [] ∧ c = xs ∧ d = []) ∨ (ts ≠ [] ∧ ∃ p s, IsPer ts p ∧ IsSpare xs (ts.take p) s ∧ c = xs.take (xs.length - s) ∧ d = rot (ts.take p) s)
theorem LR.det {xs ts c d c' d' : List Int} (a : LR xs ts c d) (b : LR xs ts c' d') : c = c' ∧ d = d' := by
  rcases a with ⟨e, rfl, rfl⟩ | ⟨e, p, s, h1, h2, rfl, rfl⟩ <;> rcases b with ⟨e', rfl, rfl⟩ | ⟨e', p', s', h1', h2', rfl, rfl⟩
  · exact ⟨rfl, rfl⟩
  · exact absurd e e'
  · exact absurd e' e
  · have ep := h1.det h1'
    subst ep
    have es := h2.det h2'
    subst es
    exact ⟨rfl, rfl⟩
theorem LR.idem {xs ts c d : List Int} (a : LR xs ts c d) : LR c d c d := by
  rcases a with ⟨e, rfl, rfl⟩ | ⟨e, p, s, h1, h2, rfl, rfl⟩
  · exact .inl ⟨rfl, rfl, rfl⟩
  · have hp := h1.pos
    have hle := h1.le
    have hw : (ts.take p).length = p := by rw [List.length_take]; omega
    have hr : (rot (ts.take p) s).length = p := by rw [rot_len, hw]
    have hne : rot (ts.take p) s ≠ [] := fun z => by
      rw [z] at hr
      simp at hr
      omega
    have ht : (rot (ts.take p) s).take p = rot (ts.take p) s := List.take_of_length_le (by omega)
    refine .inr ⟨hne, p, 0, ⟨hp, by omega, ⟨by rw [hr, Nat.mod_self], ?_⟩, fun q q1 q2 q3 => ?_⟩, ⟨⟨Nat.zero_le _, fun j hj => by omega⟩, fun hs => ?_⟩, ?_, ?_⟩
    · rw [hr, Nat.div_self (by omega), ht]
      simp
    · have hq : q ≤ p := by omega
      have dq : p % q = 0 := by
        have := q3.1
        rw [hr] at this
        exact this
      refine h1.min q q1 (by omega) (cyc_isP q1 (by omega) ?_ fun z => ?_)
      · have := h1.is.1
        exact Nat.mod_eq_zero_of_dvd (Nat.dvd_trans (Nat.dvd_of_mod_eq_zero dq) (Nat.dvd_of_mod_eq_zero this))
      · have f1 : ∀ y : Int, cyc (rot (ts.take p) s) (y + q) = cyc (rot (ts.take p) s) y := fun y => by
          rw [← isP_cyc q1 q2 q3, ← isP_cyc q1 q2 q3 y]
          have := cyc_add ((rot (ts.take p) s).take q) y
          rw [List.length_take, hr, Nat.min_eq_left hq] at this
          exact this
        have f2 := f1 (z + s)
        rw [cyc_rot (by omega), cyc_rot (by omega), isP_cyc hp hle h1.is, isP_cyc hp hle h1.is] at f2
        rw [show z + (s : Int) + q - s = z + q by omega, show z + (s : Int) - s = z by omega] at f2
        exact f2
    · rw [List.length_take] at hs ⊢
      have hs' : s < xs.length := by omega
      have hm := h2.max hs'
      rw [ht, cyc_rot (by omega), List.getElem?_take, if_pos (by omega)]
      rw [show min (xs.length - s) xs.length - 1 - 0 = xs.length - 1 - s by omega]
      exact hm
    · rw [Nat.sub_zero, List.take_of_length_le (Nat.le_refl _)]
    · rw [ht]
      exact (rot_zero _).symm
/-- the note at a depth -/
def seenO (xs ts : List Int) (d : Nat) : Option Int := if d < xs.length then xs[d]? else if ts = [] then none else some (cyc ts ((d : Int) - xs.length))
theorem seen_tail {xs ts : List Int} {p s : Nat} (h : IsPer ts p) (t : Tail xs (ts.take p) s) (k : Nat) : seenO xs ts (xs.length - s + k) = some (cyc (ts.take p) ((k : Int) - s)) := by
  have hp := h.pos
  have hle := h.le
  have h1 := t.1
  unfold seenO
  by_cases hd : xs.length - s + k < xs.length
  · rw [if_pos hd]
    have := t.2 (s - k - 1) (by omega)
    rw [show xs.length - 1 - (s - k - 1) = xs.length - s + k by omega] at this
    rw [this]
    congr 2
    omega
  · rw [if_neg hd, if_neg (fun e => by rw [e] at hle; simp at hle; omega), isP_cyc hp hle h.is]
    congr 2
    omega
/-! ### rules whose answer is some object that holds the wanted things, new or not -/
theorem tuple_mulW1 (l : Addr) (items : Array Value) (n : Nat) (dd : Option Addr) (sl : Array (Option Value)) (u : Tok) :
    Meets (Builtin.«tuple.__mul__» ⟨[.ref l, .int 1 u], []⟩) (fun _ R s => s.heap.get? l = some { cls := .type "tuple", dict := dd, data := .seq items n, slots := sl } ∧ R (.ok (.ret (Value.ref l))) { s with heap := s.heap, toks := s.toks }) :=
  .of_wp fun prog w A R s h => by
    obtain ⟨hp, g, d, tk, os⟩ := s
    obtain ⟨hl, h⟩ := h
    have f1 := AutoSeq1.idx_int
    wp_walk using wpAny_loadPart' hl
    exact ⟨_, rfl, h⟩
section
variable {X : Cx}
def rRepT1 (K : PySem.W.Frag) : R2 := fun x y H Q => ∃ l xs, x = .ref l ∧ y = .int 1 ∧ SqT K H l xs ∧ Q (.ref l) H
theorem op_repT1 : OpR X (binaryOp .Mult) (rRepT1 X.K) := by
  intro pins s σ H x y v u Q I rx ry h
  obtain ⟨l, xs, rfl, rfl, hT, q⟩ := h
  cases rx
  obtain ⟨t, rfl⟩ := ry
  obtain ⟨its, r, ⟨⟨cls, dd, data, sl⟩, ho, hc, n, hd⟩, hs⟩ := I.tuple hT
  simp only at hc hd
  subst hc hd
  refine wpAny_binaryOp_repeat_ref (T := "tuple") (U := "int") (by decide) ⟨_, ho, rfl⟩ (fun s' => typeIs_int s' 1 t) noFill_tuple_mul F.fills_int_mul F.slot_int_rmul repeat_tuple F.slot_int_index.lookup
    (call_meets F.slot_int_rmul (typeIs_int s 1 t) F.entry_int_rmul (F.args_int_rmul_2 _ _) (int_rmul_tuple 1 t l its.toArray n dd sl)
      ⟨ho, rfl, ⟨_, ho, rfl⟩, call_meets F.slot_tuple_mul ⟨_, ho, rfl⟩ F.entry_tuple_mul (F.args_tuple_mul_2 _ _) (tuple_mulW1 l its.toArray n dd sl t) ⟨ho, ?_⟩⟩)
  exact ⟨.ref l, H, I, rfl, q⟩
/-- t * k -/
def rRepS (K : PySem.W.Frag) : R2 := fun x y H Q => ∃ l k xs, x = .ref l ∧ y = .int k ∧ SqT K H l xs ∧ xs ≠ [] ∧ 1 ≤ k ∧ k ≤ 1000 ∧ xs.length ≤ 1000 ∧ ∀ p H', Same H H' → SqT K H' p (List.replicate k.toNat xs).flatten → Q (.ref p) H'
theorem op_repS : OpR X (binaryOp .Mult) (rRepS X.K) := by
  intro pins s σ H x y v u Q I rx ry h
  obtain ⟨l, k, xs, rfl, rfl, hT, hne, h1, h2, h3, q⟩ := h
  by_cases hk : k = 1
  · subst hk
    refine op_repT1 pins s σ H _ _ v u Q I rx ry ⟨l, xs, rfl, rfl, hT, q l H (Same.refl H) ?_⟩
    rw [show (List.replicate (1 : Int).toNat xs).flatten = xs by simp]
    exact hT
  · exact op_repT pins s σ H _ _ v u Q I rx ry ⟨l, k, xs, rfl, rfl, hT, hne, by omega, h2, h3, fun p np => q p _ (same_upd np) (SqT.of upd_same)⟩
/-- t + u -/
def rCatS (K : PySem.W.Frag) : R2 := fun x y H Q => ∃ a b xs ys, x = .ref a ∧ y = .ref b ∧ SqT K H a xs ∧ SqT K H b ys ∧ xs.length + ys.length ≤ sizeLine ∧ ∀ p H', Same H H' → SqT K H' p (xs ++ ys) → Q (.ref p) H'
theorem op_catS : OpR X (binaryOp .Add) (rCatS X.K) := by
  intro pins s σ H x y v u Q I rx ry h
  obtain ⟨a, b, xs, ys, rfl, rfl, ha, hb, hz, q⟩ := h
  refine op_catA pins s σ H _ _ v u Q I rx ry ⟨a, b, xs, ys, rfl, rfl, ha, hb, hz, fun e => ?_, fun _ e => ?_, fun _ _ p np => q p _ (same_upd np) (SqT.of upd_same)⟩
  · subst e
    exact q b H (Same.refl H) hb
  · subst e
    exact q a H (Same.refl H) (by rw [List.append_nil]; exact ha)
/-- t[lo:hi] -/
def rSlS (K : PySem.W.Frag) : V → Option Int → Option Int → Hp → VK → Prop := fun x lo hi H Q => ∃ a xs, x = .ref a ∧ (SqL K H a xs ∨ SqT K H a xs) ∧ ∀ p H', Same H H' → ((∃ ys, SqL K H a ys) → SqL K H' p (cutV xs lo hi)) → ((∃ ys, SqT K H a ys) → SqT K H' p (cutV xs lo hi)) → (SqL K H' p (cutV xs lo hi) ∨ SqT K H' p (cutV xs lo hi)) → Q (.ref p) H'
def rSlT' (K : PySem.W.Frag) : V → Option Int → Option Int → Hp → VK → Prop := fun x lo hi H Q => ∃ a xs, x = .ref a ∧ SqT K H a xs ∧ ∀ p H', Same H H' → SqT K H' p (cutV xs lo hi) → Q (.ref p) H'
theorem cut_whole {α : Type} {xs : List α} {lo hi : Option Int} (h : HT.sIx xs.length 0 lo = 0 ∧ HT.sIx xs.length xs.length hi = xs.length) : ((xs.drop (HT.sIx xs.length 0 lo)).take (HT.sIx xs.length xs.length hi - HT.sIx xs.length 0 lo)) = xs := by
  rw [h.1, h.2]
  simp
theorem sl_tupS : L2.SlR X (rSlT' X.K) := by
  intro pins s σ H x v vl vu lo hi sl Q I rx hs pl pu h
  obtain ⟨a, xs, rfl, hx, q⟩ := h
  refine sl_tupA pins s σ H _ v vl vu lo hi sl Q I rx hs pl pu ⟨a, xs, rfl, hx, fun e => ?_, fun _ p np => q p _ (same_upd np) (SqT.of upd_same)⟩
  exact q a H (Same.refl H) (by rw [show cutV xs lo hi = xs from cut_whole e]; exact hx)
/-- a list's or a tuple's slice -/
def rSlQ (K : PySem.W.Frag) : V → Option Int → Option Int → Hp → VK → Prop := fun x lo hi H Q => ∃ a xs, x = .ref a ∧ (SqL K H a xs ∨ SqT K H a xs) ∧ ∀ p H', Same H H' → (SqL K H' p (cutV xs lo hi) ∨ SqT K H' p (cutV xs lo hi)) → Q (.ref p) H'
theorem sl_seqS : L2.SlR X (rSlQ X.K) := by
  intro pins s σ H x v vl vu lo hi sl Q I rx hs pl pu h
  obtain ⟨a, xs, rfl, hx, q⟩ := h
  rcases hx with hx | hx
  · exact sl_list pins s σ H _ v vl vu lo hi sl Q I rx hs pl pu ⟨a, xs, rfl, hx, fun p np => q p _ (same_upd np) (.inl (SqL.of upd_same))⟩
  · exact sl_tupS pins s σ H _ v vl vu lo hi sl Q I rx hs pl pu ⟨a, xs, rfl, hx, fun p H' e h => q p H' e (.inr h)⟩
/-- tuple(x) -/
def rTupS (K : PySem.W.Frag) : List V → Hp → VK → Prop := fun vs H Q => ∃ p ys, vs = [.ref p] ∧ (SqL K H p ys ∨ SqT K H p ys) ∧ ∀ l H', Same H H' → SqT K H' l ys → Q (.ref l) H'
theorem call_tupS : CallR X (.type "tuple") (rTupS X.K) := by
  intro pins s σ H xs us Q I r h
  obtain ⟨p, ys, rfl, hx, q⟩ := h
  refine call_tuple_of pins s σ H _ us Q I r ⟨p, ys, rfl, ?_⟩
  rcases hx with hx | hx
  · exact .inl ⟨hx, fun l nl => q l _ (same_upd nl) (SqT.of upd_same)⟩
  · exact .inr ⟨hx, q p H (Same.refl H) hx⟩
/-- len(x) -/
def rLenQ (K : PySem.W.Frag) : List V → Hp → VK → Prop := fun xs H Q => ∃ p ys, xs = [.ref p] ∧ (SqL K H p ys ∨ SqT K H p ys) ∧ Q (.int (ys.length : Nat)) H
theorem call_lenQ : CallR X (.builtin "len") (rLenQ X.K) := call_len_seq
end
theorem cut_to {α : Type} (xs : List α) (k : Nat) : ((xs.drop (HT.sIx xs.length 0 none)).take (HT.sIx xs.length xs.length (some (k : Int)) - HT.sIx xs.length 0 none)) = xs.take k := by
  rw [HT.sIx_none, HT.sIx_nat, List.drop_zero, Nat.sub_zero]
  rcases Nat.le_total k xs.length with h | h
  · rw [Nat.min_eq_left h]
  · rw [Nat.min_eq_right h, List.take_of_length_le h, List.take_length]
theorem cut_from {α : Type} (xs : List α) (k : Nat) : ((xs.drop (HT.sIx xs.length 0 (some (k : Int)))).take (HT.sIx xs.length xs.length none - HT.sIx xs.length 0 (some (k : Int)))) = xs.drop k := by
  rw [HT.sIx_none, HT.sIx_nat]
  rcases Nat.le_total k xs.length with h | h
  · rw [Nat.min_eq_left h, ← List.length_drop, List.take_length]
  · rw [Nat.min_eq_right h, List.drop_of_length_le h, List.drop_length, List.take_nil]
theorem cutV_to (xs : List V) (k : Nat) : cutV xs none (some (k : Int)) = xs.take k := cut_to xs k
theorem cutV_from (xs : List V) (k : Nat) : cutV xs (some (k : Int)) none = xs.drop k := cut_from xs k
/-! ### data of whole numbers -/
theorem dpI {K : PySem.W.Frag} {H : Hp} : ∀ ns : List Int, DpAll K H (ns.map V.int) (ns.map PyData.int)
  | [] => .nil
  | n :: r => .cons (.int n) (dpI r)
theorem canLay_ints : ∀ ns : List Int, PyData.canLayAll0 (ns.map PyData.int) = true
  | [] => rfl
  | _ :: r => by simp [PyData.canLayAll0, PyData.canLay0, canLay_ints r]
theorem depth_ints : ∀ ns : List Int, PyData.depthAll (ns.map PyData.int) = 0
  | [] => rfl
  | _ :: r => by simp [PyData.depthAll, PyData.depth, depth_ints r]
theorem shL (ns : List Int) : SeqAt.shaped (.list (ns.map PyData.int)) = true := by
  simp [SeqAt.shaped, PyData.canLay0, PyData.depth, canLay_ints, depth_ints]
theorem shT (ns : List Int) : SeqAt.shaped (.tuple (ns.map PyData.int)) = true := by
  simp [SeqAt.shaped, PyData.canLay0, PyData.depth, canLay_ints, depth_ints]
theorem eqv_ints : ∀ ns ms : List Int, PyData.eqvAll (ns.map PyData.int) (ms.map PyData.int) = decide (ns = ms)
  | [], [] => rfl
  | [], _ :: _ => by simp [PyData.eqvAll]
  | _ :: _, [] => by simp [PyData.eqvAll]
  | a :: r, b :: t => by
    simp only [List.map_cons, PyData.eqvAll, PyData.eqv, eqv_ints r t]
    by_cases h : a = b <;> by_cases h' : r = t <;> simp [h, h']
theorem eqvL (ns ms : List Int) : PyData.eqv (.list (ns.map PyData.int)) (.list (ms.map PyData.int)) = decide (ns = ms) := by
  simp only [PyData.eqv]
  exact eqv_ints ns ms
theorem eqvT (ns ms : List Int) : PyData.eqv (.tuple (ns.map PyData.int)) (.tuple (ms.map PyData.int)) = decide (ns = ms) := by
  simp only [PyData.eqv]
  exact eqv_ints ns ms
theorem dpL {K : PySem.W.Frag} {H : Hp} {a : Addr} {ns : List Int} (h : SqL K H a (ns.map V.int)) : Dp K H (.ref a) (.list (ns.map PyData.int)) := .lst h (dpI ns)
theorem dpT {K : PySem.W.Frag} {H : Hp} {a : Addr} {ns : List Int} (h : SqT K H a (ns.map V.int)) : Dp K H (.ref a) (.tuple (ns.map PyData.int)) := .tup h (dpI ns)
theorem flat_map (ns : List Int) (k : Nat) : (List.replicate k (ns.map V.int)).flatten = ((List.replicate k ns).flatten).map V.int := by
  induction k with
  | zero => rfl
  | succ k ih => rw [List.replicate_succ, List.replicate_succ, List.flatten_cons, List.flatten_cons, List.map_append, ih]
/-! ### repeats -/
instance isPdec (t : List Int) (q : Nat) : Decidable (isP t q) := inferInstanceAs (Decidable (_ ∧ _))
abbrev sReps : Stmt := topS 5
theorem scReps : FnScope ["turn", "size"] ["turn", "size"] (defScope sReps) := ⟨rfl, rfl, rfl, by decide +kernel, rfl, by decide +kernel, by decide +kernel⟩
def spReps (K : PySem.W.Frag) : Sp := fun vs H Q _ => ∃ (t : Addr) (ts : List Int) (q : Nat), vs = [.ref t, .int (q : Nat)] ∧ SqT K H t (ts.map V.int) ∧ 1 ≤ q ∧ q ≤ ts.length ∧ ts.length ≤ 1000 ∧ ∀ H', Same H H' → Q (.bl (decide (isP ts q))) H'
section
variable {P : Program} {w : World} {K : PySem.W.Frag} {mg : Str → Option Value} {base : Heap}
theorem ok_reps {f : Addr} {fd : FuncData} {k : Nat} (F : Fun K "repeats" "repeats" sReps f fd) (ml : mg "len" = none) : FnOk P w K mg base CX0 (k + 1) f fd ["turn", "size"] (spReps K) := by
  refine F.ok scReps (fun vs H Q E h => ?_) (fun cdv A outer s H vs Q E hr h => ?_)
  · obtain ⟨t, ts, q, rfl, _⟩ := h
    rfl
  · obtain ⟨t, ts, m, rfl, hT, h1, h2, h3, q⟩ := h
    refine ⟨_, pss_one (ps_ret (pe_and (pe_cmpR op_eq (pe_op op_mod (pe_callB call_lenQ (by rfl) ml PySem.boot_len (pa_cons (pv 0) pa_nil)) (pv 1)) pe_int (nomark _))
      (pe_one (pe_cmpR (op_eqD hr.units) (pe_op op_repS (pe_slice sl_tupS (pv 0) po_none (po_some (pv 1))) (pe_op op_fdivW (pe_callB call_lenQ (by rfl) ml PySem.boot_len (pa_cons (pv 0) pa_nil)) (pv 1))) (pv 0) (nomark _))))), ?_⟩
    refine ⟨.ref t, rfl, t, _, rfl, .inr hT, .int m, rfl, _, _, rfl, rfl, by omega, rfl, _, rfl, ite2 (fun e => ?_) (fun e => ?_)⟩
    · have e1 : (((ts.map V.int).length : Nat) : Int) % (m : Int) = 0 := V.int.inj (of_decide_eq_true e)
      rw [List.length_map] at e1
      have e2 : ts.length % m = 0 := by omega
      have hk : 1 ≤ ts.length / m := (Nat.le_div_iff_mul_le (by omega)).mpr (by omega)
      have hk2 : ts.length / m ≤ ts.length := Nat.div_le_self _ _
      refine ⟨.ref t, rfl, .int m, rfl, m, rfl, t, _, rfl, hT, fun p H1 s1 hp => ?_⟩
      rw [cutV_to, ← List.map_take] at hp
      refine ⟨.ref t, rfl, t, _, rfl, .inr (Same.tup s1 hT), .int m, rfl, _, _, rfl, rfl, wide_div (b := 200) (by omega) ?_ (by decide) (by decide), ?_⟩
      · rw [Int.natAbs_natCast]
        exact Nat.lt_of_le_of_lt (show m ≤ 1000 by omega) (by decide)
      have ek : (((ts.map V.int).length : Nat) : Int) / (m : Int) = ((ts.length / m : Nat) : Int) := by
        rw [List.length_map]
        exact (Int.natCast_ediv _ _).symm
      refine ⟨p, (((ts.map V.int).length : Nat) : Int) / (m : Int), _, rfl, rfl, hp, ?_, by rw [ek]; omega, by rw [ek]; omega, ?_, fun p2 H2 s2 hp2 => ?_⟩
      · intro z
        have := congrArg List.length z
        rw [List.length_map, List.length_take, List.length_nil] at this
        omega
      · rw [List.length_map, List.length_take]
        omega
      · rw [ek, Int.toNat_natCast, flat_map] at hp2
        refine ⟨.ref t, rfl, _, _, dpT hp2, dpT (Same.tup s2 (Same.tup s1 hT)), shT _, shT _, ?_⟩
        have ed : decide ((List.replicate (ts.length / m) (ts.take m)).flatten = ts) = decide (isP ts m) := decide_eq_decide.mpr ⟨fun z => ⟨e2, z⟩, fun z => z.2⟩
        rw [eqvT, ed]
        exact q _ (s1.trans s2)
    · have e2 : ¬ isP ts m := fun z => e (by
        rw [decide_eq_true_eq]
        have := z.1
        rw [List.length_map]
        show V.int ((ts.length : Int) % (m : Int)) = V.int 0
        rw [show (ts.length : Int) % (m : Int) = ((ts.length % m : Nat) : Int) from (Int.natCast_emod _ _).symm, this]
        rfl)
      have := q H (Same.refl H)
      rw [decide_eq_false e2] at this
      exact this
end
/-! ### shortest_round -/
abbrev sShort : Stmt := topS 4
theorem scShort : FnScope ["turn", "sizes", "size"] ["turn"] (defScope sShort) := ⟨rfl, rfl, rfl, by decide +kernel, rfl, by decide +kernel, by decide +kernel⟩
def spShort (K : PySem.W.Frag) : Sp := fun vs H Q _ => ∃ (t : Addr) (ts : List Int), vs = [.ref t] ∧ SqT K H t (ts.map V.int) ∧ ts ≠ [] ∧ ts.length ≤ 1000 ∧ ∀ H' p m, Same H H' → IsPer ts m → SqT K H' p ((ts.take m).map V.int) → Q (.ref p) H'
/-- 1 .. i, such as are good -/
def good (c : Nat → Bool) (i : Nat) : List Nat := ((List.range i).map (· + 1)).filter c
theorem good_succ (c : Nat → Bool) (i : Nat) : good c (i + 1) = good c i ++ (if c (i + 1) = true then [i + 1] else []) := by
  unfold good
  rw [List.range_succ, List.map_append, List.filter_append]
  congr 1
  simp only [List.map_cons, List.map_nil, List.filter_cons, List.filter_nil]
theorem good_len (c : Nat → Bool) (i : Nat) : (good c i).length ≤ i := by
  have h := List.length_filter_le c ((List.range i).map (· + 1))
  rw [List.length_map, List.length_range] at h
  exact h
theorem good_mem {c : Nat → Bool} {i q : Nat} : q ∈ good c i ↔ 1 ≤ q ∧ q ≤ i ∧ c q = true := by
  unfold good
  rw [List.mem_filter, List.mem_map]
  constructor
  · rintro ⟨⟨a, h, rfl⟩, h2⟩
    rw [List.mem_range] at h
    exact ⟨by omega, by omega, h2⟩
  · rintro ⟨h1, h2, h3⟩
    exact ⟨⟨q - 1, by rw [List.mem_range]; omega, by omega⟩, h3⟩
theorem isP_self {t : List Int} (h : t ≠ []) : isP t t.length := by
  have : 0 < t.length := List.length_pos_iff.mpr h
  refine ⟨Nat.mod_self _, ?_⟩
  rw [Nat.div_self this, List.take_length]
  simp
def nI (ns : List Nat) : List Int := ns.map fun (n : Nat) => (n : Int)
section
variable {P : Program} {w : World} {K : PySem.W.Frag} {mg : Str → Option Value} {base : Heap}
theorem ok_short {f fR : Addr} {fd fdR : FuncData} {k : Nat} (F : Fun K "shortest_round" "shortest_round" sShort f fd) (ml : mg "len" = none) (mr : mg "range" = none) (mm : mg "min" = none)
    (FR : Fun K "repeats" "repeats" sReps fR fdR) (bR : Binds K fdR ["turn", "size"] []) (gR : mg "repeats" = some (.ref fR)) : FnOk P w K mg base CX0 (k + 2) f fd ["turn"] (spShort K) := by
  have GR : FnOk P w K mg base CX0 (k + 1) fR fdR ["turn", "size"] (spReps K) := ok_reps FR ml
  refine F.ok scShort (fun vs H Q E h => ?_) (fun cdv A outer s H vs Q E hr h => ?_)
  · obtain ⟨t, ts, rfl, _⟩ := h
    rfl
  · obtain ⟨t, ts, rfl, hT, hne, h3, q⟩ := h
    refine ⟨_, pss_cons (ps_setLc (i := 1) (own := [("size", 2)]) (g := gName 2) rfl scShort.nd rfl rfl (sw_true rfl rfl rfl (by decide +kernel)) (pi_range2 (by rfl) mr (pa_cons pe_int (pa_cons (pe_op op_add (pe_callB call_lenQ (by rfl) ml PySem.boot_len (pa_cons (pv 0) pa_nil)) pe_int) pa_nil)))
        (blkOk_by (own := [("size", 2)]) (N := ["turn", "sizes", "size"]) (sc := defScope sShort) (by decide +kernel)) (fun _ _ _ _ _ => pg_name (i := 2) scShort.nd rfl (Or.inl rfl))
        (fun _ _ _ _ _ => pts_one (pt_val (pe_call GR hr (by rfl) gR FR.kp bR .nil pass0 (pa_cons (pv 0) (pa_cons (pv 2) pa_nil)))))
        (fun _ _ _ _ _ => pv 2))
      (pss_one (ps_ret (pe_slice sl_tupS (pv 0) po_none (po_some (pe_callB (cr_min rfl) (by rfl) mm (by decide +kernel) (pa_cons (pv 1) pa_nil)))))), ?_⟩
    have hlen : 0 < ts.length := List.length_pos_iff.mpr hne
    refine ⟨.ref t, rfl, t, _, rfl, .inr hT, _, _, rfl, rfl, 1, _, rfl, ⟨by decide, by decide, by omega, by rw [List.length_map]; omega⟩, fun D nD => ?_⟩
    have en : ((((ts.map V.int).length : Nat) : Int) + 1 - 1).toNat = ts.length := by rw [List.length_map]; omega
    rw [en]
    refine lc_range (lo := 1) (n := ts.length) (fun i H' => Same H H' ∧ H' D = some (.lst ((nI (good (fun q => decide (isP ts q)) i)).map V.int))) ⟨same_upd nD, upd_same⟩ (fun i H' hi hP => ?_) (fun H' hP => ?_)
    · obtain ⟨sm, hD⟩ := hP
      have e1 : (1 : Int) + (i : Int) = ((i + 1 : Nat) : Int) := by omega
      refine ⟨rfl, ?_⟩
      rw [e1]
      refine ⟨.ref t, rfl, _, rfl, t, ts, i + 1, rfl, Same.tup sm hT, by omega, by omega, h3, fun H2 s2 => ⟨_, rfl, ite2 (fun e => ?_) (fun e => ?_)⟩⟩
      · refine ⟨_, rfl, _, s2 _ _ hD, ?_, Same.offUpd (sm.trans s2) nD, ?_⟩
        · have := good_len (fun q => decide (isP ts q)) i
          unfold nI
          rw [List.length_map, List.length_map]
          exact small1000 (by omega)
        · rw [upd_same, good_succ, if_pos e]
          unfold nI
          rw [List.map_append, List.map_append]
          rfl
      · refine ⟨sm.trans s2, ?_⟩
        rw [good_succ, if_neg e, List.append_nil]
        exact s2 _ _ hD
    · obtain ⟨sm, hD⟩ := hP
      refine ⟨.ref t, rfl, .ref D, rfl, D, _, rfl, .inl (.inl hD), ?_, fun m hm hle => ?_⟩
      · have : ts.length ∈ good (fun q => decide (isP ts q)) ts.length := good_mem.mpr ⟨hlen, Nat.le_refl _, decide_eq_true (isP_self hne)⟩
        unfold nI
        rw [List.length_map]
        exact List.length_pos_of_mem this
      · obtain ⟨n, hn, rfl⟩ := List.mem_map.mp hm
        obtain ⟨n1, n2, n3⟩ := good_mem.mp hn
        have hper : IsPer ts n := ⟨n1, n2, of_decide_eq_true n3, fun q q1 q2 q3 => by
          have := hle (q : Int) (List.mem_map.mpr ⟨q, good_mem.mpr ⟨q1, q2, decide_eq_true q3⟩, rfl⟩)
          omega⟩
        refine ⟨(n : Int), rfl, t, _, rfl, Same.tup sm hT, fun p H2 s2 hp => ?_⟩
        rw [cutV_to, ← List.map_take] at hp
        exact q _ _ n (sm.trans s2) hper hp
end
/-! ### spare_notes -/
abbrev sSpare : Stmt := topS 6
theorem scSpare : FnScope ["lead", "turn", "spare"] ["lead", "turn"] (defScope sSpare) := ⟨rfl, rfl, rfl, by decide +kernel, rfl, by decide +kernel, by decide +kernel⟩
def spSpare (K : PySem.W.Frag) : Sp := fun vs H Q _ => ∃ (l t : Addr) (xs us : List Int), vs = [.ref l, .ref t] ∧ (SqL K H l (xs.map V.int) ∨ SqT K H l (xs.map V.int)) ∧ SqT K H t (us.map V.int) ∧ us ≠ [] ∧ ∀ n, IsSpare xs us n → Q (.int (n : Nat)) H
theorem atI_neg {α : Type} {xs : List α} {j : Nat} {v : α} (h : j < xs.length) (e : xs[xs.length - 1 - j]? = some v) : atI xs (-1 - (j : Int)) = some v := by
  unfold atI ixN
  rw [if_neg (by omega), if_pos (by omega)]
  show xs[(-1 - (j : Int) + (xs.length : Int)).toNat]? = some v
  rw [show (-1 - (j : Int) + (xs.length : Int)).toNat = xs.length - 1 - j by omega]
  exact e
section
variable {P : Program} {w : World} {K : PySem.W.Frag} {mg : Str → Option Value} {base : Heap}
theorem ok_spare {f : Addr} {fd : FuncData} {k : Nat} (F : Fun K "spare_notes" "spare_notes" sSpare f fd) (ml : mg "len" = none) : FnOk P w K mg base CX0 (k + 1) f fd ["lead", "turn"] (spSpare K) := by
  refine F.ok scSpare (fun vs H Q E h => ?_) (fun cdv A outer s H vs Q E hr h => ?_)
  · obtain ⟨l, t, xs, us, rfl, _⟩ := h
    rfl
  · obtain ⟨l, t, xs, us, rfl, hL, hT, hne, q⟩ := h
    refine ⟨_, pss_cons (ps_set (i := 2) scSpare.nd rfl (.inl rfl) pe_int)
      (pss_cons (ps_while PassesOwn.never (PW.pt (pw_and (pt_cmpR op_lt (pv 2) (pe_callB call_lenQ (by rfl) ml PySem.boot_len (pa_cons (pv 0) pa_nil)) (nomark _))
          (pw_and1 (pt_cmpR op_eq (pe_ix ix_seq (pv 0) (pe_op op_sub (pe_un un_neg pe_int) (pv 2)) (fun _ _ => rfl)) (pe_ix ix_tup (pv 1) (pe_op op_mod (pe_op op_sub (pe_un un_neg pe_int) (pv 2)) (pe_callB call_lenQ (by rfl) ml PySem.boot_len (pa_cons (pv 1) pa_nil))) (fun _ _ => rfl)) (nomark _)))))
        (pss_one (ps_aug (i := 2) scSpare.nd rfl (.inl rfl) pe_int ip_add)))
      (pss_one (ps_ret (pv 2)))), ?_⟩
    have hlu : 0 < us.length := List.length_pos_iff.mpr hne
    refine ⟨fun m σ H' => ∃ n : Nat, σ = [some (.ref l), some (.ref t), some (.int (n : Nat))] ∧ H = H' ∧ Tail xs us n ∧ m = xs.length - n, ⟨xs.length, 0, rfl, rfl, ⟨Nat.zero_le _, fun j hj => by omega⟩, by omega⟩, ?_⟩
    rintro m σ H' ⟨n, rfl, rfl, hTl, rfl⟩
    refine ⟨.int n, rfl, .ref l, rfl, l, _, rfl, hL, _, _, rfl, rfl, _, rfl, ite2 (fun e => ?_) (fun e => ?_)⟩
    · have h1 := of_decide_eq_true e
      rw [List.length_map] at h1
      have hn : n < xs.length := by omega
      have hx : xs.length - 1 - n < xs.length := by omega
      have g1 : (xs.map V.int)[(xs.map V.int).length - 1 - n]? = some (.int xs[xs.length - 1 - n]) := by
        rw [List.length_map, List.getElem?_map, List.getElem?_eq_getElem hx]
        rfl
      have g2 : atI (us.map V.int) ((-1 - (n : Int)) % (((us.map V.int).length : Nat) : Int)) = some (.int (cyc us (-1 - (n : Int)))) := by
        have a1 := cyc_get hlu (-1 - (n : Int))
        have a2 := Int.toNat_of_nonneg (Int.emod_nonneg (-1 - (n : Int)) (b := (us.length : Int)) (by omega))
        rw [List.length_map, ← a2]
        refine atI_nat ?_
        rw [List.getElem?_map, a1]
        rfl
      have g3 := atI_neg (xs := xs.map V.int) (j := n) (by rw [List.length_map]; exact hn) g1
      have hread : ∀ Q : VK, Q (.int xs[xs.length - 1 - n]) H → rIx K (.ref l) (.int (-1 - (n : Int))) H Q := fun Q z => by
        rcases hL with hL | hL
        · exact .inl ⟨l, _, _, _, rfl, rfl, hL, g3, z⟩
        · exact .inr (.inl ⟨l, _, _, _, rfl, rfl, hL, g3, z⟩)
      refine ⟨.ref l, rfl, 1, rfl, .int n, rfl, _, _, rfl, rfl, hread _ ?_⟩
      refine ⟨.ref t, rfl, 1, rfl, .int n, rfl, _, _, rfl, rfl, .ref t, rfl, t, _, rfl, .inr hT, _, _, rfl, rfl, ?_, t, _, _, _, rfl, rfl, hT, g2, rfl, _, rfl, ite2 (fun e2 => ?_) (fun e2 => ?_)⟩
      · show (0 : Int) < (((us.map V.int).length : Nat) : Int)
        rw [List.length_map]
        omega
      · have ev : xs[xs.length - 1 - n] = cyc us (-1 - (n : Int)) := V.int.inj (of_decide_eq_true e2)
        refine ⟨fun σ' H' => σ' = [some (.ref l), some (.ref t), some (.int ((n + 1 : Nat) : Int))] ∧ H = H', ?_, .int n, rfl, _, _, rfl, rfl, rfl, rfl⟩
        rintro σ' H' ⟨rfl, rfl⟩
        refine ⟨xs.length - (n + 1), by omega, n + 1, rfl, rfl, ⟨by omega, fun j hj => ?_⟩, rfl⟩
        by_cases hj2 : j < n
        · exact hTl.2 j hj2
        · obtain rfl : j = n := by omega
          rw [List.getElem?_eq_getElem hx, ev]
      · refine ⟨.int n, rfl, q n ⟨hTl, fun _ z => e2 ?_⟩⟩
        rw [List.getElem?_eq_getElem hx] at z
        rw [Option.some.inj z]
        exact decide_eq_true rfl
    · refine ⟨.int n, rfl, q n ⟨hTl, fun z => absurd ?_ e⟩⟩
      rw [List.length_map]
      exact decide_eq_true (by omega)
end
/-! ### least_row -/
def RowAt (K : PySem.W.Frag) (H : Hp) (p : Addr) (c d : List Int) : Prop := ∃ a b, SqT K H p [.ref a, .ref b] ∧ SqT K H a (c.map V.int) ∧ SqT K H b (d.map V.int)
theorem RowAt.same {K : PySem.W.Frag} {H H' : Hp} {p : Addr} {c d : List Int} (h : RowAt K H p c d) (e : Same H H') : RowAt K H' p c d := by
  obtain ⟨a, b, h1, h2, h3⟩ := h
  exact ⟨a, b, Same.tup e h1, Same.tup e h2, Same.tup e h3⟩
abbrev sLR : Stmt := topS 3
theorem scLR : FnScope ["lead", "turn", "least", "spare", "start"] ["lead", "turn"] (defScope sLR) := ⟨rfl, rfl, rfl, by decide +kernel, rfl, by decide +kernel, by decide +kernel⟩
def spLR (K : PySem.W.Frag) : Sp := fun vs H Q _ => ∃ (l t : Addr) (xs ts : List Int), vs = [.ref l, .ref t] ∧ (SqL K H l (xs.map V.int) ∨ SqT K H l (xs.map V.int)) ∧ (SqL K H t (ts.map V.int) ∨ SqT K H t (ts.map V.int)) ∧ xs.length ≤ 1000 ∧ ts.length ≤ 1000 ∧
  ∀ H' p c d, Same H H' → LR xs ts c d → RowAt K H' p c d → Q (.ref p) H'
section
variable {P : Program} {w : World} {K : PySem.W.Frag} {mg : Str → Option Value} {base : Heap}
theorem same_any {H H' : Hp} {a : Addr} {xs : List V} (e : Same H H') (h : SqL K H a xs ∨ SqT K H a xs) : SqL K H' a xs ∨ SqT K H' a xs := by
  rcases h with h | h
  · exact .inl (e.seq h)
  · exact .inr (Same.tup e h)
theorem ok_LR {f fS fP : Addr} {fd fdS fdP : FuncData} {k : Nat} (F : Fun K "least_row" "least_row" sLR f fd) (ml : mg "len" = none) (mt : mg "tuple" = none)
    (FS : Fun K "shortest_round" "shortest_round" sShort fS fdS) (bS : Binds K fdS ["turn"] []) (gS : mg "shortest_round" = some (.ref fS))
    (FP : Fun K "spare_notes" "spare_notes" sSpare fP fdP) (bP : Binds K fdP ["lead", "turn"] []) (gP : mg "spare_notes" = some (.ref fP))
    (GS : FnOk P w K mg base CX0 (k + 2) fS fdS ["turn"] (spShort K)) : FnOk P w K mg base CX0 (k + 3) f fd ["lead", "turn"] (spLR K) := by
  have GP : FnOk P w K mg base CX0 (k + 2) fP fdP ["lead", "turn"] (spSpare K) := ok_spare FP ml
  refine F.ok scLR (fun vs H Q E h => ?_) (fun cdv A outer s H vs Q E hr h => ?_)
  · obtain ⟨l, t, xs, ts, rfl, _⟩ := h
    rfl
  · obtain ⟨l, t, xs, ts, rfl, hL, hT, h1, h2, q⟩ := h
    refine ⟨_, pss_cons (ps_if (pt_cmpR op_eq (pe_callB call_lenQ (by rfl) ml PySem.boot_len (pa_cons (pv 1) pa_nil)) pe_int (nomark _))
        (pss_one (ps_ret (pe_tup (pa_cons (pe_callTy call_tupS (by rfl) mt (by decide +kernel) (pa_cons (pv 0) pa_nil)) (pa_cons (pe_tup pa_nil) pa_nil))))) pss_nil)
      (pss_cons (ps_set (i := 2) scLR.nd rfl (.inl rfl) (pe_call GS hr (by rfl) gS FS.kp bS .nil pass0 (pa_cons (pe_callTy call_tupS (by rfl) mt (by decide +kernel) (pa_cons (pv 1) pa_nil)) pa_nil)))
      (pss_cons (ps_set (i := 3) scLR.nd rfl (.inl rfl) (pe_call GP hr (by rfl) gP FP.kp bP .nil pass0 (pa_cons (pv 0) (pa_cons (pv 2) pa_nil))))
      (pss_cons (ps_set (i := 4) scLR.nd rfl (.inl rfl) (pe_op op_mod (pe_un un_neg (pv 3)) (pe_callB call_lenQ (by rfl) ml PySem.boot_len (pa_cons (pv 2) pa_nil))))
      (pss_one (ps_ret (pe_tup (pa_cons (pe_callTy call_tupS (by rfl) mt (by decide +kernel) (pa_cons (pe_slice sl_seqS (pv 0) po_none (po_some (pe_op op_sub (pe_callB call_lenQ (by rfl) ml PySem.boot_len (pa_cons (pv 0) pa_nil)) (pv 3)))) pa_nil))
        (pa_cons (pe_op op_catS (pe_slice sl_tupS (pv 2) (po_some (pv 4)) po_none) (pe_slice sl_tupS (pv 2) po_none (po_some (pv 4)))) pa_nil)))))))), ?_⟩
    refine ⟨.ref t, rfl, t, _, rfl, hT, rfl, _, rfl, ite2 (fun e => ?_) (fun e => ?_)⟩
    · have e1 : (((ts.map V.int).length : Nat) : Int) = 0 := V.int.inj (of_decide_eq_true e)
      rw [List.length_map] at e1
      have e2 : ts = [] := List.eq_nil_of_length_eq_zero (by omega)
      subst e2
      refine ⟨.ref l, rfl, l, _, rfl, hL, fun a H1 s1 ha => ?_⟩
      refine ⟨Nat.zero_le _, fun b nb => ?_⟩
      refine ⟨(show (2 : Nat) ≤ sizeLine by decide), fun p np => ?_⟩
      have s2 := same_upd (o := .tup []) nb
      have s3 := same_upd (o := .tup [.ref a, .ref b]) np
      exact q _ p xs [] ((s1.trans s2).trans s3) (.inl ⟨rfl, rfl, rfl⟩) ⟨a, b, SqT.of upd_same, Same.tup (s2.trans s3) ha, Same.tup s3 (SqT.of upd_same)⟩
    · have hne : ts ≠ [] := fun z => e (by rw [z]; rfl)
      refine ⟨.ref t, rfl, t, _, rfl, hT, fun t2 H1 s1 ht2 => ?_⟩
      refine ⟨t2, ts, rfl, ht2, hne, h2, fun H2 p2 m s2 hper hp2 => ?_⟩
      have hp := hper.pos
      have hle := hper.le
      have hw : (ts.take m).length = m := by rw [List.length_take]; omega
      have hwne : ts.take m ≠ [] := fun z => by rw [z] at hw; simp at hw; omega
      refine ⟨.ref l, rfl, .ref p2, rfl, l, p2, xs, ts.take m, rfl, same_any (s1.trans s2) hL, hp2, hwne, fun n hsp => ?_⟩
      have hn := hsp.tail.1
      refine ⟨.int n, rfl, _, rfl, .ref p2, rfl, p2, _, rfl, .inr hp2, _, _, rfl, rfl, ?_, ?_⟩
      · show (0 : Int) < ((((ts.take m).map V.int).length : Nat) : Int)
        rw [List.length_map]
        omega
      obtain ⟨st, est⟩ : ∃ st : Nat, (-(n : Int)) % ((((ts.take m).map V.int).length : Nat) : Int) = (st : Int) ∧ st = ((-(n : Int)) % ((ts.take m).length : Int)).toNat := ⟨_, by rw [List.length_map]; exact (Int.toNat_of_nonneg (Int.emod_nonneg _ (by omega))).symm, rfl⟩
      have el : (((xs.map V.int).length : Nat) : Int) - (n : Int) = ((xs.length - n : Nat) : Int) := by rw [List.length_map]; omega
      refine ⟨.ref l, rfl, .ref l, rfl, l, _, rfl, same_any (s1.trans s2) hL, .int n, rfl, _, _, rfl, rfl, _, rfl, l, _, rfl, same_any (s1.trans s2) hL, fun c1 H3 s3 hc1 => ?_⟩
      rw [el, cutV_to, ← List.map_take] at hc1
      refine ⟨c1, _, rfl, hc1, fun c2 H4 s4 hc2 => ?_⟩
      refine ⟨.ref p2, rfl, _, rfl, _, rfl, p2, _, rfl, Same.tup (s3.trans s4) hp2, fun d1 H5 s5 hd1 => ?_⟩
      refine ⟨.ref p2, rfl, _, rfl, _, rfl, p2, _, rfl, Same.tup ((s3.trans s4).trans s5) hp2, fun d2 H6 s6 hd2 => ?_⟩
      rw [est.1, cutV_from, ← List.map_drop] at hd1
      rw [est.1, cutV_to, ← List.map_take] at hd2
      refine ⟨d1, d2, _, _, rfl, rfl, Same.tup s6 hd1, hd2, ?_, fun d3 H7 s7 hd3 => ?_⟩
      · simp only [List.length_map, List.length_drop, List.length_take]
        exact Nat.le_of_lt (small1000 (by omega))
      · rw [← List.map_append, est.2, rot_cut (by omega)] at hd3
        refine ⟨(show (2 : Nat) ≤ sizeLine by decide), fun p np => ?_⟩
        have s8 := same_upd (o := .tup [.ref c2, .ref d3]) np
        exact q _ p _ _ (((((((s1.trans s2).trans s3).trans s4).trans s5).trans s6).trans s7).trans s8) (.inr ⟨hne, m, n, hper, hsp, rfl, rfl⟩) ⟨c2, d3, SqT.of upd_same, Same.tup (((s5.trans s6).trans s7).trans s8) hc2, Same.tup s8 hd3⟩
end
/-! ### _law_seen -/
def seenV (xs ts : List Int) (z : Int) : V := if 0 ≤ z ∧ z < (xs.length : Int) then .int (xs.getD z.toNat 0) else if z < 0 ∨ ts = [] then .non else .int (cyc ts (z - xs.length))
theorem seenV_of {xs ts : List Int} {d : Nat} {v : Int} (h : seenO xs ts d = some v) : seenV xs ts (d : Int) = .int v := by
  unfold seenO at h
  unfold seenV
  by_cases hd : d < xs.length
  · rw [if_pos hd] at h
    rw [if_pos ⟨by omega, by omega⟩, Int.toNat_natCast, List.getD_eq_getElem?_getD, h]
    rfl
  · rw [if_neg hd] at h
    by_cases ht : ts = []
    · rw [if_pos ht] at h
      cases h
    · rw [if_neg ht] at h
      rw [if_neg (by omega), if_neg (by intro z; rcases z with z | z; exact absurd z (by omega); exact ht z), Option.some.inj h]
abbrev sSeen : Stmt := topS 12
theorem scSeen : FnScope ["_law_row", "_law_depth", "_law_lead", "_law_turn"] ["_law_row", "_law_depth"] (defScope sSeen) := ⟨rfl, rfl, rfl, by decide +kernel, rfl, by decide +kernel, by decide +kernel⟩
def spSeen (K : PySem.W.Frag) : Sp := fun vs H Q _ => ∃ (r la ta : Addr) (xs ts : List Int) (z : Int), vs = [.ref r, .int z] ∧ SqT K H r [.ref la, .ref ta] ∧ SqL K H la (xs.map V.int) ∧ SqL K H ta (ts.map V.int) ∧ ∀ H', Same H H' → Q (seenV xs ts z) H'
section
variable {P : Program} {w : World} {K : PySem.W.Frag} {mg : Str → Option Value} {base : Heap}
theorem ok_seen {f : Addr} {fd : FuncData} {k : Nat} (F : Fun K "_law_seen" "_law_seen" sSeen f fd) (ml : mg "len" = none) : FnOk P w K mg base CX0 (k + 1) f fd ["_law_row", "_law_depth"] (spSeen K) := by
  refine F.ok scSeen (fun vs H Q E h => ?_) (fun cdv A outer s H vs Q E hr h => ?_)
  · obtain ⟨r, la, ta, xs, ts, z, rfl, _⟩ := h
    rfl
  · obtain ⟨r, la, ta, xs, ts, z, rfl, hR, hL, hT, q⟩ := h
    refine ⟨_, pss_cons (ps_asg (pv 0) (pg_tup rfl (pgs_cons (pg_name (i := 2) scSeen.nd rfl (.inl rfl)) (pgs_cons (pg_name (i := 3) scSeen.nd rfl (.inl rfl)) pgs_nil))))
      (pss_cons (ps_if (pt_chain op_le op_lt pe_int (pv 1) (pe_callB call_lenQ (by rfl) ml PySem.boot_len (pa_cons (pv 2) pa_nil))) (pss_one (ps_ret (pe_ix ix_list (pv 2) (pv 1) (fun _ _ => rfl)))) pss_nil)
      (pss_cons (ps_if (PW.pt (pw_or (pt_cmpR op_lt (pv 1) pe_int (nomark _)) (pw_or1 (pt_cmpR (op_eqD hr.units) (pv 3) (pe_lst pa_nil) (nomark _))))) (pss_one (ps_ret pe_non)) pss_nil)
      (pss_one (ps_ret (pe_ix ix_list (pv 3) (pe_op op_mod (pe_op op_sub (pv 1) (pe_callB call_lenQ (by rfl) ml PySem.boot_len (pa_cons (pv 2) pa_nil))) (pe_callB call_lenQ (by rfl) ml PySem.boot_len (pa_cons (pv 3) pa_nil))) (fun _ _ => rfl)))))), ?_⟩
    refine ⟨.ref r, rfl, r, _, rfl, hR, rfl, .ref la, _, rfl, .ref ta, _, rfl, rfl, ?_⟩
    refine ⟨.int z, rfl, 0, z, rfl, rfl, _, rfl, ite2 (fun e1 => ?_) (fun e1 => ?_)⟩
    · refine ⟨.ref la, rfl, la, _, rfl, .inl hL, z, _, rfl, rfl, _, rfl, ite2 (fun e2 => ?_) (fun e2 => ?_)⟩
      · have a1 : 0 ≤ z := of_decide_eq_true e1
        have a2 := of_decide_eq_true e2
        rw [List.length_map] at a2
        obtain ⟨n, rfl⟩ := Int.eq_ofNat_of_zero_le a1
        have hn : n < xs.length := by omega
        refine ⟨.ref la, rfl, .int n, rfl, la, _, _, .int xs[n], rfl, rfl, hL, atI_nat (by rw [List.getElem?_map, List.getElem?_eq_getElem hn]; rfl), ?_⟩
        have := q H (Same.refl H)
        unfold seenV at this
        rw [if_pos ⟨by omega, by omega⟩, Int.toNat_natCast, List.getD_eq_getElem?_getD, List.getElem?_eq_getElem hn] at this
        exact this
      · have a1 : 0 ≤ z := of_decide_eq_true e1
        have a2 : ¬ z < (((xs.map V.int).length : Nat) : Int) := fun h => e2 (decide_eq_true h)
        rw [List.length_map] at a2
        refine ⟨.int z, rfl, _, _, rfl, rfl, _, rfl, ite2 (fun e3 => absurd (of_decide_eq_true e3) (show ¬ z < 0 by omega)) (fun e3 => ?_)⟩
        refine ⟨.ref ta, rfl, Nat.zero_le _, fun p np => ?_⟩
        have s1 := same_upd (o := .lst []) np
        refine ⟨_, _, dpL (s1.seq hT), dpL (ns := []) (SqL.of upd_same), shL _, shL _, ?_⟩
        rw [eqvL]
        refine ⟨_, rfl, ite2 (fun e4 => ?_) (fun e4 => ?_)⟩
        · have ht : ts = [] := of_decide_eq_true e4
          have := q _ s1
          unfold seenV at this
          rw [if_neg (by omega), if_pos (.inr ht)] at this
          exact this
        · have ht : ts ≠ [] := fun h => e4 (decide_eq_true h)
          have hl : 0 < ts.length := List.length_pos_iff.mpr ht
          refine ⟨.ref ta, rfl, .int z, rfl, .ref la, rfl, la, _, rfl, .inl (s1.seq hL), _, _, rfl, rfl, .ref ta, rfl, ta, _, rfl, .inl (s1.seq hT), _, _, rfl, rfl, ?_, ta, _, _, .int (cyc ts (z - xs.length)), rfl, rfl, s1.seq hT, ?_, ?_⟩
          · show (0 : Int) < (((ts.map V.int).length : Nat) : Int)
            rw [List.length_map]
            omega
          · have a3 := cyc_get hl (z - xs.length)
            have a4 := Int.toNat_of_nonneg (Int.emod_nonneg (z - xs.length) (b := (ts.length : Int)) (by omega))
            show atI (ts.map V.int) ((z - (((xs.map V.int).length : Nat) : Int)) % (((ts.map V.int).length : Nat) : Int)) = _
            rw [List.length_map, List.length_map, ← a4]
            refine atI_nat ?_
            rw [List.getElem?_map, a3]
            rfl
          · have := q _ s1
            unfold seenV at this
            rw [if_neg (by omega), if_neg (by intro y; rcases y with y | y; exact absurd y (by omega); exact ht y)] at this
            exact this
    · have a1 : ¬ 0 ≤ z := fun h => e1 (decide_eq_true h)
      refine ⟨_, rfl, iteF ?_⟩
      refine ⟨.int z, rfl, _, _, rfl, rfl, _, rfl, ite2 (fun e3 => ?_) (fun e3 => absurd (decide_eq_true (show z < 0 by omega)) e3)⟩
      refine iteT ?_
      have := q H (Same.refl H)
      unfold seenV at this
      rw [if_neg (by omega), if_pos (.inl (by omega))] at this
      exact this
end
/-! ### _law_least -/
abbrev sLst : Stmt := topS 13
abbrev nLst : List Str := ["_law_row", "_law_lead", "_law_turn", "_law_sizes", "_law_period", "_law_begin", "_law_size", "_law_k"]
theorem scLst : FnScope nLst ["_law_row"] (defScope sLst) := ⟨rfl, rfl, rfl, by decide +kernel, rfl, by decide +kernel, by decide +kernel⟩
def spLst (K : PySem.W.Frag) : Sp := fun vs H Q _ => ∃ (r la ta : Addr) (xs ts : List Int), vs = [.ref r] ∧ SqT K H r [.ref la, .ref ta] ∧ SqL K H la (xs.map V.int) ∧ SqL K H ta (ts.map V.int) ∧ xs.length ≤ 1000 ∧ ts.length ≤ 1000 ∧
  ∀ H' p c d, Same H H' → LR xs ts c d → RowAt K H' p c d → Q (.ref p) H'
/-- the first of those that are good is the least -/
theorem first_per {ts : List Int} {sz : List Nat} {p : Nat} {r : List Nat} (h : sz = good (fun q => decide (ts.length % q = 0)) ts.length) (e : sz.filter (fun q => decide ((List.replicate (ts.length / q) (ts.take q)).flatten = ts)) = p :: r) : IsPer ts p := by
  have mem : ∀ q, q ∈ p :: r ↔ 1 ≤ q ∧ q ≤ ts.length ∧ isP ts q := fun q => by
    rw [← e, List.mem_filter, h, good_mem]
    unfold isP
    simp only [decide_eq_true_eq]
    constructor
    · rintro ⟨⟨a, b, c⟩, d⟩
      exact ⟨a, b, c, d⟩
    · rintro ⟨a, b, c, d⟩
      exact ⟨⟨a, b, c⟩, d⟩
  have srt : (p :: r).Pairwise (· < ·) := by
    rw [← e, h]
    unfold good
    refine List.Pairwise.filter _ (List.Pairwise.filter _ ?_)
    rw [List.pairwise_map]
    exact List.pairwise_lt_range.imp (fun h => by omega)
  obtain ⟨a, b, c⟩ := (mem p).mp List.mem_cons_self
  refine ⟨a, b, c, fun q q1 q2 q3 => ?_⟩
  rcases List.mem_cons.mp ((mem q).mpr ⟨q1, q2, q3⟩) with rfl | h2
  · exact Nat.le_refl _
  · exact Nat.le_of_lt (List.rel_of_pairwise_cons srt h2)
section
variable {P : Program} {w : World} {K : PySem.W.Frag} {mg : Str → Option Value} {base : Heap}
theorem ok_lst {f fS : Addr} {fd fdS : FuncData} {k : Nat} (F : Fun K "_law_least" "_law_least" sLst f fd) (ml : mg "len" = none) (mt : mg "tuple" = none) (mr : mg "range" = none)
    (FS : Fun K "_law_seen" "_law_seen" sSeen fS fdS) (bS : Binds K fdS ["_law_row", "_law_depth"] []) (gS : mg "_law_seen" = some (.ref fS)) : FnOk P w K mg base CX0 (k + 2) f fd ["_law_row"] (spLst K) := by
  have GS : FnOk P w K mg base CX0 (k + 1) fS fdS ["_law_row", "_law_depth"] (spSeen K) := ok_seen FS ml
  refine F.ok scLst (fun vs H Q E h => ?_) (fun cdv A outer s H vs Q E hr h => ?_)
  · obtain ⟨r, la, ta, xs, ts, rfl, _⟩ := h
    rfl
  · obtain ⟨r, la, ta, xs, ts, rfl, hR, hL, hT, h1, h2, q⟩ := h
    refine ⟨_, pss_cons (ps_asg (pv 0) (pg_tup rfl (pgs_cons (pg_name (i := 1) scLst.nd rfl (.inl rfl)) (pgs_cons (pg_name (i := 2) scLst.nd rfl (.inr rfl)) pgs_nil))))
      (pss_cons (ps_if (pt_cmpR (op_eqD hr.units) (pv 2) (pe_lst pa_nil) (nomark _)) (pss_one (ps_ret (pe_tup (pa_cons (pe_callTy call_tupS (by rfl) mt (by decide +kernel) (pa_cons (pv 1) pa_nil)) (pa_cons (pe_tup pa_nil) pa_nil))))) pss_nil)
      (pss_cons (ps_setLc (i := 3) (own := [("_law_size", 6)]) (g := gName 6) rfl scLst.nd rfl rfl (sw_true rfl rfl rfl (by decide +kernel)) (pi_range2 (by rfl) mr (pa_cons pe_int (pa_cons (pe_op op_add (pe_callB call_lenQ (by rfl) ml PySem.boot_len (pa_cons (pv 2) pa_nil)) pe_int) pa_nil)))
        (blkOk_by (own := [("_law_size", 6)]) (N := nLst) (sc := defScope sLst) (by decide +kernel)) (fun _ _ _ _ _ => pg_name (i := 6) scLst.nd rfl (Or.inl rfl))
        (fun _ _ _ _ _ => pts_one (pt_cmpR op_eq (pe_op op_mod (pe_callB (r := rLenQ K) call_lenQ (by rfl) ml PySem.boot_len (pa_cons (pv 2) pa_nil)) (pv 6)) pe_int (nomark _)))
        (fun _ _ _ _ _ => pv 6))
      (pss_cons (ps_set (i := 4) scLst.nd rfl (.inl rfl) (pe_ix ix_list (pe_lc (own := [("_law_size", 6)]) (g := gName 6) rfl scLst.nd (pi_list (pv 3))
        (blkOk_by (own := [("_law_size", 6)]) (N := nLst) (sc := defScope sLst) (by decide +kernel)) (fun _ _ _ _ _ => pg_name (i := 6) scLst.nd rfl (Or.inl rfl))
        (fun _ _ _ _ _ => pts_one (pt_cmpR (r := rEqD K) (op_eqD hr.units) (pe_op op_rep (pe_slice (r := rSlL K) sl_list (pv 2) po_none (po_some (pv 6))) (pe_op op_fdivW (pe_callB (r := rLenQ K) call_lenQ (by rfl) ml PySem.boot_len (pa_cons (pv 2) pa_nil)) (pv 6))) (pv 2) (nomark _)))
        (fun _ _ _ _ _ => pv 6)) pe_int (fun _ _ => rfl)))
      (pss_cons (ps_set (i := 5) scLst.nd rfl (.inr rfl) (pe_callB call_lenQ (by rfl) ml PySem.boot_len (pa_cons (pv 1) pa_nil)))
      (pss_cons (ps_while PassesOwn.never (PW.pt (pw_and (pt_cmpR op_gt (pv 5) pe_int (nomark _)) (pw_and1 (pt_cmpR op_eq (pe_ix ix_list (pv 1) (pe_op op_sub (pv 5) pe_int) (fun _ _ => rfl)) (pe_call GS hr (by rfl) gS FS.kp bS .nil pass0 (pa_cons (pv 0) (pa_cons (pe_op op_add (pe_op op_sub (pv 5) pe_int) (pv 4)) pa_nil))) (nomark _)))))
        (pss_one (ps_set (i := 5) scLst.nd rfl (.inr rfl) (pe_op op_sub (pv 5) pe_int))))
      (pss_one (ps_ret (pe_tup (pa_cons (pe_callTy call_tupS (by rfl) mt (by decide +kernel) (pa_cons (pe_slice sl_list (pv 1) po_none (po_some (pv 5))) pa_nil))
        (pa_cons (pe_callTy call_tupS (by rfl) mt (by decide +kernel) (pa_cons (pe_lc (own := [("_law_k", 7)]) (g := gName 7) (tt := tYes) rfl scLst.nd (pi_range1 (by rfl) mr (pa_cons (pv 4) pa_nil))
          (blkOk_by (own := [("_law_k", 7)]) (N := nLst) (sc := defScope sLst) (by decide +kernel)) (fun _ _ _ _ _ => pg_name (i := 7) scLst.nd rfl (Or.inl rfl)) (fun _ _ _ _ _ => pts_nil)
          (fun _ _ _ _ _ => pe_call GS hr (by rfl) gS FS.kp bS .nil pass0 (pa_cons (pv 0) (pa_cons (pe_op op_add (pv 5) (pv 7)) pa_nil)))) pa_nil)) pa_nil)))))))))), ?_⟩
    refine ⟨.ref r, rfl, r, _, rfl, hR, rfl, .ref la, _, rfl, .ref ta, _, rfl, rfl, ?_⟩
    refine ⟨.ref ta, rfl, Nat.zero_le _, fun p np => ?_⟩
    have s1 := same_upd (o := .lst []) np
    refine ⟨_, _, dpL (s1.seq hT), dpL (ns := []) (SqL.of upd_same), shL _, shL _, ?_⟩
    rw [eqvL]
    generalize upd H p (.lst []) = H1 at s1 ⊢
    refine ⟨_, rfl, ite2 (fun e => ?_) (fun e => ?_)⟩
    · have ht : ts = [] := of_decide_eq_true e
      subst ht
      refine ⟨.ref la, rfl, la, _, rfl, .inl (s1.seq hL), fun a H2 s2 ha => ?_⟩
      refine ⟨Nat.zero_le _, fun b nb => ?_⟩
      refine ⟨(show (2 : Nat) ≤ sizeLine by decide), fun p9 np9 => ?_⟩
      have s3 := same_upd (o := .tup []) nb
      have s4 := same_upd (o := .tup [.ref a, .ref b]) np9
      exact q _ p9 xs [] (((s1.trans s2).trans s3).trans s4) (.inl ⟨rfl, rfl, rfl⟩) ⟨a, b, SqT.of upd_same, Same.tup (s3.trans s4) ha, Same.tup s4 (SqT.of upd_same)⟩
    · have hne : ts ≠ [] := fun h => e (decide_eq_true h)
      have hlen : 0 < ts.length := List.length_pos_iff.mpr hne
      refine ⟨.ref ta, rfl, ta, _, rfl, .inl (s1.seq hT), _, _, rfl, rfl, 1, _, rfl, ⟨by decide, by decide, by omega, by rw [List.length_map]; omega⟩, fun D nD => ?_⟩
      have en : ((((ts.map V.int).length : Nat) : Int) + 1 - 1).toNat = ts.length := by rw [List.length_map]; omega
      rw [en]
      refine lc_range (lo := 1) (n := ts.length) (fun i H' => Same H1 H' ∧ H' D = some (.lst ((nI (good (fun q => decide (ts.length % q = 0)) i)).map V.int))) ⟨same_upd nD, upd_same⟩ (fun i H' hi hP => ?_) (fun H2 hP => ?_)
      · obtain ⟨sm, hD⟩ := hP
        have e1 : (1 : Int) + (i : Int) = ((i + 1 : Nat) : Int) := by omega
        refine ⟨rfl, ?_⟩
        rw [e1]
        refine ⟨.ref ta, rfl, ta, _, rfl, .inl ((s1.trans sm).seq hT), _, rfl, _, _, rfl, rfl, (show (0 : Int) < ((i + 1 : Nat) : Int) by omega), rfl, _, rfl, ite2 (fun e => ?_) (fun e => ?_)⟩
        · have e2 : (((ts.map V.int).length : Nat) : Int) % ((i + 1 : Nat) : Int) = 0 := V.int.inj (of_decide_eq_true e)
          rw [List.length_map, ← Int.natCast_emod] at e2
          refine ⟨_, rfl, _, hD, ?_, Same.offUpd sm nD, ?_⟩
          · have := good_len (fun q => decide (ts.length % q = 0)) i
            unfold nI
            rw [List.length_map, List.length_map]
            exact small1000 (by omega)
          · rw [upd_same, good_succ, if_pos (decide_eq_true (by omega))]
            unfold nI
            rw [List.map_append, List.map_append]
            rfl
        · refine ⟨sm, ?_⟩
          rw [good_succ, if_neg, List.append_nil]
          · exact hD
          · intro z
            apply e
            rw [decide_eq_true_eq] at z ⊢
            show V.int ((((ts.map V.int).length : Nat) : Int) % ((i + 1 : Nat) : Int)) = V.int 0
            rw [List.length_map, ← Int.natCast_emod, z]
            rfl
      · obtain ⟨sm2, hD⟩ := hP
        have s2 := s1.trans sm2
        obtain ⟨sz, hsz⟩ : ∃ sz, sz = good (fun q => decide (ts.length % q = 0)) ts.length := ⟨_, rfl⟩
        rw [← hsz] at hD
        have szl : sz.length ≤ 1000 := by
          have := good_len (fun q => decide (ts.length % q = 0)) ts.length
          rw [hsz]
          omega
        refine ⟨.ref D, rfl, D, rfl, ⟨_, SqL.of hD⟩, fun D2 nD2 => ?_⟩
        refine lc_list (K := K) (a := D) (xs := (nI sz).map V.int) (fun i H' => Same H2 H' ∧ H' D2 = some (.lst ((nI ((sz.take i).filter (fun q => decide ((List.replicate (ts.length / q) (ts.take q)).flatten = ts)))).map V.int))) ⟨same_upd nD2, by rw [upd_same]; rfl⟩ (fun i H' _ hP => SqL.of (hP.1 _ _ hD)) (fun i x H' hx hP => ?_) (fun H3 hP => ?_)
        · obtain ⟨sm, hD2⟩ := hP
          have s3 := s2.trans sm
          have hi : i < sz.length := by
            have := (List.getElem?_eq_some_iff.mp hx).1
            unfold nI at this
            rw [List.length_map, List.length_map] at this
            exact this
          have ex : x = .int (sz[i] : Nat) := by
            unfold nI at hx
            rw [List.getElem?_map, List.getElem?_map, List.getElem?_eq_getElem hi] at hx
            exact (Option.some.inj hx).symm
          subst ex
          obtain ⟨m, hm⟩ : ∃ m, m = sz[i] := ⟨_, rfl⟩
          have hmem : m ∈ sz := by rw [hm]; exact List.getElem_mem hi
          rw [hsz] at hmem
          obtain ⟨m1, m2, m3⟩ := good_mem.mp hmem
          have m3 : ts.length % m = 0 := of_decide_eq_true m3
          have hk2 : ts.length / m ≤ ts.length := Nat.div_le_self _ _
          rw [← hm]
          refine ⟨rfl, .ref ta, rfl, .int (m : Nat), rfl, m, rfl, ta, _, rfl, s3.seq hT, fun p1 np1 => ?_⟩
          rw [cutV_to, ← List.map_take]
          have v1 := same_upd (o := .lst ((ts.take m).map V.int)) np1
          refine ⟨.ref ta, rfl, ta, _, rfl, .inl ((s3.trans v1).seq hT), .int (m : Nat), rfl, _, _, rfl, rfl, wide_div (b := 200) (by omega) ?_ (by decide) (by decide), ?_⟩
          · rw [Int.natAbs_natCast]
            exact Nat.lt_of_le_of_lt (show m ≤ 1000 by omega) (by decide)
          have ek : (((ts.map V.int).length : Nat) : Int) / (m : Int) = ((ts.length / m : Nat) : Int) := by
            rw [List.length_map]
            exact (Int.natCast_ediv _ _).symm
          refine ⟨p1, (((ts.map V.int).length : Nat) : Int) / (m : Int), _, rfl, rfl, upd_same, by rw [ek]; exact Int.le_trans (by decide) (Int.natCast_nonneg _), by rw [ek]; omega, ?_, fun p2 np2 => ?_⟩
          · rw [ek, Int.toNat_natCast, List.length_map, List.length_take, Nat.min_eq_left m2]
            have := Nat.div_mul_le_self ts.length m
            rw [Nat.mul_comm]
            exact Nat.le_of_lt (small1000 (by omega))
          rw [ek, Int.toNat_natCast, flat_map]
          have v2 := same_upd (o := .lst (((List.replicate (ts.length / m) (ts.take m)).flatten).map V.int)) np2
          refine ⟨.ref ta, rfl, _, _, dpL (SqL.of upd_same), dpL (((s3.trans v1).trans v2).seq hT), shL _, shL _, ?_⟩
          rw [eqvL]
          have w2 := sm.trans (v1.trans v2)
          have w3 := (v1.trans v2) _ _ hD2
          generalize upd (upd H' p1 (.lst ((ts.take m).map V.int))) p2 (.lst (((List.replicate (ts.length / m) (ts.take m)).flatten).map V.int)) = H4 at w2 w3 ⊢
          refine ⟨_, rfl, ite2 (fun e => ?_) (fun e => ?_)⟩
          · refine ⟨_, rfl, _, w3, ?_, Same.offUpd w2 nD2, ?_⟩
            · unfold nI
              rw [List.length_map, List.length_map]
              have := List.length_filter_le (fun q => decide ((List.replicate (ts.length / q) (ts.take q)).flatten = ts)) (sz.take i)
              rw [List.length_take] at this
              exact small1000 (by omega)
            · rw [upd_same, List.take_add_one, List.getElem?_eq_getElem hi, ← hm, List.filter_append]
              have : List.filter (fun q => decide ((List.replicate (ts.length / q) (ts.take q)).flatten = ts)) (some m).toList = [m] := by
                show List.filter _ [m] = [m]
                rw [List.filter_cons, if_pos e]
                rfl
              rw [this]
              unfold nI
              rw [List.map_append, List.map_append]
              rfl
          · refine ⟨w2, ?_⟩
            rw [List.take_add_one, List.getElem?_eq_getElem hi, ← hm, List.filter_append]
            have : List.filter (fun q => decide ((List.replicate (ts.length / q) (ts.take q)).flatten = ts)) (some m).toList = [] := by
              show List.filter _ [m] = []
              rw [List.filter_cons, if_neg e]
              rfl
            rw [this, List.append_nil]
            exact w3
        · obtain ⟨sm3, hD2⟩ := hP
          have s3 := s2.trans sm3
          rw [show ((nI sz).map V.int).length = sz.length by unfold nI; rw [List.length_map, List.length_map], List.take_length] at hD2
          have hmem : ts.length ∈ sz.filter (fun q => decide ((List.replicate (ts.length / q) (ts.take q)).flatten = ts)) := by
            rw [List.mem_filter, hsz, good_mem]
            exact ⟨⟨hlen, Nat.le_refl _, decide_eq_true (isP_self hne).1⟩, decide_eq_true (isP_self hne).2⟩
          obtain ⟨p0, rest, hp0⟩ : ∃ p0 rest, sz.filter (fun q => decide ((List.replicate (ts.length / q) (ts.take q)).flatten = ts)) = p0 :: rest := by
            cases hh : sz.filter (fun q => decide ((List.replicate (ts.length / q) (ts.take q)).flatten = ts)) with
            | nil => rw [hh] at hmem; cases hmem
            | cons a b => exact ⟨a, b, rfl⟩
          have hper : IsPer ts p0 := first_per hsz hp0
          have hp1 := hper.pos
          have hp2 := hper.le
          have hw : (ts.take p0).length = p0 := by rw [List.length_take]; omega
          rw [hp0] at hD2
          refine ⟨D2, _, 0, .int (p0 : Nat), rfl, rfl, SqL.of hD2, atI_nat (j := 0) rfl, ?_⟩
          refine ⟨.ref la, rfl, la, _, rfl, .inl (s3.seq hL), ?_⟩
          refine ⟨fun m σ H' => ∃ n : Nat, σ = [some (.ref r), some (.ref la), some (.ref ta), some (.ref D), some (.int (p0 : Nat)), some (.int ((xs.length - n : Nat) : Int)), none, none] ∧ Same H H' ∧ Tail xs (ts.take p0) n ∧ m = xs.length - n, ⟨xs.length, 0, by rw [List.length_map]; rfl, s3, ⟨Nat.zero_le _, fun j hj => by omega⟩, by omega⟩, ?_⟩
          rintro m σ H' ⟨n, rfl, sm, hTl, rfl⟩
          have hn := hTl.1
          refine ⟨.int ((xs.length - n : Nat) : Int), rfl, _, _, rfl, rfl, _, rfl, ite2 (fun e => ?_) (fun e => ?_)⟩
          · have e1 : (0 : Int) < ((xs.length - n : Nat) : Int) := of_decide_eq_true e
            have hx : xs.length - 1 - n < xs.length := by omega
            have ev : seenV xs ts (((xs.length - n : Nat) : Int) - 1 + (p0 : Int)) = .int (cyc (ts.take p0) (-1 - (n : Int))) := by
              rw [show ((xs.length - n : Nat) : Int) - 1 + (p0 : Int) = ((xs.length - n + (p0 - 1) : Nat) : Int) by omega, seenV_of (seen_tail hper hTl (p0 - 1))]
              have := cyc_add (ts.take p0) (-1 - (n : Int))
              rw [hw] at this
              rw [← this]
              congr 2
              omega
            have eb : ((xs.length - n : Nat) : Int) - 1 = ((xs.length - 1 - n : Nat) : Int) := by omega
            refine ⟨.ref la, rfl, .int ((xs.length - n : Nat) : Int), rfl, _, _, rfl, rfl, la, _, ((xs.length - n : Nat) : Int) - 1, .int xs[xs.length - 1 - n], rfl, rfl, sm.seq hL, by rw [eb]; exact atI_nat (by rw [List.getElem?_map, List.getElem?_eq_getElem hx]; rfl), ?_⟩
            refine ⟨.ref r, rfl, .int ((xs.length - n : Nat) : Int), rfl, _, _, rfl, rfl, .int (p0 : Nat), rfl, _, _, rfl, rfl, r, la, ta, xs, ts, ((xs.length - n : Nat) : Int) - 1 + (p0 : Int), rfl, Same.tup sm hR, sm.seq hL, sm.seq hT, fun H5 sm5 => ?_⟩
            rw [ev]
            refine ⟨rfl, _, rfl, ite2 (fun e2 => ?_) (fun e2 => ?_)⟩
            · have e3 : xs[xs.length - 1 - n] = cyc (ts.take p0) (-1 - (n : Int)) := V.int.inj (of_decide_eq_true e2)
              refine ⟨fun σ' H' => σ' = [some (.ref r), some (.ref la), some (.ref ta), some (.ref D), some (.int (p0 : Nat)), some (.int ((xs.length - (n + 1) : Nat) : Int)), none, none] ∧ Same H H', ?_, .int ((xs.length - n : Nat) : Int), rfl, _, _, rfl, rfl, ?_, sm.trans sm5⟩
              · rintro σ' H6 ⟨rfl, sm6⟩
                refine ⟨xs.length - (n + 1), by omega, n + 1, rfl, sm6, ⟨by omega, fun j hj => ?_⟩, rfl⟩
                by_cases hj2 : j < n
                · exact hTl.2 j hj2
                · obtain rfl : j = n := by omega
                  rw [List.getElem?_eq_getElem hx, e3]
              · rw [show ((xs.length - (n + 1) : Nat) : Int) = ((xs.length - n : Nat) : Int) - 1 by omega]
                rfl
            · have hsp : IsSpare xs (ts.take p0) n := ⟨hTl, fun _ z => e2 (by
                rw [List.getElem?_eq_getElem hx] at z
                rw [Option.some.inj z]
                exact decide_eq_true rfl)⟩
              have sm := sm.trans sm5
              refine ⟨.ref la, rfl, .int ((xs.length - n : Nat) : Int), rfl, _, rfl, la, _, rfl, sm.seq hL, fun a0 na0 => ?_⟩
              rw [cutV_to, ← List.map_take]
              have t1 := same_upd (o := .lst ((xs.take (xs.length - n)).map V.int)) na0
              refine ⟨a0, _, rfl, .inl (SqL.of upd_same), fun a H6 t2 ha => ?_⟩
              refine ⟨.int (p0 : Nat), rfl, (p0 : Nat), rfl, by omega, by omega, fun D3 nD3 => ?_⟩
              have t3 := (sm.trans t1).trans t2
              refine lc_range (lo := 0) (n := ((p0 : Nat) : Int).toNat) (fun i H' => Same H6 H' ∧ H' D3 = some (.lst (((rot (ts.take p0) n).take i).map V.int))) ⟨same_upd nD3, by rw [upd_same]; rfl⟩ (fun i H' hi hP => ?_) (fun H' hP => ?_)
              · obtain ⟨u1, hD3⟩ := hP
                have hi2 : i < p0 := by omega
                have u2 := t3.trans u1
                have ev : seenV xs ts (((xs.length - n : Nat) : Int) + (0 + (i : Int))) = .int (cyc (ts.take p0) ((i : Int) - n)) := by
                  rw [show ((xs.length - n : Nat) : Int) + (0 + (i : Int)) = ((xs.length - n + i : Nat) : Int) by omega]
                  exact seenV_of (seen_tail hper hsp.tail i)
                refine ⟨rfl, yesT ⟨.ref r, rfl, .int ((xs.length - n : Nat) : Int), rfl, .int (0 + (i : Int)), rfl, _, _, rfl, rfl, r, la, ta, xs, ts, ((xs.length - n : Nat) : Int) + (0 + (i : Int)), rfl, Same.tup u2 hR, u2.seq hL, u2.seq hT, fun H7 u3 => ?_⟩⟩
                rw [ev]
                refine ⟨_, u3 _ _ hD3, ?_, Same.offUpd (u1.trans u3) nD3, ?_⟩
                · rw [List.length_map, List.length_take]
                  exact small1000 (by omega)
                · rw [upd_same, List.take_add_one, rot_get (by omega), List.map_append]
                  rfl
              · obtain ⟨u1, hD3⟩ := hP
                rw [Int.toNat_natCast, List.take_of_length_le (by rw [rot_len]; omega)] at hD3
                refine ⟨D3, _, rfl, .inl (SqL.of hD3), fun b H8 u2 hb => ?_⟩
                refine ⟨(show (2 : Nat) ≤ sizeLine by decide), fun p9 np9 => ?_⟩
                have u3 := same_upd (o := .tup [.ref a, .ref b]) np9
                exact q _ p9 _ _ (((t3.trans u1).trans u2).trans u3) (.inr ⟨hne, p0, n, hper, hsp, rfl, rfl⟩) ⟨a, b, SqT.of upd_same, Same.tup ((u1.trans u2).trans u3) ha, Same.tup u3 hb⟩
          · have hsp : IsSpare xs (ts.take p0) n := ⟨hTl, fun z => absurd (decide_eq_true (show (0 : Int) < ((xs.length - n : Nat) : Int) by omega)) e⟩
            refine ⟨.ref la, rfl, .int ((xs.length - n : Nat) : Int), rfl, _, rfl, la, _, rfl, sm.seq hL, fun a0 na0 => ?_⟩
            rw [cutV_to, ← List.map_take]
            have t1 := same_upd (o := .lst ((xs.take (xs.length - n)).map V.int)) na0
            refine ⟨a0, _, rfl, .inl (SqL.of upd_same), fun a H6 t2 ha => ?_⟩
            refine ⟨.int (p0 : Nat), rfl, (p0 : Nat), rfl, by omega, by omega, fun D3 nD3 => ?_⟩
            have t3 := (sm.trans t1).trans t2
            refine lc_range (lo := 0) (n := ((p0 : Nat) : Int).toNat) (fun i H' => Same H6 H' ∧ H' D3 = some (.lst (((rot (ts.take p0) n).take i).map V.int))) ⟨same_upd nD3, by rw [upd_same]; rfl⟩ (fun i H' hi hP => ?_) (fun H' hP => ?_)
            · obtain ⟨u1, hD3⟩ := hP
              have hi2 : i < p0 := by omega
              have u2 := t3.trans u1
              have ev : seenV xs ts (((xs.length - n : Nat) : Int) + (0 + (i : Int))) = .int (cyc (ts.take p0) ((i : Int) - n)) := by
                rw [show ((xs.length - n : Nat) : Int) + (0 + (i : Int)) = ((xs.length - n + i : Nat) : Int) by omega]
                exact seenV_of (seen_tail hper hsp.tail i)
              refine ⟨rfl, yesT ⟨.ref r, rfl, .int ((xs.length - n : Nat) : Int), rfl, .int (0 + (i : Int)), rfl, _, _, rfl, rfl, r, la, ta, xs, ts, ((xs.length - n : Nat) : Int) + (0 + (i : Int)), rfl, Same.tup u2 hR, u2.seq hL, u2.seq hT, fun H7 u3 => ?_⟩⟩
              rw [ev]
              refine ⟨_, u3 _ _ hD3, ?_, Same.offUpd (u1.trans u3) nD3, ?_⟩
              · rw [List.length_map, List.length_take]
                exact small1000 (by omega)
              · rw [upd_same, List.take_add_one, rot_get (by omega), List.map_append]
                rfl
            · obtain ⟨u1, hD3⟩ := hP
              rw [Int.toNat_natCast, List.take_of_length_le (by rw [rot_len]; omega)] at hD3
              refine ⟨D3, _, rfl, .inl (SqL.of hD3), fun b H8 u2 hb => ?_⟩
              refine ⟨(show (2 : Nat) ≤ sizeLine by decide), fun p9 np9 => ?_⟩
              have u3 := same_upd (o := .tup [.ref a, .ref b]) np9
              exact q _ p9 _ _ (((t3.trans u1).trans u2).trans u3) (.inr ⟨hne, p0, n, hper, hsp, rfl, rfl⟩) ⟨a, b, SqT.of upd_same, Same.tup ((u1.trans u2).trans u3) ha, Same.tup u3 hb⟩
end
/-! ### the law -/
theorem LR.len {xs ts c d : List Int} (a : LR xs ts c d) : c.length ≤ xs.length ∧ d.length ≤ ts.length := by
  rcases a with ⟨e, rfl, rfl⟩ | ⟨e, p, s, h1, h2, rfl, rfl⟩
  · exact ⟨Nat.le_refl _, Nat.zero_le _⟩
  · rw [List.length_take, rot_len, List.length_take]
    exact ⟨by omega, by omega⟩
theorem lk_int {K : PySem.W.Frag} {H : Hp} {n : Nat} (i : Int) : Lk K H (n + 1) (.int i) (.int i) := .inl ⟨rfl, .inr (.inr (.inl ⟨i, rfl⟩))⟩
theorem lk_ints {K : PySem.W.Frag} {H : Hp} {n : Nat} {a b : Addr} {c : List Int} (h1 : SqT K H a (c.map V.int)) (h2 : SqT K H b (c.map V.int)) (hl : c.length ≤ 1000) : Lk K H (n + 2) (.ref a) (.ref b) :=
  .inr ⟨a, b, _, _, rfl, rfl, .inr ⟨h1, h2⟩, rfl, by rw [List.length_map]; exact hl, fun i x y hx hy => by
    rw [hx] at hy
    obtain rfl := Option.some.inj hy
    rw [List.getElem?_map] at hx
    cases hz : c[i]? with
    | none => rw [hz] at hx; cases hx
    | some z =>
      rw [hz] at hx
      obtain rfl := Option.some.inj hx
      exact lk_int z⟩
theorem lk_row {K : PySem.W.Frag} {H : Hp} {n : Nat} {p q : Addr} {c d : List Int} (h1 : RowAt K H p c d) (h2 : RowAt K H q c d) (hc : c.length ≤ 1000) (hd : d.length ≤ 1000) : Lk K H (n + 3) (.ref p) (.ref q) := by
  obtain ⟨a1, b1, x1, x2, x3⟩ := h1
  obtain ⟨a2, b2, y1, y2, y3⟩ := h2
  refine .inr ⟨p, q, _, _, rfl, rfl, .inr ⟨x1, y1⟩, rfl, (show (2 : Nat) ≤ 1000 by decide), fun i x y hx hy => ?_⟩
  match i, hx, hy with
  | 0, hx, hy =>
    obtain rfl := Option.some.inj hx
    obtain rfl := Option.some.inj hy
    exact lk_ints x2 y2 hc
  | 1, hx, hy =>
    obtain rfl := Option.some.inj hx
    obtain rfl := Option.some.inj hy
    exact lk_ints x3 y3 hd
  | j + 2, hx, hy => cases hx
abbrev sLaw : Stmt := topS 14
abbrev nLaw : List Str := ["_law_script", "_law_bag_here", "_law_turn", "_law_lead", "_law_again", "_law_handed", "_law_told", "_law_found", "_law_k"]
theorem scLaw : FnScope nLaw ["_law_script"] (defScope sLaw) := ⟨rfl, rfl, rfl, by decide +kernel, rfl, by decide +kernel, by decide +kernel⟩
def spLaw (K : PySem.W.Frag) : Sp := fun vs H Q _ => ∃ (a : Addr) (ns : List Int), vs = [.ref a] ∧ SqL K H a (ns.map V.int) ∧ ns.length ≤ 63 ∧ ∀ H', Q (.bl true) H'
/-- the state amid a turn -/
def Mid9 (b c : Addr) (m n : Nat) (σ : L2.St) (H : Hp) : Prop := ∃ (y0 y2 : Option V) (L A : Addr) (y5 y6 : Option V) (xs ts : List Int), σ = [y0, some (.ref b), y2, some (.ref L), some (.ref A), y5, y6, none, none] ∧ Bag H b c ∧ H L = some (.lst (xs.map V.int)) ∧ H A = some (.lst (ts.map V.int)) ∧ L ≠ b ∧ A ≠ b ∧ xs.length ≤ m ∧ ts.length ≤ n
theorem LR_one : LR [1] [1, 1] [] [1] := by
  refine .inr ⟨List.cons_ne_nil _ _, 1, 1, ⟨by decide, by decide, ⟨rfl, rfl⟩, fun q h _ _ => h⟩, ⟨⟨by decide, fun j hj => ?_⟩, fun h => absurd h (by decide)⟩, rfl, rfl⟩
  obtain rfl : j = 0 := by omega
  rfl
section
variable {P : Program} {w : World} {K : PySem.W.Frag} {mg : Str → Option Value} {base : Heap}
theorem ok_law {f fB fP fO fR fL fK : Addr} {fd fdB fdP fdO fdR fdL fdK : FuncData} {tk1 tk2 : Tok} (F : Fun K "law" "law" sLaw f fd)
    (FB : Fun K "_law_bag" "_law_bag" sBag fB fdB) (bB : Binds K fdB ["_law_script"] []) (gB : mg "_law_bag" = some (.ref fB)) (GB : FnOk P w K mg base CX0 5 fB fdB ["_law_script"] (spBag K))
    (FP : Fun K "_law_pull" "_law_pull" sPull fP fdP) (bP : Binds K fdP ["_law_bag_here", "_law_size"] []) (gP : mg "_law_pull" = some (.ref fP)) (GP : FnOk P w K mg base CX0 5 fP fdP ["_law_bag_here", "_law_size"] spPull)
    (FO : Fun K "_law_of" "_law_of" sOf fO fdO) (bO : Binds K fdO ["_law_bag_here", "_law_things"] []) (gO : mg "_law_of" = some (.ref fO)) (GO : FnOk P w K mg base CX0 5 fO fdO ["_law_bag_here", "_law_things"] spOf)
    (FR : Fun K "least_row" "least_row" sLR fR fdR) (bR : Binds K fdR ["lead", "turn"] []) (gR : mg "least_row" = some (.ref fR)) (GR : FnOk P w K mg base CX0 5 fR fdR ["lead", "turn"] (spLR K))
    (FL : Fun K "_law_least" "_law_least" sLst fL fdL) (bL : Binds K fdL ["_law_row"] []) (gL : mg "_law_least" = some (.ref fL)) (GL : FnOk P w K mg base CX0 5 fL fdL ["_law_row"] (spLst K))
    (FK : Fun K "_law_like" "_law_like" sLike fK fdK) (bK : Binds K fdK ["_law_one", "_law_due"] []) (gK : mg "_law_like" = some (.ref fK)) (GK : FnOk P w K mg base CX0 5 fK fdK ["_law_one", "_law_due"] (spLike K 5))
    (mr : mg "range" = none) (mli : mg "list" = none) (mL : mg "MOST_LEAD" = some (.int 400 tk1)) (mR : mg "MOST_ROUND" = some (.int 12 tk2)) : FnOk P w K mg base CX0 6 f fd ["_law_script"] (spLaw K) := by
  refine F.ok scLaw (fun vs H Q E h => ?_) (fun cdv A outer s H vs Q E hr h => ?_)
  · obtain ⟨a, ns, rfl, _⟩ := h
    rfl
  · obtain ⟨a, ns, rfl, hS, hlen, q⟩ := h
    refine ⟨_, pss_cons (ps_set (i := 1) scLaw.nd rfl (.inr rfl) (pe_call GB hr (by rfl) gB FB.kp bB .nil pass0 (pa_cons (pv 0) pa_nil)))
      (pss_cons (ps_for PassesOwn.never rfl (pi_range1 (by rfl) mr (pa_cons pe_int pa_nil)) (pg_name (i := 2) scLaw.nd rfl (.inl rfl))
        (C8.pss_cut (ps_setLc (i := 3) (own := [("_law_k", 8)]) (g := gName 8) (tt := tYes) rfl scLaw.nd rfl rfl (sw_true rfl rfl rfl (by decide +kernel))
            (pi_range1 (by rfl) mr (pa_cons (pe_call GO hr (by rfl) gO FO.kp bO .nil pass0 (pa_cons (pv 1) (pa_cons (pe_lst (pa_cons pe_int (pa_cons pe_int (pa_cons pe_int (pa_cons (pe_call GP hr (by rfl) gP FP.kp bP .nil pass0 (pa_cons (pv 1) (pa_cons pe_int pa_nil))) pa_nil))))) pa_nil))) pa_nil))
            (blkOk_by (own := [("_law_k", 8)]) (N := nLaw) (sc := defScope sLaw) (by decide +kernel)) (fun _ _ _ _ _ => pg_name (i := 8) scLaw.nd rfl (Or.inl rfl)) (fun _ _ _ _ _ => pts_nil)
            (fun _ _ _ _ _ => pe_call GP hr (by rfl) gP FP.kp bP .nil pass0 (pa_cons (pv 1) (pa_cons pe_int pa_nil))))
        (C8.pss_cut (ps_setLc (i := 4) (own := [("_law_k", 8)]) (g := gName 8) (tt := tYes) rfl scLaw.nd rfl rfl (sw_true rfl rfl rfl (by decide +kernel))
            (pi_range1 (by rfl) mr (pa_cons (pe_call GP hr (by rfl) gP FP.kp bP .nil pass0 (pa_cons (pv 1) (pa_cons pe_int pa_nil))) pa_nil))
            (blkOk_by (own := [("_law_k", 8)]) (N := nLaw) (sc := defScope sLaw) (by decide +kernel)) (fun _ _ _ _ _ => pg_name (i := 8) scLaw.nd rfl (Or.inl rfl)) (fun _ _ _ _ _ => pts_nil)
            (fun _ _ _ _ _ => pe_call GP hr (by rfl) gP FP.kp bP .nil pass0 (pa_cons (pv 1) (pa_cons (pe_call GO hr (by rfl) gO FO.kp bO .nil pass0 (pa_cons (pv 1) (pa_cons (pe_lst (pa_cons pe_int (pa_cons pe_int pa_nil))) pa_nil))) pa_nil))))
        (C8.pss_cut (ps_if (pt_cmpR op_eq (pe_call GP hr (by rfl) gP FP.kp bP .nil pass0 (pa_cons (pv 1) (pa_cons pe_int pa_nil))) pe_int (nomark _))
            (pss_one (ps_set (i := 4) scLaw.nd rfl (.inl rfl) (pe_op op_rep (pv 4) (pe_op op_add pe_int (pe_call GP hr (by rfl) gP FP.kp bP .nil pass0 (pa_cons (pv 1) (pa_cons pe_int pa_nil))))))) pss_nil)
        (C8.pss_cut (ps_if (pt_cmpR op_eq (pe_call GP hr (by rfl) gP FP.kp bP .nil pass0 (pa_cons (pv 1) (pa_cons pe_int pa_nil))) pe_int (nomark _))
            (pss_cons (ps_set (i := 3) scLaw.nd rfl (.inl rfl) (pe_op op_cat (pv 3) (pe_op op_rep (pv 4) (pe_call GP hr (by rfl) gP FP.kp bP .nil pass0 (pa_cons (pv 1) (pa_cons pe_int pa_nil))))))
            (pss_cons (ps_set (i := 3) scLaw.nd rfl (.inl rfl) (pe_op op_cat (pv 3) (pe_slice sl_list (pv 4) po_none (po_some pe_int))))
            (pss_one (ps_set (i := 4) scLaw.nd rfl (.inl rfl) (pe_op op_cat (pe_slice sl_list (pv 4) (po_some pe_int) po_none) (pe_slice sl_list (pv 4) po_none (po_some pe_int))))))) pss_nil)
        (pss_cons (ps_set (i := 5) scLaw.nd rfl (.inl rfl) (pe_tup (pa_cons (pe_callTy call_list_of (by rfl) mli (by decide +kernel) (pa_cons (pv 3) pa_nil)) (pa_cons (pe_callTy call_list_of (by rfl) mli (by decide +kernel) (pa_cons (pv 4) pa_nil)) pa_nil))))
        (pss_cons (ps_set (i := 6) scLaw.nd rfl (.inl rfl) (pe_call GR hr (by rfl) gR FR.kp bR .nil pass0 (pa_cons (pe_ix ix_tup (pv 5) pe_int (fun _ _ => rfl)) (pa_cons (pe_ix ix_tup (pv 5) pe_int (fun _ _ => rfl)) pa_nil))))
        (pss_cons (ps_if (PW.pt (pw_or (pt_not (pt_val (pe_call GK hr (by rfl) gK FK.kp bK .nil pass0 (pa_cons (pv 6) (pa_cons (pe_call GL hr (by rfl) gL FL.kp bL .nil pass0 (pa_cons (pe_tup (pa_cons (pv 3) (pa_cons (pv 4) pa_nil))) pa_nil)) pa_nil)))))
              (pw_or1 (pt_cmpR (op_neD hr.units) (pv 5) (pe_tup (pa_cons (pv 3) (pa_cons (pv 4) pa_nil))) (nomark _)))))
            (pss_one (ps_ret pe_bl)) pss_nil)
        (pss_one (ps_if (pt_not (pt_val (pe_call GK hr (by rfl) gK FK.kp bK .nil pass0 (pa_cons (pe_call GR hr (by rfl) gR FR.kp bR .nil pass0 (pa_cons (pe_ix ix_tup (pv 6) pe_int (fun _ _ => rfl)) (pa_cons (pe_ix ix_tup (pv 6) pe_int (fun _ _ => rfl)) pa_nil))) (pa_cons (pv 6) pa_nil)))))
            (pss_one (ps_ret pe_bl)) pss_nil))))))))))
      (pss_cons (ps_set (i := 7) scLaw.nd rfl (.inl rfl) (pe_lst (pa_cons (pe_call GR hr (by rfl) gR FR.kp bR .nil pass0 (pa_cons (pe_lst pa_nil) (pa_cons (pe_lst pa_nil) pa_nil)))
          (pa_cons (pe_call GR hr (by rfl) gR FR.kp bR .nil pass0 (pa_cons (pe_lst (pa_cons pe_int pa_nil)) (pa_cons (pe_lst (pa_cons pe_int (pa_cons pe_int pa_nil))) pa_nil)))
          (pa_cons (pe_glob (v := .int 400) (by rfl) mL ⟨_, rfl⟩) (pa_cons (pe_glob (v := .int 12) (by rfl) mR ⟨_, rfl⟩) pa_nil))))))
      (pss_one (ps_ret (pe_call GK hr (by rfl) gK FK.kp bK .nil pass0 (pa_cons (pv 7) (pa_cons (pe_lst (pa_cons (pe_tup (pa_cons (pe_tup pa_nil) (pa_cons (pe_tup pa_nil) pa_nil))) (pa_cons (pe_tup (pa_cons (pe_tup pa_nil) (pa_cons (pe_tup (pa_cons pe_int pa_nil)) pa_nil))) (pa_cons pe_int (pa_cons pe_int pa_nil))))) pa_nil))))))), ?_⟩
    refine ⟨.ref a, rfl, a, ns, rfl, hS, hlen, fun H1 b c s1 hB _ => ?_⟩
    refine ⟨6, rfl, by decide, by decide, for_range (lo := 0) (n := 6) (fun i σ H' => ∃ y0 y2 y3 y4 y5 y6, σ = [y0, some (.ref b), y2, y3, y4, y5, y6, none, none] ∧ Bag H' b c) ⟨_, _, _, _, _, _, rfl, hB⟩ ?_ ?_⟩
    · rintro i σ H' hi ⟨y0, y2, y3, y4, y5, y6, rfl, hB⟩
      -- lead
      refine ⟨fun σ' H' => ∃ (y0 y2 : Option V) (L : Addr) (y4 y5 y6 : Option V) (xs : List Int), σ' = [y0, some (.ref b), y2, some (.ref L), y4, y5, y6, none, none] ∧ Bag H' b c ∧ H' L = some (.lst (xs.map V.int)) ∧ L ≠ b ∧ xs.length ≤ 60, ?_, ?_⟩
      · refine ⟨.ref b, rfl, .ref b, rfl, b, c, 60, rfl, hB, by decide, by decide, fun H2 r off2 hB2 r0 r1 => ?_⟩
        refine ⟨(show (4 : Nat) ≤ sizeLine by decide), fun t nt => ?_⟩
        refine ⟨b, c, t, _, rfl, hB2.same (same_upd nt), upd_same, (hB2.ne nt).1, (show (0 : Nat) < 4 by decide), (show (4 : Nat) ≤ 1000 by decide), fun H3 v off3 hB3 hv => ?_⟩
        obtain ⟨n, rfl, hn⟩ : ∃ n : Nat, v = .int (n : Nat) ∧ n ≤ 60 := by
          obtain ⟨m, rfl⟩ := Int.eq_ofNat_of_zero_le r0
          simp only [List.mem_cons, List.not_mem_nil, or_false] at hv
          rcases hv with rfl | rfl | rfl | rfl
          · exact ⟨0, rfl, by decide⟩
          · exact ⟨3, rfl, by decide⟩
          · exact ⟨8, rfl, by decide⟩
          · exact ⟨m, rfl, by omega⟩
        refine ⟨(n : Int), rfl, by omega, by omega, fun D nD => ?_⟩
        have hne := hB3.ne nD
        refine lc_range (lo := 0) (n := ((n : Nat) : Int).toNat) (fun i H' => Bag H' b c ∧ ∃ xs : List Int, xs.length = i ∧ H' D = some (.lst (xs.map V.int))) ⟨hB3.same (same_upd nD), [], rfl, upd_same⟩ (fun i H' hi hP => ?_) (fun H' hP => ?_)
        · obtain ⟨hB4, xs, hx, hD⟩ := hP
          refine ⟨rfl, yesT ⟨.ref b, rfl, b, c, 4, rfl, hB4, by decide, by decide, fun H5 r off hB5 _ _ => ⟨_, off _ _ hne.1 hD, ?_, hB5.upd hne, xs ++ [r], ?_, ?_⟩⟩⟩
          · rw [List.length_map]
            exact small1000 (by omega)
          · rw [List.length_append, hx]
            rfl
          · rw [upd_same, List.map_append]
            rfl
        · obtain ⟨hB4, xs, hx, hD⟩ := hP
          exact ⟨_, _, D, _, _, _, xs, rfl, hB4, hD, hne.1, by omega⟩
      · rintro σ' H' ⟨y0, y2, L, y4, y5, y6, xs, rfl, hB, hL, hLb, hx60⟩
        -- again
        refine ⟨Mid9 b c 60 6, ?_, ?_⟩
        · refine ⟨.ref b, rfl, b, c, 7, rfl, hB, by decide, by decide, fun H2 r off2 hB2 r0 r1 => ?_⟩
          obtain ⟨n, rfl⟩ := Int.eq_ofNat_of_zero_le r0
          refine ⟨(n : Int), rfl, by omega, by omega, fun D nD => ?_⟩
          have hne := hB2.ne nD
          have hL2 := off2 _ _ hLb hL
          have hLD : L ≠ D := ne_of_none hL2 nD
          refine lc_range (lo := 0) (n := ((n : Nat) : Int).toNat) (fun i H' => Bag H' b c ∧ H' L = some (.lst (xs.map V.int)) ∧ ∃ ts : List Int, ts.length = i ∧ H' D = some (.lst (ts.map V.int))) ⟨hB2.same (same_upd nD), same_upd nD _ _ hL2, [], rfl, upd_same⟩ (fun i H' hi hP => ?_) (fun H' hP => ?_)
          · obtain ⟨hB4, hL4, ts, hx, hD⟩ := hP
            refine ⟨rfl, yesT ⟨.ref b, rfl, .ref b, rfl, (show (2 : Nat) ≤ sizeLine by decide), fun t nt => ?_⟩⟩
            have u1 := same_upd (o := .lst [V.int 2, V.int 4]) nt
            refine ⟨b, c, t, _, rfl, hB4.same u1, upd_same, (hB4.ne nt).1, (show (0 : Nat) < 2 by decide), (show (2 : Nat) ≤ 1000 by decide), fun H5 v off5 hB5 hv => ?_⟩
            obtain ⟨k, rfl, hk⟩ : ∃ k : Int, v = .int k ∧ (k = 2 ∨ k = 4) := by
              simp only [List.mem_cons, List.not_mem_nil, or_false] at hv
              rcases hv with rfl | rfl
              · exact ⟨2, rfl, .inl rfl⟩
              · exact ⟨4, rfl, .inr rfl⟩
            refine ⟨b, c, k, rfl, hB5, by omega, ?_, fun H6 r off6 hB6 _ _ => ⟨_, off6 _ _ hne.1 (off5 _ _ hne.1 (u1 _ _ hD)), ?_, hB6.upd hne, ?_, ts ++ [r], ?_, ?_⟩⟩
            · rcases hk with rfl | rfl <;> decide
            · rw [List.length_map]
              exact small1000 (by omega)
            · rw [upd_ne hLD]
              exact off6 _ _ hLb (off5 _ _ hLb (u1 _ _ hL4))
            · rw [List.length_append, hx]
              rfl
            · rw [upd_same, List.map_append]
              rfl
          · obtain ⟨hB4, hL4, ts, hx, hD⟩ := hP
            exact ⟨_, _, L, D, _, _, xs, ts, rfl, hB4, hL4, hD, hLb, hne.1, hx60, by omega⟩
        · rintro σ' H' ⟨y0, y2, L, A, y5, y6, xs, ts, rfl, hB, hL, hA, hLb, hAb, hx, ht⟩
          refine ⟨Mid9 b c 60 18, ?_, ?_⟩
          · refine ⟨.ref b, rfl, b, c, 2, rfl, hB, by decide, by decide, fun H2 r off2 hB2 _ _ => ⟨rfl, _, rfl, ite2 (fun e => ?_) (fun e => ?_)⟩⟩
            · refine ⟨.ref A, rfl, .ref b, rfl, b, c, 3, rfl, hB2, by decide, by decide, fun H3 r off3 hB3 r0 r1 => ?_⟩
              have hA3 := off3 _ _ hAb (off2 _ _ hAb hA)
              refine ⟨1, r, rfl, rfl, A, 1 + r, _, rfl, rfl, hA3, by omega, by omega, ?_, fun p np => ?_⟩
              · rw [List.length_map]
                have : ts.length * (1 + r).toNat ≤ 6 * 3 := Nat.mul_le_mul ht (by omega)
                exact Nat.le_of_lt (small1000 (by omega))
              · rw [flat_map]
                have u := same_upd (o := .lst (((List.replicate (1 + r).toNat ts).flatten).map V.int)) np
                refine ⟨_, _, L, p, _, _, xs, (List.replicate (1 + r).toNat ts).flatten, rfl, hB3.same u, u _ _ (off3 _ _ hLb (off2 _ _ hLb hL)), upd_same, hLb, (hB3.ne np).1, hx, ?_⟩
                rw [rep_len]
                have : (1 + r).toNat * ts.length ≤ 3 * 6 := Nat.mul_le_mul (by omega) ht
                omega
            · exact ⟨_, _, L, A, _, _, xs, ts, rfl, hB2, off2 _ _ hLb hL, off2 _ _ hAb hA, hLb, hAb, hx, by omega⟩
          · rintro σ' H' ⟨y0, y2, L, A, y5, y6, xs, ts, rfl, hB, hL, hA, hLb, hAb, hx, ht⟩
            refine ⟨Mid9 b c 200 200, ?_, ?_⟩
            · refine ⟨.ref b, rfl, b, c, 2, rfl, hB, by decide, by decide, fun H2 r off2 hB2 _ _ => ⟨rfl, _, rfl, ite2 (fun e => ?_) (fun e => ?_)⟩⟩
              · refine ⟨.ref L, rfl, .ref A, rfl, .ref b, rfl, b, c, 3, rfl, hB2, by decide, by decide, fun H3 r off3 hB3 r0 r1 => ?_⟩
                have hA3 := off3 _ _ hAb (off2 _ _ hAb hA)
                have hL3 := off3 _ _ hLb (off2 _ _ hLb hL)
                have hm1 : ts.length * r.toNat ≤ 18 * 2 := Nat.mul_le_mul ht (by omega)
                have hm2 : r.toNat * ts.length ≤ 2 * 18 := Nat.mul_le_mul (by omega) ht
                refine ⟨A, r, _, rfl, rfl, hA3, by omega, by omega, by rw [List.length_map]; exact Nat.le_of_lt (small1000 (by omega)), fun p np => ?_⟩
                rw [flat_map]
                have u1 := same_upd (o := .lst (((List.replicate r.toNat ts).flatten).map V.int)) np
                refine ⟨L, p, _, _, rfl, rfl, u1 _ _ hL3, upd_same, ?_, fun p2 np2 => ?_⟩
                · rw [List.length_map, List.length_map, rep_len]
                  exact Nat.le_of_lt (small1000 (by omega))
                rw [← List.map_append]
                have u2 := same_upd (o := .lst ((xs ++ (List.replicate r.toNat ts).flatten).map V.int)) np2
                have u12 := u1.trans u2
                refine ⟨.ref p2, rfl, .ref A, rfl, 1, rfl, A, _, rfl, SqL.of (u12 _ _ hA3), fun p3 np3 => ?_⟩
                rw [show (some (1 : Int)) = some ((1 : Nat) : Int) from rfl, cutV_to, ← List.map_take]
                have u3 := same_upd (o := .lst ((ts.take 1).map V.int)) np3
                refine ⟨p2, p3, _, _, rfl, rfl, u3 _ _ upd_same, upd_same, ?_, fun p4 np4 => ?_⟩
                · rw [List.length_map, List.length_map, List.length_append, rep_len, List.length_take]
                  exact Nat.le_of_lt (small1000 (by omega))
                rw [← List.map_append]
                have u4 := same_upd (o := .lst ((xs ++ (List.replicate r.toNat ts).flatten ++ ts.take 1).map V.int)) np4
                have u14 := (u12.trans u3).trans u4
                refine ⟨.ref A, rfl, 1, rfl, A, _, rfl, SqL.of (u14 _ _ hA3), fun p5 np5 => ?_⟩
                rw [show (some (1 : Int)) = some ((1 : Nat) : Int) from rfl, cutV_from, ← List.map_drop]
                have u5 := same_upd (o := .lst ((ts.drop 1).map V.int)) np5
                have u15 := u14.trans u5
                refine ⟨.ref A, rfl, 1, rfl, A, _, rfl, SqL.of (u15 _ _ hA3), fun p6 np6 => ?_⟩
                rw [show (some (1 : Int)) = some ((1 : Nat) : Int) from rfl, cutV_to, ← List.map_take]
                have u6 := same_upd (o := .lst ((ts.take 1).map V.int)) np6
                refine ⟨p5, p6, _, _, rfl, rfl, u6 _ _ upd_same, upd_same, ?_, fun p7 np7 => ?_⟩
                · rw [List.length_map, List.length_map, List.length_drop, List.length_take]
                  exact Nat.le_of_lt (small1000 (by omega))
                rw [← List.map_append]
                have u7 := same_upd (o := .lst ((ts.drop 1 ++ ts.take 1).map V.int)) np7
                have u17 := (u15.trans u6).trans u7
                refine ⟨_, _, p4, p7, _, _, _, _, rfl, hB3.same u17, u7 _ _ (u6 _ _ (u5 _ _ upd_same)), upd_same, (hB3.ne ((u12.trans u3).free np4)).1, (hB3.ne ((u15.trans u6).free np7)).1, ?_, ?_⟩
                · rw [List.length_append, List.length_append, rep_len, List.length_take]
                  omega
                · rw [List.length_append, List.length_drop, List.length_take]
                  omega
              · exact ⟨_, _, L, A, _, _, xs, ts, rfl, hB2, off2 _ _ hLb hL, off2 _ _ hAb hA, hLb, hAb, by omega, by omega⟩
            · rintro σ' H' ⟨y0, y2, L, A, y5, y6, xs, ts, rfl, hB, hL, hA, hLb, hAb, hx, ht⟩
              -- handed
              refine ⟨.ref L, rfl, L, _, rfl, .inl (SqL.of hL), fun p1 np1 => ?_⟩
              have u1 := same_upd (o := .lst (xs.map V.int)) np1
              refine ⟨.ref A, rfl, A, _, rfl, .inl (SqL.of (u1 _ _ hA)), fun p2 np2 => ?_⟩
              have u2 := same_upd (o := .lst (ts.map V.int)) np2
              refine ⟨(show (2 : Nat) ≤ sizeLine by decide), fun p3 np3 => ?_⟩
              have u3 := same_upd (o := .tup [.ref p1, .ref p2]) np3
              have hh : SqT K (upd (upd (upd H' p1 (.lst (xs.map V.int))) p2 (.lst (ts.map V.int))) p3 (.tup [.ref p1, .ref p2])) p3 [.ref p1, .ref p2] := SqT.of upd_same
              have h1 : SqL K (upd (upd (upd H' p1 (.lst (xs.map V.int))) p2 (.lst (ts.map V.int))) p3 (.tup [.ref p1, .ref p2])) p1 (xs.map V.int) := SqL.of (u3 _ _ (u2 _ _ upd_same))
              have h2 : SqL K (upd (upd (upd H' p1 (.lst (xs.map V.int))) p2 (.lst (ts.map V.int))) p3 (.tup [.ref p1, .ref p2])) p2 (ts.map V.int) := SqL.of (u3 _ _ upd_same)
              have u := (u1.trans u2).trans u3
              have hB := hB.same u
              have hL := u _ _ hL
              have hA := u _ _ hA
              generalize upd (upd (upd H' p1 (.lst (xs.map V.int))) p2 (.lst (ts.map V.int))) p3 (.tup [.ref p1, .ref p2]) = H2 at hh h1 h2 hB hL hA ⊢
              -- told
              refine ⟨.ref p3, rfl, p3, _, 0, .ref p1, rfl, rfl, hh, atI_nat (j := 0) rfl, .ref p3, rfl, p3, _, 1, .ref p2, rfl, rfl, hh, atI_nat (j := 1) rfl, p1, p2, xs, ts, rfl, .inl h1, .inl h2, by omega, by omega, fun H3 t c1 d1 v1 hLR hRow => ?_⟩
              have hlr := hLR.len
              -- like(told, least((lead, again)))
              refine ⟨.ref t, rfl, .ref L, rfl, .ref A, rfl, (show (2 : Nat) ≤ sizeLine by decide), fun p4 np4 => ?_⟩
              have v2 := same_upd (o := .tup [.ref L, .ref A]) np4
              refine ⟨p4, L, A, xs, ts, rfl, SqT.of upd_same, SqL.of (v2 _ _ (v1 _ _ hL)), SqL.of (v2 _ _ (v1 _ _ hA)), by omega, by omega, fun H4 t' c2 d2 v3 hLR2 hRow2 => ?_⟩
              obtain ⟨ec, ed⟩ := hLR2.det hLR
              subst ec ed
              refine ⟨.ref t, .ref t', rfl, lk_row (hRow.same (v2.trans v3)) hRow2 (by omega) (by omega), fun H5 v4 => ⟨_, rfl, iteF ?_⟩⟩
              have v5 := ((v1.trans v2).trans v3).trans v4
              refine ⟨.ref p3, rfl, .ref L, rfl, .ref A, rfl, (show (2 : Nat) ≤ sizeLine by decide), fun p5 np5 => ?_⟩
              have v6 := same_upd (o := .tup [.ref L, .ref A]) np5
              have v7 := v5.trans v6
              have sh : SeqAt.shaped (.tuple [.list (xs.map PyData.int), .list (ts.map PyData.int)]) = true := by
                simp [SeqAt.shaped, PyData.canLay0, PyData.canLayAll0, PyData.depth, PyData.depthAll, canLay_ints, depth_ints]
              refine ⟨.tuple [.list (xs.map PyData.int), .list (ts.map PyData.int)], .tuple [.list (xs.map PyData.int), .list (ts.map PyData.int)], .tup (Same.tup v7 hh) (.cons (dpL (v7.seq h1)) (.cons (dpL (v7.seq h2)) .nil)), .tup (SqT.of upd_same) (.cons (dpL (SqL.of (v7 _ _ hL))) (.cons (dpL (SqL.of (v7 _ _ hA))) .nil)), sh, sh, ?_⟩
              have ee : PyData.eqv (.tuple [.list (xs.map PyData.int), .list (ts.map PyData.int)]) (.tuple [.list (xs.map PyData.int), .list (ts.map PyData.int)]) = true := by
                simp [PyData.eqv, PyData.eqvAll, eqv_ints]
              rw [ee]
              refine ⟨_, rfl, iteF ?_⟩
              -- like(least_row(told[0], told[1]), told)
              have hRow3 := hRow.same (((v2.trans v3).trans v4).trans v6)
              have hB := hB.same v7
              generalize upd H5 p5 (.tup [.ref L, .ref A]) = H6 at hRow3 hB ⊢
              obtain ⟨ta, tb, w1, w2, w3⟩ := id hRow3
              refine ⟨.ref t, rfl, t, _, 0, .ref ta, rfl, rfl, w1, atI_nat (j := 0) rfl, .ref t, rfl, t, _, 1, .ref tb, rfl, rfl, w1, atI_nat (j := 1) rfl, ta, tb, _, _, rfl, .inr w2, .inr w3, by omega, by omega, fun H7 t2 c3 d3 x1 hLR3 hRow4 => ?_⟩
              obtain ⟨ec, ed⟩ := hLR3.det hLR.idem
              subst ec ed
              refine ⟨.ref t, rfl, .ref t2, .ref t, rfl, lk_row hRow4 (hRow3.same x1) (by omega) (by omega), fun H8 x2 => ⟨_, rfl, iteF ?_⟩⟩
              exact ⟨_, _, _, _, _, _, rfl, (hB.same x1).same x2⟩
    · rintro σ H' ⟨y0, y2, y3, y4, y5, y6, rfl, hB⟩
      refine ⟨Nat.zero_le _, fun a1 n1 => ⟨Nat.zero_le _, fun a2 n2 => ?_⟩⟩
      refine ⟨a1, a2, [], [], rfl, .inl (SqL.of (same_upd n2 _ _ upd_same)), .inl (SqL.of upd_same), by decide, by decide, fun H2 p1 c1 d1 _ hLR1 hR1 => ?_⟩
      obtain ⟨rfl, rfl⟩ := hLR1.det (show LR [] [] [] [] from .inl ⟨rfl, rfl, rfl⟩)
      refine ⟨(show (1 : Nat) ≤ sizeLine by decide), fun a3 n3 => ⟨(show (2 : Nat) ≤ sizeLine by decide), fun a4 n4 => ?_⟩⟩
      have z1 := (same_upd (o := .lst [V.int 1]) n3).trans (same_upd (o := .lst [V.int 1, V.int 1]) n4)
      refine ⟨a3, a4, [1], [1, 1], rfl, .inl (SqL.of (same_upd n4 _ _ upd_same)), .inl (SqL.of upd_same), by decide, by decide, fun H3 p2 c2 d2 z2 hLR2 hR2 => ?_⟩
      obtain ⟨rfl, rfl⟩ := hLR2.det LR_one
      refine ⟨(show (4 : Nat) ≤ sizeLine by decide), fun fl nfl => ?_⟩
      have z3 := same_upd (o := .lst [.ref p1, .ref p2, .int 400, .int 12]) nfl
      refine ⟨.ref fl, rfl, Nat.zero_le _, fun e1 m1 => ⟨Nat.zero_le _, fun e2 m2 => ⟨(show (2 : Nat) ≤ sizeLine by decide), fun e3 m3 => ⟨Nat.zero_le _, fun e4 m4 => ⟨(show (1 : Nat) ≤ sizeLine by decide), fun e5 m5 => ⟨(show (2 : Nat) ≤ sizeLine by decide), fun e6 m6 => ⟨(show (4 : Nat) ≤ sizeLine by decide), fun e7 m7 => ?_⟩⟩⟩⟩⟩⟩⟩
      have w1 := same_upd (o := .tup []) m1
      have w2 := same_upd (o := .tup []) m2
      have w3 := same_upd (o := .tup [.ref e1, .ref e2]) m3
      have w4 := same_upd (o := .tup []) m4
      have w5 := same_upd (o := .tup [.int 1]) m5
      have w6 := same_upd (o := .tup [.ref e4, .ref e5]) m6
      have w7 := same_upd (o := .lst [.ref e3, .ref e6, .int 400, .int 12]) m7
      have k7 := w7
      have k6 := w6.trans k7
      have k5 := w5.trans k6
      have k4 := w4.trans k5
      have k3 := w3.trans k4
      have k2 := w2.trans k3
      have k1 := w1.trans k2
      refine ⟨.ref fl, .ref e7, rfl, .inr ⟨fl, e7, _, _, rfl, rfl, .inl ⟨SqL.of (k1 _ _ upd_same), SqL.of upd_same⟩, rfl, (show (4 : Nat) ≤ 1000 by decide), fun i x y hx hy => ?_⟩, fun H' _ => q _⟩
      match i, hx, hy with
      | 0, hx, hy =>
        obtain rfl := Option.some.inj hx
        obtain rfl := Option.some.inj hy
        exact lk_row (hR1.same (((z1.trans z2).trans z3).trans k1)) ⟨e1, e2, SqT.of (k4 _ _ upd_same), SqT.of (k2 _ _ upd_same), SqT.of (k3 _ _ upd_same)⟩ (by decide) (by decide)
      | 1, hx, hy =>
        obtain rfl := Option.some.inj hx
        obtain rfl := Option.some.inj hy
        exact lk_row (hR2.same (z3.trans k1)) ⟨e4, e5, SqT.of (k7 _ _ upd_same), SqT.of (k5 _ _ upd_same), SqT.of (k6 _ _ upd_same)⟩ (by decide) (by decide)
      | 2, hx, hy =>
        obtain rfl := Option.some.inj hx
        obtain rfl := Option.some.inj hy
        exact lk_int 400
      | 3, hx, hy =>
        obtain rfl := Option.some.inj hx
        obtain rfl := Option.some.inj hy
        exact lk_int 12
      | j + 4, hx, hy => cases hx
end
/-! ### what the top has written; the end -/
theorem all_mk {l : PySem.W.OpenLaw} {w : World} {K : PySem.W.Frag} {h : Heap} {mg : Str → Option Value} {fa : Addr} (X : K.In h) (G : h.Ns mainGlobals mg) (hfa : mg "law" = some (.ref fa))
    {fR : Addr} {odR anR : Option Addr} {slR : Array (Option Value)} {ocR kVR dcR pmR cdR ctR : Value}
    (aR : PySem.W.nsIn K mainGlobals "least_row" = some (some (.ref fR))) (lR : K.lookup fR = some ⟨ocR, odR, .func (PySem.W.fnOf "least_row" "least_row" (defArgs sLR) (defBody sLR) (defScope sLR) .none kVR dcR pmR anR cdR ctR), slR⟩) (cR : PySem.W.codeIn K cdR "least_row" = true) (kR : PySem.W.keepIn K (.ref fR) = true)
    {fS : Addr} {odS anS : Option Addr} {slS : Array (Option Value)} {ocS kVS dcS pmS cdS ctS : Value}
    (aS : PySem.W.nsIn K mainGlobals "shortest_round" = some (some (.ref fS))) (lS : K.lookup fS = some ⟨ocS, odS, .func (PySem.W.fnOf "shortest_round" "shortest_round" (defArgs sShort) (defBody sShort) (defScope sShort) .none kVS dcS pmS anS cdS ctS), slS⟩) (cS : PySem.W.codeIn K cdS "shortest_round" = true) (kS : PySem.W.keepIn K (.ref fS) = true)
    {fE : Addr} {odE anE : Option Addr} {slE : Array (Option Value)} {ocE kVE dcE pmE cdE ctE : Value}
    (aE : PySem.W.nsIn K mainGlobals "repeats" = some (some (.ref fE))) (lE : K.lookup fE = some ⟨ocE, odE, .func (PySem.W.fnOf "repeats" "repeats" (defArgs sReps) (defBody sReps) (defScope sReps) .none kVE dcE pmE anE cdE ctE), slE⟩) (cE : PySem.W.codeIn K cdE "repeats" = true) (kE : PySem.W.keepIn K (.ref fE) = true)
    {fN : Addr} {odN anN : Option Addr} {slN : Array (Option Value)} {ocN kVN dcN pmN cdN ctN : Value}
    (aN : PySem.W.nsIn K mainGlobals "spare_notes" = some (some (.ref fN))) (lN : K.lookup fN = some ⟨ocN, odN, .func (PySem.W.fnOf "spare_notes" "spare_notes" (defArgs sSpare) (defBody sSpare) (defScope sSpare) .none kVN dcN pmN anN cdN ctN), slN⟩) (cN : PySem.W.codeIn K cdN "spare_notes" = true) (kN : PySem.W.keepIn K (.ref fN) = true)
    {fB : Addr} {odB anB : Option Addr} {slB : Array (Option Value)} {ocB kVB dcB pmB cdB ctB : Value}
    (aB : PySem.W.nsIn K mainGlobals "_law_bag" = some (some (.ref fB))) (lB : K.lookup fB = some ⟨ocB, odB, .func (PySem.W.fnOf "_law_bag" "_law_bag" (defArgs sBag) (defBody sBag) (defScope sBag) .none kVB dcB pmB anB cdB ctB), slB⟩) (cB : PySem.W.codeIn K cdB "_law_bag" = true) (kB : PySem.W.keepIn K (.ref fB) = true)
    {fP : Addr} {odP anP : Option Addr} {slP : Array (Option Value)} {ocP kVP dcP pmP cdP ctP : Value}
    (aP : PySem.W.nsIn K mainGlobals "_law_pull" = some (some (.ref fP))) (lP : K.lookup fP = some ⟨ocP, odP, .func (PySem.W.fnOf "_law_pull" "_law_pull" (defArgs sPull) (defBody sPull) (defScope sPull) .none kVP dcP pmP anP cdP ctP), slP⟩) (cP : PySem.W.codeIn K cdP "_law_pull" = true) (kP : PySem.W.keepIn K (.ref fP) = true)
    {fO : Addr} {odO anO : Option Addr} {slO : Array (Option Value)} {ocO kVO dcO pmO cdO ctO : Value}
    (aO : PySem.W.nsIn K mainGlobals "_law_of" = some (some (.ref fO))) (lO : K.lookup fO = some ⟨ocO, odO, .func (PySem.W.fnOf "_law_of" "_law_of" (defArgs sOf) (defBody sOf) (defScope sOf) .none kVO dcO pmO anO cdO ctO), slO⟩) (cO : PySem.W.codeIn K cdO "_law_of" = true) (kO : PySem.W.keepIn K (.ref fO) = true)
    {fK : Addr} {odK anK : Option Addr} {slK : Array (Option Value)} {ocK kVK dcK pmK cdK ctK : Value}
    (aK : PySem.W.nsIn K mainGlobals "_law_like" = some (some (.ref fK))) (lK : K.lookup fK = some ⟨ocK, odK, .func (PySem.W.fnOf "_law_like" "_law_like" (defArgs sLike) (defBody sLike) (defScope sLike) .none kVK dcK pmK anK cdK ctK), slK⟩) (cK : PySem.W.codeIn K cdK "_law_like" = true) (kK : PySem.W.keepIn K (.ref fK) = true)
    {fD : Addr} {odD anD : Option Addr} {slD : Array (Option Value)} {ocD kVD dcD pmD cdD ctD : Value}
    (aD : PySem.W.nsIn K mainGlobals "_law_seen" = some (some (.ref fD))) (lD : K.lookup fD = some ⟨ocD, odD, .func (PySem.W.fnOf "_law_seen" "_law_seen" (defArgs sSeen) (defBody sSeen) (defScope sSeen) .none kVD dcD pmD anD cdD ctD), slD⟩) (cD : PySem.W.codeIn K cdD "_law_seen" = true) (kD : PySem.W.keepIn K (.ref fD) = true)
    {fL : Addr} {odL anL : Option Addr} {slL : Array (Option Value)} {ocL kVL dcL pmL cdL ctL : Value}
    (aL : PySem.W.nsIn K mainGlobals "_law_least" = some (some (.ref fL))) (lL : K.lookup fL = some ⟨ocL, odL, .func (PySem.W.fnOf "_law_least" "_law_least" (defArgs sLst) (defBody sLst) (defScope sLst) .none kVL dcL pmL anL cdL ctL), slL⟩) (cL : PySem.W.codeIn K cdL "_law_least" = true) (kL : PySem.W.keepIn K (.ref fL) = true)
    {fW : Addr} {odW anW : Option Addr} {slW : Array (Option Value)} {ocW kVW dcW pmW cdW ctW : Value}
    (aW : PySem.W.nsIn K mainGlobals "law" = some (some (.ref fW))) (lW : K.lookup fW = some ⟨ocW, odW, .func (PySem.W.fnOf "law" "law" (defArgs sLaw) (defBody sLaw) (defScope sLaw) .none kVW dcW pmW anW cdW ctW), slW⟩) (cW : PySem.W.codeIn K cdW "law" = true) (kW : PySem.W.keepIn K (.ref fW) = true)
    (z_len : PySem.W.nsIn K mainGlobals "len" = some none)
    (z_list : PySem.W.nsIn K mainGlobals "list" = some none)
    (z_tuple : PySem.W.nsIn K mainGlobals "tuple" = some none)
    (z_range : PySem.W.nsIn K mainGlobals "range" = some none)
    (z_min : PySem.W.nsIn K mainGlobals "min" = some none)
    (z_isinstance : PySem.W.nsIn K mainGlobals "isinstance" = some none)
    (z_all : PySem.W.nsIn K mainGlobals "all" = some none)
    (z_bool : PySem.W.nsIn K mainGlobals "bool" = some none)
    (z_int : PySem.W.nsIn K mainGlobals "int" = some none)
    (z_str : PySem.W.nsIn K mainGlobals "str" = some none)
    {tkX : Tok} (vX : PySem.W.nsIn K mainGlobals "MOST_LEAD" = some (some (.int 400 tkX)))
    {tkY : Tok} (vY : PySem.W.nsIn K mainGlobals "MOST_ROUND" = some (some (.int 12 tkY))) :
    ∃ fd : FuncData, (∀ (s : Shared) (v : Value), BindsTo s fd ⟨[v], []⟩ [("_law_script", v)]) ∧ ∀ base : Heap, K.In base → base.Ns mainGlobals mg → FnOk l.prog w K mg base CX0 6 fa fd ["_law_script"] (spLaw K) := by
  have e := hfa.symm.trans (PySem.W.mg_of X G aW)
  cases e
  have FR := fun_mk (st := sLR) lR cR kR
  have gR := PySem.W.mg_of X G aR
  have bR := FR.binds (ps := ["lead", "turn"]) fun _ _ _ _ _ _ us hl => match us, hl with | [_, _], _ => rfl
  have FS := fun_mk (st := sShort) lS cS kS
  have gS := PySem.W.mg_of X G aS
  have bS := FS.binds (ps := ["turn"]) fun _ _ _ _ _ _ us hl => match us, hl with | [_], _ => rfl
  have FE := fun_mk (st := sReps) lE cE kE
  have gE := PySem.W.mg_of X G aE
  have bE := FE.binds (ps := ["turn", "size"]) fun _ _ _ _ _ _ us hl => match us, hl with | [_, _], _ => rfl
  have FN := fun_mk (st := sSpare) lN cN kN
  have gN := PySem.W.mg_of X G aN
  have bN := FN.binds (ps := ["lead", "turn"]) fun _ _ _ _ _ _ us hl => match us, hl with | [_, _], _ => rfl
  have FB := fun_mk (st := sBag) lB cB kB
  have gB := PySem.W.mg_of X G aB
  have bB := FB.binds (ps := ["_law_script"]) fun _ _ _ _ _ _ us hl => match us, hl with | [_], _ => rfl
  have FP := fun_mk (st := sPull) lP cP kP
  have gP := PySem.W.mg_of X G aP
  have bP := FP.binds (ps := ["_law_bag_here", "_law_size"]) fun _ _ _ _ _ _ us hl => match us, hl with | [_, _], _ => rfl
  have FO := fun_mk (st := sOf) lO cO kO
  have gO := PySem.W.mg_of X G aO
  have bO := FO.binds (ps := ["_law_bag_here", "_law_things"]) fun _ _ _ _ _ _ us hl => match us, hl with | [_, _], _ => rfl
  have FK := fun_mk (st := sLike) lK cK kK
  have gK := PySem.W.mg_of X G aK
  have bK := FK.binds (ps := ["_law_one", "_law_due"]) fun _ _ _ _ _ _ us hl => match us, hl with | [_, _], _ => rfl
  have FD := fun_mk (st := sSeen) lD cD kD
  have gD := PySem.W.mg_of X G aD
  have bD := FD.binds (ps := ["_law_row", "_law_depth"]) fun _ _ _ _ _ _ us hl => match us, hl with | [_, _], _ => rfl
  have FL := fun_mk (st := sLst) lL cL kL
  have gL := PySem.W.mg_of X G aL
  have bL := FL.binds (ps := ["_law_row"]) fun _ _ _ _ _ _ us hl => match us, hl with | [_], _ => rfl
  have FW := fun_mk (st := sLaw) lW cW kW
  have gW := PySem.W.mg_of X G aW
  have m_len := PySem.W.mg_none_of X G z_len
  have m_list := PySem.W.mg_none_of X G z_list
  have m_tuple := PySem.W.mg_none_of X G z_tuple
  have m_range := PySem.W.mg_none_of X G z_range
  have m_min := PySem.W.mg_none_of X G z_min
  have m_isinstance := PySem.W.mg_none_of X G z_isinstance
  have m_all := PySem.W.mg_none_of X G z_all
  have m_bool := PySem.W.mg_none_of X G z_bool
  have m_int := PySem.W.mg_none_of X G z_int
  have m_str := PySem.W.mg_none_of X G z_str
  have wX := PySem.W.mg_of X G vX
  have wY := PySem.W.mg_of X G vY
  refine ⟨PySem.W.fnOf "law" "law" (defArgs sLaw) (defBody sLaw) (defScope sLaw) .none kVW dcW pmW anW cdW ctW, fun s v => .of_eq rfl, fun base _ _ => ?_⟩
  have GS : FnOk l.prog w K mg base CX0 4 fS _ ["turn"] (spShort K) := ok_short (k := 2) FS m_len m_range m_min FE bE gE
  have M : LkG mg := ⟨m_isinstance, m_tuple, m_list, m_len, m_all, m_range, m_bool, m_int, m_str⟩
  exact ok_law FW FB bB gB (ok_bag FB m_len m_list) FP bP gP (ok_pull FP m_len) FO bO gO (ok_of (k := 3) FO m_len FP bP gP) FR bR gR (ok_LR (k := 2) FR m_len m_tuple FS bS gS FN bN gN GS)
    FL bL gL (ok_lst (k := 3) FL m_len m_tuple m_range FD bD gD) FK bK gK (ok_like FK bK gK M 5) m_range m_list wX wY
end TB
open PySem PySem.W PyProof.Rows
set_option maxHeartbeats 0 in
theorem PySem.Challenge.cw_tearboard_k09_rows_with_the_shortest_rou_holds : PySem.Challenge.rw_tearboard_k09_rows_with_the_shortest_rou.Holds := by
  w_on; o_law; k_head; (case hw => w_witness2)
  k_fill
  refine L2.walk_of (l := PySem.Challenge.rw_tearboard_k09_rows_with_the_shortest_rou) (n := 63) (k := 6) (x := "_law_script") (CX := fun _ => L2.CX0) (sp := fun w => TB.spLaw _) rfl (by decide) rfl ⟨rfl, by decide, by decide⟩ (fun w h Y => PySem.W.kIn_of Y) ?F (fun _ _ a ns hl _ hS => ⟨a, ns, rfl, hS, hl, fun _ => rfl⟩) (fun _ _ _ _ _ h => h)
  case F =>
    intro w mg fa h KX G hmg
    refine' TB.all_mk KX G hmg ?aR ?lR ?cR ?kR ?aS ?lS ?cS ?kS ?aE ?lE ?cE ?kE ?aN ?lN ?cN ?kN ?aB ?lB ?cB ?kB ?aP ?lP ?cP ?kP ?aO ?lO ?cO ?kO ?aK ?lK ?cK ?kK ?aD ?lD ?cD ?kD ?aL ?lL ?cL ?kL ?aW ?lW ?cW ?kW ?z_len ?z_list ?z_tuple ?z_range ?z_min ?z_isinstance ?z_all ?z_bool ?z_int ?z_str ?vX ?vY
    (case aR => k_is); (case lR => k_is); (case cR => k_is); (case kR => k_is); (case aS => k_is); (case lS => k_is); (case cS => k_is); (case kS => k_is)
    (case aE => k_is); (case lE => k_is); (case cE => k_is); (case kE => k_is); (case aN => k_is); (case lN => k_is); (case cN => k_is); (case kN => k_is)
    (case aB => k_is); (case lB => k_is); (case cB => k_is); (case kB => k_is); (case aP => k_is); (case lP => k_is); (case cP => k_is); (case kP => k_is)
    (case aO => k_is); (case lO => k_is); (case cO => k_is); (case kO => k_is); (case aK => k_is); (case lK => k_is); (case cK => k_is); (case kK => k_is)
    (case aD => k_is); (case lD => k_is); (case cD => k_is); (case kD => k_is); (case aL => k_is); (case lL => k_is); (case cL => k_is); (case kL => k_is)
    (case aW => k_is); (case lW => k_is); (case cW => k_is); (case kW => k_is); (case z_len => k_is); (case z_list => k_is); (case z_tuple => k_is); (case z_range => k_is)
    (case z_min => k_is); (case z_isinstance => k_is); (case z_all => k_is); (case z_bool => k_is); (case z_int => k_is); (case z_str => k_is); (case vX => k_is); (case vY => k_is)
