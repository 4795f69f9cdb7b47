import PyProof.Rows.All
import Wide.All
import OpenK.AllK
import Wide.FinOn
import HandS.ForMost
import HandS.IsInst
import HandS.TupAny
import HandS.TupMul
import HandS.Wide
import HandS.Codes
import HandS.DictComp
import HandS.Walk
import HandS.Zip
import HandS.Deep
import HandS.MakeKwOnly
import HandS.SortRule
import HandS.SortInts
import HandS.TupSets
import HandS.CallRecv
import KE.GoesMore
import PySem.Challenge.RW_tearboard_k06_sets_of_figures_apart
set_option Elab.async false
set_option linter.all false
set_option maxRecDepth 100000
set_option maxHeartbeats 4000000
namespace TB
open PySem PySem.Spec PyProof.Rows L2
def topS (i : Nat) : Stmt := PySem.Challenge.pw_tearboard_k06_sets_of_figures_apart.main.body.getD i (.Pass ⟨0, 0, 0, 0⟩)
/-! heaps -/
theorem same_upd {H : Hp} {p : Addr} {o : HO} (h : H p = none) : Same H (upd H p o) := fun b x e => by
  rw [upd_ne (ne_of_none e h)]
  exact e
/-- all that was tracked is as it was, but at b -/
def Off (b : Addr) (H H' : Hp) : Prop := ∀ a o, a ≠ b → H a = some o → H' a = some o
theorem Off.refl {b : Addr} {H : Hp} : Off b H H := fun _ _ _ h => h
theorem Off.trans {b : Addr} {H H1 H2 : Hp} (x : Off b H H1) (y : Off b H1 H2) : Off b H H2 := fun a o n h => y a o n (x a o n h)
theorem Off.same {b : Addr} {H H' : Hp} (x : Same H H') : Off b H H' := fun a o _ h => x a o h
theorem Off.upd {b : Addr} {H : Hp} {o : HO} : Off b H (upd H b o) := fun a x n h => by
  rw [upd_ne n]
  exact h
theorem Off.seqL {K : PySem.W.Frag} {b : Addr} {H H' : Hp} {a : Addr} {xs : List V} (x : Off b H H') (n : a ≠ b) (h : H a = some (.lst xs)) : H' a = some (.lst xs) := x a _ n h
/-- the bag of drawn numbers -/
structure Bag (H : Hp) (b c : Addr) : Prop where
  ex : ∃ (cells : List Int) (at' rest seed : Int), H b = some (.lst [.ref c, .int at', .int rest, .int seed]) ∧ H c = some (.lst (cells.map V.int)) ∧ 0 ≤ at' ∧ 0 ≤ rest ∧ 0 ≤ seed ∧ seed < 1000000000000 ∧ c ≠ b
theorem Bag.same {H H' : Hp} {b c : Addr} (h : Bag H b c) (x : Same H H') : Bag H' b c := by
  obtain ⟨cells, a, r, s, h1, h2, h3⟩ := h.ex
  exact ⟨cells, a, r, s, x _ _ h1, x _ _ h2, h3⟩
theorem Bag.ne {H : Hp} {b c p : Addr} (h : Bag H b c) (n : H p = none) : p ≠ b ∧ p ≠ c := by
  obtain ⟨cells, a, r, s, h1, h2, h3⟩ := h.ex
  exact ⟨(ne_of_none h1 n).symm, (ne_of_none h2 n).symm⟩
theorem Bag.upd {H : Hp} {b c p : Addr} {o : HO} (h : Bag H b c) (n : p ≠ b ∧ p ≠ c) : Bag (upd H p o) b c := by
  obtain ⟨cells, a, r, s, h1, h2, h3⟩ := h.ex
  refine ⟨cells, a, r, s, ?_, ?_, h3⟩
  · rw [upd_ne n.1.symm]
    exact h1
  · rw [upd_ne n.2.symm]
    exact h2
/-! ### _law_pull -/
abbrev sPull : Stmt := topS 30
theorem scPull : FnScope ["_law_bag_here", "_law_size", "_law_got", "_law_cell"] ["_law_bag_here", "_law_size"] (defScope sPull) := ⟨rfl, rfl, rfl, by decide +kernel, rfl, by decide +kernel, by decide +kernel⟩
def spPull : Sp := fun vs H Q _ => ∃ (b c : Addr) (size : Int), vs = [.ref b, .int size] ∧ Bag H b c ∧ 0 < size ∧ size.natAbs < 2 ^ 200 ∧
  ∀ H' r, Off b H H' → Bag H' b c → 0 ≤ r → r < size → Q (.int r) H'
section
variable {P : Program} {w : World} {K : PySem.W.Frag} {mg : Str → Option Value} {base : Heap}
theorem ok_pull {f : Addr} {fd : FuncData} {k : Nat} (F : Fun K "_law_pull" "_law_pull" sPull f fd) (ml : mg "len" = none) : FnOk P w K mg base CX0 (k + 1) f fd ["_law_bag_here", "_law_size"] spPull := by
  refine F.ok scPull (fun vs H Q E h => ?_) (fun cdv A outer s H vs Q E hr h => ?_)
  · obtain ⟨b, c, size, rfl, _⟩ := h
    rfl
  · obtain ⟨b, c, size, rfl, ⟨cells, at', rest, seed, hb, hc, ha, hr0, hs0, hs1, hcb⟩, hz, hzb, q⟩ := h
    refine ⟨_, pss_cons (ps_if (pt_cmpR op_ge (pe_ix ix_list (pv 0) pe_int (fun _ _ => rfl)) (pv 1) (nomark _))
        (pss_cons (ps_set (i := 2) scPull.nd rfl (.inl rfl) (pe_op op_mod (pe_ix ix_list (pv 0) pe_int (fun _ _ => rfl)) (pv 1)))
        (pss_cons (ps_asg (pe_op op_fdivW (pe_ix ix_list (pv 0) pe_int (fun _ _ => rfl)) (pv 1)) (pg_sub (pv 0) pe_int set_list))
        (pss_one (ps_ret (pv 2))))) pss_nil)
      (pss_cons (ps_set (i := 3) scPull.nd rfl (.inl rfl) pe_int)
      (pss_cons (ps_if (pt_cmpR op_lt (pe_ix ix_list (pv 0) pe_int (fun _ _ => rfl)) (pe_callB call_len_seq (by rfl) ml PySem.boot_len (pa_cons (pe_ix ix_list (pv 0) pe_int (fun _ _ => rfl)) pa_nil)) (nomark _))
        (pss_one (ps_set (i := 3) scPull.nd rfl (.inl rfl) (pe_ix ix_list (pe_ix ix_list (pv 0) pe_int (fun _ _ => rfl)) (pe_ix ix_list (pv 0) pe_int (fun _ _ => rfl)) (fun _ _ => rfl)))) pss_nil)
      (pss_cons (ps_asg (pe_op op_add (pe_ix ix_list (pv 0) pe_int (fun _ _ => rfl)) pe_int) (pg_sub (pv 0) pe_int set_list))
      (pss_cons (ps_if (pt_cmpR op_ge (pv 3) (pe_op op_pow pe_int pe_int) (nomark _))
        (pss_cons (ps_asg (pe_op op_fdivW (pv 3) (pv 1)) (pg_sub (pv 0) pe_int set_list))
        (pss_one (ps_ret (pe_op op_mod (pv 3) (pv 1))))) pss_nil)
      (pss_cons (ps_asg (pe_op op_mod (pe_op op_add (pe_op op_add (pe_op op_add (pe_op op_pow (pe_ix ix_list (pv 0) pe_int (fun _ _ => rfl)) pe_int) (pe_op op_mul pe_int (pe_ix ix_list (pv 0) pe_int (fun _ _ => rfl)))) (pe_op op_mod (pv 3) pe_int)) pe_int) pe_int) (pg_sub (pv 0) pe_int set_list))
      (pss_one (ps_ret (pe_op op_mod (pe_op op_add (pe_op op_fdivW (pe_ix ix_list (pv 0) pe_int (fun _ _ => rfl)) pe_int) (pv 3)) (pv 1))))))))), ?_⟩
    have hd : CDivW rest size := wide_div (b := 200) hz hzb (by decide) (by decide)
    -- if bag[2] >= size
    refine ⟨.ref b, rfl, b, _, 2, .int rest, rfl, rfl, .inl (.inl hb), atI_nat (j := 2) rfl, .int size, rfl, _, _, rfl, rfl, _, rfl, ite2 (fun e => ?_) (fun e => ?_)⟩
    · refine ⟨.ref b, rfl, b, _, 2, .int rest, rfl, rfl, .inl (.inl hb), atI_nat (j := 2) rfl, .int size, rfl, _, _, rfl, rfl, hz, ?_⟩
      refine ⟨.ref b, rfl, b, _, 2, .int rest, rfl, rfl, .inl (.inl hb), atI_nat (j := 2) rfl, .int size, rfl, _, _, rfl, rfl, hd, ?_⟩
      refine ⟨.ref b, rfl, b, _, 2, 2, rfl, rfl, hb, rfl, ?_⟩
      refine ⟨.int (rest % size), rfl, q _ _ Off.upd ⟨cells, at', rest / size, seed, upd_same, ?_, ha, Int.ediv_nonneg hr0 (by omega), hs0, hs1, hcb⟩ (Int.emod_nonneg _ (by omega)) (Int.emod_lt_of_pos _ hz)⟩
      rw [upd_ne hcb]
      exact hc
    · -- cell = 0; if bag[1] < len(bag[0])
      obtain ⟨j, rfl⟩ := Int.eq_ofNat_of_zero_le ha
      refine ⟨.ref b, rfl, b, _, 1, .int (j : Nat), rfl, rfl, .inl (.inl hb), atI_nat (j := 1) rfl, .ref b, rfl, b, _, 0, .ref c, rfl, rfl, .inl (.inl hb), atI_nat (j := 0) rfl, c, _, rfl, .inl (.inl (.inl hc)), _, _, rfl, rfl, _, rfl, ite2 (fun e2 => ?_) (fun e2 => ?_)⟩
      · have hl := of_decide_eq_true e2
        rw [List.length_map] at hl
        have hj : j < cells.length := by omega
        refine ⟨.ref b, rfl, b, _, 0, .ref c, rfl, rfl, .inl (.inl hb), atI_nat (j := 0) rfl, .ref b, rfl, b, _, 1, .int (j : Nat), rfl, rfl, .inl (.inl hb), atI_nat (j := 1) rfl, c, _, _, .int cells[j], rfl, rfl, .inl (.inl hc), atI_nat (j := j) (by rw [List.getElem?_map, List.getElem?_eq_getElem hj]; rfl), ?_⟩
        obtain ⟨cell, hcell⟩ : ∃ cell : Int, cell = cells[j] := ⟨_, rfl⟩
        rw [← hcell]
        -- bag[1] = bag[1] + 1
        refine ⟨.ref b, rfl, b, _, 1, .int (j : Nat), rfl, rfl, .inl (.inl hb), atI_nat (j := 1) rfl, _, _, rfl, rfl, ?_⟩
        refine ⟨.ref b, rfl, b, _, 1, 1, rfl, rfl, hb, rfl, ?_⟩
        have hb1 : (upd H b (.lst [.ref c, .int ((j : Int) + 1), .int rest, .int seed])) b = some (.lst [.ref c, .int ((j : Int) + 1), .int rest, .int seed]) := upd_same
        have hc1 : (upd H b (.lst [.ref c, .int ((j : Int) + 1), .int rest, .int seed])) c = some (.lst (cells.map V.int)) := by
          rw [upd_ne hcb]
          exact hc
        -- if cell >= 10 ** 18
        refine ⟨.int cell, rfl, 10, 18, rfl, rfl, ⟨by decide, by decide, by decide⟩, _, _, rfl, rfl, _, rfl, ite2 (fun e3 => ?_) (fun e3 => ?_)⟩
        · have h18 : (10 : Int) ^ (18 : Int).toNat ≤ cell := of_decide_eq_true e3
          have h0 : (0 : Int) ≤ 10 ^ (18 : Int).toNat := by decide
          refine ⟨.int cell, rfl, .int size, rfl, _, _, rfl, rfl, wide_div (b := 200) hz hzb (by decide) (by decide), ?_⟩
          refine ⟨.ref b, rfl, b, _, 2, 2, rfl, rfl, hb1, rfl, ?_⟩
          refine ⟨.int cell, rfl, .int size, rfl, _, _, rfl, rfl, hz, ?_⟩
          refine q _ _ (Off.upd.trans Off.upd) ⟨cells, (j : Int) + 1, cell / size, seed, upd_same, ?_, by omega, Int.ediv_nonneg (by omega) (by omega), hs0, hs1, hcb⟩ (Int.emod_nonneg _ (by omega)) (Int.emod_lt_of_pos _ hz)
          rw [upd_ne hcb]
          exact hc1
        · -- bag[3] = (bag[3] ** 5 + 69069 * bag[1] + cell % 1000003 + 7) % 2147483629
          have hp : CPow seed 5 := ⟨by decide, by decide, by omega⟩
          refine ⟨.ref b, rfl, b, _, 3, .int seed, rfl, rfl, .inl (.inl hb1), atI_nat (j := 3) rfl, _, _, rfl, rfl, hp, ?_⟩
          refine ⟨.ref b, rfl, b, _, 1, .int ((j : Int) + 1), rfl, rfl, .inl (.inl hb1), atI_nat (j := 1) rfl, _, _, rfl, rfl, .inl ⟨by decide, by decide⟩, _, _, rfl, rfl, ?_⟩
          refine ⟨.int cell, rfl, _, _, rfl, rfl, (show (0 : Int) < 1000003 by decide), _, _, rfl, rfl, _, _, rfl, rfl, _, _, rfl, rfl, (show (0 : Int) < 2147483629 by decide), ?_⟩
          refine ⟨.ref b, rfl, b, _, 3, 3, rfl, rfl, hb1, rfl, ?_⟩
          refine ⟨.ref b, rfl, b, _, 3, _, rfl, rfl, .inl (.inl upd_same), atI_nat (j := 3) rfl, _, _, rfl, rfl, wide_div (b := 200) (by decide) (by decide) (by decide) (by decide), .int cell, rfl, _, _, rfl, rfl, .int size, rfl, _, _, rfl, rfl, hz, ?_⟩
          refine q _ _ (Off.upd.trans Off.upd) ⟨cells, (j : Int) + 1, rest, _, upd_same, ?_, by omega, hr0, Int.emod_nonneg _ (by decide), Int.lt_trans (Int.emod_lt_of_pos _ (by decide)) (by decide), hcb⟩ (Int.emod_nonneg _ (by omega)) (Int.emod_lt_of_pos _ hz)
          rw [upd_ne hcb]
          exact hc1
      · obtain ⟨cell, hcell⟩ : ∃ cell : Int, cell = 0 := ⟨_, rfl⟩
        rw [show (V.int 0) = V.int cell by rw [hcell]]
        -- bag[1] = bag[1] + 1
        refine ⟨.ref b, rfl, b, _, 1, .int (j : Nat), rfl, rfl, .inl (.inl hb), atI_nat (j := 1) rfl, _, _, rfl, rfl, ?_⟩
        refine ⟨.ref b, rfl, b, _, 1, 1, rfl, rfl, hb, rfl, ?_⟩
        have hb1 : (upd H b (.lst [.ref c, .int ((j : Int) + 1), .int rest, .int seed])) b = some (.lst [.ref c, .int ((j : Int) + 1), .int rest, .int seed]) := upd_same
        have hc1 : (upd H b (.lst [.ref c, .int ((j : Int) + 1), .int rest, .int seed])) c = some (.lst (cells.map V.int)) := by
          rw [upd_ne hcb]
          exact hc
        -- if cell >= 10 ** 18
        refine ⟨.int cell, rfl, 10, 18, rfl, rfl, ⟨by decide, by decide, by decide⟩, _, _, rfl, rfl, _, rfl, ite2 (fun e3 => ?_) (fun e3 => ?_)⟩
        · have h18 : (10 : Int) ^ (18 : Int).toNat ≤ cell := of_decide_eq_true e3
          have h0 : (0 : Int) ≤ 10 ^ (18 : Int).toNat := by decide
          refine ⟨.int cell, rfl, .int size, rfl, _, _, rfl, rfl, wide_div (b := 200) hz hzb (by decide) (by decide), ?_⟩
          refine ⟨.ref b, rfl, b, _, 2, 2, rfl, rfl, hb1, rfl, ?_⟩
          refine ⟨.int cell, rfl, .int size, rfl, _, _, rfl, rfl, hz, ?_⟩
          refine q _ _ (Off.upd.trans Off.upd) ⟨cells, (j : Int) + 1, cell / size, seed, upd_same, ?_, by omega, Int.ediv_nonneg (by omega) (by omega), hs0, hs1, hcb⟩ (Int.emod_nonneg _ (by omega)) (Int.emod_lt_of_pos _ hz)
          rw [upd_ne hcb]
          exact hc1
        · -- bag[3] = (bag[3] ** 5 + 69069 * bag[1] + cell % 1000003 + 7) % 2147483629
          have hp : CPow seed 5 := ⟨by decide, by decide, by omega⟩
          refine ⟨.ref b, rfl, b, _, 3, .int seed, rfl, rfl, .inl (.inl hb1), atI_nat (j := 3) rfl, _, _, rfl, rfl, hp, ?_⟩
          refine ⟨.ref b, rfl, b, _, 1, .int ((j : Int) + 1), rfl, rfl, .inl (.inl hb1), atI_nat (j := 1) rfl, _, _, rfl, rfl, .inl ⟨by decide, by decide⟩, _, _, rfl, rfl, ?_⟩
          refine ⟨.int cell, rfl, _, _, rfl, rfl, (show (0 : Int) < 1000003 by decide), _, _, rfl, rfl, _, _, rfl, rfl, _, _, rfl, rfl, (show (0 : Int) < 2147483629 by decide), ?_⟩
          refine ⟨.ref b, rfl, b, _, 3, 3, rfl, rfl, hb1, rfl, ?_⟩
          refine ⟨.ref b, rfl, b, _, 3, _, rfl, rfl, .inl (.inl upd_same), atI_nat (j := 3) rfl, _, _, rfl, rfl, wide_div (b := 200) (by decide) (by decide) (by decide) (by decide), .int cell, rfl, _, _, rfl, rfl, .int size, rfl, _, _, rfl, rfl, hz, ?_⟩
          refine q _ _ (Off.upd.trans Off.upd) ⟨cells, (j : Int) + 1, rest, _, upd_same, ?_, by omega, hr0, Int.emod_nonneg _ (by decide), Int.lt_trans (Int.emod_lt_of_pos _ (by decide)) (by decide), hcb⟩ (Int.emod_nonneg _ (by omega)) (Int.emod_lt_of_pos _ hz)
          rw [upd_ne hcb]
          exact hc1
end
/-! ### _law_bag -/
abbrev sBag : Stmt := topS 29
theorem scBag : FnScope ["_law_script"] ["_law_script"] (defScope sBag) := ⟨rfl, rfl, rfl, by decide +kernel, rfl, by decide +kernel, by decide +kernel⟩
def spBag (K : PySem.W.Frag) : Sp := fun vs H Q _ => ∃ (a : Addr) (ns : List Int), vs = [.ref a] ∧ SqL K H a (ns.map V.int) ∧ ns.length ≤ 63 ∧
  ∀ H' b c, Same H H' → Bag H' b c → H b = none → Q (.ref b) H'
theorem cut_map (ns : List Int) (lo hi : Option Int) : ∃ ms : List Int, cutV (ns.map V.int) lo hi = ms.map V.int ∧ ms.length ≤ ns.length := by
  unfold cutV
  refine ⟨(ns.drop (HT.sIx (ns.map V.int).length 0 lo)).take (HT.sIx (ns.map V.int).length (ns.map V.int).length hi - HT.sIx (ns.map V.int).length 0 lo), ?_, ?_⟩
  · rw [List.map_take, List.map_drop]
  · rw [List.length_take, List.length_drop]
    omega
section
variable {P : Program} {w : World} {K : PySem.W.Frag} {mg : Str → Option Value} {base : Heap}
theorem ok_bag {f : Addr} {fd : FuncData} {k : Nat} (F : Fun K "_law_bag" "_law_bag" sBag f fd) (ml : mg "len" = none) (mli : mg "list" = none) : FnOk P w K mg base CX0 (k + 1) f fd ["_law_script"] (spBag K) := by
  refine F.ok scBag (fun vs H Q E h => ?_) (fun cdv A outer s H vs Q E hr h => ?_)
  · obtain ⟨a, ns, rfl, _⟩ := h
    rfl
  · obtain ⟨a, ns, rfl, hS, hlen, q⟩ := h
    refine ⟨_, pss_one (ps_ret (pe_lst (pa_cons (pe_callTy call_list_of (by rfl) mli (by decide +kernel) (pa_cons (pe_slice sl_list (pv 0) po_none (po_some pe_int)) pa_nil))
      (pa_cons pe_int (pa_cons pe_int (pa_cons (pe_op op_add pe_int (pe_callB call_len_seq (by rfl) ml PySem.boot_len (pa_cons (pe_slice sl_list (pv 0) po_none (po_some pe_int)) pa_nil))) pa_nil)))))), ?_⟩
    obtain ⟨ms, em, lm⟩ := cut_map ns none (some 63)
    refine ⟨.ref a, rfl, 63, rfl, a, _, rfl, hS, fun p np => ?_⟩
    rw [em]
    refine ⟨p, _, rfl, .inl (.inl (.inl upd_same)), fun l nl => ?_⟩
    have s1 : Same H (upd H p (.lst (ms.map V.int))) := same_upd np
    have s2 : Same (upd H p (.lst (ms.map V.int))) (upd (upd H p (.lst (ms.map V.int))) l (.lst (ms.map V.int))) := same_upd nl
    refine ⟨.ref a, rfl, 63, rfl, a, _, rfl, (s1.trans s2).seq hS, fun p2 np2 => ?_⟩
    rw [em]
    have s3 := same_upd (o := .lst (ms.map V.int)) np2
    refine ⟨p2, _, rfl, .inl (.inl (.inl upd_same)), _, _, rfl, rfl, (show (4 : Nat) ≤ sizeLine by decide), fun b nb => ?_⟩
    have s4 := same_upd (o := .lst [.ref l, .int 0, .int 0, .int (9463 + ((ms.map V.int).length : Nat))]) nb
    have hl : (upd (upd (upd (upd H p (.lst (ms.map V.int))) l (.lst (ms.map V.int))) p2 (.lst (ms.map V.int))) b (.lst [.ref l, .int 0, .int 0, .int (9463 + ((ms.map V.int).length : Nat))])) l = some (.lst (ms.map V.int)) := s4 _ _ (s3 _ _ upd_same)
    refine q _ b l (((s1.trans s2).trans s3).trans s4) ⟨ms, 0, 0, _, upd_same, hl, by decide, by decide, ?_, ?_, ?_⟩ (((s1.trans s2).trans s3).free nb)
    · omega
    · rw [List.length_map]
      omega
    · exact ne_of_none (s3 _ _ (upd_same (H := upd H p (.lst (ms.map V.int))) (a := l) (o := .lst (ms.map V.int)))) nb
end
/-! ### _law_of -/
abbrev sOf : Stmt := topS 31
theorem scOf : FnScope ["_law_bag_here", "_law_things"] ["_law_bag_here", "_law_things"] (defScope sOf) := ⟨rfl, rfl, rfl, by decide +kernel, rfl, by decide +kernel, by decide +kernel⟩
def spOf : Sp := fun vs H Q _ => ∃ (b c t : Addr) (xs : List V), vs = [.ref b, .ref t] ∧ Bag H b c ∧ H t = some (.lst xs) ∧ t ≠ b ∧ 0 < xs.length ∧ xs.length ≤ 1000 ∧
  ∀ H' v, Off b H H' → Bag H' b c → v ∈ xs → Q v H'
section
variable {P : Program} {w : World} {K : PySem.W.Frag} {mg : Str → Option Value} {base : Heap}
theorem ok_of {f fP : Addr} {fd fdP : FuncData} {k : Nat} (F : Fun K "_law_of" "_law_of" sOf f fd) (ml : mg "len" = none)
    (FP : Fun K "_law_pull" "_law_pull" sPull fP fdP) (bP : Binds K fdP ["_law_bag_here", "_law_size"] []) (gP : mg "_law_pull" = some (.ref fP)) : FnOk P w K mg base CX0 (k + 2) f fd ["_law_bag_here", "_law_things"] spOf := by
  have GP : FnOk P w K mg base CX0 (k + 1) fP fdP ["_law_bag_here", "_law_size"] spPull := ok_pull FP ml
  refine F.ok scOf (fun vs H Q E h => ?_) (fun cdv A outer s H vs Q E hr h => ?_)
  · obtain ⟨b, c, t, xs, rfl, _⟩ := h
    rfl
  · obtain ⟨b, c, t, xs, rfl, hB, hT, htb, h0, h1, q⟩ := h
    refine ⟨_, pss_one (ps_ret (pe_ix ix_list (pv 1) (pe_call GP hr (by rfl) gP FP.kp bP .nil pass0 (pa_cons (pv 0) (pa_cons (pe_callB call_len_seq (by rfl) ml PySem.boot_len (pa_cons (pv 1) pa_nil)) pa_nil))) (fun _ _ => rfl))), ?_⟩
    refine ⟨.ref t, rfl, .ref b, rfl, .ref t, rfl, t, xs, rfl, .inl (.inl (.inl hT)), b, c, _, rfl, hB, by omega, ?_, fun H' r off bag hr0 hr1 => ?_⟩
    · rw [Int.natAbs_natCast]
      exact Nat.lt_of_le_of_lt h1 (by decide)
    · obtain ⟨n, rfl⟩ := Int.eq_ofNat_of_zero_le hr0
      have hn : n < xs.length := by omega
      refine ⟨t, xs, _, xs[n], rfl, rfl, .inl (.inl (off _ _ htb hT)), atI_nat (List.getElem?_eq_getElem hn), ?_⟩
      exact q _ _ off bag (List.getElem_mem hn)
end
/-! ### _law_like -/
theorem Same.tup {K : PySem.W.Frag} {H H' : Hp} {a : Addr} {xs : List V} (e : Same H H') (h : SqT K H a xs) : SqT K H' a xs := by
  rcases h with (h | ⟨o, h⟩) | h
  · exact .inl (.inl (e _ _ h))
  · exact .inl (.inr ⟨o, e _ _ h⟩)
  · exact .inr h
theorem tyL {K : PySem.W.Frag} {H : Hp} {a : Addr} {xs : List V} (h : SqL K H a xs) : TyX K H (.ref a) (.type "list") := by
  rcases h with (h | ⟨o, h⟩) | ⟨o, its, n, h1, h2, h3⟩
  · exact .base (.lst h)
  · exact .base (.frz h)
  · exact .kList h1 h2
theorem tyT {K : PySem.W.Frag} {H : Hp} {a : Addr} {xs : List V} (h : SqT K H a xs) : TyX K H (.ref a) (.type "tuple") := by
  rcases h with (h | ⟨o, h⟩) | ⟨o, its, n, h1, h2, h3⟩
  · exact .base (.tup h)
  · exact .fTuple h
  · exact .kTuple h1 h2
theorem ix_any {K : PySem.W.Frag} {H : Hp} {a : Addr} {xs : List V} {i : Nat} {v : V} {Q : VK} (h : SqL K H a xs ∨ SqT K H a xs) (e : xs[i]? = some v) (q : Q v H) : rIx K (.ref a) (.int (i : Nat)) H Q := by
  rcases h with h | h
  · exact .inl ⟨a, xs, _, v, rfl, rfl, h, atI_nat e, q⟩
  · exact .inr (.inl ⟨a, xs, _, v, rfl, rfl, h, atI_nat e, q⟩)
/-- what was there before a new object was made stays, though that object changes -/
theorem Same.offUpd {H H' : Hp} {D : Addr} {o : HO} (e : Same H H') (n : H D = none) : Same H (upd H' D o) := fun b x h => by
  rw [upd_ne (ne_of_none h n)]
  exact e b x h
theorem yesT {σ : L2.St} {H : Hp} {A B : Hp → Prop} (h : A H) : tYes σ H (fun b H3 => if b = true then A H3 else B H3) := h
/-- the same data, of a depth below n -/
def Lk (K : PySem.W.Frag) (H : Hp) : Nat → V → V → Prop
  | 0, _, _ => False
  | n + 1, v, u => (v = u ∧ (v = .non ∨ (∃ b, v = .bl b) ∨ (∃ i, v = .int i) ∨ ∃ z, v = .str z)) ∨
    ∃ a b xs ys, v = .ref a ∧ u = .ref b ∧ ((SqL K H a xs ∧ SqL K H b ys) ∨ (SqT K H a xs ∧ SqT K H b ys)) ∧ xs.length = ys.length ∧ xs.length ≤ 1000 ∧ ∀ (i : Nat) (x y : V), xs[i]? = some x → ys[i]? = some y → Lk K H n x y
theorem Lk.same {K : PySem.W.Frag} {H H' : Hp} (e : Same H H') : ∀ (n : Nat) (v u : V), Lk K H n v u → Lk K H' n v u
  | 0, _, _, h => h
  | n + 1, v, u, h => by
    rcases h with h | ⟨a, b, xs, ys, e1, e2, h3, h4, h5, h6⟩
    · exact .inl h
    · refine .inr ⟨a, b, xs, ys, e1, e2, ?_, h4, h5, fun i x y p q => Lk.same e n x y (h6 i x y p q)⟩
      rcases h3 with ⟨p, q⟩ | ⟨p, q⟩
      · exact .inl ⟨e.seq p, e.seq q⟩
      · exact .inr ⟨Same.tup e p, Same.tup e q⟩
abbrev sLike : Stmt := topS 36
theorem scLike : FnScope ["_law_one", "_law_due", "_law_at"] ["_law_one", "_law_due"] (defScope sLike) := ⟨rfl, rfl, rfl, by decide +kernel, rfl, by decide +kernel, by decide +kernel⟩
def spLike (K : PySem.W.Frag) (n : Nat) : Sp := fun vs H Q _ => ∃ v u, vs = [v, u] ∧ Lk K H n v u ∧ ∀ H', Same H H' → Q (.bl true) H'
structure LkG (mg : Str → Option Value) : Prop where
  isi : mg "isinstance" = none
  tup : mg "tuple" = none
  lst : mg "list" = none
  len : mg "len" = none
  all : mg "all" = none
  rng : mg "range" = none
  bool : mg "bool" = none
  int : mg "int" = none
  str : mg "str" = none
section
variable {P : Program} {w : World} {K : PySem.W.Frag} {mg : Str → Option Value} {base : Heap}
theorem like_step {f : Addr} {fd : FuncData} {n : Nat} (F : Fun K "_law_like" "_law_like" sLike f fd) (b : Binds K fd ["_law_one", "_law_due"] []) (g : mg "_law_like" = some (.ref f)) (M : LkG mg)
    (G : FnOk P w K mg base CX0 n f fd ["_law_one", "_law_due"] (spLike K n)) : FnOk P w K mg base CX0 (n + 1) f fd ["_law_one", "_law_due"] (spLike K (n + 1)) := by
  refine F.ok scLike (fun vs H Q E h => ?_) (fun cdv A outer s H vs Q E hr h => ?_)
  · obtain ⟨v, u, rfl, _⟩ := h
    rfl
  · obtain ⟨v, u, rfl, hL, q⟩ := h
    refine ⟨_, pss_cons (ps_if (pt_val (pe_callB call_isiT (by rfl) M.isi (by decide +kernel) (pa_cons (pv 1) (pa_cons (pe_tup (pa_cons (pe_bltn (v := .ty "tuple") (by rfl) M.tup (by decide +kernel) rfl) (pa_cons (pe_bltn (v := .ty "list") (by rfl) M.lst (by decide +kernel) rfl) pa_nil))) pa_nil))))
        (pss_cons (ps_if (pt_cmpR op_ne (pe_callB call_isi (by rfl) M.isi (by decide +kernel) (pa_cons (pv 0) (pa_cons (pe_bltn (v := .ty "tuple") (by rfl) M.tup (by decide +kernel) rfl) pa_nil))) (pe_callB call_isi (by rfl) M.isi (by decide +kernel) (pa_cons (pv 1) (pa_cons (pe_bltn (v := .ty "tuple") (by rfl) M.tup (by decide +kernel) rfl) pa_nil))) (nomark _))
          (pss_one (ps_ret pe_bl)) pss_nil)
        (pss_cons (ps_if (PW.pt (pw_or (pt_not (pt_val (pe_callB call_isiT (by rfl) M.isi (by decide +kernel) (pa_cons (pv 0) (pa_cons (pe_tup (pa_cons (pe_bltn (v := .ty "tuple") (by rfl) M.tup (by decide +kernel) rfl) (pa_cons (pe_bltn (v := .ty "list") (by rfl) M.lst (by decide +kernel) rfl) pa_nil))) pa_nil)))))
            (pw_or1 (pt_cmpR op_ne (pe_callB call_len_seq (by rfl) M.len PySem.boot_len (pa_cons (pv 0) pa_nil)) (pe_callB call_len_seq (by rfl) M.len PySem.boot_len (pa_cons (pv 1) pa_nil)) (nomark _)))))
          (pss_one (ps_ret pe_bl)) pss_nil)
        (pss_one (ps_ret (pe_callB (cr_all rfl) (by rfl) M.all (by decide +kernel) (pa_cons (pe_lc (own := [("_law_at", 2)]) (g := gName 2) (tt := tYes) rfl scLike.nd (pi_range1 (by rfl) M.rng (pa_cons (pe_callB call_len_seq (by rfl) M.len PySem.boot_len (pa_cons (pv 1) pa_nil)) pa_nil))
            (blkOk_by (own := [("_law_at", 2)]) (N := ["_law_one", "_law_due", "_law_at"]) (sc := defScope sLike) (by decide +kernel)) (fun _ _ _ _ _ => pg_name (i := 2) scLike.nd rfl (Or.inl rfl)) (fun _ _ _ _ _ => pts_nil)
            (fun _ _ _ _ _ => pe_call G hr (by rfl) g F.kp b .nil pass0 (pa_cons (pe_ix (r := rIx K) ix_seq (pv 0) (pv 2) (fun _ _ => rfl)) (pa_cons (pe_ix (r := rIx K) ix_seq (pv 1) (pv 2) (fun _ _ => rfl)) pa_nil)))) pa_nil)))))) pss_nil)
      (pss_cons (ps_if (pt_val (pe_callB call_isi (by rfl) M.isi (by decide +kernel) (pa_cons (pv 1) (pa_cons (pe_bltn (v := .ty "bool") (by rfl) M.bool (by decide +kernel) rfl) pa_nil))))
        (pss_one (ps_ret (pe_and (pe_callB call_isi (by rfl) M.isi (by decide +kernel) (pa_cons (pv 0) (pa_cons (pe_bltn (v := .ty "bool") (by rfl) M.bool (by decide +kernel) rfl) pa_nil))) (pe_one (pe_cmpR op_eq (pv 0) (pv 1) (nomark _)))))) pss_nil)
      (pss_cons (ps_if (pt_val (pe_callB call_isi (by rfl) M.isi (by decide +kernel) (pa_cons (pv 1) (pa_cons (pe_bltn (v := .ty "int") (by rfl) M.int (by decide +kernel) rfl) pa_nil))))
        (pss_one (ps_ret (pe_and (pe_callB call_isi (by rfl) M.isi (by decide +kernel) (pa_cons (pv 0) (pa_cons (pe_bltn (v := .ty "int") (by rfl) M.int (by decide +kernel) rfl) pa_nil))) (pe_and (pe_not (pe_callB call_isi (by rfl) M.isi (by decide +kernel) (pa_cons (pv 0) (pa_cons (pe_bltn (v := .ty "bool") (by rfl) M.bool (by decide +kernel) rfl) pa_nil)))) (pe_one (pe_cmpR op_eq (pv 0) (pv 1) (nomark _))))))) pss_nil)
      (pss_cons (ps_if (pt_val (pe_callB call_isi (by rfl) M.isi (by decide +kernel) (pa_cons (pv 1) (pa_cons (pe_bltn (v := .ty "str") (by rfl) M.str (by decide +kernel) rfl) pa_nil))))
        (pss_one (ps_ret (pe_and (pe_callB call_isi (by rfl) M.isi (by decide +kernel) (pa_cons (pv 0) (pa_cons (pe_bltn (v := .ty "str") (by rfl) M.str (by decide +kernel) rfl) pa_nil))) (pe_one (pe_cmpR op_eq (pv 0) (pv 1) (nomark _)))))) pss_nil)
      (pss_one (ps_ret (pe_and (pe_cmp (pc_isN (pv 1)) rfl) (pe_one (pe_cmp (pc_isN (pv 0)) rfl)))))))), ?_⟩
    rcases hL with ⟨rfl, hs⟩ | ⟨a1, a2, xs, ys, rfl, rfl, h3, h4, h5, h6⟩
    · rcases hs with rfl | ⟨bb, rfl⟩ | ⟨i, rfl⟩ | ⟨z, rfl⟩
      · refine ⟨.non, rfl, (show (2 : Nat) ≤ sizeLine by decide), fun t nt => ⟨.non, t, _, .type "NoneType", [.type "tuple", .type "list"], false, rfl, upd_same, .cons (.ty _) (.cons (.ty _) .nil), .base .non, kitAny_cons (b := false) (kit_ty (by decide +kernel)) (fun _ => kitAny_cons (b := false) (kit_ty (by decide +kernel)) (fun _ => kitAny_nil) (fun e => nomatch e)) (fun e => nomatch e), _, rfl, iteF ?_⟩⟩
        refine ⟨.non, rfl, .non, _, _, _, false, rfl, .ty _, .base .non, kit_ty (by decide +kernel), _, rfl, iteF ?_⟩
        refine ⟨.non, rfl, .non, _, _, _, false, rfl, .ty _, .base .non, kit_ty (by decide +kernel), _, rfl, iteF ?_⟩
        refine ⟨.non, rfl, .non, _, _, _, false, rfl, .ty _, .base .non, kit_ty (by decide +kernel), _, rfl, iteF ?_⟩
        refine ⟨.non, rfl, _, rfl, iteT ⟨.non, rfl, ?_⟩⟩
        exact q _ (same_upd nt)
      · refine ⟨.bl bb, rfl, (show (2 : Nat) ≤ sizeLine by decide), fun t nt => ⟨.bl bb, t, _, .type "bool", [.type "tuple", .type "list"], false, rfl, upd_same, .cons (.ty _) (.cons (.ty _) .nil), .base (.bl bb), kitAny_cons (b := false) (kit_ty (by decide +kernel)) (fun _ => kitAny_cons (b := false) (kit_ty (by decide +kernel)) (fun _ => kitAny_nil) (fun e => nomatch e)) (fun e => nomatch e), _, rfl, iteF ?_⟩⟩
        refine ⟨.bl bb, rfl, .bl bb, _, _, _, true, rfl, .ty _, .base (.bl bb), kit_ty (by decide +kernel), _, rfl, iteT ?_⟩
        refine ⟨.bl bb, rfl, .bl bb, _, _, _, true, rfl, .ty _, .base (.bl bb), kit_ty (by decide +kernel), _, rfl, iteT ⟨.bl bb, rfl, .bl bb, rfl, rfl, ?_⟩⟩
        rw [decide_eq_true rfl]
        exact q _ (same_upd nt)
      · refine ⟨.int i, rfl, (show (2 : Nat) ≤ sizeLine by decide), fun t nt => ⟨.int i, t, _, .type "int", [.type "tuple", .type "list"], false, rfl, upd_same, .cons (.ty _) (.cons (.ty _) .nil), .base (.int i), kitAny_cons (b := false) (kit_ty (by decide +kernel)) (fun _ => kitAny_cons (b := false) (kit_ty (by decide +kernel)) (fun _ => kitAny_nil) (fun e => nomatch e)) (fun e => nomatch e), _, rfl, iteF ?_⟩⟩
        refine ⟨.int i, rfl, .int i, _, _, _, false, rfl, .ty _, .base (.int i), kit_ty (by decide +kernel), _, rfl, iteF ?_⟩
        refine ⟨.int i, rfl, .int i, _, _, _, true, rfl, .ty _, .base (.int i), kit_ty (by decide +kernel), _, rfl, iteT ?_⟩
        refine ⟨.int i, rfl, .int i, _, _, _, true, rfl, .ty _, .base (.int i), kit_ty (by decide +kernel), _, rfl, iteT ⟨.int i, rfl, .int i, _, _, _, false, rfl, .ty _, .base (.int i), kit_ty (by decide +kernel), _, rfl, _, rfl, iteT ⟨.int i, rfl, .int i, rfl, rfl, ?_⟩⟩⟩
        rw [decide_eq_true rfl]
        exact q _ (same_upd nt)
      · refine ⟨.str z, rfl, (show (2 : Nat) ≤ sizeLine by decide), fun t nt => ⟨.str z, t, _, .type "str", [.type "tuple", .type "list"], false, rfl, upd_same, .cons (.ty _) (.cons (.ty _) .nil), .base (.str z), kitAny_cons (b := false) (kit_ty (by decide +kernel)) (fun _ => kitAny_cons (b := false) (kit_ty (by decide +kernel)) (fun _ => kitAny_nil) (fun e => nomatch e)) (fun e => nomatch e), _, rfl, iteF ?_⟩⟩
        refine ⟨.str z, rfl, .str z, _, _, _, false, rfl, .ty _, .base (.str z), kit_ty (by decide +kernel), _, rfl, iteF ?_⟩
        refine ⟨.str z, rfl, .str z, _, _, _, false, rfl, .ty _, .base (.str z), kit_ty (by decide +kernel), _, rfl, iteF ?_⟩
        refine ⟨.str z, rfl, .str z, _, _, _, true, rfl, .ty _, .base (.str z), kit_ty (by decide +kernel), _, rfl, iteT ?_⟩
        refine ⟨.str z, rfl, .str z, _, _, _, true, rfl, .ty _, .base (.str z), kit_ty (by decide +kernel), _, rfl, iteT ⟨.str z, rfl, .str z, rfl, rfl, ?_⟩⟩
        rw [decide_eq_true rfl]
        exact q _ (same_upd nt)
    · obtain ⟨ty, bt, ht1, ht2, k2, k3, hq1, hq2⟩ : ∃ (ty : String) (bt : Bool), (∀ H', Same H H' → TyX K H' (.ref a1) (.type ty)) ∧ (∀ H', Same H H' → TyX K H' (.ref a2) (.type ty)) ∧ PySem.W.kitAny K (.type ty) [.type "tuple", .type "list"] = some true ∧ PySem.W.kitOne K (.type ty) (.type "tuple") = some bt ∧ (∀ H', Same H H' → SqL K H' a1 xs ∨ SqT K H' a1 xs) ∧ (∀ H', Same H H' → SqL K H' a2 ys ∨ SqT K H' a2 ys) := by
        rcases h3 with ⟨p1, p2⟩ | ⟨p1, p2⟩
        · exact ⟨"list", false, fun _ e => tyL (e.seq p1), fun _ e => tyL (e.seq p2), kitAny_cons (b := false) (kit_ty (by decide +kernel)) (fun _ => kitAny_cons (b := true) (kit_ty (by decide +kernel)) (fun e => nomatch e) (fun _ => rfl)) (fun e => nomatch e), kit_ty (by decide +kernel), fun _ e => .inl (e.seq p1), fun _ e => .inl (e.seq p2)⟩
        · exact ⟨"tuple", true, fun _ e => tyT (Same.tup e p1), fun _ e => tyT (Same.tup e p2), kitAny_cons (b := true) (kit_ty (by decide +kernel)) (fun e => nomatch e) (fun _ => rfl), kit_ty (by decide +kernel), fun _ e => .inr (Same.tup e p1), fun _ e => .inr (Same.tup e p2)⟩
      refine ⟨.ref a2, rfl, (show (2 : Nat) ≤ sizeLine by decide), fun t nt => ⟨.ref a2, t, _, .type ty, [.type "tuple", .type "list"], true, rfl, upd_same, .cons (.ty _) (.cons (.ty _) .nil), ht2 _ (same_upd nt), k2, _, rfl, iteT ?_⟩⟩
      have s1 : Same H (upd H t (.tup [.ty "tuple", .ty "list"])) := same_upd nt
      refine ⟨.ref a1, rfl, .ref a1, _, _, _, bt, rfl, .ty _, ht1 _ s1, k3, .ref a2, rfl, .ref a2, _, _, _, bt, rfl, .ty _, ht2 _ s1, k3, rfl, _, rfl, iteNS rfl ?_⟩
      refine ⟨.ref a1, rfl, (show (2 : Nat) ≤ sizeLine by decide), fun t2 nt2 => ⟨.ref a1, t2, _, .type ty, [.type "tuple", .type "list"], true, rfl, upd_same, .cons (.ty _) (.cons (.ty _) .nil), ht1 _ (s1.trans (same_upd nt2)), k2, _, rfl, iteF ?_⟩⟩
      have s2 := s1.trans (same_upd (o := .tup [.ty "tuple", .ty "list"]) nt2)
      generalize upd (upd H t (.tup [.ty "tuple", .ty "list"])) t2 (.tup [.ty "tuple", .ty "list"]) = H2 at s2 ⊢
      refine ⟨.ref a1, rfl, a1, xs, rfl, hq1 _ s2, .ref a2, rfl, a2, ys, rfl, hq2 _ s2, rfl, _, rfl, iteNS (by rw [h4]) ?_⟩
      refine ⟨.ref a2, rfl, a2, ys, rfl, hq2 _ s2, (ys.length : Nat), rfl, by omega, by omega, fun D nD => ?_⟩
      refine lc_range (lo := 0) (n := ((ys.length : Nat) : Int).toNat) (fun i H' => Same H2 H' ∧ H' D = some (.lst ((List.replicate i true).map V.bl))) ⟨same_upd nD, upd_same⟩ (fun i H' hi hP => ?_) (fun H' hP => ?_)
      · obtain ⟨sm, hD⟩ := hP
        have hi2 : i < ys.length := by omega
        have hi1 : i < xs.length := by omega
        have e0 : (0 : Int) + (i : Int) = (i : Nat) := by omega
        have s3 := s2.trans sm
        refine ⟨rfl, yesT ?_⟩
        refine ⟨.ref a1, rfl, .int (0 + i), rfl, ?_⟩
        rw [e0]
        refine ix_any (hq1 _ s3) (List.getElem?_eq_getElem hi1) ⟨.ref a2, rfl, _, rfl, ?_⟩
        refine ix_any (hq2 _ s3) (List.getElem?_eq_getElem hi2) ?_
        refine ⟨xs[i], ys[i], rfl, Lk.same s3 n _ _ (h6 i _ _ (List.getElem?_eq_getElem hi1) (List.getElem?_eq_getElem hi2)), fun H3 sm3 => ?_⟩
        refine ⟨_, sm3 _ _ hD, ?_, Same.offUpd (sm.trans sm3) nD, ?_⟩
        · rw [List.length_map, List.length_replicate]
          exact small1000 (by omega)
        · rw [upd_same, List.replicate_succ', List.map_append]
          rfl
      · obtain ⟨sm, hD⟩ := hP
        refine ⟨D, _, rfl, .inl (.inl hD), ?_⟩
        rw [show (List.replicate ((ys.length : Nat) : Int).toNat true).all id = true by simp]
        exact q _ (s2.trans sm)
theorem ok_like {f : Addr} {fd : FuncData} (F : Fun K "_law_like" "_law_like" sLike f fd) (b : Binds K fd ["_law_one", "_law_due"] []) (g : mg "_law_like" = some (.ref f)) (M : LkG mg) : ∀ n : Nat, FnOk P w K mg base CX0 n f fd ["_law_one", "_law_due"] (spLike K n)
  | 0 => ⟨fun vs H Q E h => by obtain ⟨v, u, _, h, _⟩ := h; exact h.elim, fun A outer s H args us vs Q E hr he hb hv h => by obtain ⟨v, u, _, h, _⟩ := h; exact h.elim⟩
  | n + 1 => like_step F b g M (ok_like F b g M n)
end
/-! ### rules whose answer is some object that holds the wanted things, new or not -/
theorem tuple_mulW1 (l : Addr) (items : Array Value) (n : Nat) (dd : Option Addr) (sl : Array (Option Value)) (u : Tok) :
    Meets (Builtin.«tuple.__mul__» ⟨[.ref l, .int 1 u], []⟩) (fun _ R s => s.heap.get? l = some { cls := .type "tuple", dict := dd, data := .seq items n, slots := sl } ∧ R (.ok (.ret (Value.ref l))) { s with heap := s.heap, toks := s.toks }) :=
  .of_wp fun prog w A R s h => by
    obtain ⟨hp, g, d, tk, os⟩ := s
    obtain ⟨hl, h⟩ := h
    have f1 := AutoSeq1.idx_int
    wp_walk using wpAny_loadPart' hl
    exact ⟨_, rfl, h⟩
section
variable {X : Cx}
def rRepT1 (K : PySem.W.Frag) : R2 := fun x y H Q => ∃ l xs, x = .ref l ∧ y = .int 1 ∧ SqT K H l xs ∧ Q (.ref l) H
theorem op_repT1 : OpR X (binaryOp .Mult) (rRepT1 X.K) := by
  intro pins s σ H x y v u Q I rx ry h
  obtain ⟨l, xs, rfl, rfl, hT, q⟩ := h
  cases rx
  obtain ⟨t, rfl⟩ := ry
  obtain ⟨its, r, ⟨⟨cls, dd, data, sl⟩, ho, hc, n, hd⟩, hs⟩ := I.tuple hT
  simp only at hc hd
  subst hc hd
  refine wpAny_binaryOp_repeat_ref (T := "tuple") (U := "int") (by decide) ⟨_, ho, rfl⟩ (fun s' => typeIs_int s' 1 t) noFill_tuple_mul F.fills_int_mul F.slot_int_rmul repeat_tuple F.slot_int_index.lookup
    (call_meets F.slot_int_rmul (typeIs_int s 1 t) F.entry_int_rmul (F.args_int_rmul_2 _ _) (int_rmul_tuple 1 t l its.toArray n dd sl)
      ⟨ho, rfl, ⟨_, ho, rfl⟩, call_meets F.slot_tuple_mul ⟨_, ho, rfl⟩ F.entry_tuple_mul (F.args_tuple_mul_2 _ _) (tuple_mulW1 l its.toArray n dd sl t) ⟨ho, ?_⟩⟩)
  exact ⟨.ref l, H, I, rfl, q⟩
/-- t * k -/
def rRepS (K : PySem.W.Frag) : R2 := fun x y H Q => ∃ l k xs, x = .ref l ∧ y = .int k ∧ SqT K H l xs ∧ xs ≠ [] ∧ 1 ≤ k ∧ k ≤ 1000 ∧ xs.length ≤ 1000 ∧ ∀ p H', Same H H' → SqT K H' p (List.replicate k.toNat xs).flatten → Q (.ref p) H'
theorem op_repS : OpR X (binaryOp .Mult) (rRepS X.K) := by
  intro pins s σ H x y v u Q I rx ry h
  obtain ⟨l, k, xs, rfl, rfl, hT, hne, h1, h2, h3, q⟩ := h
  by_cases hk : k = 1
  · subst hk
    refine op_repT1 pins s σ H _ _ v u Q I rx ry ⟨l, xs, rfl, rfl, hT, q l H (Same.refl H) ?_⟩
    rw [show (List.replicate (1 : Int).toNat xs).flatten = xs by simp]
    exact hT
  · exact op_repT pins s σ H _ _ v u Q I rx ry ⟨l, k, xs, rfl, rfl, hT, hne, by omega, h2, h3, fun p np => q p _ (same_upd np) (SqT.of upd_same)⟩
/-- t + u -/
def rCatS (K : PySem.W.Frag) : R2 := fun x y H Q => ∃ a b xs ys, x = .ref a ∧ y = .ref b ∧ SqT K H a xs ∧ SqT K H b ys ∧ xs.length + ys.length ≤ sizeLine ∧ ∀ p H', Same H H' → SqT K H' p (xs ++ ys) → Q (.ref p) H'
theorem op_catS : OpR X (binaryOp .Add) (rCatS X.K) := by
  intro pins s σ H x y v u Q I rx ry h
  obtain ⟨a, b, xs, ys, rfl, rfl, ha, hb, hz, q⟩ := h
  refine op_catA pins s σ H _ _ v u Q I rx ry ⟨a, b, xs, ys, rfl, rfl, ha, hb, hz, fun e => ?_, fun _ e => ?_, fun _ _ p np => q p _ (same_upd np) (SqT.of upd_same)⟩
  · subst e
    exact q b H (Same.refl H) hb
  · subst e
    exact q a H (Same.refl H) (by rw [List.append_nil]; exact ha)
/-- t[lo:hi] -/
def rSlS (K : PySem.W.Frag) : V → Option Int → Option Int → Hp → VK → Prop := fun x lo hi H Q => ∃ a xs, x = .ref a ∧ (SqL K H a xs ∨ SqT K H a xs) ∧ ∀ p H', Same H H' → ((∃ ys, SqL K H a ys) → SqL K H' p (cutV xs lo hi)) → ((∃ ys, SqT K H a ys) → SqT K H' p (cutV xs lo hi)) → (SqL K H' p (cutV xs lo hi) ∨ SqT K H' p (cutV xs lo hi)) → Q (.ref p) H'
def rSlT' (K : PySem.W.Frag) : V → Option Int → Option Int → Hp → VK → Prop := fun x lo hi H Q => ∃ a xs, x = .ref a ∧ SqT K H a xs ∧ ∀ p H', Same H H' → SqT K H' p (cutV xs lo hi) → Q (.ref p) H'
theorem cut_whole {α : Type} {xs : List α} {lo hi : Option Int} (h : HT.sIx xs.length 0 lo = 0 ∧ HT.sIx xs.length xs.length hi = xs.length) : ((xs.drop (HT.sIx xs.length 0 lo)).take (HT.sIx xs.length xs.length hi - HT.sIx xs.length 0 lo)) = xs := by
  rw [h.1, h.2]
  simp
theorem sl_tupS : L2.SlR X (rSlT' X.K) := by
  intro pins s σ H x v vl vu lo hi sl Q I rx hs pl pu h
  obtain ⟨a, xs, rfl, hx, q⟩ := h
  refine sl_tupA pins s σ H _ v vl vu lo hi sl Q I rx hs pl pu ⟨a, xs, rfl, hx, fun e => ?_, fun _ p np => q p _ (same_upd np) (SqT.of upd_same)⟩
  exact q a H (Same.refl H) (by rw [show cutV xs lo hi = xs from cut_whole e]; exact hx)
/-- a list's or a tuple's slice -/
def rSlQ (K : PySem.W.Frag) : V → Option Int → Option Int → Hp → VK → Prop := fun x lo hi H Q => ∃ a xs, x = .ref a ∧ (SqL K H a xs ∨ SqT K H a xs) ∧ ∀ p H', Same H H' → (SqL K H' p (cutV xs lo hi) ∨ SqT K H' p (cutV xs lo hi)) → Q (.ref p) H'
theorem sl_seqS : L2.SlR X (rSlQ X.K) := by
  intro pins s σ H x v vl vu lo hi sl Q I rx hs pl pu h
  obtain ⟨a, xs, rfl, hx, q⟩ := h
  rcases hx with hx | hx
  · exact sl_list pins s σ H _ v vl vu lo hi sl Q I rx hs pl pu ⟨a, xs, rfl, hx, fun p np => q p _ (same_upd np) (.inl (SqL.of upd_same))⟩
  · exact sl_tupS pins s σ H _ v vl vu lo hi sl Q I rx hs pl pu ⟨a, xs, rfl, hx, fun p H' e h => q p H' e (.inr h)⟩
/-- tuple(x) -/
def rTupS (K : PySem.W.Frag) : List V → Hp → VK → Prop := fun vs H Q => ∃ p ys, vs = [.ref p] ∧ (SqL K H p ys ∨ SqT K H p ys) ∧ ∀ l H', Same H H' → SqT K H' l ys → Q (.ref l) H'
theorem call_tupS : CallR X (.type "tuple") (rTupS X.K) := by
  intro pins s σ H xs us Q I r h
  obtain ⟨p, ys, rfl, hx, q⟩ := h
  refine call_tuple_of pins s σ H _ us Q I r ⟨p, ys, rfl, ?_⟩
  rcases hx with hx | hx
  · exact .inl ⟨hx, fun l nl => q l _ (same_upd nl) (SqT.of upd_same)⟩
  · exact .inr ⟨hx, q p H (Same.refl H) hx⟩
/-- len(x) -/
def rLenQ (K : PySem.W.Frag) : List V → Hp → VK → Prop := fun xs H Q => ∃ p ys, xs = [.ref p] ∧ (SqL K H p ys ∨ SqT K H p ys) ∧ Q (.int (ys.length : Nat)) H
theorem call_lenQ : CallR X (.builtin "len") (rLenQ X.K) := call_len_seq
end
theorem cut_to {α : Type} (xs : List α) (k : Nat) : ((xs.drop (HT.sIx xs.length 0 none)).take (HT.sIx xs.length xs.length (some (k : Int)) - HT.sIx xs.length 0 none)) = xs.take k := by
  rw [HT.sIx_none, HT.sIx_nat, List.drop_zero, Nat.sub_zero]
  rcases Nat.le_total k xs.length with h | h
  · rw [Nat.min_eq_left h]
  · rw [Nat.min_eq_right h, List.take_of_length_le h, List.take_length]
theorem cut_from {α : Type} (xs : List α) (k : Nat) : ((xs.drop (HT.sIx xs.length 0 (some (k : Int)))).take (HT.sIx xs.length xs.length none - HT.sIx xs.length 0 (some (k : Int)))) = xs.drop k := by
  rw [HT.sIx_none, HT.sIx_nat]
  rcases Nat.le_total k xs.length with h | h
  · rw [Nat.min_eq_left h, ← List.length_drop, List.take_length]
  · rw [Nat.min_eq_right h, List.drop_of_length_le h, List.drop_length, List.take_nil]
theorem cutV_to (xs : List V) (k : Nat) : cutV xs none (some (k : Int)) = xs.take k := cut_to xs k
theorem cutV_from (xs : List V) (k : Nat) : cutV xs (some (k : Int)) none = xs.drop k := cut_from xs k
/-! ### data of whole numbers -/
theorem dpI {K : PySem.W.Frag} {H : Hp} : ∀ ns : List Int, DpAll K H (ns.map V.int) (ns.map PyData.int)
  | [] => .nil
  | n :: r => .cons (.int n) (dpI r)
theorem canLay_ints : ∀ ns : List Int, PyData.canLayAll0 (ns.map PyData.int) = true
  | [] => rfl
  | _ :: r => by simp [PyData.canLayAll0, PyData.canLay0, canLay_ints r]
theorem depth_ints : ∀ ns : List Int, PyData.depthAll (ns.map PyData.int) = 0
  | [] => rfl
  | _ :: r => by simp [PyData.depthAll, PyData.depth, depth_ints r]
theorem shL (ns : List Int) : SeqAt.shaped (.list (ns.map PyData.int)) = true := by
  simp [SeqAt.shaped, PyData.canLay0, PyData.depth, canLay_ints, depth_ints]
theorem shT (ns : List Int) : SeqAt.shaped (.tuple (ns.map PyData.int)) = true := by
  simp [SeqAt.shaped, PyData.canLay0, PyData.depth, canLay_ints, depth_ints]
theorem eqv_ints : ∀ ns ms : List Int, PyData.eqvAll (ns.map PyData.int) (ms.map PyData.int) = decide (ns = ms)
  | [], [] => rfl
  | [], _ :: _ => by simp [PyData.eqvAll]
  | _ :: _, [] => by simp [PyData.eqvAll]
  | a :: r, b :: t => by
    simp only [List.map_cons, PyData.eqvAll, PyData.eqv, eqv_ints r t]
    by_cases h : a = b <;> by_cases h' : r = t <;> simp [h, h']
theorem eqvL (ns ms : List Int) : PyData.eqv (.list (ns.map PyData.int)) (.list (ms.map PyData.int)) = decide (ns = ms) := by
  simp only [PyData.eqv]
  exact eqv_ints ns ms
theorem eqvT (ns ms : List Int) : PyData.eqv (.tuple (ns.map PyData.int)) (.tuple (ms.map PyData.int)) = decide (ns = ms) := by
  simp only [PyData.eqv]
  exact eqv_ints ns ms
theorem dpL {K : PySem.W.Frag} {H : Hp} {a : Addr} {ns : List Int} (h : SqL K H a (ns.map V.int)) : Dp K H (.ref a) (.list (ns.map PyData.int)) := .lst h (dpI ns)
theorem dpT {K : PySem.W.Frag} {H : Hp} {a : Addr} {ns : List Int} (h : SqT K H a (ns.map V.int)) : Dp K H (.ref a) (.tuple (ns.map PyData.int)) := .tup h (dpI ns)
theorem flat_map (ns : List Int) (k : Nat) : (List.replicate k (ns.map V.int)).flatten = ((List.replicate k ns).flatten).map V.int := by
  induction k with
  | zero => rfl
  | succ k ih => rw [List.replicate_succ, List.replicate_succ, List.flatten_cons, List.flatten_cons, List.map_append, ih]
theorem small_k {n : Nat} (h : n ≤ 5000) : n < sizeLine := by
  rw [sizeLine_eq]
  omega
theorem same_any {K : PySem.W.Frag} {H H' : Hp} {a : Addr} {xs : List V} (e : Same H H') (h : SqL K H a xs ∨ SqT K H a xs) : SqL K H' a xs ∨ SqT K H' a xs := by
  rcases h with h | h
  · exact .inl (e.seq h)
  · exact .inr (Same.tup e h)
def nI (ns : List Nat) : List Int := ns.map fun (n : Nat) => (n : Int)
/-! ### figures on the heap -/
def All2 {α : Type} (R : V → α → Prop) : List V → List α → Prop
  | [], [] => True
  | v :: vs, a :: as => R v a ∧ All2 R vs as
  | _, _ => False
theorem All2.len {α : Type} {R : V → α → Prop} : ∀ {xs : List V} {as : List α}, All2 R xs as → xs.length = as.length
  | [], [], _ => rfl
  | _ :: _, _ :: _, h => congrArg Nat.succ (All2.len h.2)
  | [], _ :: _, h => h.elim
  | _ :: _, [], h => h.elim
theorem All2.get {α : Type} {R : V → α → Prop} : ∀ {xs : List V} {as : List α} {i : Nat} {x : V}, All2 R xs as → xs[i]? = some x → ∃ a, as[i]? = some a ∧ R x a
  | [], [], i, x, _, e => by simp at e
  | v :: vs, a :: as, 0, x, h, e => ⟨a, rfl, by rw [← Option.some.inj e]; exact h.1⟩
  | v :: vs, a :: as, i + 1, x, h, e => All2.get (xs := vs) (as := as) (i := i) h.2 e
  | [], _ :: _, _, _, h, _ => h.elim
  | _ :: _, [], _, _, h, _ => h.elim
theorem All2.at {α : Type} {R : V → α → Prop} : ∀ {xs : List V} {as : List α} {i : Nat} {a : α}, All2 R xs as → as[i]? = some a → ∃ x, xs[i]? = some x ∧ R x a
  | [], [], i, x, _, e => by simp at e
  | v :: vs, a :: as, 0, x, h, e => ⟨v, rfl, by rw [← Option.some.inj e]; exact h.1⟩
  | v :: vs, a :: as, i + 1, x, h, e => All2.at (xs := vs) (as := as) (i := i) h.2 e
  | [], _ :: _, _, _, h, _ => h.elim
  | _ :: _, [], _, _, h, _ => h.elim
theorem All2.mono {α : Type} {R S : V → α → Prop} (f : ∀ x a, R x a → S x a) : ∀ {xs : List V} {as : List α}, All2 R xs as → All2 S xs as
  | [], [], _ => True.intro
  | _ :: _, _ :: _, h => ⟨f _ _ h.1, All2.mono f h.2⟩
  | [], _ :: _, h => h.elim
  | _ :: _, [], h => h.elim
theorem All2.snoc {α : Type} {R : V → α → Prop} {x : V} {a : α} (r : R x a) : ∀ {xs : List V} {as : List α}, All2 R xs as → All2 R (xs ++ [x]) (as ++ [a])
  | [], [], _ => ⟨r, True.intro⟩
  | _ :: _, _ :: _, h => ⟨h.1, All2.snoc r h.2⟩
  | [], _ :: _, h => h.elim
  | _ :: _, [], h => h.elim
abbrev Tri := Int × Int × Int
def triV (t : Tri) : List V := [.int t.1, .int t.2.1, .int t.2.2]
def TriAt (K : PySem.W.Frag) (H : Hp) (v : V) (t : Tri) : Prop := ∃ a, v = .ref a ∧ SqT K H a (triV t)
def FigT (K : PySem.W.Frag) (H : Hp) (v : V) (f : List Tri) : Prop := ∃ a xs, v = .ref a ∧ SqT K H a xs ∧ All2 (TriAt K H) xs f
/-- tuples stay -/
def TS (K : PySem.W.Frag) (H H' : Hp) : Prop := ∀ a xs, SqT K H a xs → SqT K H' a xs
theorem TS.refl {K : PySem.W.Frag} {H : Hp} : TS K H H := fun _ _ h => h
theorem TS.trans {K : PySem.W.Frag} {H H1 H2 : Hp} (x : TS K H H1) (y : TS K H1 H2) : TS K H H2 := fun a xs h => y a xs (x a xs h)
theorem TS.of {K : PySem.W.Frag} {H H' : Hp} (e : Same H H') : TS K H H' := fun a xs h => Same.tup e h
theorem TS.but {K : PySem.W.Frag} {H H' : Hp} {b : Addr} {ys : List V} (e : Off b H H') (hb : H b = some (.lst ys)) : TS K H H' := fun a xs h => by
  rcases h with (h | ⟨o, h⟩) | h
  · exact .inl (.inl (e _ _ (fun z => by rw [z, hb] at h; cases h) h))
  · exact .inl (.inr ⟨o, e _ _ (fun z => by rw [z, hb] at h; cases h) h⟩)
  · exact .inr h
theorem TS.bag {K : PySem.W.Frag} {H H' : Hp} {b c : Addr} (e : Off b H H') (h : Bag H b c) : TS K H H' := by
  obtain ⟨cells, a, r, s, h1, _⟩ := h.ex
  exact TS.but e h1
theorem TS.upd {K : PySem.W.Frag} {H : Hp} {D : Addr} {ys : List V} {o : HO} (hD : H D = some (.lst ys)) : TS K H (upd H D o) := TS.but Off.upd hD
theorem TriAt.ts {K : PySem.W.Frag} {H H' : Hp} (e : TS K H H') {v : V} {t : Tri} (h : TriAt K H v t) : TriAt K H' v t := by
  obtain ⟨a, h1, h2⟩ := h
  exact ⟨a, h1, e _ _ h2⟩
theorem FigT.ts {K : PySem.W.Frag} {H H' : Hp} (e : TS K H H') {v : V} {f : List Tri} (h : FigT K H v f) : FigT K H' v f := by
  obtain ⟨a, xs, h1, h2, h3⟩ := h
  exact ⟨a, xs, h1, e _ _ h2, h3.mono fun _ _ => TriAt.ts e⟩
theorem Off.new {b D : Addr} {H H' : Hp} {o : HO} (e : Off b H H') (n : H D = none) : Off b H (L2.upd H' D o) := fun a x h q => by
  rw [upd_ne (ne_of_none q n)]
  exact e a x h q
/-- what a book asks of a figure -/
structure GoodT (cs : List Int) (t : Tri) : Prop where
  p0 : 0 ≤ t.1
  p1 : t.1 < cs.length
  n0 : 0 ≤ t.2.1
  n1 : t.2.1 < cs.getD t.1.toNat 0
  d0 : 1 ≤ t.2.2
  d1 : t.2.2 ≤ 3
structure GoodF (cs : List Int) (f : List Tri) : Prop where
  ne : f ≠ []
  all : ∀ t ∈ f, GoodT cs t
  up : (f.map (·.1)).Pairwise (· < ·)
theorem rise_len : ∀ {l : List Int} {lo hi : Int}, l.Pairwise (· < ·) → (∀ x ∈ l, lo ≤ x ∧ x < hi) → lo ≤ hi → (l.length : Int) ≤ hi - lo
  | [], lo, hi, _, _, h => by
    show (0 : Int) ≤ _
    omega
  | x :: l, lo, hi, p, a, h => by
    have hx := a x List.mem_cons_self
    have p2 := List.pairwise_cons.mp p
    have := rise_len (l := l) (lo := x + 1) (hi := hi) p2.2 (fun y hy => ⟨by have := p2.1 y hy; omega, (a y (List.mem_cons_of_mem _ hy)).2⟩) (by omega)
    rw [List.length_cons]
    omega
theorem GoodF.len {cs : List Int} {f : List Tri} (h : GoodF cs f) : f.length ≤ cs.length := by
  have := rise_len (lo := 0) (hi := cs.length) h.up (fun x hx => by
    obtain ⟨t, ht, rfl⟩ := List.mem_map.mp hx
    exact ⟨(h.all t ht).p0, (h.all t ht).p1⟩) (by omega)
  rw [List.length_map] at this
  omega
theorem tri_data {K : PySem.W.Frag} {H : Hp} : ∀ {xs : List V} {fg : List Tri}, All2 (TriAt K H) xs fg → ∃ ds : List PyData, DpAll K H xs ds ∧ SeqAt.shaped (.list ds) = true ∧ PyData.eqv (.list ds) (.list []) = decide (fg = []) := by
  intro xs fg h
  refine ⟨fg.map fun t => .tuple [.int t.1, .int t.2.1, .int t.2.2], ?_, ?_, ?_⟩
  · induction fg generalizing xs with
    | nil =>
      cases xs with
      | nil => exact .nil
      | cons _ _ => exact h.elim
    | cons t r ih =>
      cases xs with
      | nil => exact h.elim
      | cons x l =>
        obtain ⟨a, e, ha⟩ := h.1
        subst e
        exact .cons (.tup ha (.cons (.int _) (.cons (.int _) (.cons (.int _) .nil)))) (ih h.2)
  · have h1 : ∀ l : List Tri, PyData.canLayAll0 (l.map fun t => .tuple [.int t.1, .int t.2.1, .int t.2.2]) = true := fun l => by
      induction l with
      | nil => rfl
      | cons t r ih => simp [PyData.canLayAll0, PyData.canLay0, ih]
    have h2 : ∀ l : List Tri, PyData.depthAll (l.map fun t => .tuple [.int t.1, .int t.2.1, .int t.2.2]) ≤ 1 := fun l => by
      induction l with
      | nil => simp [PyData.depthAll]
      | cons t r ih =>
        simp only [List.map_cons, PyData.depthAll, PyData.depth]
        omega
    have h3 := h1 fg
    have h4 := h2 fg
    have h5 : PyData.depth (.list (fg.map fun t => .tuple [.int t.1, .int t.2.1, .int t.2.2])) ≤ 64 := by
      simp only [PyData.depth]
      omega
    show (PyData.canLay0 _ && decide (PyData.depth _ ≤ 64)) = true
    rw [Bool.and_eq_true]
    exact ⟨by simp only [PyData.canLay0]; exact h3, decide_eq_true h5⟩
  · cases fg with
    | nil => simp [PyData.eqv, PyData.eqvAll]
    | cons _ _ => simp [PyData.eqv, PyData.eqvAll]
/-! ### _law_hues -/
abbrev sHues : Stmt := topS 32
abbrev nHues : List Str := ["_law_bag_here", "_law_most", "_law_pad"]
theorem scHues : FnScope nHues ["_law_bag_here", "_law_most"] (defScope sHues) := ⟨rfl, rfl, rfl, by decide +kernel, rfl, by decide +kernel, by decide +kernel⟩
def spHues : Sp := fun vs H Q _ => ∃ (b c : Addr) (most : Nat), vs = [.ref b, .int (most : Nat)] ∧ Bag H b c ∧ 0 < most ∧ most ≤ 100 ∧
  ∀ (H' : Hp) (p : Addr) (cs : List Int), Off b H H' → Bag H' b c → H p = none → p ≠ b → H' p = some (.lst (cs.map V.int)) → 1 ≤ cs.length → cs.length ≤ most → (∀ x ∈ cs, (1 : Int) ≤ x ∧ x ≤ 4) → Q (.ref p) H'
section
variable {P : Program} {w : World} {K : PySem.W.Frag} {mg : Str → Option Value} {base : Heap}
theorem ok_hues {f fP fO : Addr} {fd fdP fdO : FuncData} {k : Nat} (F : Fun K "_law_hues" "_law_hues" sHues f fd) (mr : mg "range" = none)
    (FP : Fun K "_law_pull" "_law_pull" sPull fP fdP) (bP : Binds K fdP ["_law_bag_here", "_law_size"] []) (gP : mg "_law_pull" = some (.ref fP)) (GP : FnOk P w K mg base CX0 k fP fdP ["_law_bag_here", "_law_size"] spPull)
    (FO : Fun K "_law_of" "_law_of" sOf fO fdO) (bO : Binds K fdO ["_law_bag_here", "_law_things"] []) (gO : mg "_law_of" = some (.ref fO)) (GO : FnOk P w K mg base CX0 k fO fdO ["_law_bag_here", "_law_things"] spOf) :
    FnOk P w K mg base CX0 (k + 1) f fd ["_law_bag_here", "_law_most"] spHues := by
  refine F.ok scHues (fun vs H Q E h => ?_) (fun cdv A outer s H vs Q E hr h => ?_)
  · obtain ⟨b, c, most, rfl, _⟩ := h
    rfl
  · obtain ⟨b, c, most, rfl, hB, h0, h1, q⟩ := h
    refine ⟨_, pss_one (ps_ret (pe_lc (own := [("_law_pad", 2)]) (g := gName 2) (tt := tYes) rfl scHues.nd (pi_range1 (by rfl) mr (pa_cons (pe_op op_add pe_int (pe_call GP hr (by rfl) gP FP.kp bP .nil pass0 (pa_cons (pv 0) (pa_cons (pv 1) pa_nil)))) pa_nil))
      (blkOk_by (own := [("_law_pad", 2)]) (N := nHues) (sc := defScope sHues) (by decide +kernel)) (fun _ _ _ _ _ => pg_name (i := 2) scHues.nd rfl (Or.inl rfl)) (fun _ _ _ _ _ => pts_nil)
      (fun _ _ _ _ _ => pe_call GO hr (by rfl) gO FO.kp bO .nil pass0 (pa_cons (pv 0) (pa_cons (pe_lst (pa_cons pe_int (pa_cons pe_int (pa_cons pe_int (pa_cons pe_int (pa_cons pe_int pa_nil)))))) pa_nil))))), ?_⟩
    refine ⟨.ref b, rfl, .int (most : Nat), rfl, b, c, most, rfl, hB, by omega, ?_, fun H2 r off2 hB2 r0 r1 => ?_⟩
    · rw [Int.natAbs_natCast]
      exact Nat.lt_of_le_of_lt h1 (by decide)
    obtain ⟨n, rfl⟩ := Int.eq_ofNat_of_zero_le r0
    refine ⟨1, (n : Int), rfl, rfl, 1 + (n : Int), rfl, by omega, by omega, fun D nD => ?_⟩
    have hne := hB2.ne nD
    have hDH : H D = none := by
      cases e : H D with
      | none => rfl
      | some o =>
        rw [off2 D o hne.1 e] at nD
        cases nD
    refine lc_range (lo := 0) (n := (1 + (n : Int)).toNat) (fun i H' => Bag H' b c ∧ Off b H H' ∧ ∃ cs : List Int, cs.length = i ∧ H' D = some (.lst (cs.map V.int)) ∧ ∀ x ∈ cs, (1 : Int) ≤ x ∧ x ≤ 4) ⟨hB2.same (same_upd nD), off2.trans (Off.same (same_upd nD)), [], rfl, upd_same, fun x hx => by cases hx⟩ (fun i H' hi hP => ?_) (fun H' hP => ?_)
    · obtain ⟨hB4, off4, cs, hx, hD, hc⟩ := hP
      refine ⟨rfl, yesT ⟨.ref b, rfl, (show (5 : Nat) ≤ sizeLine by decide), fun t nt => ?_⟩⟩
      have u1 := same_upd (o := .lst [V.int 2, V.int 3, V.int 2, V.int 4, V.int 1]) nt
      refine ⟨b, c, t, _, rfl, hB4.same u1, upd_same, (hB4.ne nt).1, (show (0 : Nat) < 5 by decide), (show (5 : Nat) ≤ 1000 by decide), fun H5 v off5 hB5 hv => ?_⟩
      obtain ⟨x, rfl, hx1⟩ : ∃ x : Int, v = .int x ∧ 1 ≤ x ∧ x ≤ 4 := by
        simp only [List.mem_cons, List.not_mem_nil, or_false] at hv
        rcases hv with rfl | rfl | rfl | rfl | rfl
        · exact ⟨2, rfl, by decide⟩
        · exact ⟨3, rfl, by decide⟩
        · exact ⟨2, rfl, by decide⟩
        · exact ⟨4, rfl, by decide⟩
        · exact ⟨1, rfl, by decide⟩
      refine ⟨_, off5 _ _ hne.1 (u1 _ _ hD), ?_, hB5.upd hne, ((off4.trans (Off.same u1)).trans off5).new hDH, cs ++ [x], ?_, ?_, ?_⟩
      · rw [List.length_map]
        exact small1000 (by omega)
      · rw [List.length_append, hx]
        rfl
      · rw [upd_same, List.map_append]
        rfl
      · intro y hy
        rcases List.mem_append.mp hy with hy | hy
        · exact hc y hy
        · rw [List.mem_singleton.mp hy]
          exact hx1
    · obtain ⟨hB4, off4, cs, hx, hD, hc⟩ := hP
      exact q H' D cs off4 hB4 hDH hne.1 hD (by omega) (by omega) hc
end
/-! ### _law_shape -/
abbrev sShape : Stmt := topS 33
abbrev nShape : List Str := ["_law_bag_here", "_law_colours", "_law_found", "_law_pad"]
theorem scShape : FnScope nShape ["_law_bag_here", "_law_colours"] (defScope sShape) := ⟨rfl, rfl, rfl, by decide +kernel, rfl, by decide +kernel, by decide +kernel⟩
def spShape (K : PySem.W.Frag) : Sp := fun vs H Q _ => ∃ (b c p : Addr) (cs : List Int), vs = [.ref b, .ref p] ∧ Bag H b c ∧ H p = some (.lst (cs.map V.int)) ∧ p ≠ b ∧ 1 ≤ cs.length ∧ cs.length ≤ 6 ∧ (∀ x ∈ cs, (1 : Int) ≤ x ∧ x ≤ 4) ∧
  ∀ H' v f, Off b H H' → Bag H' b c → FigT K H' v f → GoodF cs f → Q v H'
theorem cs_at {cs : List Int} {i : Nat} (h : i < cs.length) : atI (cs.map V.int) (i : Int) = some (.int (cs.getD i 0)) := by
  refine atI_nat ?_
  rw [List.getElem?_map, List.getElem?_eq_getElem h, List.getD_eq_getElem?_getD, List.getElem?_eq_getElem h]
  rfl
theorem cs_in {cs : List Int} {i : Nat} (h : i < cs.length) (a : ∀ x ∈ cs, (1 : Int) ≤ x ∧ x ≤ 4) : 1 ≤ cs.getD i 0 ∧ cs.getD i 0 ≤ 4 := by
  rw [List.getD_eq_getElem?_getD, List.getElem?_eq_getElem h]
  exact a _ (List.getElem_mem h)
section
variable {P : Program} {w : World} {K : PySem.W.Frag} {mg : Str → Option Value} {base : Heap}
theorem ok_shape {f fP fO : Addr} {fd fdP fdO : FuncData} {k : Nat} (F : Fun K "_law_shape" "_law_shape" sShape f fd) (mr : mg "range" = none) (ml : mg "len" = none) (mt : mg "tuple" = none)
    (FP : Fun K "_law_pull" "_law_pull" sPull fP fdP) (bP : Binds K fdP ["_law_bag_here", "_law_size"] []) (gP : mg "_law_pull" = some (.ref fP)) (GP : FnOk P w K mg base CX0 k fP fdP ["_law_bag_here", "_law_size"] spPull)
    (FO : Fun K "_law_of" "_law_of" sOf fO fdO) (bO : Binds K fdO ["_law_bag_here", "_law_things"] []) (gO : mg "_law_of" = some (.ref fO)) (GO : FnOk P w K mg base CX0 k fO fdO ["_law_bag_here", "_law_things"] spOf) :
    FnOk P w K mg base CX0 (k + 1) f fd ["_law_bag_here", "_law_colours"] (spShape K) := by
  refine F.ok scShape (fun vs H Q E h => ?_) (fun cdv A outer s H vs Q E hr h => ?_)
  · obtain ⟨b, c, p, cs, rfl, _⟩ := h
    rfl
  · obtain ⟨b, c, p, cs, rfl, hB, hp, hpb, h1, h6, hcs, q⟩ := h
    refine ⟨_, pss_cons (ps_set (i := 2) scShape.nd rfl (.inl rfl) (pe_lst pa_nil))
      (pss_cons (ps_for PassesOwn.never rfl (pi_range1 (by rfl) mr (pa_cons (pe_callB call_lenQ (by rfl) ml PySem.boot_len (pa_cons (pv 1) pa_nil)) pa_nil)) (pg_name (i := 3) scShape.nd rfl (.inl rfl))
        (pss_one (ps_if (pt_cmpR op_lt (pe_call GP hr (by rfl) gP FP.kp bP .nil pass0 (pa_cons (pv 0) (pa_cons pe_int pa_nil))) pe_int (nomark _))
          (pss_one (ps_expr (pe_bm PySem.F.plainAttrs_list PySem.F.slot_list_append PySem.F.type_list_append mt_append (pv 2) (pa_cons (pe_tup (pa_cons (pv 3)
            (pa_cons (pe_call GP hr (by rfl) gP FP.kp bP .nil pass0 (pa_cons (pv 0) (pa_cons (pe_ix ix_list (pv 1) (pv 3) (fun _ _ => rfl)) pa_nil)))
            (pa_cons (pe_call GO hr (by rfl) gO FO.kp bO .nil pass0 (pa_cons (pv 0) (pa_cons (pe_lst (pa_cons pe_int (pa_cons pe_int (pa_cons pe_int (pa_cons pe_int (pa_cons pe_int pa_nil)))))) pa_nil))) pa_nil)))) pa_nil)))) pss_nil)))
      (C8.pss_cut (ps_if (pt_cmpR (op_eqD hr.units) (pv 2) (pe_lst pa_nil) (nomark _))
          (pss_cons (ps_set (i := 3) scShape.nd rfl (.inl rfl) (pe_call GP hr (by rfl) gP FP.kp bP .nil pass0 (pa_cons (pv 0) (pa_cons (pe_callB call_lenQ (by rfl) ml PySem.boot_len (pa_cons (pv 1) pa_nil)) pa_nil))))
          (pss_one (ps_expr (pe_bm PySem.F.plainAttrs_list PySem.F.slot_list_append PySem.F.type_list_append mt_append (pv 2) (pa_cons (pe_tup (pa_cons (pv 3)
            (pa_cons (pe_call GP hr (by rfl) gP FP.kp bP .nil pass0 (pa_cons (pv 0) (pa_cons (pe_ix ix_list (pv 1) (pv 3) (fun _ _ => rfl)) pa_nil)))
            (pa_cons (pe_op op_add pe_int (pe_call GP hr (by rfl) gP FP.kp bP .nil pass0 (pa_cons (pv 0) (pa_cons pe_int pa_nil)))) pa_nil)))) pa_nil))))) pss_nil)
      (pss_one (ps_ret (pe_callTy call_tupS (by rfl) mt (by decide +kernel) (pa_cons (pv 2) pa_nil)))))), ?_⟩
    refine ⟨Nat.zero_le _, fun D nD => ?_⟩
    have hne := hB.ne nD
    refine ⟨.ref p, rfl, p, _, rfl, .inl (SqL.of (same_upd nD _ _ hp)), ((cs.map V.int).length : Nat), rfl, by rw [List.length_map]; omega, by rw [List.length_map]; omega, ?_⟩
    rw [show (((cs.map V.int).length : Nat) : Int).toNat = cs.length by rw [List.length_map, Int.toNat_natCast]]
    refine for_range (lo := 0) (n := cs.length) (fun i σ H' => ∃ (y3 : Option V) (xs : List V) (fg : List Tri), σ = [some (.ref b), some (.ref p), some (.ref D), y3] ∧ Bag H' b c ∧ Off b H H' ∧ H' D = some (.lst xs) ∧ All2 (TriAt K H') xs fg ∧ (∀ t ∈ fg, GoodT cs t ∧ t.1 < (i : Int)) ∧ (fg.map (·.1)).Pairwise (· < ·) ∧ fg.length ≤ i)
      ⟨none, [], [], rfl, hB.same (same_upd nD), Off.same (same_upd nD), upd_same, True.intro, fun t ht => (by cases ht), List.Pairwise.nil, Nat.le_refl _⟩ ?_ ?_
    · rintro i σ H' hi ⟨y3, xs, fg, rfl, hB4, off4, hD, hA, hG, hU, hl⟩
      refine ⟨.ref b, rfl, b, c, 5, rfl, hB4, by decide, by decide, fun H5 r off5 hB5 _ _ => ?_⟩
      have ts5 : TS K H' H5 := TS.bag off5 hB4
      have hD5 := off5 _ _ hne.1 hD
      refine ⟨r, 2, rfl, rfl, _, rfl, ite2 (fun e => ?_) (fun e => ?_)⟩
      · have hp5 := (off4.trans off5) _ _ hpb hp
        have hci := cs_in hi hcs
        refine ⟨.ref D, rfl, .inl ⟨rfl, _, SqL.of hD5⟩, .int (0 + (i : Int)), rfl, ?_⟩
        refine ⟨.ref b, rfl, .ref p, rfl, .int (0 + (i : Int)), rfl, p, _, 0 + (i : Int), .int (cs.getD i 0), rfl, rfl, SqL.of hp5, by rw [Int.zero_add]; exact cs_at hi, ?_⟩
        refine ⟨b, c, cs.getD i 0, rfl, hB5, by omega, ?_, fun H6 n off6 hB6 n0 n1 => ?_⟩
        · have : (cs.getD i 0).natAbs ≤ 4 := by omega
          exact Nat.lt_of_le_of_lt this (by decide)
        refine ⟨.ref b, rfl, (show (5 : Nat) ≤ sizeLine by decide), fun t nt => ?_⟩
        have u1 := same_upd (o := .lst [V.int 1, V.int 1, V.int 2, V.int 1, V.int 3]) nt
        refine ⟨b, c, t, _, rfl, hB6.same u1, upd_same, (hB6.ne nt).1, (show (0 : Nat) < 5 by decide), (show (5 : Nat) ≤ 1000 by decide), fun H7 v off7 hB7 hv => ?_⟩
        obtain ⟨d, rfl, hd⟩ : ∃ d : Int, v = .int d ∧ 1 ≤ d ∧ d ≤ 3 := by
          simp only [List.mem_cons, List.not_mem_nil, or_false] at hv
          rcases hv with rfl | rfl | rfl | rfl | rfl
          · exact ⟨1, rfl, by decide⟩
          · exact ⟨1, rfl, by decide⟩
          · exact ⟨2, rfl, by decide⟩
          · exact ⟨1, rfl, by decide⟩
          · exact ⟨3, rfl, by decide⟩
        have ts7 : TS K H5 H7 := (TS.bag off6 hB5).trans ((TS.of u1).trans (TS.bag off7 (hB6.same u1)))
        refine ⟨(show (3 : Nat) ≤ sizeLine by decide), fun tt ntt => ?_⟩
        have u2 := same_upd (o := .tup [V.int (0 + (i : Int)), V.int n, V.int d]) ntt
        have hD7 := u2 _ _ (off7 _ _ hne.1 (u1 _ _ (off6 _ _ hne.1 hD5)))
        refine ⟨D, _, _, rfl, rfl, hD7, ?_, ?_⟩
        · rw [hA.len]
          exact small1000 (by omega)
        · refine ⟨_, xs ++ [.ref tt], fg ++ [(0 + (i : Int), n, d)], rfl, (hB7.same u2).upd hne, ((((off4.trans off5).trans off6).trans (Off.same u1)).trans (off7.trans (Off.same u2))).new nD, upd_same, ?_, ?_, ?_, ?_⟩
          · refine All2.snoc ⟨tt, rfl, TS.upd hD7 _ _ (SqT.of upd_same)⟩ (hA.mono fun _ _ => TriAt.ts (ts5.trans (ts7.trans ((TS.of u2).trans (TS.upd hD7)))))
          · intro t ht
            rcases List.mem_append.mp ht with ht | ht
            · exact ⟨(hG t ht).1, by have := (hG t ht).2; omega⟩
            · rw [List.mem_singleton.mp ht]
              refine ⟨⟨by show (0 : Int) ≤ 0 + (i : Int); omega, by show 0 + (i : Int) < _; omega, n0, ?_, hd.1, hd.2⟩, by show 0 + (i : Int) < _; omega⟩
              show n < cs.getD (0 + (i : Int)).toNat 0
              rw [Int.zero_add, Int.toNat_natCast]
              exact n1
          · rw [List.map_append, List.pairwise_append]
            refine ⟨hU, List.pairwise_singleton _ _, fun x hx y hy => ?_⟩
            obtain ⟨t, ht, rfl⟩ := List.mem_map.mp hx
            rw [List.mem_singleton.mp hy]
            have := (hG t ht).2
            show t.1 < 0 + (i : Int)
            omega
          · rw [List.length_append]
            show fg.length + 1 ≤ i + 1
            omega
      · exact ⟨_, xs, fg, rfl, hB5, off4.trans off5, hD5, hA.mono fun _ _ => TriAt.ts ts5, fun t ht => ⟨(hG t ht).1, by have := (hG t ht).2; omega⟩, hU, by omega⟩
    · rintro σ H' ⟨y3, xs, fg, rfl, hB4, off4, hD, hA, hG, hU, hl⟩
      refine ⟨fun σ' H2 => ∃ (y3 : Option V) (xs : List V) (fg : List Tri), σ' = [some (.ref b), some (.ref p), some (.ref D), y3] ∧ Bag H2 b c ∧ Off b H H2 ∧ H2 D = some (.lst xs) ∧ All2 (TriAt K H2) xs fg ∧ GoodF cs fg, ?_, ?_⟩
      · refine ⟨.ref D, rfl, Nat.zero_le _, fun e ne => ?_⟩
        have u1 := same_upd (o := .lst []) ne
        obtain ⟨ds, hds, hsh, hev⟩ : ∃ ds : List PyData, DpAll K (upd H' e (.lst [])) xs ds ∧ SeqAt.shaped (.list ds) = true ∧ PyData.eqv (.list ds) (.list []) = decide (fg = []) := tri_data (hA.mono fun _ _ => TriAt.ts (TS.of u1))
        refine ⟨.list ds, .list [], .lst (SqL.of (u1 _ _ hD)) hds, .lst (SqL.of upd_same) .nil, hsh, by decide, ?_⟩
        rw [hev]
        refine ⟨_, rfl, ite2 (fun e => ?_) (fun e => ?_)⟩
        · have hfg : fg = [] := of_decide_eq_true e
          subst hfg
          have hxs : xs = [] := List.eq_nil_of_length_eq_zero hA.len
          subst hxs
          have hB5 := hB4.same u1
          have hD5 := u1 _ _ hD
          have off5 := off4.trans (Off.same u1)
          generalize upd H' _ (.lst []) = H5 at hB5 hD5 off5 ⊢
          have hp5 := off5 _ _ hpb hp
          refine ⟨.ref b, rfl, .ref p, rfl, p, _, rfl, .inl (SqL.of hp5), b, c, _, rfl, hB5, by rw [List.length_map]; omega, ?_, fun H6 r off6 hB6 r0 r1 => ?_⟩
          · rw [Int.natAbs_natCast, List.length_map]
            exact Nat.lt_of_le_of_lt h6 (by decide)
          rw [List.length_map] at r1
          obtain ⟨i, rfl⟩ := Int.eq_ofNat_of_zero_le r0
          have hi : i < cs.length := by omega
          have hci := cs_in hi hcs
          have hp6 := off6 _ _ hpb hp5
          have hD6 := off6 _ _ hne.1 hD5
          refine ⟨.ref D, rfl, .inl ⟨rfl, _, SqL.of hD6⟩, .int (i : Nat), rfl, ?_⟩
          refine ⟨.ref b, rfl, .ref p, rfl, .int (i : Nat), rfl, p, _, (i : Int), .int (cs.getD i 0), rfl, rfl, SqL.of hp6, cs_at hi, ?_⟩
          refine ⟨b, c, cs.getD i 0, rfl, hB6, by omega, ?_, fun H7 n off7 hB7 n0 n1 => ?_⟩
          · have : (cs.getD i 0).natAbs ≤ 4 := by omega
            exact Nat.lt_of_le_of_lt this (by decide)
          refine ⟨.ref b, rfl, b, c, 3, rfl, hB7, by decide, by decide, fun H8 d off8 hB8 d0 d1 => ⟨1, d, rfl, rfl, (show (3 : Nat) ≤ sizeLine by decide), fun tt ntt => ?_⟩⟩
          have u2 := same_upd (o := .tup [V.int (i : Int), V.int n, V.int (1 + d)]) ntt
          have hD8 := u2 _ _ (off8 _ _ hne.1 (off7 _ _ hne.1 hD6))
          refine ⟨D, _, _, rfl, rfl, hD8, by decide, ?_⟩
          refine ⟨_, [.ref tt], [((i : Int), n, 1 + d)], rfl, (hB8.same u2).upd hne, (((off5.trans off6).trans off7).trans (off8.trans (Off.same u2))).new nD, upd_same, ⟨⟨tt, rfl, TS.upd hD8 _ _ (SqT.of upd_same)⟩, True.intro⟩, ⟨List.cons_ne_nil _ _, fun t ht => ?_, List.pairwise_singleton _ _⟩⟩
          rw [List.mem_singleton.mp ht]
          refine ⟨by show (0 : Int) ≤ (i : Int); omega, by show (i : Int) < _; omega, n0, ?_, by show (1 : Int) ≤ 1 + d; omega, by show 1 + d ≤ (3 : Int); omega⟩
          show n < cs.getD (i : Int).toNat 0
          rw [Int.toNat_natCast]
          exact n1
        · exact ⟨_, xs, fg, rfl, hB4.same u1, off4.trans (Off.same u1), u1 _ _ hD, hA.mono fun _ _ => TriAt.ts (TS.of u1), ⟨fun z => e (decide_eq_true z), fun t ht => (hG t ht).1, hU⟩⟩
      · rintro σ' H2 ⟨y3, xs, fg, rfl, hB5, off5, hD5, hA5, hG5⟩
        refine ⟨.ref D, rfl, D, _, rfl, .inl (SqL.of hD5), fun l H6 s6 hl6 => ?_⟩
        exact q H6 _ fg (off5.trans (Off.same s6)) (hB5.same s6) ⟨l, xs, rfl, hl6, hA5.mono fun _ _ => TriAt.ts (TS.of s6)⟩ hG5
end
/-! ### who bars whom: the mathematics -/
/-- the note that a figure wants on a pad (of two the later) -/
def noteOf (f : List Tri) (p : Int) : Option Int := f.foldl (fun acc t => if p = t.1 then some t.2.1 else acc) none
theorem noteOf_go (p : Int) : ∀ (f : List Tri) (acc : Option Int), f.foldl (fun acc t => if p = t.1 then some t.2.1 else acc) acc = (noteOf f p).or acc
  | [], acc => by simp [noteOf]
  | t :: r, acc => by
    unfold noteOf
    rw [List.foldl_cons, List.foldl_cons, noteOf_go p r, noteOf_go p r (if p = t.1 then some t.2.1 else none)]
    by_cases h : p = t.1
    · rw [if_pos h, if_pos h]
      cases noteOf r p <;> rfl
    · rw [if_neg h, if_neg h]
      cases noteOf r p <;> rfl
theorem noteOf_cons (t : Tri) (r : List Tri) (p : Int) : noteOf (t :: r) p = (noteOf r p).or (if p = t.1 then some t.2.1 else none) := by
  show List.foldl _ _ (t :: r) = _
  rw [List.foldl_cons, noteOf_go]
theorem noteOf_snoc (f : List Tri) (t : Tri) (p : Int) : noteOf (f ++ [t]) p = if p = t.1 then some t.2.1 else noteOf f p := by
  unfold noteOf
  rw [List.foldl_append]
  rfl
theorem noteOf_some {f : List Tri} {p n : Int} (h : noteOf f p = some n) : ∃ t ∈ f, t.1 = p ∧ t.2.1 = n := by
  induction f with
  | nil => cases h
  | cons t r ih =>
    rw [noteOf_cons] at h
    cases e : noteOf r p with
    | some m =>
      rw [e] at h
      have : m = n := Option.some.inj h
      subst this
      obtain ⟨u, hu, h1, h2⟩ := ih e
      exact ⟨u, List.mem_cons_of_mem _ hu, h1, h2⟩
    | none =>
      rw [e] at h
      by_cases hp : p = t.1
      · rw [if_pos hp] at h
        exact ⟨t, List.mem_cons_self, hp.symm, Option.some.inj h⟩
      · rw [if_neg hp] at h
        cases h
theorem noteOf_none {f : List Tri} {p : Int} (h : noteOf f p = none) : ∀ t ∈ f, t.1 ≠ p := by
  induction f with
  | nil => intro t ht; cases ht
  | cons t r ih =>
    rw [noteOf_cons] at h
    cases e : noteOf r p with
    | some m => rw [e] at h; cases h
    | none =>
      rw [e] at h
      by_cases hp : p = t.1
      · rw [if_pos hp] at h
        cases h
      · intro u hu
        rcases List.mem_cons.mp hu with rfl | hu
        · exact fun z => hp z.symm
        · exact ih e u hu
theorem up_inj {f : List Tri} (h : (f.map (·.1)).Pairwise (· < ·)) {t u : Tri} (ht : t ∈ f) (hu : u ∈ f) (e : t.1 = u.1) : t = u := by
  induction f with
  | nil => cases ht
  | cons x r ih =>
    rw [List.map_cons, List.pairwise_cons] at h
    rcases List.mem_cons.mp ht with h1 | h1 <;> rcases List.mem_cons.mp hu with h2 | h2
    · rw [h1, h2]
    · have := h.1 u.1 (List.mem_map.mpr ⟨u, h2, rfl⟩)
      rw [h1] at e
      omega
    · have := h.1 t.1 (List.mem_map.mpr ⟨t, h1, rfl⟩)
      rw [h2] at e
      omega
    · exact ih h.2 h1 h2
def meetB (f g : List Tri) : Bool := f.any fun t => g.any fun u => decide (u.1 = t.1)
def barB (f g : List Tri) : Bool := g.any fun u => !decide ((noteOf f u.1).getD u.2.1 = u.2.1)
theorem meetB_iff {f g : List Tri} : meetB f g = true ↔ ∃ t ∈ f, ∃ u ∈ g, u.1 = t.1 := by
  unfold meetB
  simp only [List.any_eq_true, decide_eq_true_eq]
theorem meetB_comm (f g : List Tri) : meetB f g = meetB g f := by
  rw [Bool.eq_iff_iff, meetB_iff, meetB_iff]
  constructor
  · rintro ⟨t, ht, u, hu, e⟩
    exact ⟨u, hu, t, ht, e.symm⟩
  · rintro ⟨t, ht, u, hu, e⟩
    exact ⟨u, hu, t, ht, e.symm⟩
theorem barB_iff {f g : List Tri} (hf : (f.map (·.1)).Pairwise (· < ·)) : barB f g = true ↔ ∃ t ∈ f, ∃ u ∈ g, u.1 = t.1 ∧ u.2.1 ≠ t.2.1 := by
  unfold barB
  rw [List.any_eq_true]
  constructor
  · rintro ⟨u, hu, h⟩
    cases e : noteOf f u.1 with
    | none => rw [e] at h; simp at h
    | some n =>
      rw [e] at h
      obtain ⟨t, ht, h1, h2⟩ := noteOf_some e
      refine ⟨t, ht, u, hu, h1.symm, fun z => ?_⟩
      simp only [Option.getD_some, Bool.not_eq_true', decide_eq_false_iff_not] at h
      exact h (by rw [← h2, z])
  · rintro ⟨t, ht, u, hu, h1, h2⟩
    refine ⟨u, hu, ?_⟩
    cases e : noteOf f u.1 with
    | none => exact absurd h1.symm (noteOf_none e t ht)
    | some n =>
      obtain ⟨t', ht', h1', h2'⟩ := noteOf_some e
      have := up_inj hf ht ht' (by rw [h1', h1])
      subst this
      simp only [Option.getD_some, Bool.not_eq_true', decide_eq_false_iff_not]
      rw [← h2']
      exact fun z => h2 z.symm
theorem barB_comm {f g : List Tri} (hf : (f.map (·.1)).Pairwise (· < ·)) (hg : (g.map (·.1)).Pairwise (· < ·)) : barB f g = barB g f := by
  rw [Bool.eq_iff_iff, barB_iff hf, barB_iff hg]
  constructor
  · rintro ⟨t, ht, u, hu, e, n⟩
    exact ⟨u, hu, t, ht, e.symm, fun z => n z.symm⟩
  · rintro ⟨t, ht, u, hu, e, n⟩
    exact ⟨u, hu, t, ht, e.symm, fun z => n z.symm⟩
/-- the others' triples on the first one's pads -/
def commonOf (f g : List Tri) : List Tri := g.filter fun u => (noteOf f u.1).isSome
theorem commonOf_nil {f g : List Tri} : commonOf f g = [] ↔ meetB f g = false := by
  rw [← Bool.not_eq_true, meetB_iff]
  unfold commonOf
  rw [List.filter_eq_nil_iff]
  constructor
  · rintro h ⟨t, ht, u, hu, e⟩
    refine h u hu ?_
    cases e2 : noteOf f u.1 with
    | none => exact absurd e.symm (noteOf_none e2 t ht)
    | some n => rfl
  · intro h u hu e
    cases e2 : noteOf f u.1 with
    | none => rw [e2] at e; cases e
    | some n =>
      obtain ⟨t, ht, h1, _⟩ := noteOf_some e2
      exact h ⟨t, ht, u, hu, h1.symm⟩
theorem common_bar (f g : List Tri) : ((commonOf f g).any fun u => !decide ((noteOf f u.1).getD u.2.1 = u.2.1)) = barB f g := by
  unfold commonOf barB
  rw [List.any_filter]
  congr 1
  funext u
  cases noteOf f u.1 with
  | none => simp
  | some n => simp
/-- two figures of a book: apart, or barring one another -/
def okB (f g : List Tri) : Bool := !meetB f g || barB f g
/-- the figures of a book -/
structure GoodB (cs : List Int) (fs : List (List Tri)) : Prop where
  all : ∀ f ∈ fs, GoodF cs f
  two : fs.Pairwise fun g f => okB f g = true
theorem GoodB.pair {cs : List Int} {fs : List (List Tri)} (h : GoodB cs fs) {i j : Nat} {f g : List Tri} (hij : i < j) (hf : fs[i]? = some f) (hg : fs[j]? = some g) : meetB f g = true → barB f g = true := by
  intro hm
  obtain ⟨hi, rfl⟩ := List.getElem?_eq_some_iff.mp hf
  obtain ⟨hj, rfl⟩ := List.getElem?_eq_some_iff.mp hg
  have h2 := List.pairwise_iff_getElem.mp h.two i j hi hj hij
  unfold okB at h2
  rw [meetB_comm, hm] at h2
  rw [barB_comm (h.all _ (List.getElem_mem hi)).up (h.all _ (List.getElem_mem hj)).up]
  exact h2
/-- a figure's pads and notes as a dict -/
def kvsOf (f : List Tri) : List (Key × V) := f.map fun t => (Sum.inl t.1, V.int t.2.1)
theorem val_merge (p : Int) : ∀ (f : List Tri) (acc : List (Key × V)), valV (mergeK acc (kvsOf f)) (Sum.inl p) = ((noteOf f p).map V.int).or (valV acc (Sum.inl p))
  | [], acc => rfl
  | t :: r, acc => by
    have e : mergeK acc (kvsOf (t :: r)) = mergeK (putK acc (Sum.inl t.1) (.int t.2.1)) (kvsOf r) := rfl
    rw [e, val_merge p r, valV_put, noteOf_cons]
    by_cases h : p = t.1
    · rw [if_pos h, if_pos (by rw [h])]
      cases noteOf r p <;> rfl
    · rw [if_neg h, if_neg (fun z => h (Sum.inl.inj z))]
      cases noteOf r p <;> simp
theorem val_fig (f : List Tri) (p : Int) : valV (mergeK [] (kvsOf f)) (Sum.inl p) = (noteOf f p).map V.int := by
  rw [val_merge]
  cases noteOf f p <;> rfl
theorem merge_snoc (f : List Tri) (t : Tri) : mergeK [] (kvsOf (f ++ [t])) = putK (mergeK [] (kvsOf f)) (Sum.inl t.1) (.int t.2.1) := by
  unfold mergeK kvsOf
  rw [List.map_append, List.foldl_append]
  rfl
theorem putK_len' (c : List (Key × V)) (k : Key) (x : V) : (putK c k x).length ≤ c.length + 1 := by
  unfold putK
  split
  · rw [List.length_map]
    omega
  · rw [List.length_append]
    exact Nat.le_refl _
theorem merge_len (f : List Tri) : (mergeK [] (kvsOf f)).length ≤ f.length := by
  have h : ∀ (f : List Tri) (acc : List (Key × V)), (mergeK acc (kvsOf f)).length ≤ acc.length + f.length := fun f => by
    induction f with
    | nil => intro acc; exact Nat.le_refl _
    | cons t r ih =>
      intro acc
      have e : mergeK acc (kvsOf (t :: r)) = mergeK (putK acc (Sum.inl t.1) (.int t.2.1)) (kvsOf r) := rfl
      have h1 := ih (putK acc (Sum.inl t.1) (.int t.2.1))
      have h2 := putK_len' acc (Sum.inl t.1) (.int t.2.1)
      rw [e, List.length_cons]
      omega
  have := h f []
  rw [List.length_nil, Nat.zero_add] at this
  exact this
/-! ### _law_bars -/
abbrev sBars : Stmt := topS 34
abbrev nBars : List Str := ["_law_one", "_law_other", "_law_mine", "_law_common", "_law_pad", "_law_note", "_law_depth"]
theorem scBars : FnScope nBars ["_law_one", "_law_other"] (defScope sBars) := ⟨rfl, rfl, rfl, by decide +kernel, rfl, by decide +kernel, by decide +kernel⟩
def spBars (K : PySem.W.Frag) : Sp := fun vs H Q _ => ∃ (v u : V) (f g : List Tri), vs = [v, u] ∧ FigT K H v f ∧ FigT K H u g ∧ f.length ≤ 100 ∧ g.length ≤ 100 ∧ ∀ H', Same H H' → Q (.bl (okB f g)) H'
abbrev g3 (K : PySem.W.Frag) (i j k : Nat) : TG := gTup K 3 (gCons (gName i) (gCons (gName j) (gCons (gName k) gNil)))
abbrev g2 (K : PySem.W.Frag) (i j : Nat) : TG := gTup K 2 (gCons (gName i) (gCons (gName j) gNil))
def pairV (t : Tri) : List V := [.int t.1, .int t.2.1]
def PairAt (K : PySem.W.Frag) (H : Hp) (v : V) (t : Tri) : Prop := ∃ a, v = .ref a ∧ SqT K H a (pairV t)
theorem PairAt.ts {K : PySem.W.Frag} {H H' : Hp} (e : TS K H H') {v : V} {t : Tri} (h : PairAt K H v t) : PairAt K H' v t := by
  obtain ⟨a, h1, h2⟩ := h
  exact ⟨a, h1, e _ _ h2⟩
theorem pair_paired {K : PySem.W.Frag} {H : Hp} : ∀ {xs : List V} {f : List Tri}, All2 (PairAt K H) xs f → ∃ ps : List Addr, xs = ps.map V.ref ∧ Paired (fun p kv => SqT K H p [kV kv.1, kv.2]) ps (kvsOf f)
  | [], [], _ => ⟨[], rfl, .nil⟩
  | x :: xs, t :: f, h => by
    obtain ⟨a, rfl, ha⟩ := h.1
    obtain ⟨ps, e, hp⟩ := pair_paired h.2
    exact ⟨a :: ps, by rw [e]; rfl, .cons ha hp⟩
  | [], _ :: _, h => h.elim
  | _ :: _, [], h => h.elim
theorem pair_data {K : PySem.W.Frag} {H : Hp} : ∀ {xs : List V} {fg : List Tri}, All2 (PairAt K H) xs fg → ∃ ds : List PyData, DpAll K H xs ds ∧ SeqAt.shaped (.list ds) = true ∧ PyData.eqv (.list ds) (.list []) = decide (fg = []) := by
  intro xs fg h
  refine ⟨fg.map fun t => .tuple [.int t.1, .int t.2.1], ?_, ?_, ?_⟩
  · induction fg generalizing xs with
    | nil =>
      cases xs with
      | nil => exact .nil
      | cons _ _ => exact h.elim
    | cons t r ih =>
      cases xs with
      | nil => exact h.elim
      | cons x l =>
        obtain ⟨a, e, ha⟩ := h.1
        subst e
        exact .cons (.tup ha (.cons (.int _) (.cons (.int _) .nil))) (ih h.2)
  · have h1 : ∀ l : List Tri, PyData.canLayAll0 (l.map fun t => .tuple [.int t.1, .int t.2.1]) = true := fun l => by
      induction l with
      | nil => rfl
      | cons t r ih => simp [PyData.canLayAll0, PyData.canLay0, ih]
    have h2 : ∀ l : List Tri, PyData.depthAll (l.map fun t => .tuple [.int t.1, .int t.2.1]) ≤ 1 := fun l => by
      induction l with
      | nil => simp [PyData.depthAll]
      | cons t r ih =>
        simp only [List.map_cons, PyData.depthAll, PyData.depth]
        omega
    have h3 := h1 fg
    have h4 := h2 fg
    have h5 : PyData.depth (.list (fg.map fun t => .tuple [.int t.1, .int t.2.1])) ≤ 64 := by
      simp only [PyData.depth]
      omega
    show (PyData.canLay0 _ && decide (PyData.depth _ ≤ 64)) = true
    rw [Bool.and_eq_true]
    exact ⟨by simp only [PyData.canLay0]; exact h3, decide_eq_true h5⟩
  · cases fg with
    | nil => simp [PyData.eqv, PyData.eqvAll]
    | cons _ _ => simp [PyData.eqv, PyData.eqvAll]
theorem take_snoc {α : Type} {l : List α} {i : Nat} {a : α} (h : l[i]? = some a) : l.take (i + 1) = l.take i ++ [a] := by
  rw [List.take_add_one, h]
  rfl
section
variable {P : Program} {w : World} {K : PySem.W.Frag} {mg : Str → Option Value} {base : Heap}
theorem ok_bars {f : Addr} {fd : FuncData} {k : Nat} (F : Fun K "_law_bars" "_law_bars" sBars f fd) (md : mg "dict" = none) (ma : mg "any" = none) : FnOk P w K mg base CX0 (k + 1) f fd ["_law_one", "_law_other"] (spBars K) := by
  refine F.ok scBars (fun vs H Q E h => ?_) (fun cdv A outer s H vs Q E hr h => ?_)
  · obtain ⟨v, u, f, g, rfl, _⟩ := h
    rfl
  · obtain ⟨v, u, f, g, rfl, hV, hU, hfl, hgl, q⟩ := h
    obtain ⟨a, xs, rfl, ha, hxs⟩ := hV
    obtain ⟨b, ys, rfl, hb, hys⟩ := hU
    refine ⟨_, pss_cons (ps_set (i := 2) scBars.nd rfl (.inr rfl) (pe_callTy (call_dictP rfl) (by rfl) md (by decide +kernel) (pa_cons (pe_lc (own := [("_law_pad", 4), ("_law_note", 5), ("_law_depth", 6)]) (g := g3 K 4 5 6) (tt := tYes) rfl scBars.nd (pi_tup (pv 0))
        (blkOk_by (own := [("_law_pad", 4), ("_law_note", 5), ("_law_depth", 6)]) (N := nBars) (sc := defScope sBars) (by decide +kernel))
        (fun _ _ _ _ _ => pg_tup rfl (pgs_cons (pg_name (i := 4) scBars.nd rfl (.inl rfl)) (pgs_cons (pg_name (i := 5) scBars.nd rfl (.inl rfl)) (pgs_cons (pg_name (i := 6) scBars.nd rfl (.inl rfl)) pgs_nil)))) (fun _ _ _ _ _ => pts_nil)
        (fun _ _ _ _ _ => pe_tup (pa_cons (pv 4) (pa_cons (pv 5) pa_nil)))) pa_nil)))
      (pss_cons (ps_setLc (i := 3) (own := [("_law_pad", 4), ("_law_note", 5), ("_law_depth", 6)]) (g := g3 K 4 5 6) rfl scBars.nd rfl rfl (sw_true rfl rfl rfl (by decide +kernel)) (pi_tup (pv 1))
        (blkOk_by (own := [("_law_pad", 4), ("_law_note", 5), ("_law_depth", 6)]) (N := nBars) (sc := defScope sBars) (by decide +kernel))
        (fun _ _ _ _ _ => pg_tup rfl (pgs_cons (pg_name (i := 4) scBars.nd rfl (.inl rfl)) (pgs_cons (pg_name (i := 5) scBars.nd rfl (.inl rfl)) (pgs_cons (pg_name (i := 6) scBars.nd rfl (.inl rfl)) pgs_nil))))
        (fun _ _ _ _ _ => pts_one (pt_cmp (pc_din (hu_of hr) (pv 4) (pv 2)))) (fun _ _ _ _ _ => pe_tup (pa_cons (pv 4) (pa_cons (pv 5) pa_nil))))
      (pss_one (ps_ret (pe_or (pe_cmpR (op_eqD hr.units) (pv 3) (pe_lst pa_nil) (nomark _)) (pe_one (pe_callB (cr_any rfl) (by rfl) ma (by decide +kernel) (pa_cons (pe_lc (own := [("_law_pad", 4), ("_law_note", 5)]) (g := g2 K 4 5) (tt := tYes) rfl scBars.nd (pi_list (pv 3))
        (blkOk_by (own := [("_law_pad", 4), ("_law_note", 5)]) (N := nBars) (sc := defScope sBars) (by decide +kernel))
        (fun _ _ _ _ _ => pg_tup rfl (pgs_cons (pg_name (i := 4) scBars.nd rfl (.inl rfl)) (pgs_cons (pg_name (i := 5) scBars.nd rfl (.inl rfl)) pgs_nil))) (fun _ _ _ _ _ => pts_nil)
        (fun _ _ _ _ _ => pe_cmpR op_ne (pe_dget (hu_of hr) (pv 2) (pv 4) (fun _ _ => rfl)) (pv 5) (nomark _))) pa_nil))))))), ?_⟩
    -- mine
    refine ⟨.ref a, rfl, a, rfl, ⟨_, ha⟩, fun D nD => ?_⟩
    refine lc_tup (K := K) (a := a) (xs := xs) (fun i H' => Same H H' ∧ ∃ zs, H' D = some (.lst zs) ∧ All2 (PairAt K H') zs (f.take i)) ⟨same_upd nD, [], upd_same, True.intro⟩ (fun i H' _ hP => Same.tup hP.1 ha) (fun i x H' hx hP => ?_) (fun H1 hP => ?_)
    · obtain ⟨sm, zs, hD, hz⟩ := hP
      obtain ⟨t, ht, tp, rfl, htp⟩ := hxs.get hx
      refine ⟨tp, triV t, rfl, Same.tup sm htp, rfl, _, _, rfl, _, _, rfl, _, _, rfl, rfl, rfl, yesT ⟨_, rfl, _, rfl, (show (2 : Nat) ≤ sizeLine by decide), fun n nn => ?_⟩⟩
      have u1 := same_upd (o := .tup [V.int t.1, V.int t.2.1]) nn
      have hD1 := u1 _ _ hD
      refine ⟨_, hD1, ?_, Same.offUpd (sm.trans u1) nD, zs ++ [.ref n], upd_same, ?_⟩
      · rw [hz.len, List.length_take]
        exact small1000 (by omega)
      · rw [take_snoc ht]
        exact All2.snoc ⟨n, rfl, TS.upd hD1 _ _ (SqT.of upd_same)⟩ (hz.mono fun _ _ => PairAt.ts ((TS.of u1).trans (TS.upd hD1)))
    · obtain ⟨sm1, zs, hD, hz⟩ := hP
      rw [List.take_of_length_le (by rw [hxs.len]; exact Nat.le_refl _)] at hz
      obtain ⟨ps, rfl, hpp⟩ := pair_paired hz
      refine ⟨D, ps, kvsOf f, rfl, SqL.of hD, hpp, fun d nd => ?_⟩
      have u1 := same_upd (o := .dK (mergeK [] (kvsOf f))) nd
      have s1 := sm1.trans u1
      have hd : (upd H1 d (.dK (mergeK [] (kvsOf f)))) d = some (.dK (mergeK [] (kvsOf f))) := upd_same
      generalize upd H1 d (.dK (mergeK [] (kvsOf f))) = H2 at s1 hd ⊢
      -- common
      refine ⟨.ref b, rfl, b, rfl, ⟨_, Same.tup s1 hb⟩, fun D2 nD2 => ?_⟩
      refine lc_tup (K := K) (a := b) (xs := ys) (fun i H' => Same H2 H' ∧ ∃ zs, H' D2 = some (.lst zs) ∧ All2 (PairAt K H') zs (commonOf f (g.take i))) ⟨same_upd nD2, [], upd_same, True.intro⟩ (fun i H' _ hP => Same.tup (s1.trans hP.1) hb) (fun i x H' hx hP => ?_) (fun H3 hP => ?_)
      · obtain ⟨sm, zs, hD2, hz⟩ := hP
        obtain ⟨t, ht, tp, rfl, htp⟩ := hys.get hx
        have hl : zs.length ≤ 100 := by
          rw [hz.len]
          have := List.length_filter_le (fun u : Tri => (noteOf f u.1).isSome) (g.take i)
          rw [List.length_take] at this
          exact Nat.le_trans this (by omega)
        refine ⟨tp, triV t, rfl, Same.tup (s1.trans sm) htp, rfl, _, _, rfl, _, _, rfl, _, _, rfl, rfl, rfl, ?_⟩
        refine ⟨_, rfl, _, rfl, d, _, rfl, DGet.k (k := Sum.inl t.1) (sm _ _ hd), _, rfl, ?_⟩
        rw [val_fig]
        have cm : commonOf f (g.take (i + 1)) = commonOf f (g.take i) ++ (if (noteOf f t.1).isSome = true then [t] else []) := by
          rw [take_snoc ht]
          unfold commonOf
          rw [List.filter_append]
          congr 1
          simp only [List.filter_cons, List.filter_nil]
        cases e : noteOf f t.1 with
        | none =>
          refine iteF ⟨sm, zs, hD2, ?_⟩
          rw [cm, e, if_neg (by simp), List.append_nil]
          exact hz
        | some n0 =>
          refine iteT ⟨_, rfl, _, rfl, (show (2 : Nat) ≤ sizeLine by decide), fun n nn => ?_⟩
          have u1 := same_upd (o := .tup [V.int t.1, V.int t.2.1]) nn
          have hD1 := u1 _ _ hD2
          refine ⟨_, hD1, small1000 (by omega), Same.offUpd (sm.trans u1) nD2, zs ++ [.ref n], upd_same, ?_⟩
          rw [cm, e, if_pos (by simp)]
          exact All2.snoc ⟨n, rfl, TS.upd hD1 _ _ (SqT.of upd_same)⟩ (hz.mono fun _ _ => PairAt.ts ((TS.of u1).trans (TS.upd hD1)))
      · obtain ⟨sm2, zs, hD2, hz⟩ := hP
        rw [List.take_of_length_le (by rw [hys.len]; exact Nat.le_refl _)] at hz
        have s2 := s1.trans sm2
        have hd3 := sm2 _ _ hd
        refine ⟨.ref D2, rfl, Nat.zero_le _, fun e ne => ?_⟩
        have u1 := same_upd (o := .lst []) ne
        obtain ⟨ds, hds, hsh, hev⟩ := pair_data (hz.mono fun _ _ => PairAt.ts (TS.of u1))
        refine ⟨.list ds, .list [], .lst (SqL.of (u1 _ _ hD2)) hds, .lst (SqL.of upd_same) .nil, hsh, by decide, ?_⟩
        rw [hev]
        have s3 := s2.trans u1
        have hd4 := u1 _ _ hd3
        have hD4 := u1 _ _ hD2
        have hz4 := hz.mono fun _ _ => PairAt.ts (TS.of (K := K) u1)
        generalize upd H3 e (.lst []) = H4 at s3 hd4 hD4 hz4 ⊢
        refine ⟨_, rfl, ite2 (fun e => ?_) (fun e => ?_)⟩
        · have e1 := commonOf_nil.mp (of_decide_eq_true e)
          have := q _ s3
          unfold okB at this
          rw [e1] at this
          exact this
        · have e1 : meetB f g = true := by
            cases e2 : meetB f g with
            | true => rfl
            | false => exact absurd (decide_eq_true (commonOf_nil.mpr e2)) e
          refine ⟨.ref D2, rfl, D2, rfl, ⟨_, SqL.of hD4⟩, fun D3 nD3 => ?_⟩
          refine lc_list (K := K) (a := D2) (xs := zs) (fun i H' => Same H4 H' ∧ H' D3 = some (.lst ((((commonOf f g).take i).map fun u => !decide ((noteOf f u.1).getD u.2.1 = u.2.1)).map V.bl))) ⟨same_upd nD3, upd_same⟩ (fun i H' _ hP => SqL.of (hP.1 _ _ hD4)) (fun i x H' hx hP => ?_) (fun H5 hP => ?_)
          · obtain ⟨sm, hD3⟩ := hP
            obtain ⟨t, ht, tp, rfl, htp⟩ := hz4.get hx
            have htm : t ∈ commonOf f g := List.mem_of_getElem? ht
            have hsome := (List.mem_filter.mp htm).2
            obtain ⟨n0, hn0⟩ := Option.isSome_iff_exists.mp hsome
            refine ⟨tp, pairV t, rfl, Same.tup sm htp, rfl, _, _, rfl, _, _, rfl, rfl, rfl, yesT ?_⟩
            refine ⟨_, rfl, _, rfl, d, .int n0, rfl, ?_, _, rfl, rfl, _, hD3, ?_, Same.offUpd sm nD3, ?_⟩
            · have := DGet.k (k := Sum.inl t.1) (sm _ _ hd4)
              rw [val_fig, hn0] at this
              exact this
            · rw [List.length_map, List.length_map, List.length_take]
              have := List.length_filter_le (fun u : Tri => (noteOf f u.1).isSome) g
              have h2 : (commonOf f g).length ≤ g.length := this
              exact small1000 (by omega)
            · rw [upd_same, take_snoc ht, List.map_append, List.map_append]
              have : (!decide (V.int n0 = V.int t.2.1)) = (!decide ((noteOf f t.1).getD t.2.1 = t.2.1)) := by
                rw [hn0, Option.getD_some]
                congr 1
                rw [decide_eq_decide]
                exact ⟨fun z => V.int.inj z, fun z => by rw [z]⟩
              rw [this]
              rfl
          · obtain ⟨sm, hD3⟩ := hP
            rw [hz4.len, List.take_length] at hD3
            refine ⟨D3, _, rfl, SqL.of hD3, ?_⟩
            have := q _ (s3.trans sm)
            unfold okB at this
            rw [e1, ← common_bar] at this
            rw [List.any_map]
            exact this
end
/-! ### _law_shapes -/
abbrev sShapes : Stmt := topS 35
abbrev nShapes : List Str := ["_law_bag_here", "_law_colours", "_law_most", "_law_found", "_law_turn", "_law_one", "_law_other"]
theorem scShapes : FnScope nShapes ["_law_bag_here", "_law_colours", "_law_most"] (defScope sShapes) := ⟨rfl, rfl, rfl, by decide +kernel, rfl, by decide +kernel, by decide +kernel⟩
def spShapes (K : PySem.W.Frag) : Sp := fun vs H Q _ => ∃ (b c p : Addr) (cs : List Int) (most : Nat), vs = [.ref b, .ref p, .int (most : Nat)] ∧ Bag H b c ∧ H p = some (.lst (cs.map V.int)) ∧ p ≠ b ∧ 1 ≤ cs.length ∧ cs.length ≤ 6 ∧ (∀ x ∈ cs, (1 : Int) ≤ x ∧ x ≤ 4) ∧ most ≤ 100 ∧
  ∀ (H' : Hp) (d : Addr) (xs : List V) (fs : List (List Tri)), Off b H H' → Bag H' b c → H d = none → d ≠ b → H' d = some (.lst xs) → All2 (FigT K H') xs fs → GoodB cs fs → fs.length ≤ most → (0 < most → fs ≠ []) → Q (.ref d) H'
section
variable {P : Program} {w : World} {K : PySem.W.Frag} {mg : Str → Option Value} {base : Heap}
theorem ok_shapes {f fS fB : Addr} {fd fdS fdB : FuncData} {k : Nat} (F : Fun K "_law_shapes" "_law_shapes" sShapes f fd) (mr : mg "range" = none) (ma : mg "all" = none)
    (FS : Fun K "_law_shape" "_law_shape" sShape fS fdS) (bS : Binds K fdS ["_law_bag_here", "_law_colours"] []) (gS : mg "_law_shape" = some (.ref fS)) (GS : FnOk P w K mg base CX0 k fS fdS ["_law_bag_here", "_law_colours"] (spShape K))
    (FB : Fun K "_law_bars" "_law_bars" sBars fB fdB) (bB : Binds K fdB ["_law_one", "_law_other"] []) (gB : mg "_law_bars" = some (.ref fB)) (GB : FnOk P w K mg base CX0 k fB fdB ["_law_one", "_law_other"] (spBars K)) :
    FnOk P w K mg base CX0 (k + 1) f fd ["_law_bag_here", "_law_colours", "_law_most"] (spShapes K) := by
  refine F.ok scShapes (fun vs H Q E h => ?_) (fun cdv A outer s H vs Q E hr h => ?_)
  · obtain ⟨b, c, p, cs, most, rfl, _⟩ := h
    rfl
  · obtain ⟨b, c, p, cs, most, rfl, hB, hp, hpb, h1, h6, hcs, hm, q⟩ := h
    refine ⟨_, pss_cons (ps_set (i := 3) scShapes.nd rfl (.inl rfl) (pe_lst pa_nil))
      (pss_cons (ps_for PassesOwn.never rfl (pi_range1 (by rfl) mr (pa_cons (pv 2) pa_nil)) (pg_name (i := 4) scShapes.nd rfl (.inl rfl))
        (pss_cons (ps_set (i := 5) scShapes.nd rfl (.inr rfl) (pe_call GS hr (by rfl) gS FS.kp bS .nil pass0 (pa_cons (pv 0) (pa_cons (pv 1) pa_nil))))
        (pss_one (ps_if (pt_val (pe_callB (cr_all rfl) (by rfl) ma (by decide +kernel) (pa_cons (pe_lc (own := [("_law_other", 6)]) (g := gName 6) (tt := tYes) rfl scShapes.nd (pi_list (pv 3))
            (blkOk_by (own := [("_law_other", 6)]) (N := nShapes) (sc := defScope sShapes) (by decide +kernel)) (fun _ _ _ _ _ => pg_name (i := 6) scShapes.nd rfl (Or.inl rfl)) (fun _ _ _ _ _ => pts_nil)
            (fun _ _ _ _ _ => pe_call GB hr (by rfl) gB FB.kp bB .nil pass0 (pa_cons (pv 5) (pa_cons (pv 6) pa_nil)))) pa_nil)))
          (pss_one (ps_expr (pe_bm PySem.F.plainAttrs_list PySem.F.slot_list_append PySem.F.type_list_append mt_append (pv 3) (pa_cons (pv 5) pa_nil)))) pss_nil))))
      (pss_one (ps_ret (pv 3)))), ?_⟩
    refine ⟨Nat.zero_le _, fun D nD => ?_⟩
    have hne := hB.ne nD
    refine ⟨.int (most : Nat), rfl, (most : Nat), rfl, by omega, by omega, ?_⟩
    rw [Int.toNat_natCast]
    refine for_range (lo := 0) (n := most) (fun i σ H' => ∃ (y4 y5 : Option V) (xs : List V) (fs : List (List Tri)), σ = [some (.ref b), some (.ref p), some (.int (most : Nat)), some (.ref D), y4, y5, none] ∧ Bag H' b c ∧ Off b H H' ∧ H' D = some (.lst xs) ∧ All2 (FigT K H') xs fs ∧ GoodB cs fs ∧ fs.length ≤ i ∧ (0 < i → fs ≠ []))
      ⟨none, none, [], [], rfl, hB.same (same_upd nD), Off.same (same_upd nD), upd_same, True.intro, ⟨fun f hf => (by cases hf), List.Pairwise.nil⟩, Nat.le_refl _, fun z => (by omega)⟩ ?_ ?_
    · rintro i σ H' hi ⟨y4, y5, xs, fs, rfl, hB4, off4, hD, hA, hG, hl, hne0⟩
      refine ⟨.ref b, rfl, .ref p, rfl, b, c, p, cs, rfl, hB4, off4 _ _ hpb hp, hpb, h1, h6, hcs, fun H5 v fg off5 hB5 hV hGf => ?_⟩
      have ts5 : TS K H' H5 := TS.bag off5 hB4
      have hD5 := off5 _ _ hne.1 hD
      have hA5 := hA.mono fun _ _ => FigT.ts ts5
      refine ⟨.ref D, rfl, D, rfl, ⟨_, SqL.of hD5⟩, fun D2 nD2 => ?_⟩
      have hgl := hGf.len
      refine lc_list (K := K) (a := D) (xs := xs) (fun j H' => Same H5 H' ∧ H' D2 = some (.lst (((fs.take j).map fun g => okB fg g).map V.bl))) ⟨same_upd nD2, upd_same⟩ (fun j H' _ hP => SqL.of (hP.1 _ _ hD5)) (fun j x H' hx hP => ?_) (fun H6 hP => ?_)
      · obtain ⟨sm, hD2⟩ := hP
        obtain ⟨g, hg, hgT⟩ := hA5.get hx
        have hgG := hG.all g (List.mem_of_getElem? hg)
        have hgl2 := hgG.len
        refine ⟨rfl, yesT ⟨v, rfl, x, rfl, v, x, fg, g, rfl, hV.ts (TS.of sm), hgT.ts (TS.of sm), by omega, by omega, fun H7 s7 => ?_⟩⟩
        refine ⟨_, s7 _ _ hD2, ?_, Same.offUpd (sm.trans s7) nD2, ?_⟩
        · rw [List.length_map, List.length_map, List.length_take]
          exact small1000 (by omega)
        · rw [upd_same, take_snoc hg, List.map_append, List.map_append]
          rfl
      · obtain ⟨sm, hD2⟩ := hP
        rw [hA5.len, List.take_length] at hD2
        refine ⟨D2, _, rfl, SqL.of hD2, _, rfl, ite2 (fun e => ?_) (fun e => ?_)⟩
        · have hD6 := sm _ _ hD5
          have hA6 := hA5.mono fun _ _ => FigT.ts (TS.of (K := K) sm)
          refine ⟨.ref D, rfl, .inl ⟨rfl, _, SqL.of hD6⟩, v, rfl, D, _, _, rfl, rfl, hD6, ?_, ?_⟩
          · rw [hA6.len]
            exact small1000 (by omega)
          · refine ⟨_, _, xs ++ [v], fs ++ [fg], rfl, (hB5.same sm).upd hne, ((off4.trans off5).trans (Off.same sm)).new nD, upd_same, ?_, ⟨?_, ?_⟩, ?_, fun _ z => by simp at z⟩
            · exact All2.snoc ((hV.ts (TS.of sm)).ts (TS.upd hD6)) (hA6.mono fun _ _ => FigT.ts (TS.upd hD6))
            · intro f hf
              rcases List.mem_append.mp hf with hf | hf
              · exact hG.all f hf
              · rw [List.mem_singleton.mp hf]
                exact hGf
            · rw [List.pairwise_append]
              refine ⟨hG.two, List.pairwise_singleton _ _, fun g hg f hf => ?_⟩
              rw [List.mem_singleton.mp hf]
              rw [List.all_map, List.all_eq_true] at e
              exact e g hg
            · rw [List.length_append]
              show fs.length + 1 ≤ i + 1
              omega
        · refine ⟨_, _, xs, fs, rfl, hB5.same sm, (off4.trans off5).trans (Off.same sm), sm _ _ hD5, hA5.mono fun _ _ => FigT.ts (TS.of sm), hG, by omega, fun _ z => e ?_⟩
          rw [z]
          rfl
    · rintro σ H' ⟨y4, y5, xs, fs, rfl, hB4, off4, hD, hA, hG, hl, hne0⟩
      exact ⟨.ref D, rfl, q H' D xs fs off4 hB4 nD hne.1 hD hA hG hl hne0⟩
end
/-! ### pads_of, share, have_common_pad, bar -/
def spPads (K : PySem.W.Frag) : Sp := fun vs H Q _ => ∃ (v : V) (f : List Tri), vs = [v] ∧ FigT K H v f ∧ f.length ≤ 100 ∧ ∀ (H' : Hp) (p : Addr), Same H H' → H p = none → H' p = some (.lst ((f.map (·.1)).map V.int)) → Q (.ref p) H'
abbrev sPadsOf : Stmt := topS 21
abbrev nPadsOf : List Str := ["figure", "pad", "note", "depth"]
theorem scPadsOf : FnScope nPadsOf ["figure"] (defScope sPadsOf) := ⟨rfl, rfl, rfl, by decide +kernel, rfl, by decide +kernel, by decide +kernel⟩
section
variable {P : Program} {w : World} {K : PySem.W.Frag} {mg : Str → Option Value} {base : Heap}
theorem ok_padsof {f : Addr} {fd : FuncData} {k : Nat} (F : Fun K "pads_of" "pads_of" sPadsOf f fd) : FnOk P w K mg base CX0 (k + 1) f fd ["figure"] (spPads K) := by
  refine F.ok scPadsOf (fun vs H Q E h => ?_) (fun cdv A outer s H vs Q E hr h => ?_)
  · obtain ⟨v, f, rfl, _⟩ := h
    rfl
  · obtain ⟨v, f, rfl, hV, hfl, q⟩ := h
    obtain ⟨a, xs, rfl, ha, hxs⟩ := hV
    refine ⟨_, pss_one (ps_ret (pe_lc (own := [("pad", 1), ("note", 2), ("depth", 3)]) (g := g3 K 1 2 3) (tt := tYes) rfl scPadsOf.nd (pi_tup (pv 0))
        (blkOk_by (own := [("pad", 1), ("note", 2), ("depth", 3)]) (N := nPadsOf) (sc := defScope sPadsOf) (by decide +kernel))
        (fun _ _ _ _ _ => pg_tup rfl (pgs_cons (pg_name (i := 1) scPadsOf.nd rfl (.inl rfl)) (pgs_cons (pg_name (i := 2) scPadsOf.nd rfl (.inl rfl)) (pgs_cons (pg_name (i := 3) scPadsOf.nd rfl (.inl rfl)) pgs_nil)))) (fun _ _ _ _ _ => pts_nil)
        (fun _ _ _ _ _ => pv 1))), ?_⟩
    refine ⟨.ref a, rfl, a, rfl, ⟨_, ha⟩, fun D nD => ?_⟩
    refine lc_tup (K := K) (a := a) (xs := xs) (fun i H' => Same H H' ∧ H' D = some (.lst (((f.take i).map (·.1)).map V.int))) ⟨same_upd nD, upd_same⟩ (fun i H' _ hP => Same.tup hP.1 ha) (fun i x H' hx hP => ?_) (fun H1 hP => ?_)
    · obtain ⟨sm, hD⟩ := hP
      obtain ⟨t, ht, tp, rfl, htp⟩ := hxs.get hx
      refine ⟨tp, triV t, rfl, Same.tup sm htp, rfl, _, _, rfl, _, _, rfl, _, _, rfl, rfl, rfl, yesT ⟨_, rfl, _, hD, ?_, Same.offUpd sm nD, ?_⟩⟩
      · rw [List.length_map, List.length_map, List.length_take]
        exact small1000 (by omega)
      · rw [upd_same, take_snoc ht, List.map_append, List.map_append]
        rfl
    · obtain ⟨sm, hD⟩ := hP
      rw [hxs.len, List.take_length] at hD
      exact q H1 D sm nD hD
end
def spShare (K : PySem.W.Frag) : Sp := fun vs H Q _ => ∃ (a b : Addr) (ps qs : List Int), vs = [.ref a, .ref b] ∧ SqL K H a (ps.map V.int) ∧ SqL K H b (qs.map V.int) ∧ ps.length ≤ 100 ∧ ∀ H', Same H H' → Q (.bl (ps.any fun p => qs.any fun r => decide (r = p))) H'
theorem inV_ints (p : Int) (qs : List Int) : inV (.int p) (qs.map V.int) = qs.any fun r => decide (r = p) := by
  unfold inV
  rw [List.any_map]
  congr 1
theorem flat_ints (qs : List Int) : (qs.map V.int).all flatV = true := by
  rw [List.all_map, List.all_eq_true]
  intro x _
  rfl
abbrev sShare : Stmt := topS 22
abbrev nShare : List Str := ["some", "others", "pad"]
theorem scShare : FnScope nShare ["some", "others"] (defScope sShare) := ⟨rfl, rfl, rfl, by decide +kernel, rfl, by decide +kernel, by decide +kernel⟩
section
variable {P : Program} {w : World} {K : PySem.W.Frag} {mg : Str → Option Value} {base : Heap}
theorem ok_share {f : Addr} {fd : FuncData} {k : Nat} (F : Fun K "share" "share" sShare f fd) (ma : mg "any" = none) : FnOk P w K mg base CX0 (k + 1) f fd ["some", "others"] (spShare K) := by
  refine F.ok scShare (fun vs H Q E h => ?_) (fun cdv A outer s H vs Q E hr h => ?_)
  · obtain ⟨a, b, ps, qs, rfl, _⟩ := h
    rfl
  · obtain ⟨a, b, ps, qs, rfl, ha, hb, hl, q⟩ := h
    refine ⟨_, pss_one (ps_ret (pe_callB (cr_any rfl) (by rfl) ma (by decide +kernel) (pa_cons (pe_lc (own := [("pad", 2)]) (g := gName 2) (tt := tYes) rfl scShare.nd (pi_list (pv 0))
        (blkOk_by (own := [("pad", 2)]) (N := nShare) (sc := defScope sShare) (by decide +kernel)) (fun _ _ _ _ _ => pg_name (i := 2) scShare.nd rfl (.inl rfl)) (fun _ _ _ _ _ => pts_nil)
        (fun _ _ _ _ _ => pe_cmpR (r := rIn K false) op_in_seq (pv 2) (pv 1) (by rfl))) pa_nil))), ?_⟩
    refine ⟨.ref a, rfl, a, rfl, ⟨_, ha⟩, fun D nD => ?_⟩
    refine lc_list (K := K) (a := a) (xs := ps.map V.int) (fun i H' => Same H H' ∧ H' D = some (.lst (((ps.take i).map fun p => qs.any fun r => decide (r = p)).map V.bl))) ⟨same_upd nD, upd_same⟩ (fun i H' _ hP => hP.1.seq ha) (fun i x H' hx hP => ?_) (fun H1 hP => ?_)
    · obtain ⟨sm, hD⟩ := hP
      rw [List.getElem?_map] at hx
      cases hp : ps[i]? with
      | none => rw [hp] at hx; cases hx
      | some p =>
        rw [hp] at hx
        obtain rfl := Option.some.inj hx
        refine ⟨rfl, yesT ⟨.int p, rfl, .ref b, rfl, b, _, rfl, .inl (sm.seq hb), rfl, flat_ints qs, _, hD, ?_, Same.offUpd sm nD, ?_⟩⟩
        · rw [List.length_map, List.length_map, List.length_take]
          exact small1000 (by omega)
        · rw [upd_same, take_snoc hp, List.map_append, List.map_append]
          show some (HO.lst (_ ++ [V.bl (inV (V.int p) (qs.map V.int))])) = _
          rw [inV_ints]
          rfl
    · obtain ⟨sm, hD⟩ := hP
      rw [List.length_map, List.take_length] at hD
      refine ⟨D, _, rfl, SqL.of hD, ?_⟩
      have := q _ sm
      rw [List.any_map]
      exact this
end
def spMeet2 (K : PySem.W.Frag) : Sp := fun vs H Q _ => ∃ (v u : V) (f g : List Tri), vs = [v, u] ∧ FigT K H v f ∧ FigT K H u g ∧ f.length ≤ 100 ∧ g.length ≤ 100 ∧ ∀ H', Same H H' → Q (.bl (meetB f g)) H'
abbrev sHcp : Stmt := topS 23
abbrev nHcp : List Str := ["one", "other"]
theorem scHcp : FnScope nHcp ["one", "other"] (defScope sHcp) := ⟨rfl, rfl, rfl, by decide +kernel, rfl, by decide +kernel, by decide +kernel⟩
section
variable {P : Program} {w : World} {K : PySem.W.Frag} {mg : Str → Option Value} {base : Heap}
theorem ok_hcp {f fP fS : Addr} {fd fdP fdS : FuncData} {k : Nat} (F : Fun K "have_common_pad" "have_common_pad" sHcp f fd) (ma : mg "any" = none)
    (FP : Fun K "pads_of" "pads_of" sPadsOf fP fdP) (bP : Binds K fdP ["figure"] []) (gP : mg "pads_of" = some (.ref fP))
    (FS : Fun K "share" "share" sShare fS fdS) (bS : Binds K fdS ["some", "others"] []) (gS : mg "share" = some (.ref fS)) : FnOk P w K mg base CX0 (k + 2) f fd ["one", "other"] (spMeet2 K) := by
  have GP : FnOk P w K mg base CX0 (k + 1) fP fdP ["figure"] (spPads K) := ok_padsof FP
  have GS : FnOk P w K mg base CX0 (k + 1) fS fdS ["some", "others"] (spShare K) := ok_share FS ma
  refine F.ok scHcp (fun vs H Q E h => ?_) (fun cdv A outer s H vs Q E hr h => ?_)
  · obtain ⟨v, u, f, g, rfl, _⟩ := h
    rfl
  · obtain ⟨v, u, f, g, rfl, hV, hU, hfl, hgl, q⟩ := h
    refine ⟨_, pss_one (ps_ret (pe_call GS hr (by rfl) gS FS.kp bS .nil pass0 (pa_cons (pe_call GP hr (by rfl) gP FP.kp bP .nil pass0 (pa_cons (pv 0) pa_nil)) (pa_cons (pe_call GP hr (by rfl) gP FP.kp bP .nil pass0 (pa_cons (pv 1) pa_nil)) pa_nil)))), ?_⟩
    refine ⟨v, rfl, v, f, rfl, hV, hfl, fun H1 p s1 _ hp => ⟨u, rfl, u, g, rfl, hU.ts (TS.of s1), hgl, fun H2 p2 s2 _ hp2 => ?_⟩⟩
    refine ⟨p, p2, f.map (·.1), g.map (·.1), rfl, SqL.of (s2 _ _ hp), SqL.of hp2, by rw [List.length_map]; exact hfl, fun H3 s3 => ?_⟩
    have := q _ ((s1.trans s2).trans s3)
    unfold meetB at this
    rw [List.any_map]
    simp only [List.any_map, Function.comp_def]
    exact this
end
def spBar (K : PySem.W.Frag) : Sp := fun vs H Q _ => ∃ (v u : V) (f g : List Tri), vs = [v, u] ∧ FigT K H v f ∧ FigT K H u g ∧ f.length ≤ 100 ∧ g.length ≤ 100 ∧ ∀ H', Same H H' → Q (.bl (barB f g)) H'
abbrev sBar : Stmt := topS 24
abbrev nBar : List Str := ["one", "other", "wanted", "pad", "note", "depth"]
theorem scBar : FnScope nBar ["one", "other"] (defScope sBar) := ⟨rfl, rfl, rfl, by decide +kernel, rfl, by decide +kernel, by decide +kernel⟩
section
variable {P : Program} {w : World} {K : PySem.W.Frag} {mg : Str → Option Value} {base : Heap}
theorem ok_bar {f : Addr} {fd : FuncData} {k : Nat} (F : Fun K "bar" "bar" sBar f fd) (ma : mg "any" = none) : FnOk P w K mg base CX0 (k + 1) f fd ["one", "other"] (spBar K) := by
  refine F.ok scBar (fun vs H Q E h => ?_) (fun cdv A outer s H vs Q E hr h => ?_)
  · obtain ⟨v, u, f, g, rfl, _⟩ := h
    rfl
  · obtain ⟨v, u, f, g, rfl, hV, hU, hfl, hgl, q⟩ := h
    obtain ⟨a, xs, rfl, ha, hxs⟩ := hV
    obtain ⟨b, ys, rfl, hb, hys⟩ := hU
    refine ⟨_, pss_cons (ps_set (i := 2) scBar.nd rfl (.inr rfl) (pe_dc (own := [("pad", 3), ("note", 4), ("depth", 5)]) (g := g3 K 3 4 5) (tt := tYes) rfl scBar.nd (pi_tup (pv 0))
        (blkOk_by (own := [("pad", 3), ("note", 4), ("depth", 5)]) (N := nBar) (sc := defScope sBar) (by decide +kernel))
        (fun _ _ _ _ _ => pg_tup rfl (pgs_cons (pg_name (i := 3) scBar.nd rfl (.inl rfl)) (pgs_cons (pg_name (i := 4) scBar.nd rfl (.inl rfl)) (pgs_cons (pg_name (i := 5) scBar.nd rfl (.inl rfl)) pgs_nil)))) (fun _ _ _ _ _ => pts_nil)
        (fun _ _ _ _ _ => pv 3) (fun _ _ _ _ _ => pv 4)))
      (pss_one (ps_ret (pe_callB (cr_any rfl) (by rfl) ma (by decide +kernel) (pa_cons (pe_lc (own := [("pad", 3), ("note", 4), ("depth", 5)]) (g := g3 K 3 4 5) (tt := tYes) rfl scBar.nd (pi_tup (pv 1))
        (blkOk_by (own := [("pad", 3), ("note", 4), ("depth", 5)]) (N := nBar) (sc := defScope sBar) (by decide +kernel))
        (fun _ _ _ _ _ => pg_tup rfl (pgs_cons (pg_name (i := 3) scBar.nd rfl (.inl rfl)) (pgs_cons (pg_name (i := 4) scBar.nd rfl (.inl rfl)) (pgs_cons (pg_name (i := 5) scBar.nd rfl (.inl rfl)) pgs_nil)))) (fun _ _ _ _ _ => pts_nil)
        (fun _ _ _ _ _ => pe_cmpR op_ne (pe_dget2 (hu_of hr) (pv 2) (pv 3) (pv 4) ⟨rfl, rfl, rfl, rfl⟩) (pv 4) (nomark _))) pa_nil)))), ?_⟩
    refine ⟨.ref a, rfl, a, rfl, ⟨_, ha⟩, fun D nD => ?_⟩
    refine dc_tup (K := K) (a := a) (xs := xs) (fun i H' => Same H H' ∧ H' D = some (.dK (mergeK [] (kvsOf (f.take i))))) ⟨same_upd nD, upd_same⟩ (fun i H' _ hP => Same.tup hP.1 ha) (fun i x H' hx hP => ?_) (fun H1 hP => ?_)
    · obtain ⟨sm, hD⟩ := hP
      obtain ⟨t, ht, tp, rfl, htp⟩ := hxs.get hx
      refine ⟨tp, triV t, rfl, Same.tup sm htp, rfl, _, _, rfl, _, _, rfl, _, _, rfl, rfl, rfl, yesT ⟨_, rfl, _, rfl, _, Sum.inl t.1, rfl, hD, ?_, Same.offUpd sm nD, ?_⟩⟩
      · have := merge_len (f.take i)
        rw [List.length_take] at this
        exact small1000 (by omega)
      · rw [upd_same, take_snoc ht, merge_snoc]
    · obtain ⟨s1, hD⟩ := hP
      rw [hxs.len, List.take_length] at hD
      refine ⟨.ref b, rfl, b, rfl, ⟨_, Same.tup s1 hb⟩, fun D2 nD2 => ?_⟩
      refine lc_tup (K := K) (a := b) (xs := ys) (fun i H' => Same H1 H' ∧ H' D2 = some (.lst (((g.take i).map fun u => !decide ((noteOf f u.1).getD u.2.1 = u.2.1)).map V.bl))) ⟨same_upd nD2, upd_same⟩ (fun i H' _ hP => Same.tup (s1.trans hP.1) hb) (fun i x H' hx hP => ?_) (fun H2 hP => ?_)
      · obtain ⟨sm, hD2⟩ := hP
        obtain ⟨t, ht, tp, rfl, htp⟩ := hys.get hx
        refine ⟨tp, triV t, rfl, Same.tup (s1.trans sm) htp, rfl, _, _, rfl, _, _, rfl, _, _, rfl, rfl, rfl, yesT ?_⟩
        refine ⟨_, rfl, D, rfl, .inl ⟨_, .inl (sm _ _ hD)⟩, _, rfl, _, rfl, _, DGet.k (k := Sum.inl t.1) (sm _ _ hD), _, rfl, ?_⟩
        rw [val_fig]
        have ev : (((noteOf f t.1).map V.int).getD (V.int t.2.1)) = V.int ((noteOf f t.1).getD t.2.1) := by
          cases noteOf f t.1 <;> rfl
        rw [ev]
        refine ⟨rfl, _, hD2, ?_, Same.offUpd sm nD2, ?_⟩
        · rw [List.length_map, List.length_map, List.length_take]
          exact small1000 (by omega)
        · rw [upd_same, take_snoc ht, List.map_append, List.map_append]
          have : (!decide (V.int ((noteOf f t.1).getD t.2.1) = V.int t.2.1)) = (!decide ((noteOf f t.1).getD t.2.1 = t.2.1)) := by
            congr 1
            rw [decide_eq_decide]
            exact ⟨fun z => V.int.inj z, fun z => by rw [z]⟩
          rw [this]
          rfl
      · obtain ⟨sm, hD2⟩ := hP
        rw [hys.len, List.take_length] at hD2
        refine ⟨D2, _, rfl, SqL.of hD2, ?_⟩
        have := q _ (s1.trans sm)
        unfold barB at this
        rw [List.any_map]
        exact this
end
/-! ### is_triple, is_figure -/
def spIsTri (K : PySem.W.Frag) : Sp := fun vs H Q _ => ∃ (a : Addr) (cs : List Int) (v : V) (t : Tri), vs = [.ref a, v] ∧ (SqL K H a (cs.map V.int) ∨ SqT K H a (cs.map V.int)) ∧ TriAt K H v t ∧ GoodT cs t ∧ ∀ H', Same H H' → Q (.bl true) H'
abbrev sIsTri : Stmt := topS 18
abbrev nIsTri : List Str := ["colours", "triple", "pad", "note", "depth"]
theorem scIsTri : FnScope nIsTri ["colours", "triple"] (defScope sIsTri) := ⟨rfl, rfl, rfl, by decide +kernel, rfl, by decide +kernel, by decide +kernel⟩
section
variable {P : Program} {w : World} {K : PySem.W.Frag} {mg : Str → Option Value} {base : Heap}
theorem ok_istri {f : Addr} {fd : FuncData} {k : Nat} {tkD : Tok} (F : Fun K "is_triple" "is_triple" sIsTri f fd) (ml : mg "len" = none) (mD : mg "MOST_DEPTH" = some (.int 3 tkD)) : FnOk P w K mg base CX0 (k + 1) f fd ["colours", "triple"] (spIsTri K) := by
  refine F.ok scIsTri (fun vs H Q E h => ?_) (fun cdv A outer s H vs Q E hr h => ?_)
  · obtain ⟨a, cs, v, t, rfl, _⟩ := h
    rfl
  · obtain ⟨a, cs, v, t, rfl, ha, ⟨tp, rfl, htp⟩, hG, q⟩ := h
    refine ⟨_, pss_cons (ps_if (pt_cmpR op_ne (pe_callB call_lenQ (by rfl) ml PySem.boot_len (pa_cons (pv 1) pa_nil)) pe_int (nomark _)) (pss_one (ps_ret pe_bl)) pss_nil)
      (pss_cons (ps_asg (pv 1) (pg_tup rfl (pgs_cons (pg_name (i := 2) scIsTri.nd rfl (.inl rfl)) (pgs_cons (pg_name (i := 3) scIsTri.nd rfl (.inl rfl)) (pgs_cons (pg_name (i := 4) scIsTri.nd rfl (.inl rfl)) pgs_nil)))))
      (pss_one (ps_ret (pe_and (pe_chain op_le op_lt pe_int (pv 2) (pe_callB call_lenQ (by rfl) ml PySem.boot_len (pa_cons (pv 0) pa_nil)))
        (pe_and (pe_chain op_le op_lt pe_int (pv 3) (pe_ix ix_seq (pv 0) (pv 2) (fun _ _ => rfl))) (pe_one (pe_chain op_le op_le pe_int (pv 4) (pe_glob (v := .int 3) (by rfl) mD ⟨_, rfl⟩)))))))), ?_⟩
    refine ⟨.ref tp, rfl, tp, _, rfl, .inr htp, rfl, _, rfl, iteNS rfl ?_⟩
    refine ⟨.ref tp, rfl, tp, _, rfl, htp, rfl, _, _, rfl, _, _, rfl, _, _, rfl, rfl, ?_⟩
    have d1 : decide ((0 : Int) ≤ t.1) = true := decide_eq_true hG.p0
    have d2 : decide (t.1 < (((cs.map V.int).length : Nat) : Int)) = true := decide_eq_true (by rw [List.length_map]; exact hG.p1)
    have d3 : decide ((0 : Int) ≤ t.2.1) = true := decide_eq_true hG.n0
    have d4 : decide (t.2.1 < cs.getD t.1.toNat 0) = true := decide_eq_true hG.n1
    have d5 : decide ((1 : Int) ≤ t.2.2) = true := decide_eq_true hG.d0
    have d6 : decide (t.2.2 ≤ (3 : Int)) = true := decide_eq_true hG.d1
    have hp0 := hG.p0
    have hp1 := hG.p1
    have e0 : ((t.1.toNat : Nat) : Int) = t.1 := Int.toNat_of_nonneg hp0
    have hi : t.1.toNat < cs.length := by omega
    have hread : ∀ Q : VK, Q (.int (cs.getD t.1.toNat 0)) H → rIx K (.ref a) (.int t.1) H Q := fun Q z => by
      have g := cs_at hi
      rw [e0] at g
      rcases ha with ha | ha
      · exact .inl ⟨a, _, _, _, rfl, rfl, ha, g, z⟩
      · exact .inr (.inl ⟨a, _, _, _, rfl, rfl, ha, g, z⟩)
    refine ⟨.int t.1, rfl, 0, t.1, rfl, rfl, _, rfl, ?_⟩
    rw [d1]
    refine iteT ⟨.ref a, rfl, a, _, rfl, ha, t.1, _, rfl, rfl, _, rfl, ?_⟩
    rw [d2]
    refine iteT ⟨.int t.2.1, rfl, 0, t.2.1, rfl, rfl, _, rfl, ?_⟩
    rw [d3]
    refine iteT ⟨.ref a, rfl, .int t.1, rfl, hread _ ⟨t.2.1, _, rfl, rfl, _, rfl, ?_⟩⟩
    rw [d4]
    refine iteT ⟨.int t.2.2, rfl, 1, t.2.2, rfl, rfl, _, rfl, ?_⟩
    rw [d5]
    refine iteT ⟨t.2.2, 3, rfl, rfl, ?_⟩
    show Q (V.bl (decide (t.2.2 ≤ (3 : Int)))) H
    rw [d6]
    exact q _ (Same.refl _)
end
def spIsFig (K : PySem.W.Frag) : Sp := fun vs H Q _ => ∃ (a : Addr) (cs : List Int) (v : V) (f : List Tri), vs = [.ref a, v] ∧ (SqL K H a (cs.map V.int) ∨ SqT K H a (cs.map V.int)) ∧ FigT K H v f ∧ GoodF cs f ∧ f.length ≤ 100 ∧ ∀ H', Same H H' → Q (.bl true) H'
abbrev sIsFig : Stmt := topS 17
abbrev nIsFig : List Str := ["colours", "figure", "pads", "triple", "pad", "later"]
theorem scIsFig : FnScope nIsFig ["colours", "figure"] (defScope sIsFig) := ⟨rfl, rfl, rfl, by decide +kernel, rfl, by decide +kernel, by decide +kernel⟩
section
variable {P : Program} {w : World} {K : PySem.W.Frag} {mg : Str → Option Value} {base : Heap}
theorem ok_isfig {f fT fP : Addr} {fd fdT fdP : FuncData} {k : Nat} {tkD : Tok} (F : Fun K "is_figure" "is_figure" sIsFig f fd) (ml : mg "len" = none) (ma : mg "all" = none) (mz : mg "zip" = none) (mD : mg "MOST_DEPTH" = some (.int 3 tkD))
    (FT : Fun K "is_triple" "is_triple" sIsTri fT fdT) (bT : Binds K fdT ["colours", "triple"] []) (gT : mg "is_triple" = some (.ref fT))
    (FP : Fun K "pads_of" "pads_of" sPadsOf fP fdP) (bP : Binds K fdP ["figure"] []) (gP : mg "pads_of" = some (.ref fP)) : FnOk P w K mg base CX0 (k + 2) f fd ["colours", "figure"] (spIsFig K) := by
  have GT : FnOk P w K mg base CX0 (k + 1) fT fdT ["colours", "triple"] (spIsTri K) := ok_istri FT ml mD
  have GP : FnOk P w K mg base CX0 (k + 1) fP fdP ["figure"] (spPads K) := ok_padsof FP
  refine F.ok scIsFig (fun vs H Q E h => ?_) (fun cdv A outer s H vs Q E hr h => ?_)
  · obtain ⟨a, cs, v, f, rfl, _⟩ := h
    rfl
  · obtain ⟨a, cs, v, f, rfl, ha, hV, hG, hfl, q⟩ := h
    obtain ⟨b, xs, rfl, hb, hxs⟩ := id hV
    refine ⟨_, pss_cons (ps_if (PW.pt (pw_or (pt_cmpR op_eq (pe_callB call_lenQ (by rfl) ml PySem.boot_len (pa_cons (pv 1) pa_nil)) pe_int (nomark _))
        (pw_or1 (pt_not (pt_val (pe_callB (cr_all rfl) (by rfl) ma (by decide +kernel) (pa_cons (pe_lc (own := [("triple", 3)]) (g := gName 3) (tt := tYes) rfl scIsFig.nd (pi_tup (pv 1))
          (blkOk_by (own := [("triple", 3)]) (N := nIsFig) (sc := defScope sIsFig) (by decide +kernel)) (fun _ _ _ _ _ => pg_name (i := 3) scIsFig.nd rfl (.inl rfl)) (fun _ _ _ _ _ => pts_nil)
          (fun _ _ _ _ _ => pe_call GT hr (by rfl) gT FT.kp bT .nil pass0 (pa_cons (pv 0) (pa_cons (pv 3) pa_nil)))) pa_nil))))))) (pss_one (ps_ret pe_bl)) pss_nil)
      (pss_cons (ps_set (i := 2) scIsFig.nd rfl (.inl rfl) (pe_call GP hr (by rfl) gP FP.kp bP .nil pass0 (pa_cons (pv 1) pa_nil)))
      (pss_one (ps_ret (pe_callB (cr_all rfl) (by rfl) ma (by decide +kernel) (pa_cons (pe_lc (own := [("pad", 4), ("later", 5)]) (g := g2 K 4 5) (tt := tYes) rfl scIsFig.nd (pi_zip (by rfl) mz (pa_cons (pv 2) (pa_cons (pe_slice sl_list (pv 2) (po_some pe_int) po_none) pa_nil)))
        (blkOk_by (own := [("pad", 4), ("later", 5)]) (N := nIsFig) (sc := defScope sIsFig) (by decide +kernel))
        (fun _ _ _ _ _ => pg_tup rfl (pgs_cons (pg_name (i := 4) scIsFig.nd rfl (.inl rfl)) (pgs_cons (pg_name (i := 5) scIsFig.nd rfl (.inl rfl)) pgs_nil))) (fun _ _ _ _ _ => pts_nil)
        (fun _ _ _ _ _ => pe_cmpR op_lt (pv 4) (pv 5) (nomark _))) pa_nil))))), ?_⟩
    have hlen : 0 < f.length := List.length_pos_iff.mpr hG.ne
    have hxl := hxs.len
    refine ⟨.ref b, rfl, b, _, rfl, .inr hb, rfl, _, rfl, ?_⟩
    rw [decide_eq_false (fun z => by have := V.int.inj z; omega)]
    refine iteF ?_
    refine ⟨.ref b, rfl, b, rfl, ⟨_, hb⟩, fun D nD => ?_⟩
    refine lc_tup (K := K) (a := b) (xs := xs) (fun i H' => Same H H' ∧ H' D = some (.lst ((List.replicate i true).map V.bl))) ⟨same_upd nD, upd_same⟩ (fun i H' _ hP => Same.tup hP.1 hb) (fun i x H' hx hP => ?_) (fun H1 hP => ?_)
    · obtain ⟨sm, hD⟩ := hP
      obtain ⟨t, ht, htp⟩ := hxs.get hx
      have hi : i < xs.length := (List.getElem?_eq_some_iff.mp hx).1
      refine ⟨rfl, yesT ⟨.ref a, rfl, x, rfl, a, cs, x, t, rfl, same_any sm ha, htp.ts (TS.of sm), hG.all t (List.mem_of_getElem? ht), fun H2 s2 => ⟨_, s2 _ _ hD, ?_, Same.offUpd (sm.trans s2) nD, ?_⟩⟩⟩
      · rw [List.length_map, List.length_replicate]
        exact small1000 (by omega)
      · rw [upd_same, List.replicate_succ', List.map_append]
        rfl
    · obtain ⟨s1, hD⟩ := hP
      refine ⟨D, _, rfl, SqL.of hD, ?_⟩
      rw [show (List.replicate xs.length true).all id = true by simp]
      refine ⟨_, rfl, iteF ?_⟩
      refine ⟨_, rfl, _, f, rfl, hV.ts (TS.of s1), hfl, fun H2 p s2 _ hp => ?_⟩
      refine ⟨.ref p, rfl, .ref p, rfl, 1, rfl, p, _, rfl, SqL.of hp, fun p2 np2 => ?_⟩
      rw [show (some (1 : Int)) = some ((1 : Nat) : Int) from rfl, cutV_from]
      have s3 := same_upd (o := .lst (((f.map (·.1)).map V.int).drop 1)) np2
      refine ⟨p, p2, _, _, rfl, SqL.of (s3 _ _ hp), SqL.of upd_same, fun D2 nD2 => ?_⟩
      have hp3 := s3 _ _ hp
      have hp23 : (upd H2 p2 (.lst (((f.map (·.1)).map V.int).drop 1))) p2 = some (.lst (((f.map (·.1)).map V.int).drop 1)) := upd_same
      have s123 := (s1.trans s2).trans s3
      generalize upd H2 p2 (.lst (((f.map (·.1)).map V.int).drop 1)) = H3 at hp3 hp23 s123 nD2 ⊢
      refine lc_it (walk_zip (K := K) (a := p) (b := p2) (xs := (f.map (·.1)).map V.int) (ys := ((f.map (·.1)).map V.int).drop 1) rfl) (fun i H' => Same H3 H' ∧ H' D2 = some (.lst ((List.replicate i true).map V.bl))) ⟨same_upd nD2, upd_same⟩ (fun i H' _ hP => ⟨SqL.of (hP.1 _ _ hp3), SqL.of (hP.1 _ _ hp23)⟩) (fun i v H' H'' hi hP hY => ?_) (fun H4 hP => ?_)
      · obtain ⟨sm, hD2⟩ := hP
        obtain ⟨T, x, y, rfl, nT, rfl, hx, hy⟩ := hY
        have u1 := same_upd (o := .tup [x, y]) nT
        rw [List.length_drop, List.length_map, List.length_map] at hi
        have h1 : i < (f.map (·.1)).length := by rw [List.length_map]; omega
        have h2 : i + 1 < (f.map (·.1)).length := by rw [List.length_map]; omega
        have ex : x = .int (f.map (·.1))[i] := by
          have hx : ((f.map (·.1)).map V.int)[i]? = some x := hx
          rw [List.getElem?_map, List.getElem?_eq_getElem h1] at hx
          exact (Option.some.inj hx).symm
        have ey : y = .int (f.map (·.1))[i + 1] := by
          have hy : (((f.map (·.1)).map V.int).drop 1)[i]? = some y := hy
          rw [List.getElem?_drop, Nat.add_comm 1 i, List.getElem?_map, List.getElem?_eq_getElem h2] at hy
          exact (Option.some.inj hy).symm
        have hlt := List.pairwise_iff_getElem.mp hG.up i (i + 1) h1 h2 (Nat.lt_succ_self i)
        have hD2' := u1 _ _ hD2
        refine ⟨T, [x, y], rfl, SqT.of upd_same, rfl, x, _, rfl, y, _, rfl, rfl, rfl, yesT ⟨x, rfl, y, rfl, _, _, ex, ey, ?_⟩⟩
        refine ⟨_, hD2', ?_, Same.offUpd (sm.trans u1) nD2, ?_⟩
        · rw [List.length_map, List.length_replicate]
          exact small1000 (by omega)
        · rw [upd_same, List.replicate_succ', List.map_append]
          show some (HO.lst (_ ++ [V.bl (decide ((f.map (·.1))[i] < (f.map (·.1))[i + 1]))])) = _
          rw [decide_eq_true hlt]
          rfl
      · obtain ⟨sm, hD2⟩ := hP
        refine ⟨D2, _, rfl, SqL.of hD2, ?_⟩
        have e : (List.replicate (min ((f.map (·.1)).map V.int).length (((f.map (·.1)).map V.int).drop 1).length) true).all id = true := by simp
        rw [e]
        exact q _ (s123.trans sm)
end
/-! ### check_colours, check_figures, check_meetings, copy_of_figure -/
def GoodC (cs : List Int) : Prop := 1 ≤ cs.length ∧ cs.length ≤ 6 ∧ ∀ x ∈ cs, (1 : Int) ≤ x ∧ x ≤ 4
def spCCol (K : PySem.W.Frag) : Sp := fun vs H Q _ => ∃ (a : Addr) (cs : List Int), vs = [.ref a] ∧ SqL K H a (cs.map V.int) ∧ GoodC cs ∧ ∀ H', Same H H' → Q .non H'
abbrev sCCol : Stmt := topS 15
abbrev nCCol : List Str := ["colours", "at", "many"]
theorem scCCol : FnScope nCCol ["colours"] (defScope sCCol) := ⟨rfl, rfl, rfl, by decide +kernel, rfl, by decide +kernel, by decide +kernel⟩
section
variable {P : Program} {w : World} {K : PySem.W.Frag} {mg : Str → Option Value} {base : Heap}
theorem ok_ccol {f : Addr} {fd : FuncData} {k : Nat} {tkP tkC : Tok} (F : Fun K "check_colours" "check_colours" sCCol f fd) (ml : mg "len" = none) (me : mg "enumerate" = none) (mP : mg "MOST_PADS" = some (.int 6 tkP)) (mC : mg "MOST_COLOURS" = some (.int 4 tkC)) : FnOk P w K mg base CX0 (k + 1) f fd ["colours"] (spCCol K) := by
  refine F.ok scCCol (fun vs H Q E h => ?_) (fun cdv A outer s H vs Q E hr h => ?_)
  · obtain ⟨a, cs, rfl, _⟩ := h
    rfl
  · obtain ⟨a, cs, rfl, ha, hG, q⟩ := h
    refine ⟨_, pss_cons (ps_if (pt_not (pt_chain op_le op_le pe_int (pe_callB call_lenQ (by rfl) ml PySem.boot_len (pa_cons (pv 0) pa_nil)) (pe_glob (v := .int 6) (by rfl) mP ⟨_, rfl⟩))) (pss_one ps_never) pss_nil)
      (pss_one (ps_for PassesOwn.never rfl (pi_enum (by rfl) me (pa_cons (pv 0) pa_nil)) (pg_tup rfl (pgs_cons (pg_name (i := 1) scCCol.nd rfl (.inl rfl)) (pgs_cons (pg_name (i := 2) scCCol.nd rfl (.inl rfl)) pgs_nil)))
        (pss_one (ps_if (pt_not (pt_chain op_le op_le pe_int (pv 2) (pe_glob (v := .int 4) (by rfl) mC ⟨_, rfl⟩))) (pss_one ps_never) pss_nil)))), ?_⟩
    obtain ⟨h1, h6, hc⟩ := hG
    have d1 : decide ((1 : Int) ≤ (((cs.map V.int).length : Nat) : Int)) = true := decide_eq_true (by rw [List.length_map]; omega)
    have d2 : (((cs.map V.int).length : Nat) : Int) ≤ (6 : Int) := by rw [List.length_map]; omega
    refine ⟨.ref a, rfl, a, _, rfl, .inl ha, 1, _, rfl, rfl, _, rfl, ?_⟩
    rw [d1]
    refine iteT ⟨_, 6, rfl, rfl, _, rfl, iteNS d2 ?_⟩
    refine ⟨.ref a, rfl, a, _, rfl, ha, ?_⟩
    refine for_it (walk_enum (K := K) (a := a) (xs := cs.map V.int)) (fun i σ H' => ∃ (y1 y2 : Option V), σ = [some (.ref a), y1, y2] ∧ Same H H') ⟨none, none, rfl, Same.refl H⟩ (fun i σ H' _ hP => ?_) (fun i v σ H' H'' hi hP hY => ?_) (fun σ H' hP => ?_)
    · obtain ⟨_, _, _, sm⟩ := hP
      exact sm.seq ha
    · obtain ⟨y1, y2, rfl, sm⟩ := hP
      obtain ⟨T, x, y, rfl, nT, rfl, hx, hy⟩ := hY
      have u1 := same_upd (o := .tup [x, y]) nT
      rw [List.length_map] at hi
      have ey : y = .int cs[i] := by
        have hy : (cs.map V.int)[i]? = some y := hy
        rw [List.getElem?_map, List.getElem?_eq_getElem hi] at hy
        exact (Option.some.inj hy).symm
      subst ey
      have hci := hc _ (List.getElem_mem hi)
      refine ⟨T, _, rfl, SqT.of upd_same, rfl, x, _, rfl, _, _, rfl, rfl, ?_⟩
      refine ⟨_, rfl, 1, cs[i], rfl, rfl, _, rfl, ?_⟩
      rw [decide_eq_true hci.1]
      exact iteT ⟨cs[i], 4, rfl, rfl, _, rfl, iteNS hci.2 ⟨_, _, rfl, sm.trans u1⟩⟩
    · obtain ⟨y1, y2, rfl, sm⟩ := hP
      exact q _ sm
end
def spCFig (K : PySem.W.Frag) : Sp := fun vs H Q _ => ∃ (a b : Addr) (cs : List Int) (xs : List V) (fs : List (List Tri)), vs = [.ref a, .ref b] ∧ (SqL K H a (cs.map V.int) ∨ SqT K H a (cs.map V.int)) ∧ SqL K H b xs ∧ All2 (FigT K H) xs fs ∧ GoodB cs fs ∧ cs.length ≤ 6 ∧ ∀ H', Same H H' → Q .non H'
abbrev sCFig : Stmt := topS 16
abbrev nCFig : List Str := ["colours", "figures", "at", "figure"]
theorem scCFig : FnScope nCFig ["colours", "figures"] (defScope sCFig) := ⟨rfl, rfl, rfl, by decide +kernel, rfl, by decide +kernel, by decide +kernel⟩
section
variable {P : Program} {w : World} {K : PySem.W.Frag} {mg : Str → Option Value} {base : Heap}
theorem ok_cfig {f fI : Addr} {fd fdI : FuncData} {k : Nat} (F : Fun K "check_figures" "check_figures" sCFig f fd) (me : mg "enumerate" = none)
    (FI : Fun K "is_figure" "is_figure" sIsFig fI fdI) (bI : Binds K fdI ["colours", "figure"] []) (gI : mg "is_figure" = some (.ref fI)) (GI : FnOk P w K mg base CX0 k fI fdI ["colours", "figure"] (spIsFig K)) : FnOk P w K mg base CX0 (k + 1) f fd ["colours", "figures"] (spCFig K) := by
  refine F.ok scCFig (fun vs H Q E h => ?_) (fun cdv A outer s H vs Q E hr h => ?_)
  · obtain ⟨a, b, cs, xs, fs, rfl, _⟩ := h
    rfl
  · obtain ⟨a, b, cs, xs, fs, rfl, ha, hb, hA, hG, h6, q⟩ := h
    refine ⟨_, pss_one (ps_for PassesOwn.never rfl (pi_enum (by rfl) me (pa_cons (pv 1) pa_nil)) (pg_tup rfl (pgs_cons (pg_name (i := 2) scCFig.nd rfl (.inl rfl)) (pgs_cons (pg_name (i := 3) scCFig.nd rfl (.inl rfl)) pgs_nil)))
        (pss_one (ps_if (pt_not (pt_val (pe_call GI hr (by rfl) gI FI.kp bI .nil pass0 (pa_cons (pv 0) (pa_cons (pv 3) pa_nil))))) (pss_one ps_never) pss_nil))), ?_⟩
    refine ⟨.ref b, rfl, b, _, rfl, hb, ?_⟩
    refine for_it (walk_enum (K := K) (a := b) (xs := xs)) (fun i σ H' => ∃ (y1 y2 : Option V), σ = [some (.ref a), some (.ref b), y1, y2] ∧ Same H H') ⟨none, none, rfl, Same.refl H⟩ (fun i σ H' _ hP => ?_) (fun i v σ H' H'' hi hP hY => ?_) (fun σ H' hP => ?_)
    · obtain ⟨_, _, _, sm⟩ := hP
      exact sm.seq hb
    · obtain ⟨y1, y2, rfl, sm⟩ := hP
      obtain ⟨T, x, y, rfl, nT, rfl, hx, hy⟩ := hY
      have u1 := same_upd (o := .tup [x, y]) nT
      have s1 := sm.trans u1
      obtain ⟨g, hg, hgT⟩ := hA.get hy
      have hgG := hG.all g (List.mem_of_getElem? hg)
      have hgl := hgG.len
      refine ⟨T, _, rfl, SqT.of upd_same, rfl, x, _, rfl, y, _, rfl, rfl, ?_⟩
      refine ⟨_, rfl, y, rfl, a, cs, y, g, rfl, same_any s1 ha, hgT.ts (TS.of s1), hgG, by omega, fun H2 s2 => ⟨_, rfl, iteF ⟨_, _, rfl, s1.trans s2⟩⟩⟩
    · obtain ⟨y1, y2, rfl, sm⟩ := hP
      exact q _ sm
end
def spCMeet (K : PySem.W.Frag) : Sp := fun vs H Q _ => ∃ (b : Addr) (cs : List Int) (xs : List V) (fs : List (List Tri)), vs = [.ref b] ∧ SqL K H b xs ∧ All2 (FigT K H) xs fs ∧ GoodB cs fs ∧ cs.length ≤ 6 ∧ fs.length ≤ 100 ∧ ∀ H', Same H H' → Q .non H'
abbrev sCMeet : Stmt := topS 19
abbrev nCMeet : List Str := ["figures", "one", "figure", "other"]
theorem scCMeet : FnScope nCMeet ["figures"] (defScope sCMeet) := ⟨rfl, rfl, rfl, by decide +kernel, rfl, by decide +kernel, by decide +kernel⟩
section
variable {P : Program} {w : World} {K : PySem.W.Frag} {mg : Str → Option Value} {base : Heap}
theorem ok_cmeet {f fH fB : Addr} {fd fdH fdB : FuncData} {k : Nat} (F : Fun K "check_meetings" "check_meetings" sCMeet f fd) (me : mg "enumerate" = none) (mr : mg "range" = none) (ml : mg "len" = none)
    (FH : Fun K "have_common_pad" "have_common_pad" sHcp fH fdH) (bH : Binds K fdH ["one", "other"] []) (gH : mg "have_common_pad" = some (.ref fH)) (GH : FnOk P w K mg base CX0 k fH fdH ["one", "other"] (spMeet2 K))
    (FB : Fun K "bar" "bar" sBar fB fdB) (bB : Binds K fdB ["one", "other"] []) (gB : mg "bar" = some (.ref fB)) (GB : FnOk P w K mg base CX0 k fB fdB ["one", "other"] (spBar K)) : FnOk P w K mg base CX0 (k + 1) f fd ["figures"] (spCMeet K) := by
  refine F.ok scCMeet (fun vs H Q E h => ?_) (fun cdv A outer s H vs Q E hr h => ?_)
  · obtain ⟨b, cs, xs, fs, rfl, _⟩ := h
    rfl
  · obtain ⟨b, cs, xs, fs, rfl, hb, hA, hG, h6, hfl, q⟩ := h
    refine ⟨_, pss_one (ps_for PassesOwn.never rfl (pi_enum (by rfl) me (pa_cons (pv 0) pa_nil)) (pg_tup rfl (pgs_cons (pg_name (i := 1) scCMeet.nd rfl (.inl rfl)) (pgs_cons (pg_name (i := 2) scCMeet.nd rfl (.inl rfl)) pgs_nil)))
        (pss_one (ps_for PassesOwn.never rfl (pi_range2 (by rfl) mr (pa_cons (pe_op op_add (pv 1) pe_int) (pa_cons (pe_callB call_lenQ (by rfl) ml PySem.boot_len (pa_cons (pv 0) pa_nil)) pa_nil))) (pg_name (i := 3) scCMeet.nd rfl (.inl rfl))
          (pss_one (ps_if (PW.pt (pw_and (pt_val (pe_call GH hr (by rfl) gH FH.kp bH .nil pass0 (pa_cons (pv 2) (pa_cons (pe_ix ix_list (pv 0) (pv 3) (fun _ _ => rfl)) pa_nil))))
              (pw_and1 (pt_not (pt_val (pe_call GB hr (by rfl) gB FB.kp bB .nil pass0 (pa_cons (pv 2) (pa_cons (pe_ix ix_list (pv 0) (pv 3) (fun _ _ => rfl)) pa_nil))))))))
            (pss_one ps_never) pss_nil))))), ?_⟩
    have hxl := hA.len
    refine ⟨.ref b, rfl, b, _, rfl, hb, ?_⟩
    refine for_it (walk_enum (K := K) (a := b) (xs := xs)) (fun i σ H' => ∃ (y1 y2 y3 : Option V), σ = [some (.ref b), y1, y2, y3] ∧ Same H H') ⟨none, none, none, rfl, Same.refl H⟩ (fun i σ H' _ hP => ?_) (fun i v σ H' H'' hi hP hY => ?_) (fun σ H' hP => ?_)
    · obtain ⟨_, _, _, _, sm⟩ := hP
      exact sm.seq hb
    · obtain ⟨y1, y2, y3, rfl, sm⟩ := hP
      obtain ⟨T, x, y, rfl, nT, rfl, hx, hy⟩ := hY
      have u1 := same_upd (o := .tup [x, y]) nT
      have s1 := sm.trans u1
      have ex : x = .int (i : Nat) := (Option.some.inj hx).symm
      subst ex
      obtain ⟨g, hg, hgT⟩ := hA.get hy
      have hgG := hG.all g (List.mem_of_getElem? hg)
      have hgl := hgG.len
      refine ⟨T, _, rfl, SqT.of upd_same, rfl, _, _, rfl, y, _, rfl, rfl, ?_⟩
      generalize upd H' T (.tup [.int (i : Nat), y]) = H1 at s1 ⊢
      refine ⟨_, rfl, _, _, rfl, rfl, .ref b, rfl, b, _, rfl, .inl (s1.seq hb), (i : Int) + 1, ((xs.length : Nat) : Int), rfl, ⟨by omega, by omega, by omega, by omega⟩, ?_⟩
      refine for_range (lo := (i : Int) + 1) (n := (((xs.length : Nat) : Int) - ((i : Int) + 1)).toNat) (fun j σ H' => ∃ (y3 : Option V), σ = [some (.ref b), some (.int (i : Nat)), some y, y3] ∧ Same H H') ⟨_, rfl, s1⟩ ?_ ?_
      · rintro j σ H2 hj ⟨y3, rfl, sm2⟩
        have hj2 : i + 1 + j < xs.length := by omega
        have ej : (i : Int) + 1 + (j : Int) = ((i + 1 + j : Nat) : Int) := by omega
        obtain ⟨g2, hg2, hgT2⟩ := hA.get (List.getElem?_eq_getElem hj2)
        have hgG2 := hG.all g2 (List.mem_of_getElem? hg2)
        have hgl2 := hgG2.len
        have hix : atI xs ((i : Int) + 1 + (j : Int)) = some xs[i + 1 + j] := by
          rw [ej]
          exact atI_nat (List.getElem?_eq_getElem hj2)
        refine ⟨y, rfl, .ref b, rfl, .int ((i : Int) + 1 + (j : Int)), rfl, b, xs, _, _, rfl, rfl, sm2.seq hb, hix, y, _, g, g2, rfl, hgT.ts (TS.of sm2), hgT2.ts (TS.of sm2), by omega, by omega, fun H3 s3 => ⟨_, rfl, ite2 (fun e => ?_) (fun e => ?_)⟩⟩
        · have s23 := sm2.trans s3
          refine ⟨y, rfl, .ref b, rfl, .int ((i : Int) + 1 + (j : Int)), rfl, b, xs, _, _, rfl, rfl, s23.seq hb, hix, y, _, g, g2, rfl, hgT.ts (TS.of s23), hgT2.ts (TS.of s23), by omega, by omega, fun H4 s4 => ⟨_, rfl, ?_⟩⟩
          rw [hG.pair (by omega) hg hg2 e]
          exact iteF ⟨_, rfl, s23.trans s4⟩
        · exact iteF ⟨_, rfl, sm2.trans s3⟩
      · rintro σ H2 ⟨y3, rfl, sm2⟩
        exact ⟨_, _, _, rfl, sm2⟩
    · obtain ⟨y1, y2, y3, rfl, sm⟩ := hP
      exact q _ sm
end
def spCopyF (K : PySem.W.Frag) : Sp := fun vs H Q _ => ∃ (v : V) (f : List Tri), vs = [v] ∧ FigT K H v f ∧ f.length ≤ 100 ∧ ∀ H' u, Same H H' → FigT K H' u f → Q u H'
abbrev sCopyF : Stmt := topS 20
abbrev nCopyF : List Str := ["figure", "triple"]
theorem scCopyF : FnScope nCopyF ["figure"] (defScope sCopyF) := ⟨rfl, rfl, rfl, by decide +kernel, rfl, by decide +kernel, by decide +kernel⟩
section
variable {P : Program} {w : World} {K : PySem.W.Frag} {mg : Str → Option Value} {base : Heap}
theorem ok_copyf {f : Addr} {fd : FuncData} {k : Nat} (F : Fun K "copy_of_figure" "copy_of_figure" sCopyF f fd) (mt : mg "tuple" = none) : FnOk P w K mg base CX0 (k + 1) f fd ["figure"] (spCopyF K) := by
  refine F.ok scCopyF (fun vs H Q E h => ?_) (fun cdv A outer s H vs Q E hr h => ?_)
  · obtain ⟨v, f, rfl, _⟩ := h
    rfl
  · obtain ⟨v, f, rfl, hV, hfl, q⟩ := h
    obtain ⟨a, xs, rfl, ha, hxs⟩ := hV
    refine ⟨_, pss_one (ps_ret (pe_callTy call_tupS (by rfl) mt (by decide +kernel) (pa_cons (pe_lc (own := [("triple", 1)]) (g := gName 1) (tt := tYes) rfl scCopyF.nd (pi_tup (pv 0))
        (blkOk_by (own := [("triple", 1)]) (N := nCopyF) (sc := defScope sCopyF) (by decide +kernel)) (fun _ _ _ _ _ => pg_name (i := 1) scCopyF.nd rfl (.inl rfl)) (fun _ _ _ _ _ => pts_nil)
        (fun _ _ _ _ _ => pe_callTy (r := rTupS K) call_tupS (by rfl) mt (by decide +kernel) (pa_cons (pv 1) pa_nil))) pa_nil))), ?_⟩
    refine ⟨.ref a, rfl, a, rfl, ⟨_, ha⟩, fun D nD => ?_⟩
    refine lc_tup (K := K) (a := a) (xs := xs) (fun i H' => Same H H' ∧ ∃ zs, H' D = some (.lst zs) ∧ All2 (TriAt K H') zs (f.take i)) ⟨same_upd nD, [], upd_same, True.intro⟩ (fun i H' _ hP => Same.tup hP.1 ha) (fun i x H' hx hP => ?_) (fun H1 hP => ?_)
    · obtain ⟨sm, zs, hD, hz⟩ := hP
      obtain ⟨t, ht, tp, rfl, htp⟩ := hxs.get hx
      refine ⟨rfl, yesT ⟨.ref tp, rfl, tp, _, rfl, .inr (Same.tup sm htp), fun l H2 s2 hl => ?_⟩⟩
      have hD2 := s2 _ _ hD
      refine ⟨_, hD2, ?_, Same.offUpd (sm.trans s2) nD, zs ++ [.ref l], upd_same, ?_⟩
      · rw [hz.len, List.length_take]
        exact small1000 (by omega)
      · rw [take_snoc ht]
        exact All2.snoc ⟨l, rfl, TS.upd hD2 _ _ hl⟩ (hz.mono fun _ _ => TriAt.ts ((TS.of s2).trans (TS.upd hD2)))
    · obtain ⟨sm, zs, hD, hz⟩ := hP
      rw [hxs.len, List.take_length] at hz
      refine ⟨D, _, rfl, .inl (SqL.of hD), fun l H2 s2 hl => ?_⟩
      exact q _ _ (sm.trans s2) ⟨l, zs, rfl, hl, hz.mono fun _ _ => TriAt.ts (TS.of s2)⟩
end
/-! ### Book.__init__ -/
def bkF (a b : Addr) : List (Str × V) := [("palette", .ref a), ("shapes", .ref b)]
def BookAt (K : PySem.W.Frag) (C : Addr) (H : Hp) (p : Addr) (cs : List Int) (fs : List (List Tri)) : Prop :=
  ∃ (dx a b : Addr) (xs : List V), H p = some (.ins C dx (bkF a b)) ∧ SqT K H a (cs.map V.int) ∧ SqT K H b xs ∧ All2 (FigT K H) xs fs
theorem BookAt.same {K : PySem.W.Frag} {C : Addr} {H H' : Hp} {p : Addr} {cs : List Int} {fs : List (List Tri)} (h : BookAt K C H p cs fs) (e : Same H H') : BookAt K C H' p cs fs := by
  obtain ⟨dx, a, b, xs, h1, h2, h3, h4⟩ := h
  exact ⟨dx, a, b, xs, e _ _ h1, Same.tup e h2, Same.tup e h3, h4.mono fun _ _ => FigT.ts (TS.of e)⟩
structure BkTxt (K : PySem.W.Frag) (mg : Str → Option Value) (C : Addr) : Prop where
  cl : Cls K C
  nP : NoAttr K C "palette"
  nS : NoAttr K C "shapes"
  mgC : mg "Book" = some (.ref C)
def spInit (K : PySem.W.Frag) (C : Addr) : Sp := fun vs H Q _ => ∃ (p dx a b : Addr) (cs : List Int) (xs : List V) (fs : List (List Tri)), vs = [.ref p, .ref a, .ref b] ∧ H p = some (.ins C dx []) ∧ SqL K H a (cs.map V.int) ∧ SqL K H b xs ∧ All2 (FigT K H) xs fs ∧ GoodC cs ∧ GoodB cs fs ∧ fs.length ≤ 12 ∧
  ∀ H', Off p H H' → BookAt K C H' p cs fs → Q .non H'
abbrev sInit : Stmt := inClass (topS 14) 0
abbrev nInit : List Str := ["self", "colours", "figures", "figure"]
theorem scInit : FnScope nInit ["self", "colours", "figures"] (defScope sInit) := ⟨rfl, rfl, rfl, by decide +kernel, rfl, by decide +kernel, by decide +kernel⟩
theorem TS.ins {K : PySem.W.Frag} {H H' : Hp} {p C dx : Addr} {fs : List (Str × V)} (e : Off p H H') (h : H p = some (.ins C dx fs)) : TS K H H' := fun a xs q => by
  rcases q with (q | ⟨o, q⟩) | q
  · exact .inl (.inl (e _ _ (fun z => by rw [z, h] at q; cases q) q))
  · exact .inl (.inr ⟨o, e _ _ (fun z => by rw [z, h] at q; cases q) q⟩)
  · exact .inr q
theorem seqL_off {K : PySem.W.Frag} {H H' : Hp} {p C dx b : Addr} {fs : List (Str × V)} {xs : List V} (e : Off p H H') (h : H p = some (.ins C dx fs)) (q : SqL K H b xs) : SqL K H' b xs := by
  rcases q with (q | ⟨o, q⟩) | q
  · exact .inl (.inl (e _ _ (fun z => by rw [z, h] at q; cases q) q))
  · exact .inl (.inr ⟨o, e _ _ (fun z => by rw [z, h] at q; cases q) q⟩)
  · exact .inr q
section
variable {P : Program} {w : World} {K : PySem.W.Frag} {mg : Str → Option Value} {base : Heap}
theorem ok_init {f C f1 f2 f3 f4 : Addr} {fd fd1 fd2 fd3 fd4 : FuncData} {k : Nat} {tkF : Tok} {kws : List (Str × V)} (F : FunD K "__init__" "Book.__init__" (defArgs sInit) (defBody sInit) (defScope sInit) [] kws f fd) (T : BkTxt K mg C)
    (ml : mg "len" = none) (mt : mg "tuple" = none) (mF : mg "MOST_FIGURES" = some (.int 12 tkF))
    (F1 : Fun K "check_colours" "check_colours" sCCol f1 fd1) (b1 : Binds K fd1 ["colours"] []) (g1 : mg "check_colours" = some (.ref f1)) (G1 : FnOk P w K mg base CX0 k f1 fd1 ["colours"] (spCCol K))
    (F2 : Fun K "check_figures" "check_figures" sCFig f2 fd2) (b2 : Binds K fd2 ["colours", "figures"] []) (g2 : mg "check_figures" = some (.ref f2)) (G2 : FnOk P w K mg base CX0 k f2 fd2 ["colours", "figures"] (spCFig K))
    (F3 : Fun K "check_meetings" "check_meetings" sCMeet f3 fd3) (b3 : Binds K fd3 ["figures"] []) (g3 : mg "check_meetings" = some (.ref f3)) (G3 : FnOk P w K mg base CX0 k f3 fd3 ["figures"] (spCMeet K))
    (F4 : Fun K "copy_of_figure" "copy_of_figure" sCopyF f4 fd4) (b4 : Binds K fd4 ["figure"] []) (g4 : mg "copy_of_figure" = some (.ref f4)) (G4 : FnOk P w K mg base CX0 k f4 fd4 ["figure"] (spCopyF K)) :
    FnOk P w K mg base CX0 (k + 1) f fd ["self", "colours", "figures"] (spInit K C) := by
  refine F.ok (CX := CX0) scInit (fun vs H Q E h => ?_) (fun cdv A outer s H vs Q E hr h => ?_)
  · obtain ⟨p, dx, a, b, cs, xs, fs, rfl, _⟩ := h
    rfl
  · obtain ⟨p, dx, a, b, cs, xs, fs, rfl, hp, ha, hb, hA, hC, hG, h12, q⟩ := h
    refine ⟨_, PSs.nox (pss_cons (ps_expr (pe_call G1 hr (by rfl) g1 F1.kp b1 .nil pass0 (pa_cons (pv 1) pa_nil)))
      (pss_cons (ps_if (pt_cmpR op_gt (pe_callB call_lenQ (by rfl) ml PySem.boot_len (pa_cons (pv 2) pa_nil)) (pe_glob (v := .int 12) (by rfl) mF ⟨_, rfl⟩) (nomark _)) (pss_one ps_never) pss_nil)
      (pss_cons (ps_expr (pe_call G2 hr (by rfl) g2 F2.kp b2 .nil pass0 (pa_cons (pv 1) (pa_cons (pv 2) pa_nil))))
      (pss_cons (ps_expr (pe_call G3 hr (by rfl) g3 F3.kp b3 .nil pass0 (pa_cons (pv 2) pa_nil)))
      (pss_cons (ps_fld (pv 0) (pe_callTy call_tupS (by rfl) mt (by decide +kernel) (pa_cons (pv 1) pa_nil)) rfl)
      (pss_one (ps_fld (pv 0) (pe_callTy call_tupS (by rfl) mt (by decide +kernel) (pa_cons (pe_lc (own := [("figure", 3)]) (g := gName 3) (tt := tYes) rfl scInit.nd (pi_list (pv 2))
        (blkOk_by (own := [("figure", 3)]) (N := nInit) (sc := defScope sInit) (by decide +kernel)) (fun _ _ _ _ _ => pg_name (i := 3) scInit.nd rfl (.inl rfl)) (fun _ _ _ _ _ => pts_nil)
        (fun _ _ _ _ _ => pe_call G4 hr (by rfl) g4 F4.kp b4 .nil pass0 (pa_cons (pv 3) pa_nil))) pa_nil)) rfl))))))), ?_⟩
    have hxl := hA.len
    refine ⟨.ref a, rfl, a, cs, rfl, ha, hC, fun H1 s1 => ?_⟩
    refine ⟨.ref b, rfl, b, _, rfl, .inl (s1.seq hb), _, 12, rfl, rfl, _, rfl, ?_⟩
    rw [decide_eq_false (show ¬ (12 : Int) < ((xs.length : Nat) : Int) by omega)]
    refine iteF ?_
    refine ⟨.ref a, rfl, .ref b, rfl, a, b, cs, xs, fs, rfl, .inl (s1.seq ha), s1.seq hb, hA.mono fun _ _ => FigT.ts (TS.of s1), hG, hC.2.1, fun H2 s2 => ?_⟩
    have s12 := s1.trans s2
    refine ⟨.ref b, rfl, b, cs, xs, fs, rfl, s12.seq hb, hA.mono fun _ _ => FigT.ts (TS.of s12), hG, hC.2.1, by omega, fun H3 s3 => ?_⟩
    have s13 := s12.trans s3
    refine ⟨.ref a, rfl, a, _, rfl, .inl (s13.seq ha), fun a2 H4 s4 ha2 => ?_⟩
    have s14 := s13.trans s4
    have hp4 := s14 _ _ hp
    refine ⟨.ref p, rfl, p, C, dx, [], rfl, hp4, T.cl, T.nP, (show 0 < 1000 by decide), ?_⟩
    have off5 : Off p H4 (upd H4 p (.ins C dx (putF "palette" (.ref a2) []))) := Off.upd
    have hp5 : (upd H4 p (.ins C dx (putF "palette" (.ref a2) []))) p = some (.ins C dx [("palette", .ref a2)]) := upd_same
    have hb5 := seqL_off off5 hp4 (s14.seq hb)
    have ts5 : TS K H (upd H4 p (.ins C dx (putF "palette" (.ref a2) []))) := (TS.of s14).trans (TS.ins off5 hp4)
    have ha5 : SqT K (upd H4 p (.ins C dx (putF "palette" (.ref a2) []))) a2 (cs.map V.int) := TS.ins off5 hp4 _ _ ha2
    have off15 : Off p H (upd H4 p (.ins C dx (putF "palette" (.ref a2) []))) := (Off.same s14).trans off5
    generalize upd H4 p (.ins C dx (putF "palette" (.ref a2) [])) = H5 at off5 hp5 hb5 ts5 ha5 off15 ⊢
    have hA5 := hA.mono fun _ _ => FigT.ts ts5
    refine ⟨.ref b, rfl, b, rfl, ⟨_, hb5⟩, fun D nD => ?_⟩
    refine lc_list (K := K) (a := b) (xs := xs) (fun i H' => Same H5 H' ∧ ∃ zs, H' D = some (.lst zs) ∧ All2 (FigT K H') zs (fs.take i)) ⟨same_upd nD, [], upd_same, True.intro⟩ (fun i H' _ hP => hP.1.seq hb5) (fun i x H' hx hP => ?_) (fun H6 hP => ?_)
    · obtain ⟨sm, zs, hD, hz⟩ := hP
      obtain ⟨g, hg, hgT⟩ := hA5.get hx
      have hgl := (hG.all g (List.mem_of_getElem? hg)).len
      have := hC.2.1
      refine ⟨rfl, yesT ⟨x, rfl, x, g, rfl, hgT.ts (TS.of sm), by omega, fun H7 u s7 hu => ?_⟩⟩
      have hD7 := s7 _ _ hD
      refine ⟨_, hD7, ?_, Same.offUpd (sm.trans s7) nD, zs ++ [u], upd_same, ?_⟩
      · rw [hz.len, List.length_take]
        exact small1000 (by omega)
      · rw [take_snoc hg]
        exact All2.snoc (hu.ts (TS.upd hD7)) (hz.mono fun _ _ => FigT.ts ((TS.of s7).trans (TS.upd hD7)))
    · obtain ⟨sm, zs, hD, hz⟩ := hP
      rw [hxl, List.take_length] at hz
      refine ⟨D, _, rfl, .inl (SqL.of hD), fun l H7 s7 hl => ?_⟩
      have s57 := sm.trans s7
      have hp7 := s57 _ _ hp5
      refine ⟨.ref p, rfl, p, C, dx, _, rfl, hp7, T.cl, T.nS, (show 1 < 1000 by decide), ?_⟩
      have off8 : Off p H7 (upd H7 p (.ins C dx (putF "shapes" (.ref l) [("palette", .ref a2)]))) := Off.upd
      refine q _ ((off15.trans (Off.same s57)).trans off8) ⟨dx, a2, l, zs, upd_same, ?_, TS.ins off8 hp7 _ _ hl, hz.mono fun _ _ => FigT.ts ((TS.of s7).trans (TS.ins off8 hp7))⟩
      exact TS.ins off8 hp7 _ _ (Same.tup s57 ha5)
end
/-! ### sorted(xs) of tuples of whole numbers, the first one empty -/
theorem lex_asym : ∀ x y : List Int, HT.lexLt x y = true → HT.lexLt y x = false
  | [], [], h => by cases h
  | [], _ :: _, _ => rfl
  | _ :: _, [], h => by cases h
  | a :: x, b :: y, h => by
    rw [HT.lexLt_cons] at h ⊢
    by_cases e : a = b
    · rw [if_pos e] at h
      rw [if_pos e.symm]
      exact lex_asym x y h
    · rw [if_neg e] at h
      rw [if_neg (fun z => e z.symm)]
      have := of_decide_eq_true h
      exact decide_eq_false (by omega)
theorem lex_tr : ∀ x y z : List Int, HT.lexLt y x = false → HT.lexLt z y = false → HT.lexLt z x = false
  | [], y, [], _, _ => rfl
  | [], y, _ :: _, _, _ => rfl
  | a :: x, [], z, h, _ => by cases h
  | a :: x, b :: y, [], _, h => by cases h
  | a :: x, b :: y, c :: z, h1, h2 => by
    rw [HT.lexLt_cons] at h1 h2 ⊢
    by_cases e1 : b = a
    · rw [if_pos e1] at h1
      by_cases e2 : c = b
      · rw [if_pos e2] at h2
        rw [if_pos (e2.trans e1)]
        exact lex_tr x y z h1 h2
      · rw [if_neg e2] at h2
        rw [if_neg (fun q => e2 (q.trans e1.symm))]
        have := of_decide_eq_false h2
        exact decide_eq_false (by omega)
    · rw [if_neg e1] at h1
      have g1 := of_decide_eq_false h1
      by_cases e2 : c = b
      · rw [if_neg (fun q => e1 (e2.symm.trans q))]
        exact decide_eq_false (by omega)
      · rw [if_neg e2] at h2
        have g2 := of_decide_eq_false h2
        rw [if_neg (by omega)]
        exact decide_eq_false (by omega)
theorem lex_anti : ∀ x y : List Int, HT.lexLt x y = false → HT.lexLt y x = false → x = y
  | [], [], _, _ => rfl
  | [], _ :: _, h, _ => by cases h
  | _ :: _, [], _, h => by cases h
  | a :: x, b :: y, h1, h2 => by
    rw [HT.lexLt_cons] at h1 h2
    by_cases e : a = b
    · rw [if_pos e] at h1
      rw [if_pos e.symm] at h2
      rw [e, lex_anti x y h1 h2]
    · rw [if_neg e] at h1
      rw [if_neg (fun q => e q.symm)] at h2
      have := of_decide_eq_false h1
      have := of_decide_eq_false h2
      omega
/-- two sorted lists of the same things are one -/
theorem lex_uniq : ∀ {l m : List (List Int)}, l.Perm m → l.Pairwise (fun x y => HT.lexLt y x = false) → m.Pairwise (fun x y => HT.lexLt y x = false) → l = m
  | [], m, p, _, _ => (List.Perm.eq_nil p.symm).symm
  | x :: l, [], p, _, _ => absurd p.length_eq (by simp)
  | x :: l, y :: m, p, h1, h2 => by
    have a1 := List.pairwise_cons.mp h1
    have a2 := List.pairwise_cons.mp h2
    have refl : ∀ z : List Int, HT.lexLt z z = false := fun z => by
      cases e : HT.lexLt z z with
      | false => rfl
      | true => rw [lex_asym z z e] at e; cases e
    have e : x = y := by
      apply lex_anti
      · rcases List.mem_cons.mp (p.mem_iff.mp (List.mem_cons_self (a := x) (l := l))) with h | h
        · rw [h]
          exact refl y
        · exact a2.1 x h
      · rcases List.mem_cons.mp (p.mem_iff.mpr (List.mem_cons_self (a := y) (l := m))) with h | h
        · rw [h]
          exact refl x
        · exact a1.1 y h
    subst e
    rw [lex_uniq p.cons_inv a1.2 a2.2]
section
variable {M : Model} {A : Around} {E : Value → Shared → Prop} {s : Shared}
theorem any_firsts : ∀ (vs : List Value) {Q : List (Option Value) → Shared → Prop}, (∀ v ∈ vs, ∃ a xs, v = .ref a ∧ IsTup s.heap a xs) → (∀ fs, Q fs s) → wpAny M A (vs.mapM firstOfTuple') Q E s
  | [], Q, _, h => by
    rw [List.mapM_nil]
    exact wpAny_pure (h [])
  | v :: vs, Q, t, h => by
    obtain ⟨a, xs, rfl, o, ho, hc, n, hd⟩ := t _ List.mem_cons_self
    rw [List.mapM_cons]
    refine wpAny_bind ?_
    rw [PySem.W.kas_first_eq]
    refine wpAny_bind (PySem.W.Looks.here (show PySem.W.Looks M s.heap (typeOf (.ref a)) o.cls from (PySem.W.Looks.ld ho).andThen .now) ?_)
    rw [hc, if_neg (by first | decide | simp)]
    refine wpAny_bind (listItems_at ho hd (wpAny_pure ?_))
    exact wpAny_bind (any_firsts vs (Q := fun bs s' => wpAny M A (pure (xs[0]? :: bs)) Q E s') (fun u hu => t u (List.mem_cons_of_mem _ hu)) (fun fs => wpAny_pure (h _)))
theorem kind_tups {v : Value} {vs : List Value} {a : Addr} {Q : SortKind → Shared → Prop} (e : v = .ref a) (t0 : IsTup s.heap a #[]) (t : ∀ u ∈ vs, ∃ a xs, u = .ref a ∧ IsTup s.heap a xs) (h : Q oneType' s) : wpAny M A (keyKind' (v :: vs).toArray) Q E s := by
  subst e
  have hT : ∀ u ∈ Value.ref a :: vs, PySem.W.Looks M s.heap (typeOf u) (.type "tuple") := fun u hu => by
    rcases List.mem_cons.mp hu with rfl | hu
    · obtain ⟨o, ho, hc, _⟩ := t0
      rw [← hc]
      exact (PySem.W.Looks.ld ho).andThen .now
    · obtain ⟨b, xs, rfl, o, ho, hc, _⟩ := t u hu
      rw [← hc]
      exact (PySem.W.Looks.ld ho).andThen .now
  obtain ⟨o, ho, hc, n, hd⟩ := t0
  rw [kat_kind_eq, List.mapM_toArray, map_eq_pure_bind]
  refine wpAny_bind (wpAny_bind ?_)
  rw [List.mapM_cons]
  refine wpAny_bind ?_
  rw [PySem.W.kas_first_eq]
  refine wpAny_bind (PySem.W.Looks.here (show PySem.W.Looks M s.heap (typeOf (.ref a)) o.cls from (PySem.W.Looks.ld ho).andThen .now) ?_)
  rw [hc, if_neg (by first | decide | simp)]
  refine wpAny_bind (listItems_at ho hd (wpAny_pure ?_))
  refine wpAny_bind (any_firsts vs t fun fs => wpAny_pure (wpAny_pure ?_))
  rw [if_neg (by simp), if_neg (by simp)]
  rw [oneTypeOnly'_eq, List.mapM_toArray, map_eq_pure_bind]
  refine wpAny_bind (wpAny_bind (wpAny_bind (PySem.W.kas_mapM (r := Value.type "tuple") _ (fun v hv Q' hq => (hT v hv).here hq) (wpAny_pure ?_))))
  have hall : ((List.map (fun _ => Value.type "tuple") (Value.ref a :: vs)).toArray.all fun x => x == Value.type "tuple") = true := by
    simp only [List.all_toArray, List.all_map, List.all_eq_true]
    intro _ _
    rfl
  have h0 : (List.map (fun _ => Value.type "tuple") (Value.ref a :: vs)).toArray[0]? = some (Value.type "tuple") := by simp
  rw [h0]
  simp only [hall, if_true]
  exact wpAny_pure (wpAny_pure h)
end
section
variable {prog : Program} {w : World} {A : Around} {E : Value → Shared → Prop} {s : Shared}
theorem oneLt_tup {l b : Addr} {items items2 : Array Value} {ns ms : List Int} {Q : Bool → Shared → Prop} (hl : IsTup s.heap l items) (hb : IsTup s.heap b items2) (hi : IntsAre items.toList ns) (hj : IntsAre items2.toList ms) (hu : A.units < cLine)
    (h : Q (HT.lexLt ns ms) s) : wpAny (model prog w) A (oneLt' true (.ref l) (.ref b)) Q E s := by
  obtain ⟨⟨cls, dd, data, sl⟩, ho, hc, n, hd⟩ := id hl
  obtain ⟨⟨cls2, dd2, data2, sl2⟩, ho2, hc2, n2, hd2⟩ := id hb
  simp only at hc hd hc2 hd2
  subst hc hd hc2 hd2
  rw [oneLt'_eq]
  simp only [if_true]
  refine wpAny_bind (wpAny_cRoomFor hu ?_)
  refine wpAny_bind (wpAny_callSpecialIfBound?_slot ⟨_, ho, rfl⟩ PySem.F.slot_tuple_lt (call_meets PySem.F.slot_tuple_lt ⟨_, ho, rfl⟩ PySem.F.entry_tuple_lt (PySem.F.args_tuple_lt_2 _ _) (HT.tuple_lt_ints l b items items2 n n2 dd dd2 sl sl2 ns ms hi hj) ⟨ho, ho2, ?_⟩))
  exact wpAny_truthy_bool h
end
section
variable {X : Cx}
def rSortX (K : PySem.W.Frag) : List V → Hp → VK → Prop := fun vs H Q => ∃ (a : Addr) (xs : List V) (cs : List (List Int)), vs = [V.ref a] ∧ SqL K H a xs ∧ All2 (TupI K H) xs cs ∧ cs.head? = some [] ∧
  ∀ (ys : List V) (ds : List (List Int)) (p : Addr), All2 (TupI K H) ys ds → ds.Perm cs → ds.Pairwise (fun x y => HT.lexLt y x = false) → H p = none → Q (.ref p) (upd H p (.lst ys))
theorem All2.of_map {α : Type} {R : V → α → Prop} {β : Type} (f : β → V) (g : β → α) : ∀ (l : List β), (∀ b ∈ l, R (f b) (g b)) → All2 R (l.map f) (l.map g)
  | [], _ => True.intro
  | b :: l, h => ⟨h b List.mem_cons_self, All2.of_map f g l fun c hc => h c (List.mem_cons_of_mem _ hc)⟩
theorem All2.map_eq {α β : Type} {R : V → α → Prop} (f : β → V) (g : β → α) (hg : ∀ b a, R (f b) a → g b = a) : ∀ {l : List β} {as : List α}, All2 R (l.map f) as → l.map g = as
  | [], [], _ => rfl
  | b :: l, a :: as, h => by
    rw [List.map_cons, hg b a h.1, All2.map_eq f g hg h.2]
  | [], _ :: _, h => h.elim
  | _ :: _, [], h => h.elim
theorem cr_sortX (hu : X.A.units + 64 < cLine) : CallR X (.builtin "sorted") (rSortX X.K) := by
  intro pins s σ H vs us Q I r h
  obtain ⟨a, xs, cs, rfl, hs, hA, h0, q⟩ := h
  obtain ⟨its, rv, hl, hz⟩ := I.list hs
  obtain ⟨u, rfl, ru⟩ := vals1 r
  obtain rfl : u = Value.ref a := ru
  obtain ⟨e1, e2⟩ := refs_back rv fun x m => by
    obtain ⟨i, hi, e⟩ := List.mem_iff_getElem.mp m
    obtain ⟨ns, _, t, ht, _⟩ := hA.get (i := i) (x := x) (by rw [List.getElem?_eq_getElem hi, e])
    exact ⟨t, ht⟩
  subst e1
  have hk : ∀ (v : Value) (ns : List Int), TupI X.K H (backV v) ns → _root_.TS.TupInts s.heap v ns := fun v ns hv => by
    obtain ⟨t, e, ht⟩ := hv
    cases v with
    | ref b =>
      cases e
      exact tupI_raw I ht
    | _ => cases e
  have key : ∀ v ∈ its, ∃ ns, TupI X.K H (backV v) ns ∧ _root_.TS.TupInts s.heap v ns := fun v hv => by
    obtain ⟨i, hi, e⟩ := List.mem_iff_getElem.mp hv
    obtain ⟨ns, _, hn⟩ := hA.get (i := i) (x := backV v) (by rw [List.getElem?_map, List.getElem?_eq_getElem hi, e]; rfl)
    exact ⟨ns, hn, hk v ns hn⟩
  have hcs : its.map (_root_.TS.intsOf s.heap) = cs := All2.map_eq backV (_root_.TS.intsOf s.heap) (fun v ns hv => (hk v ns hv).ints) hA
  refine SrtO.sorted_ord (ltv := fun v u => HT.lexLt (_root_.TS.intsOf s.heap v) (_root_.TS.intsOf s.heap u)) ⟨fun x y => lex_asym _ _, fun x y z => lex_tr _ _ _⟩ hl.isList (by rw [List.length_map] at hz; exact hz) (fun h2 h₁ a' ha kk h' keep => ?_) fun out hso hst => ?_
  · have tk : ∀ b o, s.heap.get? b = some o → o.cls = .type "tuple" → h'.get? b = some o := fun b o e c => keep b o (kk b o e).1 (kk b o e).2
    have key' : ∀ v ∈ its, ∃ b xs, v = .ref b ∧ IsTup h' b xs ∧ IntsAre xs.toList (_root_.TS.intsOf s.heap v) := fun v hv => by
      obtain ⟨ns, _, hn⟩ := key v hv
      obtain ⟨b, ys, e, h1, h2⟩ := hn.keeps tk
      rw [hn.ints]
      exact ⟨b, ys, e, h1, h2⟩
    refine ⟨oneType', fun Q E hq => ?_, fun p q' hm hm' => ?_⟩
    · cases its with
      | nil => simp at h2
      | cons v r =>
        obtain ⟨b, ys, e, hb, hi⟩ := key' v List.mem_cons_self
        have hv : _root_.TS.intsOf s.heap v = [] := by
          rw [← hcs] at h0
          exact Option.some.inj h0
        rw [hv] at hi
        have hy : ys = #[] := by
          cases hi' : ys.toList with
          | nil => exact Array.toList_eq_nil_iff.mp hi'
          | cons _ _ => rw [hi'] at hi; cases hi
        subst hy
        exact kind_tups (s := { s with heap := h' }) e hb (fun u hu => by
          obtain ⟨c, zs, e', hc, _⟩ := key' u (List.mem_cons_of_mem _ hu)
          exact ⟨c, zs, e', hc⟩) hq
    · obtain ⟨b, ys, e, hb, hi⟩ := key' _ hm
      obtain ⟨b', ys', e', hb', hi'⟩ := key' _ hm'
      show wpAny _ _ (keyLt' oneType' p.1 q'.1) (fun r s' => s' = _ ∧ r = HT.lexLt (_root_.TS.intsOf s.heap p.1) (_root_.TS.intsOf s.heap q'.1)) _ _
      generalize _root_.TS.intsOf s.heap p.1 = n1 at hi ⊢
      generalize _root_.TS.intsOf s.heap q'.1 = n2 at hi' ⊢
      rw [e, e', keyLt'_oneType]
      exact oneLt_tup hb hb' hi hi' (by show X.A.units + 1 + 1 < cLine; omega) ⟨rfl, rfl⟩
  · obtain ⟨ep, he'⟩ := sortedAll_at s.heap its out.toArray
    have h3 : ∀ u ∈ out, ∃ a, u = Value.ref a := fun u hu => e2 u (hst.perm.mem_iff.mp hu)
    have hlen : (out.map backV).length ≤ sizeLine := by
      rw [List.length_map, hst.perm.length_eq]
      rw [List.length_map] at hz
      exact hz
    refine ⟨.ref _, upd H (s.heap.objs.size + 1) (.lst (out.map backV)), I.laid (t' := s.toks) (fun _ _ => sortedAll_old) (Nat.le_succ _) ⟨hlen, out, ep, vals_back h3, he'⟩, rfl, q _ (out.map (_root_.TS.intsOf s.heap)) _ (All2.of_map backV _ out fun v hv => ?_) ?_ (List.pairwise_map.mpr hso) (I.hok.fresh (Nat.le_succ _))⟩
    · obtain ⟨ns, h1, h2⟩ := key v (hst.perm.mem_iff.mp hv)
      rw [h2.ints]
      exact h1
    · rw [← hcs]
      exact hst.perm.map _
end
/-! ### sets of figures that are apart: the mathematics -/
/-- whether two figures of the book meet -/
def mt (fs : List (List Tri)) (i j : Nat) : Bool := meetB (fs.getD i []) (fs.getD j [])
theorem mt_comm (fs : List (List Tri)) (i j : Nat) : mt fs i j = mt fs j i := meetB_comm _ _
def apS (fs : List (List Tri)) : Nat → List (List Nat)
  | 0 => [[]]
  | i + 1 => apS fs i ++ ((apS fs i).filter fun s => !(s.any fun n => mt fs i n)).map (· ++ [i])
structure ApOk (fs : List (List Tri)) (i : Nat) (s : List Nat) : Prop where
  up : s.Pairwise (· < ·)
  lt : ∀ x ∈ s, x < i
  ap : s.Pairwise fun x y => mt fs y x = false
theorem apS_head (fs : List (List Tri)) : ∀ i, ∃ r, apS fs i = [] :: r
  | 0 => ⟨[], rfl⟩
  | i + 1 => by
    obtain ⟨r, e⟩ := apS_head fs i
    refine ⟨r ++ ((apS fs i).filter fun s => !(s.any fun n => mt fs i n)).map (· ++ [i]), ?_⟩
    show apS fs i ++ _ = _
    rw [e]
    rfl
theorem apS_len (fs : List (List Tri)) : ∀ i, (apS fs i).length ≤ 2 ^ i
  | 0 => Nat.le_refl _
  | i + 1 => by
    have h := apS_len fs i
    have h2 := List.length_filter_le (fun s => !(s.any fun n => mt fs i n)) (apS fs i)
    show (apS fs i ++ _).length ≤ _
    rw [List.length_append, List.length_map, Nat.pow_succ]
    omega
theorem split_last {i : Nat} : ∀ {s : List Nat}, s.Pairwise (· < ·) → (∀ x ∈ s, x < i + 1) → (∀ x ∈ s, x < i) ∨ ∃ t, s = t ++ [i] ∧ ∀ x ∈ t, x < i := by
  intro s hu hl
  by_cases hm : i ∈ s
  · right
    obtain ⟨t, r, e⟩ := List.append_of_mem hm
    subst e
    have hr : r = [] := by
      cases r with
      | nil => rfl
      | cons y r =>
        rw [List.pairwise_append] at hu
        have h1 := (List.pairwise_cons.mp hu.2.1).1 y List.mem_cons_self
        have h2 := hl y (by simp)
        omega
    subst hr
    refine ⟨t, rfl, fun x hx => ?_⟩
    rw [List.pairwise_append] at hu
    exact hu.2.2 x hx i (by simp)
  · left
    intro x hx
    have h1 := hl x hx
    have h2 : x ≠ i := fun e => hm (e ▸ hx)
    omega
theorem apS_mem (fs : List (List Tri)) : ∀ (i : Nat) (s : List Nat), s ∈ apS fs i ↔ ApOk fs i s
  | 0, s => by
    show s ∈ [[]] ↔ _
    rw [List.mem_singleton]
    constructor
    · rintro rfl
      exact ⟨List.Pairwise.nil, fun x hx => (by cases hx), List.Pairwise.nil⟩
    · intro h
      cases s with
      | nil => rfl
      | cons x r => exact absurd (h.lt x List.mem_cons_self) (by omega)
  | i + 1, s => by
    show s ∈ apS fs i ++ _ ↔ _
    rw [List.mem_append, apS_mem fs i s, List.mem_map]
    constructor
    · rintro (h | ⟨t, ht, rfl⟩)
      · exact ⟨h.up, fun x hx => by have := h.lt x hx; omega, h.ap⟩
      · rw [List.mem_filter, apS_mem fs i t] at ht
        obtain ⟨h, hn⟩ := ht
        refine ⟨?_, ?_, ?_⟩
        · rw [List.pairwise_append]
          exact ⟨h.up, List.pairwise_singleton _ _, fun x hx y hy => by rw [List.mem_singleton.mp hy]; exact h.lt x hx⟩
        · intro x hx
          rcases List.mem_append.mp hx with hx | hx
          · have := h.lt x hx
            omega
          · rw [List.mem_singleton.mp hx]
            omega
        · rw [List.pairwise_append]
          refine ⟨h.ap, List.pairwise_singleton _ _, fun x hx y hy => ?_⟩
          rw [List.mem_singleton.mp hy]
          cases e : mt fs i x with
          | false => rfl
          | true =>
            have : (t.any fun n => mt fs i n) = true := List.any_eq_true.mpr ⟨x, hx, e⟩
            rw [this] at hn
            cases hn
    · intro h
      rcases split_last h.up h.lt with hl | ⟨t, rfl, hl⟩
      · exact .inl ⟨h.up, hl, h.ap⟩
      · right
        have h1 := h.up
        have h2 := h.ap
        rw [List.pairwise_append] at h1 h2
        refine ⟨t, List.mem_filter.mpr ⟨(apS_mem fs i t).mpr ⟨h1.1, hl, h2.1⟩, ?_⟩, rfl⟩
        cases e : t.any fun n => mt fs i n with
        | false => rfl
        | true =>
          obtain ⟨x, hx, ex⟩ := List.any_eq_true.mp e
          rw [h2.2.2 x hx i (by simp)] at ex
          cases ex
theorem apS_nodup (fs : List (List Tri)) : ∀ i, (apS fs i).Nodup
  | 0 => by
    show ([[]] : List (List Nat)).Nodup
    simp
  | i + 1 => by
    show (apS fs i ++ _).Nodup
    rw [List.nodup_append]
    refine ⟨apS_nodup fs i, ?_, ?_⟩
    · refine List.Pairwise.map _ (fun a b hab hc => hab (List.append_cancel_right hc)) ((apS_nodup fs i).filter _)
    · intro a ha b hb e
      subst e
      obtain ⟨t, _, rfl⟩ := List.mem_map.mp hb
      have := ((apS_mem fs i _).mp ha).lt i (by simp)
      omega
/-- the bits of a number -/
def bitsOf (n k : Nat) : List Nat := (List.range n).filter fun x => decide (k / 2 ^ x % 2 = 1)
theorem bits_up (n k : Nat) : (bitsOf n k).Pairwise (· < ·) := List.Pairwise.filter _ List.pairwise_lt_range
theorem bits_lt {n k x : Nat} (h : x ∈ bitsOf n k) : x < n := List.mem_range.mp (List.mem_filter.mp h).1
theorem bits_len (n k : Nat) : (bitsOf n k).length ≤ n := by
  have := List.length_filter_le (fun x => decide (k / 2 ^ x % 2 = 1)) (List.range n)
  rw [List.length_range] at this
  exact this
theorem bits_succ (n k : Nat) : bitsOf (n + 1) k = bitsOf n k ++ (if k / 2 ^ n % 2 = 1 then [n] else []) := by
  unfold bitsOf
  rw [List.range_succ, List.filter_append]
  congr 1
  by_cases h : k / 2 ^ n % 2 = 1
  · rw [if_pos h, List.filter_cons, if_pos (decide_eq_true h)]
    rfl
  · rw [if_neg h, List.filter_cons, if_neg (by rw [decide_eq_true_eq]; exact h)]
    rfl
theorem bits_all : ∀ (n : Nat) (s : List Nat), s.Pairwise (· < ·) → (∀ x ∈ s, x < n) → ∃ k, k < 2 ^ n ∧ bitsOf n k = s
  | 0, s, _, hl => by
    refine ⟨0, by decide, ?_⟩
    cases s with
    | nil => rfl
    | cons x r => exact absurd (hl x List.mem_cons_self) (by omega)
  | n + 1, s, hu, hl => by
    rcases split_last hu hl with h | ⟨t, rfl, h⟩
    · obtain ⟨k, hk, e⟩ := bits_all n s hu h
      refine ⟨k, by rw [Nat.pow_succ]; omega, ?_⟩
      rw [bits_succ, Nat.div_eq_of_lt hk, if_neg (by decide), List.append_nil, e]
    · rw [List.pairwise_append] at hu
      obtain ⟨k, hk, e⟩ := bits_all n t hu.1 h
      refine ⟨k + 2 ^ n, by rw [Nat.pow_succ]; omega, ?_⟩
      have h1 : (k + 2 ^ n) / 2 ^ n % 2 = 1 := by
        rw [Nat.add_div_right _ (Nat.two_pow_pos n), Nat.div_eq_of_lt hk]
      rw [bits_succ, if_pos h1]
      congr 1
      rw [← e]
      unfold bitsOf
      apply List.filter_congr
      intro x hx
      have hx := List.mem_range.mp hx
      congr 2
      have e2 : 2 ^ n = 2 ^ x * (2 * 2 ^ (n - x - 1)) := by
        rw [← Nat.pow_succ', ← Nat.pow_add]
        congr 1
        omega
      rw [e2, Nat.add_mul_div_left _ _ (Nat.two_pow_pos x)]
      omega
/-- the least of two in it that meet -/
def clashOf (fs : List (List Tri)) (s : List Nat) : List Nat := s.filter fun x => s.any fun y => decide (y < x) && mt fs x y
def foundF (fs : List (List Tri)) : Nat → List (List Nat)
  | 0 => []
  | k + 1 => if clashOf fs (bitsOf fs.length k) = [] ∧ bitsOf fs.length k ∉ foundF fs k then foundF fs k ++ [bitsOf fs.length k] else foundF fs k
theorem clash_nil {fs : List (List Tri)} {s : List Nat} (hu : s.Pairwise (· < ·)) : clashOf fs s = [] ↔ s.Pairwise fun x y => mt fs y x = false := by
  unfold clashOf
  rw [List.filter_eq_nil_iff]
  constructor
  · intro h
    refine hu.imp_of_mem fun {a b} ha hb hab => ?_
    cases e : mt fs b a with
    | false => rfl
    | true =>
      refine absurd (List.any_eq_true.mpr ⟨a, ha, ?_⟩) (h b hb)
      rw [e, decide_eq_true hab]
      rfl
  · intro h x hx e
    obtain ⟨y, hy, e2⟩ := List.any_eq_true.mp e
    rw [Bool.and_eq_true, decide_eq_true_eq] at e2
    obtain ⟨i, hi, rfl⟩ := List.mem_iff_getElem.mp hx
    obtain ⟨j, hj, rfl⟩ := List.mem_iff_getElem.mp hy
    have hji : j < i := by
      rcases Nat.lt_trichotomy i j with q | q | q
      · have := List.pairwise_iff_getElem.mp hu i j hi hj q
        omega
      · subst q
        omega
      · exact q
    rw [List.pairwise_iff_getElem.mp h j i hj hi hji] at e2
    cases e2.2
theorem foundF_mem (fs : List (List Tri)) : ∀ (k : Nat) (s : List Nat), s ∈ foundF fs k ↔ (∃ j, j < k ∧ bitsOf fs.length j = s) ∧ clashOf fs s = []
  | 0, s => by
    constructor
    · intro h
      cases h
    · rintro ⟨⟨j, hj, _⟩, _⟩
      omega
  | k + 1, s => by
    have ih := foundF_mem fs k
    unfold foundF
    by_cases hc : clashOf fs (bitsOf fs.length k) = [] ∧ bitsOf fs.length k ∉ foundF fs k
    · rw [if_pos hc, List.mem_append, List.mem_singleton, ih]
      constructor
      · rintro (⟨⟨j, hj, e⟩, h⟩ | rfl)
        · exact ⟨⟨j, by omega, e⟩, h⟩
        · exact ⟨⟨k, by omega, rfl⟩, hc.1⟩
      · rintro ⟨⟨j, hj, e⟩, h⟩
        by_cases hjk : j = k
        · subst hjk
          exact .inr e.symm
        · exact .inl ⟨⟨j, by omega, e⟩, h⟩
    · rw [if_neg hc, ih]
      constructor
      · rintro ⟨⟨j, hj, e⟩, h⟩
        exact ⟨⟨j, by omega, e⟩, h⟩
      · rintro ⟨⟨j, hj, e⟩, h⟩
        by_cases hjk : j = k
        · subst hjk
          subst e
          have hin : bitsOf fs.length j ∈ foundF fs j := by
            by_cases q : bitsOf fs.length j ∈ foundF fs j
            · exact q
            · exact absurd ⟨h, q⟩ hc
          exact (ih _).mp hin
        · exact ⟨⟨j, by omega, e⟩, h⟩
theorem foundF_nodup (fs : List (List Tri)) : ∀ k, (foundF fs k).Nodup
  | 0 => List.Pairwise.nil
  | k + 1 => by
    unfold foundF
    by_cases hc : clashOf fs (bitsOf fs.length k) = [] ∧ bitsOf fs.length k ∉ foundF fs k
    · rw [if_pos hc, List.nodup_append]
      exact ⟨foundF_nodup fs k, by simp, fun a ha b hb e => hc.2 (by rw [List.mem_singleton.mp hb] at e; rw [← e]; exact ha)⟩
    · rw [if_neg hc]
      exact foundF_nodup fs k
theorem foundF_len (fs : List (List Tri)) : ∀ k, (foundF fs k).length ≤ k
  | 0 => Nat.le_refl _
  | k + 1 => by
    have := foundF_len fs k
    unfold foundF
    split
    · rw [List.length_append]
      show (foundF fs k).length + 1 ≤ k + 1
      omega
    · omega
theorem foundF_head (fs : List (List Tri)) : ∀ k, ∃ r, foundF fs (k + 1) = [] :: r
  | 0 => by
    have e0 : bitsOf fs.length 0 = [] := by
      unfold bitsOf
      rw [List.filter_eq_nil_iff]
      intro x _
      simp
    refine ⟨[], ?_⟩
    unfold foundF
    rw [e0, if_pos ⟨rfl, fun h => by cases h⟩]
    rfl
  | k + 1 => by
    obtain ⟨r, e⟩ := foundF_head fs k
    unfold foundF
    split
    · rw [e]
      exact ⟨_, rfl⟩
    · exact ⟨r, e⟩
theorem perm_of_same : ∀ {l m : List (List Nat)}, l.Nodup → m.Nodup → (∀ s, s ∈ l ↔ s ∈ m) → l.Perm m
  | [], m, _, _, h => by
    cases m with
    | nil => exact .nil
    | cons x r => exact absurd ((h x).mpr List.mem_cons_self) (by simp)
  | x :: l, m, hl, hm, h => by
    obtain ⟨a, b, e⟩ := List.append_of_mem ((h x).mp List.mem_cons_self)
    subst e
    have hl2 := List.nodup_cons.mp hl
    have hp : (a ++ x :: b).Perm (x :: (a ++ b)) := List.perm_middle
    have hm2 := List.nodup_cons.mp (hp.nodup_iff.mp hm)
    refine ((perm_of_same hl2.2 hm2.2 fun s => ?_).cons x).trans hp.symm
    constructor
    · intro hs
      have h1 := hp.mem_iff.mp ((h s).mp (List.mem_cons_of_mem _ hs))
      rcases List.mem_cons.mp h1 with rfl | h1
      · exact absurd hs hl2.1
      · exact h1
    · intro hs
      have h1 := (h s).mpr (hp.mem_iff.mpr (List.mem_cons_of_mem _ hs))
      rcases List.mem_cons.mp h1 with rfl | h1
      · exact absurd hs hm2.1
      · exact h1
theorem found_perm {fs : List (List Tri)} (h : fs.length ≤ 7) : (apS fs fs.length).Perm (foundF fs 128) := by
  refine perm_of_same (apS_nodup fs _) (foundF_nodup fs _) fun s => ?_
  rw [apS_mem, foundF_mem]
  constructor
  · intro q
    obtain ⟨k, hk, e⟩ := bits_all fs.length s q.up q.lt
    have : 2 ^ fs.length ≤ 2 ^ 7 := Nat.pow_le_pow_right (by decide) h
    exact ⟨⟨k, by omega, e⟩, (clash_nil q.up).mpr q.ap⟩
  · rintro ⟨⟨j, hj, rfl⟩, h2⟩
    exact ⟨bits_up _ _, fun x hx => bits_lt hx, (clash_nil (bits_up _ _)).mp h2⟩
/-! ### Book.shape, meet, is_apart, apart_sets -/
theorem nI_len (ns : List Nat) : (nI ns).length = ns.length := List.length_map ..
theorem bkF_shapes (a b : Addr) : List.lookup (Str.ofString "shapes") (bkF a b) = some (V.ref b) := rfl
def spShp (K : PySem.W.Frag) (C : Addr) : Sp := fun vs H Q _ => ∃ (p : Addr) (cs : List Int) (fs : List (List Tri)) (i : Nat), vs = [.ref p, .int (i : Nat)] ∧ BookAt K C H p cs fs ∧ i < fs.length ∧ ∀ v, FigT K H v (fs.getD i []) → Q v H
abbrev sShp : Stmt := inClass (topS 14) 4
abbrev nShp : List Str := ["self", "at"]
theorem scShp : FnScope nShp ["self", "at"] (defScope sShp) := ⟨rfl, rfl, rfl, by decide +kernel, rfl, by decide +kernel, by decide +kernel⟩
section
variable {P : Program} {w : World} {K : PySem.W.Frag} {mg : Str → Option Value} {base : Heap}
theorem ok_shp {f C : Addr} {fd : FuncData} {k : Nat} (F : Fun K "shape" "Book.shape" sShp f fd) (T : BkTxt K mg C) (ml : mg "len" = none) : FnOk P w K mg base CX0 (k + 1) f fd ["self", "at"] (spShp K C) := by
  refine F.ok scShp (fun vs H Q E h => ?_) (fun cdv A outer s H vs Q E hr h => ?_)
  · obtain ⟨p, cs, fs, i, rfl, _⟩ := h
    rfl
  · obtain ⟨p, cs, fs, i, rfl, ⟨dx, a, b, xs, hp, ha, hb, hA⟩, hi, q⟩ := h
    refine ⟨_, pss_cons (ps_if (pt_not (pt_chain op_le op_lt pe_int (pv 1) (pe_callB call_lenQ (by rfl) ml PySem.boot_len (pa_cons (pe_fld (pv 0) rfl) pa_nil)))) (pss_one ps_never) pss_nil)
      (pss_one (ps_ret (pe_ix ix_tup (pe_fld (pv 0) rfl) (pv 1) (fun _ _ => rfl)))), ?_⟩
    have hxl := hA.len
    have d1 : decide ((0 : Int) ≤ (i : Int)) = true := decide_eq_true (by omega)
    refine ⟨.int (i : Nat), rfl, 0, (i : Int), rfl, rfl, _, rfl, ?_⟩
    rw [d1]
    refine iteT ⟨.ref p, rfl, p, C, dx, _, _, rfl, hp, T.cl, T.nS, bkF_shapes a b, b, _, rfl, .inr hb, (i : Int), _, rfl, rfl, _, rfl, iteNS (show (i : Int) < ((xs.length : Nat) : Int) by omega) ?_⟩
    have hi2 : i < xs.length := by omega
    obtain ⟨g, hg, hgT⟩ := hA.get (List.getElem?_eq_getElem hi2)
    refine ⟨.ref p, rfl, p, C, dx, _, _, rfl, hp, T.cl, T.nS, bkF_shapes a b, .int (i : Nat), rfl, b, xs, _, xs[i], rfl, rfl, hb, atI_nat (List.getElem?_eq_getElem hi2), ?_⟩
    refine q _ ?_
    rw [List.getD_eq_getElem?_getD, hg]
    exact hgT
end
def spMeetM (K : PySem.W.Frag) (C : Addr) : Sp := fun vs H Q _ => ∃ (p : Addr) (cs : List Int) (fs : List (List Tri)) (i j : Nat), vs = [.ref p, .int (i : Nat), .int (j : Nat)] ∧ BookAt K C H p cs fs ∧ i < fs.length ∧ j < fs.length ∧ (∀ f ∈ fs, f.length ≤ 100) ∧ ∀ H', Same H H' → Q (.bl (mt fs i j)) H'
abbrev sMeetM : Stmt := inClass (topS 14) 5
abbrev nMeetM : List Str := ["self", "one", "other"]
theorem scMeetM : FnScope nMeetM ["self", "one", "other"] (defScope sMeetM) := ⟨rfl, rfl, rfl, by decide +kernel, rfl, by decide +kernel, by decide +kernel⟩
theorem getD_len {fs : List (List Tri)} (h : ∀ f ∈ fs, f.length ≤ 100) (i : Nat) : (fs.getD i []).length ≤ 100 := by
  rw [List.getD_eq_getElem?_getD]
  cases e : fs[i]? with
  | none => exact Nat.zero_le _
  | some f => exact h f (List.mem_of_getElem? e)
section
variable {P : Program} {w : World} {K : PySem.W.Frag} {mg : Str → Option Value} {base : Heap}
theorem ok_meetM {f C fS fH : Addr} {fd fdS fdH : FuncData} {k : Nat} (F : Fun K "meet" "Book.meet" sMeetM f fd) (T : BkTxt K mg C) (ml : mg "len" = none)
    (FS : Fun K "shape" "Book.shape" sShp fS fdS) (bS : Binds K fdS ["self", "at"] []) (mS : Meth K C "shape" fS)
    (FH : Fun K "have_common_pad" "have_common_pad" sHcp fH fdH) (bH : Binds K fdH ["one", "other"] []) (gH : mg "have_common_pad" = some (.ref fH)) (GH : FnOk P w K mg base CX0 (k + 1) fH fdH ["one", "other"] (spMeet2 K)) :
    FnOk P w K mg base CX0 (k + 2) f fd ["self", "one", "other"] (spMeetM K C) := by
  have GS : FnOk P w K mg base CX0 (k + 1) fS fdS ["self", "at"] (spShp K C) := ok_shp FS T ml
  refine F.ok scMeetM (fun vs H Q E h => ?_) (fun cdv A outer s H vs Q E hr h => ?_)
  · obtain ⟨p, cs, fs, i, j, rfl, _⟩ := h
    rfl
  · obtain ⟨p, cs, fs, i, j, rfl, hK, hi, hj, hl, q⟩ := h
    obtain ⟨dx, a, b, xs, hp, ha, hb, hA⟩ := id hK
    refine ⟨_, pss_one (ps_ret (pe_call GH hr (by rfl) gH FH.kp bH .nil pass0 (pa_cons (pe_meth (pv 0) T.cl mS GS hr bS .nil pass0 (pa_cons (pv 1) pa_nil)) (pa_cons (pe_meth (pv 0) T.cl mS GS hr bS .nil pass0 (pa_cons (pv 2) pa_nil)) pa_nil)))), ?_⟩
    refine ⟨.ref p, rfl, p, dx, _, rfl, hp, rfl, .int (i : Nat), rfl, p, cs, fs, i, rfl, hK, hi, fun v hv => ?_⟩
    refine ⟨.ref p, rfl, p, dx, _, rfl, hp, rfl, .int (j : Nat), rfl, p, cs, fs, j, rfl, hK, hj, fun u hu => ?_⟩
    exact ⟨v, u, _, _, rfl, hv, hu, getD_len hl i, getD_len hl j, fun H' s' => q _ s'⟩
end
def spApart (K : PySem.W.Frag) (C : Addr) : Sp := fun vs H Q _ => ∃ (p t : Addr) (cs : List Int) (fs : List (List Tri)) (i : Nat) (ns : List Nat), vs = [.ref p, .int (i : Nat), .ref t] ∧ BookAt K C H p cs fs ∧ SqT K H t ((nI ns).map V.int) ∧ i < fs.length ∧ (∀ n ∈ ns, n < fs.length) ∧ (∀ f ∈ fs, f.length ≤ 100) ∧ ns.length ≤ 100 ∧ ∀ H', Same H H' → Q (.bl (!(ns.any fun n => mt fs i n))) H'
abbrev sApart : Stmt := inClass (topS 14) 8
abbrev nApart : List Str := ["self", "figure", "others", "other"]
theorem scApart : FnScope nApart ["self", "figure", "others"] (defScope sApart) := ⟨rfl, rfl, rfl, by decide +kernel, rfl, by decide +kernel, by decide +kernel⟩
section
variable {P : Program} {w : World} {K : PySem.W.Frag} {mg : Str → Option Value} {base : Heap}
theorem ok_apart {f C fM : Addr} {fd fdM : FuncData} {k : Nat} (F : Fun K "is_apart" "Book.is_apart" sApart f fd) (T : BkTxt K mg C) (ma : mg "any" = none)
    (FM : Fun K "meet" "Book.meet" sMeetM fM fdM) (bM : Binds K fdM ["self", "one", "other"] []) (mM : Meth K C "meet" fM) (GM : FnOk P w K mg base CX0 k fM fdM ["self", "one", "other"] (spMeetM K C)) :
    FnOk P w K mg base CX0 (k + 1) f fd ["self", "figure", "others"] (spApart K C) := by
  refine F.ok scApart (fun vs H Q E h => ?_) (fun cdv A outer s H vs Q E hr h => ?_)
  · obtain ⟨p, t, cs, fs, i, ns, rfl, _⟩ := h
    rfl
  · obtain ⟨p, t, cs, fs, i, ns, rfl, hK, ht, hi, hn, hl, hnl, q⟩ := h
    refine ⟨_, pss_one (ps_ret (pe_not (pe_callB (cr_any rfl) (by rfl) ma (by decide +kernel) (pa_cons (pe_lc (own := [("other", 3)]) (g := gName 3) (tt := tYes) rfl scApart.nd (pi_tup (pv 2))
        (blkOk_by (own := [("other", 3)]) (N := nApart) (sc := defScope sApart) (by decide +kernel)) (fun _ _ _ _ _ => pg_name (i := 3) scApart.nd rfl (.inl rfl)) (fun _ _ _ _ _ => pts_nil)
        (fun _ _ _ _ _ => pe_meth (pv 0) T.cl mM GM hr bM .nil pass0 (pa_cons (pv 1) (pa_cons (pv 3) pa_nil)))) pa_nil)))), ?_⟩
    refine ⟨.ref t, rfl, t, rfl, ⟨_, ht⟩, fun D nD => ?_⟩
    refine lc_tup (K := K) (a := t) (xs := (nI ns).map V.int) (fun j H' => Same H H' ∧ H' D = some (.lst (((ns.take j).map fun n => mt fs i n).map V.bl))) ⟨same_upd nD, upd_same⟩ (fun j H' _ hP => Same.tup hP.1 ht) (fun j x H' hx hP => ?_) (fun H1 hP => ?_)
    · obtain ⟨sm, hD⟩ := hP
      unfold nI at hx
      rw [List.getElem?_map, List.getElem?_map] at hx
      cases hn' : ns[j]? with
      | none => rw [hn'] at hx; cases hx
      | some n =>
        rw [hn'] at hx
        obtain rfl := Option.some.inj hx
        have hK' := hK.same sm
        obtain ⟨dx, a, b, xs, hp, _⟩ := id hK'
        refine ⟨rfl, yesT ⟨.ref p, rfl, p, dx, _, rfl, hp, rfl, .int (i : Nat), rfl, .int (n : Nat), rfl, p, cs, fs, i, n, rfl, hK', hi, hn n (List.mem_of_getElem? hn'), hl, fun H2 s2 => ⟨_, s2 _ _ hD, ?_, Same.offUpd (sm.trans s2) nD, ?_⟩⟩⟩
        · rw [List.length_map, List.length_map, List.length_take]
          exact small1000 (by omega)
        · rw [upd_same, take_snoc hn', List.map_append, List.map_append]
          rfl
    · obtain ⟨sm, hD⟩ := hP
      rw [List.length_map, nI_len, List.take_length] at hD
      refine ⟨D, _, rfl, SqL.of hD, _, rfl, ?_⟩
      have := q _ sm
      rw [List.any_map]
      exact this
end
def spApS (K : PySem.W.Frag) (C : Addr) : Sp := fun vs H Q _ => ∃ (p : Addr) (cs : List Int) (fs : List (List Tri)), vs = [.ref p] ∧ BookAt K C H p cs fs ∧ fs.length ≤ 12 ∧ (∀ f ∈ fs, f.length ≤ 100) ∧
  ∀ (H' : Hp) (d : Addr) (ys : List V) (ds : List (List Int)), Same H H' → H d = none → H' d = some (.lst ys) → All2 (TupI K H') ys ds → ds.Perm ((apS fs fs.length).map nI) → ds.Pairwise (fun x y => HT.lexLt y x = false) → Q (.ref d) H'
abbrev sApS : Stmt := inClass (topS 14) 7
abbrev nApS : List Str := ["self", "chosen", "at", "some"]
theorem scApS : FnScope nApS ["self"] (defScope sApS) := ⟨rfl, rfl, rfl, by decide +kernel, rfl, by decide +kernel, by decide +kernel⟩
theorem TupI.ts {K : PySem.W.Frag} {H H' : Hp} (e : TS K H H') {v : V} {ns : List Int} (h : TupI K H v ns) : TupI K H' v ns := by
  obtain ⟨a, h1, h2⟩ := h
  exact ⟨a, h1, e _ _ h2⟩
theorem All2.app {α : Type} {R : V → α → Prop} : ∀ {xs ys : List V} {as bs : List α}, All2 R xs as → All2 R ys bs → All2 R (xs ++ ys) (as ++ bs)
  | [], _, [], _, _, h => h
  | _ :: _, _, _ :: _, _, h, h2 => ⟨h.1, All2.app h.2 h2⟩
  | [], _, _ :: _, _, h, _ => h.elim
  | _ :: _, _, [], _, h, _ => h.elim
section
variable {P : Program} {w : World} {K : PySem.W.Frag} {mg : Str → Option Value} {base : Heap}
theorem ok_apS {f C fA : Addr} {fd fdA : FuncData} {k : Nat} (F : Fun K "apart_sets" "Book.apart_sets" sApS f fd) (T : BkTxt K mg C) (ml : mg "len" = none) (mr : mg "range" = none) (mso : mg "sorted" = none)
    (FA : Fun K "is_apart" "Book.is_apart" sApart fA fdA) (bA : Binds K fdA ["self", "figure", "others"] []) (mA : Meth K C "is_apart" fA) (GA : FnOk P w K mg base CX0 k fA fdA ["self", "figure", "others"] (spApart K C)) :
    FnOk P w K mg base CX0 (k + 1) f fd ["self"] (spApS K C) := by
  refine F.ok scApS (fun vs H Q E h => ?_) (fun cdv A outer s H vs Q E hr h => ?_)
  · obtain ⟨p, cs, fs, rfl, _⟩ := h
    rfl
  · obtain ⟨p, cs, fs, rfl, hK, h12, hl, q⟩ := h
    refine ⟨_, pss_cons (ps_set (i := 1) scApS.nd rfl (.inl rfl) (pe_lst (pa_cons (pe_tup pa_nil) pa_nil)))
      (pss_cons (ps_for PassesOwn.never rfl (pi_range1 (by rfl) mr (pa_cons (pe_callB call_lenQ (by rfl) ml PySem.boot_len (pa_cons (pe_fld (pv 0) rfl) pa_nil)) pa_nil)) (pg_name (i := 2) scApS.nd rfl (.inr rfl))
        (pss_one (ps_set (i := 1) scApS.nd rfl (.inl rfl) (pe_op op_cat (pv 1) (pe_lc (own := [("some", 3)]) (g := gName 3) rfl scApS.nd (pi_list (pv 1))
          (blkOk_by (own := [("some", 3)]) (N := nApS) (sc := defScope sApS) (by decide +kernel)) (fun _ _ _ _ _ => pg_name (i := 3) scApS.nd rfl (.inl rfl))
          (fun _ _ _ _ _ => pts_one (pt_val (pe_meth (pv 0) T.cl mA GA hr bA .nil pass0 (pa_cons (pv 2) (pa_cons (pv 3) pa_nil)))))
          (fun _ _ _ _ _ => pe_op (r := rCatS K) op_catS (pv 3) (pe_tup (pa_cons (pv 2) pa_nil))))))))
      (pss_one (ps_ret (pe_callB (cr_sortX hr.units) (by rfl) mso (by decide +kernel) (pa_cons (pv 1) pa_nil))))), ?_⟩
    have pw : ∀ i, i ≤ 12 → 2 ^ i ≤ 4096 := fun i hi => Nat.pow_le_pow_right (n := 2) (by decide) (show i ≤ 12 from hi)
    refine ⟨Nat.zero_le _, fun e ne => ⟨(show (1 : Nat) ≤ sizeLine by decide), fun ch nch => ?_⟩⟩
    have u1 := same_upd (o := .tup []) ne
    have u2 := same_upd (o := .lst [.ref e]) nch
    have s1 := u1.trans u2
    have hch : (upd (upd H e (.tup [])) ch (.lst [.ref e])) ch = some (.lst [.ref e]) := upd_same
    have he : SqT K (upd (upd H e (.tup [])) ch (.lst [.ref e])) e [] := SqT.of (u2 _ _ upd_same)
    generalize upd (upd H e (.tup [])) ch (.lst [.ref e]) = H1 at s1 hch he ⊢
    obtain ⟨dx, a, b, xs, hp, ha, hb, hA⟩ := id (hK.same s1)
    have hxl := hA.len
    refine ⟨.ref p, rfl, p, C, dx, _, _, rfl, hp, T.cl, T.nS, bkF_shapes a b, b, _, rfl, .inr hb, ((xs.length : Nat) : Int), rfl, by omega, by omega, ?_⟩
    rw [Int.toNat_natCast, hxl]
    refine for_range (lo := 0) (n := fs.length) (fun i σ H' => ∃ (ch : Addr) (y2 : Option V) (zs : List V), σ = [some (.ref p), some (.ref ch), y2, none] ∧ Same H H' ∧ H' ch = some (.lst zs) ∧ All2 (TupI K H') zs ((apS fs i).map nI))
      ⟨ch, none, [.ref e], rfl, s1, hch, ⟨⟨e, rfl, he⟩, True.intro⟩⟩ ?_ ?_
    · rintro i σ H' hi ⟨ch, y2, zs, rfl, sm, hch, hz⟩
      have hlen := apS_len fs i
      have hpw := pw i (by omega)
      have hzl := hz.len
      rw [List.length_map] at hzl
      refine ⟨.ref ch, rfl, .ref ch, rfl, ch, rfl, ⟨_, SqL.of hch⟩, fun D nD => ?_⟩
      refine lc_list (K := K) (a := ch) (xs := zs) (fun j H2 => Same H' H2 ∧ ∃ ws, H2 D = some (.lst ws) ∧ All2 (TupI K H2) ws (((((apS fs i).take j).filter fun s => !(s.any fun n => mt fs i n)).map (· ++ [i])).map nI) ∧ ws.length ≤ j) ⟨same_upd nD, [], upd_same, True.intro, Nat.le_refl _⟩ (fun j H2 _ hP => SqL.of (hP.1 _ _ hch)) (fun j x H2 hx hP => ?_) (fun H3 hP => ?_)
      · obtain ⟨sm2, ws, hD, hw, hwl⟩ := hP
        obtain ⟨ns0, hns, t, rfl, ht⟩ := hz.get hx
        rw [List.getElem?_map] at hns
        cases hs : (apS fs i)[j]? with
        | none => rw [hs] at hns; cases hns
        | some s0 =>
          rw [hs] at hns
          obtain rfl := Option.some.inj hns
          have hj : j < zs.length := (List.getElem?_eq_some_iff.mp hx).1
          have hok := (apS_mem fs i s0).mp (List.mem_of_getElem? hs)
          have hK2 := (hK.same sm).same sm2
          obtain ⟨dx2, a2, b2, xs2, hp2, _⟩ := id hK2
          have h0 : (0 : Int) + (i : Int) = (i : Nat) := by omega
          have hs0l : s0.length ≤ i := by
            have := rise_len (l := nI s0) (lo := 0) (hi := i) (by unfold nI; rw [List.pairwise_map]; exact hok.up.imp (fun h => by omega)) (fun x hx => by
              obtain ⟨n, hn, rfl⟩ := List.mem_map.mp hx
              have := hok.lt n hn
              omega) (by omega)
            rw [nI_len] at this
            omega
          refine ⟨rfl, ?_⟩
          rw [h0]
          refine ⟨.ref p, rfl, p, dx2, _, rfl, hp2, rfl, .int (i : Nat), rfl, .ref t, rfl, p, t, cs, fs, i, s0, rfl, hK2, Same.tup sm2 ht, hi, fun n hn => (by have := hok.lt n hn; omega), hl, by omega, fun H4 s4 => ⟨_, rfl, ite2 (fun e => ?_) (fun e => ?_)⟩⟩
          · have st4 := sm2.trans s4
            refine ⟨.ref t, rfl, .int (i : Nat), rfl, (show (1 : Nat) ≤ sizeLine by decide), fun one none => ?_⟩
            have u5 := same_upd (o := .tup [V.int (i : Nat)]) none
            refine ⟨t, one, _, _, rfl, rfl, Same.tup (st4.trans u5) ht, SqT.of upd_same, ?_, fun c H6 s6 hc => ?_⟩
            · rw [List.length_map, nI_len]
              show s0.length + 1 ≤ sizeLine
              exact small1000 (by omega)
            · have hD6 := s6 _ _ (u5 _ _ (s4 _ _ hD))
              refine ⟨_, hD6, small_k (by omega), Same.offUpd ((st4.trans u5).trans s6) nD, ws ++ [.ref c], upd_same, ?_, ?_⟩
              · rw [take_snoc hs, List.filter_append, List.map_append, List.map_append]
                refine All2.app (hw.mono fun _ _ => TupI.ts ((TS.of ((s4.trans u5).trans s6)).trans (TS.upd hD6))) ?_
                have : List.filter (fun s => !(s.any fun n => mt fs i n)) [s0] = [s0] := by
                  rw [List.filter_cons, if_pos e]
                  rfl
                rw [this]
                refine ⟨⟨c, rfl, TS.upd hD6 _ _ ?_⟩, True.intro⟩
                have ec : (nI (s0 ++ [i])).map V.int = (nI s0).map V.int ++ [V.int (i : Nat)] := by
                  unfold nI
                  rw [List.map_append, List.map_append]
                  rfl
                show SqT K H6 c ((nI (s0 ++ [i])).map V.int)
                rw [ec]
                exact hc
              · rw [List.length_append]
                show ws.length + 1 ≤ j + 1
                omega
          · refine ⟨sm2.trans s4, ws, s4 _ _ hD, ?_, by omega⟩
            rw [take_snoc hs, List.filter_append, List.map_append, List.map_append]
            have : List.filter (fun s => !(s.any fun n => mt fs i n)) [s0] = [] := by
              rw [List.filter_cons, if_neg e]
              rfl
            rw [this]
            show All2 _ ws (_ ++ [])
            rw [List.append_nil]
            exact hw.mono fun _ _ => TupI.ts (TS.of s4)
      · obtain ⟨sm2, ws, hD, hw, hwl⟩ := hP
        rw [hzl, List.take_length] at hw
        refine ⟨ch, D, _, _, rfl, rfl, sm2 _ _ hch, hD, ?_, fun c nc => ?_⟩
        · rw [sizeLine_eq]
          omega
        · have u3 := same_upd (o := .lst (zs ++ ws)) nc
          refine ⟨c, _, zs ++ ws, rfl, (sm.trans sm2).trans u3, upd_same, ?_⟩
          show All2 _ _ ((apS fs i ++ _).map nI)
          rw [List.map_append]
          exact All2.app (hz.mono fun _ _ => TupI.ts (TS.of (sm2.trans u3))) (hw.mono fun _ _ => TupI.ts (TS.of u3))
    · rintro σ H' ⟨ch, y2, zs, rfl, sm, hch, hz⟩
      refine ⟨.ref ch, rfl, ch, zs, _, rfl, SqL.of hch, hz, ?_, fun ys ds d hy hp hs nd => ?_⟩
      · obtain ⟨r, e⟩ := apS_head fs fs.length
        rw [e]
        rfl
      · have u4 := same_upd (o := .lst ys) nd
        exact q _ d ys ds (sm.trans u4) (sm.free nd) upd_same (hy.mono fun _ _ => TupI.ts (TS.of u4)) hp hs
end
/-! ### _law_pads, _law_meet -/
abbrev sLPads : Stmt := topS 37
abbrev nLPads : List Str := ["_law_shape_here", "_law_pad", "_law_note", "_law_depth"]
theorem scLPads : FnScope nLPads ["_law_shape_here"] (defScope sLPads) := ⟨rfl, rfl, rfl, by decide +kernel, rfl, by decide +kernel, by decide +kernel⟩
section
variable {P : Program} {w : World} {K : PySem.W.Frag} {mg : Str → Option Value} {base : Heap}
theorem ok_lpads {f : Addr} {fd : FuncData} {k : Nat} (F : Fun K "_law_pads" "_law_pads" sLPads f fd) : FnOk P w K mg base CX0 (k + 1) f fd ["_law_shape_here"] (spPads K) := by
  refine F.ok scLPads (fun vs H Q E h => ?_) (fun cdv A outer s H vs Q E hr h => ?_)
  · obtain ⟨v, f, rfl, _⟩ := h
    rfl
  · obtain ⟨v, f, rfl, hV, hfl, q⟩ := h
    obtain ⟨a, xs, rfl, ha, hxs⟩ := hV
    refine ⟨_, pss_one (ps_ret (pe_lc (own := [("_law_pad", 1), ("_law_note", 2), ("_law_depth", 3)]) (g := g3 K 1 2 3) (tt := tYes) rfl scLPads.nd (pi_tup (pv 0))
        (blkOk_by (own := [("_law_pad", 1), ("_law_note", 2), ("_law_depth", 3)]) (N := nLPads) (sc := defScope sLPads) (by decide +kernel))
        (fun _ _ _ _ _ => pg_tup rfl (pgs_cons (pg_name (i := 1) scLPads.nd rfl (.inl rfl)) (pgs_cons (pg_name (i := 2) scLPads.nd rfl (.inl rfl)) (pgs_cons (pg_name (i := 3) scLPads.nd rfl (.inl rfl)) pgs_nil)))) (fun _ _ _ _ _ => pts_nil)
        (fun _ _ _ _ _ => pv 1))), ?_⟩
    refine ⟨.ref a, rfl, a, rfl, ⟨_, ha⟩, fun D nD => ?_⟩
    refine lc_tup (K := K) (a := a) (xs := xs) (fun i H' => Same H H' ∧ H' D = some (.lst (((f.take i).map (·.1)).map V.int))) ⟨same_upd nD, upd_same⟩ (fun i H' _ hP => Same.tup hP.1 ha) (fun i x H' hx hP => ?_) (fun H1 hP => ?_)
    · obtain ⟨sm, hD⟩ := hP
      obtain ⟨t, ht, tp, rfl, htp⟩ := hxs.get hx
      refine ⟨tp, triV t, rfl, Same.tup sm htp, rfl, _, _, rfl, _, _, rfl, _, _, rfl, rfl, rfl, yesT ⟨_, rfl, _, hD, ?_, Same.offUpd sm nD, ?_⟩⟩
      · rw [List.length_map, List.length_map, List.length_take]
        exact small1000 (by omega)
      · rw [upd_same, take_snoc ht, List.map_append, List.map_append]
        rfl
    · obtain ⟨sm, hD⟩ := hP
      rw [hxs.len, List.take_length] at hD
      exact q H1 D sm nD hD
end
def spLMeet (K : PySem.W.Frag) : Sp := fun vs H Q _ => ∃ (v u : V) (f g : List Tri), vs = [v, u] ∧ FigT K H v f ∧ FigT K H u g ∧ f.length ≤ 100 ∧ g.length ≤ 100 ∧ ∀ H', Same H H' → Q (.bl (meetB g f)) H'
abbrev sLMeet : Stmt := topS 38
abbrev nLMeet : List Str := ["_law_one", "_law_other", "_law_pad"]
theorem scLMeet : FnScope nLMeet ["_law_one", "_law_other"] (defScope sLMeet) := ⟨rfl, rfl, rfl, by decide +kernel, rfl, by decide +kernel, by decide +kernel⟩
section
variable {P : Program} {w : World} {K : PySem.W.Frag} {mg : Str → Option Value} {base : Heap}
theorem ok_lmeet {f fP : Addr} {fd fdP : FuncData} {k : Nat} (F : Fun K "_law_meet" "_law_meet" sLMeet f fd) (ma : mg "any" = none)
    (FP : Fun K "_law_pads" "_law_pads" sLPads fP fdP) (bP : Binds K fdP ["_law_shape_here"] []) (gP : mg "_law_pads" = some (.ref fP)) : FnOk P w K mg base CX0 (k + 2) f fd ["_law_one", "_law_other"] (spLMeet K) := by
  have GP : FnOk P w K mg base CX0 (k + 1) fP fdP ["_law_shape_here"] (spPads K) := ok_lpads FP
  refine F.ok scLMeet (fun vs H Q E h => ?_) (fun cdv A outer s H vs Q E hr h => ?_)
  · obtain ⟨v, u, f, g, rfl, _⟩ := h
    rfl
  · obtain ⟨v, u, f, g, rfl, hV, hU, hfl, hgl, q⟩ := h
    refine ⟨_, pss_one (ps_ret (pe_callB (cr_any rfl) (by rfl) ma (by decide +kernel) (pa_cons (pe_lc (own := [("_law_pad", 2)]) (g := gName 2) (tt := tYes) rfl scLMeet.nd (pi_list (pe_call GP hr (by rfl) gP FP.kp bP .nil pass0 (pa_cons (pv 1) pa_nil)))
        (blkOk_by (own := [("_law_pad", 2)]) (N := nLMeet) (sc := defScope sLMeet) (by decide +kernel)) (fun _ _ _ _ _ => pg_name (i := 2) scLMeet.nd rfl (.inl rfl)) (fun _ _ _ _ _ => pts_nil)
        (fun _ _ _ _ _ => pe_cmpR (r := rIn K false) op_in_seq (pv 2) (pe_call GP hr (by rfl) gP FP.kp bP .nil pass0 (pa_cons (pv 0) pa_nil)) (by rfl))) pa_nil))), ?_⟩
    refine ⟨u, rfl, u, g, rfl, hU, hgl, fun H1 p s1 _ hp => ?_⟩
    refine ⟨p, rfl, ⟨_, SqL.of hp⟩, fun D nD => ?_⟩
    refine lc_list (K := K) (a := p) (xs := (g.map (·.1)).map V.int) (fun i H' => Same H1 H' ∧ H' D = some (.lst (((g.take i).map fun t => f.any fun r => decide (r.1 = t.1)).map V.bl))) ⟨same_upd nD, upd_same⟩ (fun i H' _ hP => SqL.of (hP.1 _ _ hp)) (fun i x H' hx hP => ?_) (fun H2 hP => ?_)
    · obtain ⟨sm, hD⟩ := hP
      rw [List.getElem?_map, List.getElem?_map] at hx
      cases ht : g[i]? with
      | none => rw [ht] at hx; cases hx
      | some t =>
        rw [ht] at hx
        obtain rfl := Option.some.inj hx
        refine ⟨rfl, yesT ⟨.int t.1, rfl, v, rfl, v, f, rfl, hV.ts (TS.of (s1.trans sm)), hfl, fun H3 p3 s3 _ hp3 => ?_⟩⟩
        refine ⟨p3, _, rfl, .inl (SqL.of hp3), rfl, flat_ints _, _, s3 _ _ hD, ?_, Same.offUpd (sm.trans s3) nD, ?_⟩
        · rw [List.length_map, List.length_map, List.length_take]
          exact small1000 (by omega)
        · rw [upd_same, take_snoc ht, List.map_append, List.map_append]
          show some (HO.lst (_ ++ [V.bl (inV (V.int t.1) ((f.map (·.1)).map V.int))])) = _
          rw [inV_ints, List.any_map]
          rfl
    · obtain ⟨sm, hD⟩ := hP
      rw [List.length_map, List.length_map, List.take_length] at hD
      refine ⟨D, _, rfl, SqL.of hD, ?_⟩
      have := q _ (s1.trans sm)
      unfold meetB at this
      rw [List.any_map]
      exact this
end
/-! ### _law_all_apart -/
abbrev sAll : Stmt := topS 39
abbrev nAll : List Str := ["_law_shapes_here", "_law_found", "_law_number", "_law_some", "_law_clash", "_law_at", "_law_other"]
theorem scAll : FnScope nAll ["_law_shapes_here"] (defScope sAll) := ⟨rfl, rfl, rfl, by decide +kernel, rfl, by decide +kernel, by decide +kernel⟩
abbrev scClash : Scope := { kind := .function, names := [(Str.ofString ".0", .local), (Str.ofString "_law_at", .cell), (Str.ofString "any", .globalImplicit), (Str.ofString "_law_shapes_here", .cell), (Str.ofString "_law_some", .cell)], isGenerator := false, isCoroutine := false }
def spAll (K : PySem.W.Frag) : Sp := fun vs H Q _ => ∃ (a : Addr) (xs : List V) (fs : List (List Tri)), vs = [.ref a] ∧ SqL K H a xs ∧ All2 (FigT K H) xs fs ∧ fs.length ≤ 7 ∧ (∀ f ∈ fs, f.length ≤ 100) ∧
  ∀ (H' : Hp) (d : Addr) (ys : List V) (ds : List (List Int)), Same H H' → H' d = some (.lst ys) → All2 (TupI K H') ys ds → ds.Perm ((foundF fs 128).map nI) → ds.Pairwise (fun x y => HT.lexLt y x = false) → Q (.ref d) H'
theorem pow_tab {K : PySem.W.Frag} {x : Nat} (h : x < 7) : atI [V.int 1, .int 2, .int 4, .int 8, .int 16, .int 32, .int 64] (x : Int) = some (.int ((2 ^ x : Nat) : Int)) := by
  refine atI_nat ?_
  match x, h with
  | 0, _ => rfl
  | 1, _ => rfl
  | 2, _ => rfl
  | 3, _ => rfl
  | 4, _ => rfl
  | 5, _ => rfl
  | 6, _ => rfl
theorem nI_mem {ns : List Nat} {i : Nat} {x : V} (h : ((nI ns).map V.int)[i]? = some x) : ∃ n, ns[i]? = some n ∧ x = .int (n : Nat) := by
  unfold nI at h
  rw [List.getElem?_map, List.getElem?_map] at h
  cases e : ns[i]? with
  | none => rw [e] at h; cases h
  | some n =>
    rw [e] at h
    exact ⟨n, rfl, (Option.some.inj h).symm⟩
theorem nI_inj {a b : List Nat} (h : nI a = nI b) : a = b := by
  unfold nI at h
  exact (List.map_inj_right (fun x y e => by omega)).mp h
theorem tups_data {K : PySem.W.Frag} {H : Hp} : ∀ {xs : List V} {cs : List (List Int)}, All2 (TupI K H) xs cs → DpAll K H xs (cs.map fun c => .tuple (c.map PyData.int))
  | [], [], _ => .nil
  | x :: xs, c :: cs, h => by
    obtain ⟨t, rfl, ht⟩ := h.1
    exact .cons (dpT ht) (tups_data h.2)
  | [], _ :: _, h => h.elim
  | _ :: _, [], h => h.elim
theorem tups_shape (cs : List (List Int)) : SeqAt.shaped (.list (cs.map fun c => .tuple (c.map PyData.int))) = true := by
  have h1 : PyData.canLayAll0 (cs.map fun c => .tuple (c.map PyData.int)) = true := by
    induction cs with
    | nil => rfl
    | cons c r ih => simp [PyData.canLayAll0, PyData.canLay0, canLay_ints, ih]
  have h2 : PyData.depthAll (cs.map fun c => .tuple (c.map PyData.int)) ≤ 1 := by
    induction cs with
    | nil => simp [PyData.depthAll]
    | cons c r ih =>
      have ih := ih (by
        simp only [List.map_cons, PyData.canLayAll0, Bool.and_eq_true] at h1
        exact h1.2)
      simp only [List.map_cons, PyData.depthAll, PyData.depth, depth_ints]
      omega
  have h5 : PyData.depth (.list (cs.map fun c => .tuple (c.map PyData.int))) ≤ 64 := by
    simp only [PyData.depth]
    omega
  show (PyData.canLay0 _ && decide (PyData.depth _ ≤ 64)) = true
  rw [Bool.and_eq_true]
  exact ⟨by simp only [PyData.canLay0]; exact h1, decide_eq_true h5⟩
section
variable {P : Program} {w : World} {K : PySem.W.Frag} {mg : Str → Option Value} {base : Heap}
theorem ok_all {f fM : Addr} {fd fdM : FuncData} {k : Nat} (F : Fun K "_law_all_apart" "_law_all_apart" sAll f fd) (ml : mg "len" = none) (mr : mg "range" = none) (ma : mg "any" = none) (mt' : mg "tuple" = none) (mso : mg "sorted" = none)
    (FM : Fun K "_law_meet" "_law_meet" sLMeet fM fdM) (bM : Binds K fdM ["_law_one", "_law_other"] []) (gM : mg "_law_meet" = some (.ref fM)) (GM : FnOk P w K mg base CX0 k fM fdM ["_law_one", "_law_other"] (spLMeet K)) :
    FnOk P w K mg base CX0 (k + 1) f fd ["_law_shapes_here"] (spAll K) := by
  refine F.ok scAll (fun vs H Q E h => ?_) (fun cdv A outer s H vs Q E hr h => ?_)
  · obtain ⟨a, xs, fs, rfl, _⟩ := h
    rfl
  · obtain ⟨a, xs, fs, rfl, ha, hA, h7, hl, q⟩ := h
    have h65 : (A.deeper (envOfC "_law_all_apart" (defScope sAll) s.heap.objs.size f cdv)).units + 65 < cLine := by
      have := hr.un
      omega
    refine ⟨_, pss_cons (ps_set (i := 1) scAll.nd rfl (.inl rfl) (pe_lst pa_nil))
      (pss_cons (ps_for PassesOwn.never rfl (pi_range1 (by rfl) mr (pa_cons (pe_op op_pow pe_int pe_int) pa_nil)) (pg_name (i := 2) scAll.nd rfl (.inr rfl))
        (pss_cons (ps_set (i := 3) scAll.nd rfl (.inr rfl) (pe_lc (own := [("_law_at", 5)]) (g := gName 5) rfl scAll.nd (pi_range1 (by rfl) mr (pa_cons (pe_callB call_lenQ (by rfl) ml PySem.boot_len (pa_cons (pv 0) pa_nil)) pa_nil))
            (blkOk_by (own := [("_law_at", 5)]) (N := nAll) (sc := defScope sAll) (by decide +kernel)) (fun _ _ _ _ _ => pg_name (i := 5) scAll.nd rfl (.inl rfl))
            (fun _ _ _ _ _ => pts_one (pt_cmpR op_eq (pe_op op_mod (pe_op op_fdivW (pv 2) (pe_ix (r := rIxL K) ix_list (pe_lst (pa_cons pe_int (pa_cons pe_int (pa_cons pe_int (pa_cons pe_int (pa_cons pe_int (pa_cons pe_int (pa_cons pe_int pa_nil)))))))) (pv 5) (fun _ _ => rfl))) pe_int) pe_int (nomark _)))
            (fun _ _ _ _ _ => pv 5)))
        (pss_cons (ps_setLc (i := 4) (own := [("_law_at", 5)]) (g := gName 5) rfl scAll.nd rfl rfl (sw_true rfl rfl rfl (by decide +kernel)) (pi_list (pv 3))
            (blkOk_by (own := [("_law_at", 5)]) (N := nAll) (sc := defScope sAll) (by decide +kernel)) (fun _ _ _ _ _ => pg_name (i := 5) scAll.nd rfl (.inr rfl))
            (fun _ _ _ _ _ => pts_one (pt_val (pe_callB (r := rAny K) (cr_any rfl) (by rfl) ma (by decide +kernel) (pa_cons (pe_lc (own := [("_law_other", 6)]) (g := gName 6) (tt := tYes) (wi := iList K (tVar 3)) rfl scAll.nd (pi_list (pv 3))
              (blkOk_by (own := [("_law_other", 6)]) (N := nAll) (sc := scClash) (by decide +kernel)) (fun _ _ _ _ _ => pg_name (i := 6) scAll.nd rfl (.inl rfl)) (fun _ _ _ _ _ => pts_nil)
              (fun _ _ _ _ _ => pe_and (pe_cmpR op_lt (pv 6) (pv 5) (nomark _)) (pe_one (pe_call GM hr (by rfl) gM FM.kp bM .nil pass0 (pa_cons (pe_ix (r := rIxL K) ix_list (pv 0) (pv 5) (fun _ _ => rfl)) (pa_cons (pe_ix (r := rIxL K) ix_list (pv 0) (pv 6) (fun _ _ => rfl)) pa_nil)))))) pa_nil))))
            (fun _ _ _ _ _ => pv 5))
        (pss_one (ps_if (PW.pt (pw_and (pt_cmpR (op_eqD hr.units) (pv 4) (pe_lst pa_nil) (nomark _)) (pw_and1 (pt_cmpR (op_notInD h65) (pe_callTy call_tupS (by rfl) mt' (by decide +kernel) (pa_cons (pv 3) pa_nil)) (pv 1) (by rfl)))))
            (pss_one (ps_expr (pe_bm PySem.F.plainAttrs_list PySem.F.slot_list_append PySem.F.type_list_append mt_append (pv 1) (pa_cons (pe_callTy call_tupS (by rfl) mt' (by decide +kernel) (pa_cons (pv 3) pa_nil)) pa_nil)))) pss_nil)))))
      (pss_one (ps_ret (pe_callB (cr_sortX hr.units) (by rfl) mso (by decide +kernel) (pa_cons (pv 1) pa_nil))))), ?_⟩
    have hxl := hA.len
    have e128 : ((2 : Int) ^ (7 : Int).toNat).toNat = 128 := by decide
    refine ⟨Nat.zero_le _, fun D nD => ?_⟩
    refine ⟨2, 7, rfl, rfl, ⟨by decide, by decide, by decide⟩, (2 : Int) ^ (7 : Int).toNat, rfl, by decide, by decide, ?_⟩
    rw [e128]
    refine for_range (lo := 0) (n := 128) (fun i σ H' => ∃ (y2 y3 y4 : Option V) (zs : List V), σ = [some (.ref a), some (.ref D), y2, y3, y4, none, none] ∧ Same H H' ∧ H' D = some (.lst zs) ∧ All2 (TupI K H') zs ((foundF fs i).map nI))
      ⟨none, none, none, [], rfl, same_upd nD, upd_same, True.intro⟩ ?_ ?_
    · rintro i σ H1 hi ⟨y2, y3, y4, zs, rfl, s1, hD, hz⟩
      have h0 : (0 : Int) + (i : Int) = (i : Nat) := by omega
      -- some
      refine ⟨.ref a, rfl, a, _, rfl, .inl (s1.seq ha), ((xs.length : Nat) : Int), rfl, by omega, by omega, fun D1 nD1 => ?_⟩
      rw [Int.toNat_natCast, hxl]
      refine lc_range (lo := 0) (n := fs.length) (fun j H' => Same H1 H' ∧ H' D1 = some (.lst ((nI (bitsOf j i)).map V.int))) ⟨same_upd nD1, upd_same⟩ (fun j H' hj hP => ?_) (fun H2 hP => ?_)
      · obtain ⟨sm, hD1⟩ := hP
        have hj0 : (0 : Int) + (j : Int) = (j : Nat) := by omega
        have hb := bits_len j i
        refine ⟨rfl, ?_⟩
        refine ⟨.int (0 + (i : Int)), rfl, (show (7 : Nat) ≤ sizeLine by decide), fun t nt => ?_⟩
        have u1 := same_upd (o := .lst [V.int 1, .int 2, .int 4, .int 8, .int 16, .int 32, .int 64]) nt
        have hpos : (0 : Int) < ((2 ^ j : Nat) : Int) := by
          have := Nat.two_pow_pos j
          omega
        have h64 : 2 ^ j ≤ 2 ^ 7 := Nat.pow_le_pow_right (by decide) (by omega)
        refine ⟨.int (0 + (j : Int)), rfl, t, _, 0 + (j : Int), .int ((2 ^ j : Nat) : Int), rfl, rfl, SqL.of upd_same, by rw [hj0]; exact pow_tab (K := K) (by omega), 0 + (i : Int), ((2 ^ j : Nat) : Int), rfl, rfl, wide_div (b := 200) hpos ?_ (by decide) (by decide), ?_⟩
        · rw [Int.natAbs_natCast]
          exact Nat.lt_of_le_of_lt h64 (by decide)
        refine ⟨(0 + (i : Int)) / ((2 ^ j : Nat) : Int), 2, rfl, rfl, (show (0 : Int) < 2 by decide), rfl, _, rfl, ?_⟩
        have ev : (0 + (i : Int)) / ((2 ^ j : Nat) : Int) % 2 = ((i / 2 ^ j % 2 : Nat) : Int) := by
          rw [h0]
          rfl
        refine ite2 (fun e => ?_) (fun e => ?_)
        · have e1 : (0 + (i : Int)) / ((2 ^ j : Nat) : Int) % 2 = 1 := V.int.inj (of_decide_eq_true e)
          refine ⟨_, rfl, _, u1 _ _ hD1, ?_, Same.offUpd (sm.trans u1) nD1, ?_⟩
          · rw [List.length_map, nI_len]
            exact small1000 (by omega)
          · rw [upd_same, bits_succ, if_pos (by omega)]
            unfold nI
            rw [List.map_append, List.map_append, hj0]
            rfl
        · refine ⟨sm.trans u1, ?_⟩
          rw [bits_succ, if_neg (fun z => e (by rw [decide_eq_true_eq]; show V.int ((0 + (i : Int)) / ((2 ^ j : Nat) : Int) % 2) = V.int 1; rw [ev, z]; rfl)), List.append_nil]
          exact u1 _ _ hD1
      · obtain ⟨sm1, hD1⟩ := hP
        have s2 := s1.trans sm1
        obtain ⟨sb, hsb⟩ : ∃ sb, sb = bitsOf fs.length i := ⟨_, rfl⟩
        rw [← hsb] at hD1
        have hsl : sb.length ≤ 7 := by
          have := bits_len fs.length i
          rw [hsb]
          omega
        have hlt : ∀ n ∈ sb, n < fs.length := fun n hn => by
          rw [hsb] at hn
          exact bits_lt hn
        -- clash
        refine ⟨.ref D1, rfl, D1, rfl, ⟨_, SqL.of hD1⟩, fun D2 nD2 => ?_⟩
        refine lc_list (K := K) (a := D1) (xs := (nI sb).map V.int) (fun j H' => Same H2 H' ∧ H' D2 = some (.lst ((nI ((sb.take j).filter fun x => sb.any fun y => decide (y < x) && mt fs x y)).map V.int))) ⟨same_upd nD2, upd_same⟩ (fun j H' _ hP => SqL.of (hP.1 _ _ hD1)) (fun j x H' hx hP => ?_) (fun H3 hP => ?_)
        · obtain ⟨sm, hD2⟩ := hP
          obtain ⟨n, hn, rfl⟩ := nI_mem hx
          have hnlt := hlt n (List.mem_of_getElem? hn)
          refine ⟨rfl, ?_⟩
          refine ⟨.ref D1, rfl, D1, rfl, ⟨_, SqL.of (sm _ _ hD1)⟩, fun D3 nD3 => ?_⟩
          have hD1' := sm _ _ hD1
          have s3 := s2.trans sm
          refine lc_list (K := K) (a := D1) (xs := (nI sb).map V.int) (fun m H4 => Same H' H4 ∧ H4 D3 = some (.lst (((sb.take m).map fun y => decide (y < n) && mt fs n y).map V.bl))) ⟨same_upd nD3, upd_same⟩ (fun m H4 _ hP => SqL.of (hP.1 _ _ hD1')) (fun m y H4 hy hP => ?_) (fun H4 hP => ?_)
          · obtain ⟨sm4, hD3⟩ := hP
            obtain ⟨o, ho, rfl⟩ := nI_mem hy
            have holt := hlt o (List.mem_of_getElem? ho)
            have hml : (((sb.take m).map fun y => decide (y < n) && mt fs n y).map V.bl).length < sizeLine := by
              rw [List.length_map, List.length_map, List.length_take]
              exact small1000 (by omega)
            have fin : ∀ (H5 : Hp) (bb : Bool), Same H4 H5 → bb = (decide (o < n) && mt fs n o) → ∃ acc, H5 D3 = some (.lst acc) ∧ acc.length < sizeLine ∧ Same H' (upd H5 D3 (.lst (acc ++ [.bl bb]))) ∧ (upd H5 D3 (.lst (acc ++ [.bl bb]))) D3 = some (.lst (((sb.take (m + 1)).map fun y => decide (y < n) && mt fs n y).map V.bl)) := fun H5 bb s5 eb => by
              refine ⟨_, s5 _ _ hD3, hml, Same.offUpd (sm4.trans s5) nD3, ?_⟩
              rw [upd_same, take_snoc ho, List.map_append, List.map_append, eb]
              rfl
            refine ⟨rfl, yesT ⟨.int (o : Nat), rfl, .int (n : Nat), rfl, _, _, rfl, rfl, _, rfl, ite2 (fun e => ?_) (fun e => ?_)⟩⟩
            · have e1 : (o : Int) < (n : Int) := of_decide_eq_true e
              have s4 := s3.trans sm4
              have hn2 : n < xs.length := by omega
              have ho2 : o < xs.length := by omega
              obtain ⟨f1, hf1, hF1⟩ := hA.get (List.getElem?_eq_getElem hn2)
              obtain ⟨f2, hf2, hF2⟩ := hA.get (List.getElem?_eq_getElem ho2)
              refine ⟨.ref a, rfl, .int (n : Nat), rfl, a, xs, _, xs[n], rfl, rfl, s4.seq ha, atI_nat (List.getElem?_eq_getElem hn2), .ref a, rfl, .int (o : Nat), rfl, a, xs, _, xs[o], rfl, rfl, s4.seq ha, atI_nat (List.getElem?_eq_getElem ho2), xs[n], xs[o], f1, f2, rfl, hF1.ts (TS.of s4), hF2.ts (TS.of s4), hl f1 (List.mem_of_getElem? hf1), hl f2 (List.mem_of_getElem? hf2), fun H5 s5 => fin H5 _ s5 ?_⟩
              rw [decide_eq_true (show o < n by omega), Bool.true_and, mt_comm]
              unfold mt
              rw [List.getD_eq_getElem?_getD, List.getD_eq_getElem?_getD, hf1, hf2]
              rfl
            · have e1 : ¬ o < n := fun z => e (decide_eq_true (by omega))
              refine fin H4 false (Same.refl _) ?_
              rw [decide_eq_false e1]
              rfl
          · obtain ⟨sm4, hD3⟩ := hP
            rw [List.length_map, nI_len, List.take_length] at hD3
            refine ⟨D3, _, rfl, SqL.of hD3, _, rfl, ?_⟩
            have ee : ((sb.map fun y => decide (y < n) && mt fs n y).any id) = (sb.any fun y => decide (y < n) && mt fs n y) := List.any_map
            rw [ee]
            refine ite2 (fun e => ?_) (fun e => ?_)
            · refine ⟨_, rfl, _, sm4 _ _ hD2, ?_, Same.offUpd (sm.trans sm4) nD2, ?_⟩
              · rw [List.length_map, nI_len]
                have := List.length_filter_le (fun x => sb.any fun y => decide (y < x) && mt fs x y) (sb.take j)
                rw [List.length_take] at this
                exact small1000 (by omega)
              · rw [upd_same, take_snoc hn, List.filter_append]
                have : List.filter (fun x => sb.any fun y => decide (y < x) && mt fs x y) [n] = [n] := by
                  rw [List.filter_cons, if_pos e]
                  rfl
                rw [this]
                unfold nI
                rw [List.map_append, List.map_append]
                rfl
            · refine ⟨sm.trans sm4, ?_⟩
              rw [take_snoc hn, List.filter_append]
              have : List.filter (fun x => sb.any fun y => decide (y < x) && mt fs x y) [n] = [] := by
                rw [List.filter_cons, if_neg e]
                rfl
              rw [this, List.append_nil]
              exact sm4 _ _ hD2
        · obtain ⟨sm2, hD2⟩ := hP
          rw [List.length_map, nI_len, List.take_length] at hD2
          have hcl : (sb.filter fun x => sb.any fun y => decide (y < x) && mt fs x y) = clashOf fs sb := rfl
          rw [hcl] at hD2
          have s3 := s2.trans sm2
          have s13 := sm1.trans sm2
          -- clash == [] and tuple(some) not in found
          have keep : ∀ H' : Hp, Same H3 H' → (foundF fs (i + 1) = foundF fs i) → ∃ (y2 y3 y4 : Option V) (zs : List V), [some (V.ref a), some (.ref D), some (.int (0 + (i : Int))), some (.ref D1), some (.ref D2), none, none] = [some (.ref a), some (.ref D), y2, y3, y4, none, none] ∧ Same H H' ∧ H' D = some (.lst zs) ∧ All2 (TupI K H') zs ((foundF fs (i + 1)).map nI) := fun H' s' e => by
            rw [e]
            exact ⟨_, _, _, zs, rfl, s3.trans s', s' _ _ (s13 _ _ hD), hz.mono fun _ _ => TupI.ts (TS.of (s13.trans s'))⟩
          refine ⟨.ref D2, rfl, Nat.zero_le _, fun e0 ne0 => ?_⟩
          have u0 := same_upd (o := .lst []) ne0
          refine ⟨_, _, dpL (SqL.of (u0 _ _ hD2)), dpL (ns := []) (SqL.of upd_same), shL _, shL _, ?_⟩
          rw [eqvL]
          generalize upd H3 e0 (.lst []) = H4 at u0 ⊢
          refine ⟨_, rfl, ite2 (fun e => ?_) (fun e => ?_)⟩
          · have e1 : nI (clashOf fs sb) = [] := of_decide_eq_true e
            have hcn : clashOf fs sb = [] := List.map_eq_nil_iff.mp e1
            refine ⟨.ref D1, rfl, D1, _, rfl, .inl (SqL.of (u0 _ _ (sm2 _ _ hD1))), fun l H5 s5 hl5 => ?_⟩
            have s35 := u0.trans s5
            have hz5 := hz.mono fun _ _ => TupI.ts (TS.of (K := K) (s13.trans s35))
            have hD5 := s35 _ _ (s13 _ _ hD)
            refine ⟨.ref D, rfl, _, _, dpT hl5, .lst (SqL.of hD5) (tups_data hz5), shT _, tups_shape _, ?_⟩
            have ean : ((((foundF fs i).map nI).map fun c => PyData.tuple (c.map PyData.int)).any fun z => PyData.eqv z (.tuple ((nI sb).map PyData.int))) = decide (sb ∈ foundF fs i) := by
              rw [List.any_map, List.any_map, Bool.eq_iff_iff, List.any_eq_true, decide_eq_true_eq]
              constructor
              · rintro ⟨c, hc, e⟩
                have e : PyData.eqv (.tuple ((nI c).map PyData.int)) (.tuple ((nI sb).map PyData.int)) = true := e
                rw [eqvT, decide_eq_true_eq] at e
                rw [← nI_inj e]
                exact hc
              · intro h
                refine ⟨sb, h, ?_⟩
                show PyData.eqv (.tuple ((nI sb).map PyData.int)) (.tuple ((nI sb).map PyData.int)) = true
                rw [eqvT]
                exact decide_eq_true rfl
            rw [ean]
            refine ⟨_, rfl, ite2 (fun e2 => ?_) (fun e2 => ?_)⟩
            · have hnin : sb ∉ foundF fs i := fun z => by
                rw [decide_eq_true z] at e2
                cases e2
              refine ⟨.ref D, rfl, .inl ⟨rfl, _, SqL.of hD5⟩, .ref D1, rfl, D1, _, rfl, .inl (SqL.of (s35 _ _ (sm2 _ _ hD1))), fun l2 H6 s6 hl6 => ?_⟩
              have hD6 := s6 _ _ hD5
              refine ⟨D, _, _, rfl, rfl, hD6, ?_, ?_⟩
              · have := foundF_len fs i
                rw [hz.len, List.length_map]
                exact small1000 (by omega)
              · refine ⟨_, _, _, zs ++ [.ref l2], rfl, Same.offUpd ((s3.trans s35).trans s6) nD, upd_same, ?_⟩
                have ef : foundF fs (i + 1) = foundF fs i ++ [sb] := by
                  show (if clashOf fs (bitsOf fs.length i) = [] ∧ bitsOf fs.length i ∉ foundF fs i then foundF fs i ++ [bitsOf fs.length i] else foundF fs i) = _
                  rw [← hsb, if_pos ⟨hcn, hnin⟩]
                rw [ef, List.map_append]
                exact All2.snoc ⟨l2, rfl, TS.upd hD6 _ _ hl6⟩ (hz5.mono fun _ _ => TupI.ts ((TS.of s6).trans (TS.upd hD6)))
            · refine keep H5 s35 ?_
              show (if clashOf fs (bitsOf fs.length i) = [] ∧ bitsOf fs.length i ∉ foundF fs i then foundF fs i ++ [bitsOf fs.length i] else foundF fs i) = _
              rw [← hsb, if_neg]
              rintro ⟨_, z⟩
              apply e2
              rw [decide_eq_false z]
              rfl
          · refine iteF (keep H4 u0 ?_)
            show (if clashOf fs (bitsOf fs.length i) = [] ∧ bitsOf fs.length i ∉ foundF fs i then foundF fs i ++ [bitsOf fs.length i] else foundF fs i) = _
            rw [← hsb, if_neg]
            rintro ⟨z, _⟩
            apply e
            rw [z]
            exact decide_eq_true rfl
    · rintro σ H' ⟨y2, y3, y4, zs, rfl, sm, hD, hz⟩
      refine ⟨.ref D, rfl, D, zs, _, rfl, SqL.of hD, hz, ?_, fun ys ds d hy hp hs nd => ?_⟩
      · obtain ⟨r, e⟩ := foundF_head fs 127
        rw [e]
        rfl
      · have u4 := same_upd (o := .lst ys) nd
        exact q _ d ys ds (sm.trans u4) upd_same (hy.mono fun _ _ => TupI.ts (TS.of u4)) hp hs
end
/-! ### enumerate(()) -/
theorem enum_newT (l : Addr) (items : Array Value) (n : Nat) (dct : Option Addr) (sl : Array (Option Value)) :
    Meets (Builtin.«enumerate.__new__» ⟨[.type "enumerate", .ref l], []⟩) (fun _ R s => s.heap.get? l = some { cls := .type "tuple", dict := dct, data := .seq items n, slots := sl } ∧
      R (.ok (.ret (.ref (s.heap.push { cls := .type "tuple_iterator", data := .fields #[.ref l, .int 0 0] }).objs.size)))
        { s with heap := (s.heap.push { cls := .type "tuple_iterator", data := .fields #[.ref l, .int 0 0] }).push { cls := .type "enumerate", data := .fields #[.none, .bool false, .ref s.heap.objs.size, rawInt 0, .none, .none] } }) :=
  .of_wp fun prog w A R s h => by
    obtain ⟨hp, g, d, tk, os⟩ := s
    obtain ⟨hl, h⟩ := h
    have hsub := sub_enumerate
    have hT : Heap.IsTuple (Shared.heap ⟨hp, g, d, tk, os⟩) l items := ⟨_, hl, rfl, n, rfl⟩
    wp_walk using AutoSeq1.wpAny_loadPart' hl
    refine wpAny_stack_any fun st => wpAny_pure ?_
    split
    · rename_i c _ _ _ _ _
      cases (c == Value.type "enumerate") <;> (wp_walk using AutoSeq1.wpAny_loadPart' hl, wpAny_pyIter_tuple hT; exact ⟨_, rfl, h⟩)
    · wp_walk using AutoSeq1.wpAny_loadPart' hl, wpAny_pyIter_tuple hT
      exact ⟨_, rfl, h⟩
theorem enum_callT {prog : Program} {w : World} {A : Around} {E : Value → Shared → Prop} {s : Shared} {l : Addr} {items : Array Value} {Q : Value → Shared → Prop} (hT : s.heap.IsTuple l items)
    (h : ∀ h', IsEnum h' (s.heap.objs.size + 1) s.heap.objs.size 0 .none → h'.IsTupleIter s.heap.objs.size l 0 → (∀ b o, s.heap.get? b = some o → h'.get? b = some o) → Q (.ref (s.heap.objs.size + 1)) { s with heap := h' }) :
    wpAny (model prog w) A (call (.type "enumerate") [.ref l]) Q E s := by
  obtain ⟨⟨c, dct, dt, sl⟩, hl, hc, n, hd⟩ := hT
  have hc2 : c = .type "tuple" := hc
  have hd2 : dt = .seq items n := hd
  subst hc2 hd2
  refine callType_new F.called_enumerate (by decide) (F.typeCall_enumerate_1 _) (F.newCall_enumerate_1 _) (fun obj => F.args_object_init_2 obj _) F.entry_enumerate_new (enum_newT l items n dct sl) ⟨hl, ?_⟩
  have hz : (s.heap.push { cls := .type "tuple_iterator", data := .fields #[.ref l, .int 0 0] }).objs.size = s.heap.objs.size + 1 := Heap.size_push ..
  show _ ∧ _
  rw [hz]
  have he : IsEnum ((s.heap.push { cls := .type "tuple_iterator", data := .fields #[.ref l, .int 0 0] }).push { cls := .type "enumerate", data := .fields #[.none, .bool false, .ref s.heap.objs.size, rawInt 0, .none, .none] }) (s.heap.objs.size + 1) s.heap.objs.size 0 .none := by
    have q := Heap.get?_push_size (s.heap.push { cls := .type "tuple_iterator", data := .fields #[.ref l, .int 0 0] }) (o := { cls := .type "enumerate", data := .fields #[.none, .bool false, .ref s.heap.objs.size, rawInt 0, .none, .none] }) rfl
    rw [hz] at q
    exact q
  exact ⟨⟨_, he, rfl⟩, h _ he ⟨_, Heap.get?_push_of_some _ (Heap.get?_push_size _ rfl), rfl, rfl⟩ fun b o x => Heap.get?_push_of_some _ (Heap.get?_push_of_some _ x)⟩
/-- nothing comes of it -/
def It0 (K : PySem.W.Frag) (a : Addr) : It := ⟨fun _ _ => False, fun _ _ _ _ => False, fun _ H => SqT K H a []⟩
theorem turn_enum0 {P : Program} {w : World} {K : PySem.W.Frag} {tg : Expr} (a e it : Addr) : Turn P w K tg (It0 K a) [e, it] e (fun _ h => IsEnum h e it 0 .none ∧ h.IsTupleIter it a 0 ∧ e ≠ it) where
  mem := List.mem_cons_self
  obj := fun _ h st b hb => by
    obtain ⟨he, ⟨o, ho, _, hd⟩, _⟩ := st
    rcases List.mem_cons.mp hb with z | z
    · rw [z]
      exact ⟨_, he, fun v q => nomatch q⟩
    · rw [List.mem_singleton.mp z]
      exact ⟨o, ho, fun v q => by rw [hd] at q; cases q⟩
  keep := fun _ h h' st k => ⟨k e List.mem_cons_self _ st.1, st.2.1.at fun o q => k it (List.mem_cons_of_mem _ List.mem_cons_self) o q, st.2.2⟩
  item := fun X _ _ _ _ _ _ _ _ _ _ _ _ _ go => False.elim go
  done := by
    intro X hP hw hK hc i pins s σ H E I hf st hg
    subst hP hw hK
    obtain ⟨he, hit, hne⟩ := st
    obtain ⟨its, rv, p, hz⟩ := I.tuple hg
    cases rv
    obtain ⟨f0, f1, f2, f3, f4, f5⟩ := hf it (List.mem_cons_of_mem _ List.mem_cons_self)
    have hai : a ≠ it := fun z => by
      obtain ⟨o, ho, hc1, _⟩ := hit
      obtain ⟨o2, ho2, hc2, _⟩ := p
      rw [z] at ho2
      rw [ho] at ho2
      cases ho2
      rw [hc1] at hc2
      exact absurd (Value.type.inj hc2) (by decide)
    exact wpAny_pyNext_enum_endD (Draws.tuple (A := X.A.in1) (I.ok.hd hc) it a hai #[]) he (St := fun i h => h.IsTupleIter it a i ∧ h.IsTuple a #[]) ⟨hit, p⟩ fun h' eb => ⟨rfl, I.turned (t' := s.toks) (fun b o hb q => eb b o hb q) f0 f1 f3 f4 f5⟩
  self := fun A i s Q E st h => wpAny_pyIter_enum st.1 h
def iEnum0 (K : PySem.W.Frag) (ta : TA) : TI := fun σ H R => ta σ H fun vs H1 => ∃ a, vs = [.ref a] ∧ SqT K H1 a [] ∧ R (It0 K a) H1
theorem pi_enum0 {X : Cx} {e : Expr} {ta : TA} {p pos : Pos} {tg : Expr} (hg : Gl X "enumerate") (hm : X.mg "enumerate" = none) (ha : PA X [e] ta) (hs : starEach [e] X.env = [(false, eval e X.env)] := by rfl) :
    PI X tg (.Call (.Name "enumerate" p) [e] [] pos) (iEnum0 X.K ta) := by
  refine ⟨fun pins s σ H R I h => ?_⟩
  refine Call_ (ld_blt I hg hm boot_enumerate (callWith_type1 (thn (ha.run pos pins s σ H _ I h) fun us s1 ⟨vs, H1, I1, r1, a, ex, hq, q⟩ => ?_) hs rfl))
  subst ex
  obtain ⟨u, rfl, ru⟩ := vals1 r1
  obtain rfl : u = Value.ref a := ru
  obtain ⟨its, rv, p', hz⟩ := I1.tuple hq
  refine enum_callT p' fun h' he hit hk => wpAny_pyIter_enum he ?_
  refine ⟨s1.heap.objs.size + 1, [s1.heap.objs.size + 1, s1.heap.objs.size], _, _, H1, rfl, I1.kept (t' := s1.toks) hk, turn_enum0 a (s1.heap.objs.size + 1) s1.heap.objs.size, ⟨he, hit, Nat.succ_ne_self _⟩, fun b hb => ?_, q⟩
  have hle : s1.heap.objs.size ≤ b := by
    rcases List.mem_cons.mp hb with z | z
    · rw [z]
      exact Nat.le_add_right _ _
    · rw [List.mem_singleton.mp z]
      exact Nat.le_refl _
  exact I1.fpOk hle (I1.hok.fresh hle)
theorem for_it0 {K : PySem.W.Frag} {a : Addr} {g : TG} {tb : L2.TS} {D : Ends} {σ : L2.St} {H : Hp} (ha : SqT K H a []) (h : D.nx σ H) :
    ∃ W : Nat → Nat → L2.St → Hp → Prop, (∃ m, W 0 m σ H) ∧ ∀ i m σ H, W i m σ H →
      ((It0 K a).stop i H ∧ D.nx σ H) ∨ ((It0 K a).go i H ∧ ∃ N : L2.St → Hp → Prop, (∀ σ' H', N σ' H' → ∃ m', m' < m ∧ W (i + 1) m' σ' H') ∧ ∀ x H', (It0 K a).yld i H x H' → g x σ H' fun σ2 H2 => tb { D with nx := N, ct := N, bk := D.nx } σ2 H2) :=
  ⟨fun _ _ σ' H' => σ' = σ ∧ H' = H, ⟨0, rfl, rfl⟩, fun i m σ' H' hW => .inl (by
    obtain ⟨e1, e2⟩ := hW
    rw [e1, e2]
    exact ⟨ha, h⟩)⟩
/-! ### the checks of no figures -/
def spC0 (K : PySem.W.Frag) : Sp := fun vs H Q _ => ∃ (v : V) (b : Addr), vs = [v, .ref b] ∧ SqT K H b [] ∧ Q .non H
def spM0 (K : PySem.W.Frag) : Sp := fun vs H Q _ => ∃ (b : Addr), vs = [.ref b] ∧ SqT K H b [] ∧ Q .non H
section
variable {P : Program} {w : World} {K : PySem.W.Frag} {mg : Str → Option Value} {base : Heap}
theorem ok_cfig0 {f fI : Addr} {fd fdI : FuncData} {k : Nat} (F : Fun K "check_figures" "check_figures" sCFig f fd) (me : mg "enumerate" = none)
    (FI : Fun K "is_figure" "is_figure" sIsFig fI fdI) (bI : Binds K fdI ["colours", "figure"] []) (gI : mg "is_figure" = some (.ref fI)) (GI : FnOk P w K mg base CX0 k fI fdI ["colours", "figure"] (spIsFig K)) : FnOk P w K mg base CX0 (k + 1) f fd ["colours", "figures"] (spC0 K) := by
  refine F.ok scCFig (fun vs H Q E h => ?_) (fun cdv A outer s H vs Q E hr h => ?_)
  · obtain ⟨v, b, rfl, _⟩ := h
    rfl
  · obtain ⟨v, b, rfl, hb, q⟩ := h
    refine ⟨_, pss_one (ps_for PassesOwn.never rfl (pi_enum0 (by rfl) me (pa_cons (pv 1) pa_nil)) (pg_tup rfl (pgs_cons (pg_name (i := 2) scCFig.nd rfl (.inl rfl)) (pgs_cons (pg_name (i := 3) scCFig.nd rfl (.inl rfl)) pgs_nil)))
        (pss_one (ps_if (pt_not (pt_val (pe_call GI hr (by rfl) gI FI.kp bI .nil pass0 (pa_cons (pv 0) (pa_cons (pv 3) pa_nil))))) (pss_one ps_never) pss_nil))), ?_⟩
    exact ⟨.ref b, rfl, b, rfl, hb, for_it0 hb q⟩
theorem ok_cmeet0 {f fH fB : Addr} {fd fdH fdB : FuncData} {k : Nat} (F : Fun K "check_meetings" "check_meetings" sCMeet f fd) (me : mg "enumerate" = none) (mr : mg "range" = none) (ml : mg "len" = none)
    (FH : Fun K "have_common_pad" "have_common_pad" sHcp fH fdH) (bH : Binds K fdH ["one", "other"] []) (gH : mg "have_common_pad" = some (.ref fH)) (GH : FnOk P w K mg base CX0 k fH fdH ["one", "other"] (spMeet2 K))
    (FB : Fun K "bar" "bar" sBar fB fdB) (bB : Binds K fdB ["one", "other"] []) (gB : mg "bar" = some (.ref fB)) (GB : FnOk P w K mg base CX0 k fB fdB ["one", "other"] (spBar K)) : FnOk P w K mg base CX0 (k + 1) f fd ["figures"] (spM0 K) := by
  refine F.ok scCMeet (fun vs H Q E h => ?_) (fun cdv A outer s H vs Q E hr h => ?_)
  · obtain ⟨b, rfl, _⟩ := h
    rfl
  · obtain ⟨b, rfl, hb, q⟩ := h
    refine ⟨_, pss_one (ps_for PassesOwn.never rfl (pi_enum0 (by rfl) me (pa_cons (pv 0) pa_nil)) (pg_tup rfl (pgs_cons (pg_name (i := 1) scCMeet.nd rfl (.inl rfl)) (pgs_cons (pg_name (i := 2) scCMeet.nd rfl (.inl rfl)) pgs_nil)))
        (pss_one (ps_for PassesOwn.never rfl (pi_range2 (by rfl) mr (pa_cons (pe_op op_add (pv 1) pe_int) (pa_cons (pe_callB call_lenQ (by rfl) ml PySem.boot_len (pa_cons (pv 0) pa_nil)) pa_nil))) (pg_name (i := 3) scCMeet.nd rfl (.inl rfl))
          (pss_one (ps_if (PW.pt (pw_and (pt_val (pe_call GH hr (by rfl) gH FH.kp bH .nil pass0 (pa_cons (pv 2) (pa_cons (pe_ix ix_list (pv 0) (pv 3) (fun _ _ => rfl)) pa_nil))))
              (pw_and1 (pt_not (pt_val (pe_call GB hr (by rfl) gB FB.kp bB .nil pass0 (pa_cons (pv 2) (pa_cons (pe_ix ix_list (pv 0) (pv 3) (fun _ _ => rfl)) pa_nil))))))))
            (pss_one ps_never) pss_nil))))), ?_⟩
    exact ⟨.ref b, rfl, b, rfl, hb, for_it0 hb q⟩
end
def spInit0 (K : PySem.W.Frag) (C : Addr) : Sp := fun vs H Q _ => ∃ (p dx a b : Addr) (cs : List Int), vs = [.ref p, .ref a, .ref b] ∧ H p = some (.ins C dx []) ∧ SqL K H a (cs.map V.int) ∧ SqT K H b [] ∧ GoodC cs ∧
  ∀ H', Off p H H' → BookAt K C H' p cs [] → Q .non H'
section
variable {P : Program} {w : World} {K : PySem.W.Frag} {mg : Str → Option Value} {base : Heap}
theorem ok_init0 {f C f1 f2 f3 f4 : Addr} {fd fd1 fd2 fd3 fd4 : FuncData} {k : Nat} {tkF : Tok} {kws : List (Str × V)} (F : FunD K "__init__" "Book.__init__" (defArgs sInit) (defBody sInit) (defScope sInit) [] kws f fd) (T : BkTxt K mg C)
    (ml : mg "len" = none) (mt : mg "tuple" = none) (mF : mg "MOST_FIGURES" = some (.int 12 tkF))
    (F1 : Fun K "check_colours" "check_colours" sCCol f1 fd1) (b1 : Binds K fd1 ["colours"] []) (g1 : mg "check_colours" = some (.ref f1)) (G1 : FnOk P w K mg base CX0 k f1 fd1 ["colours"] (spCCol K))
    (F2 : Fun K "check_figures" "check_figures" sCFig f2 fd2) (b2 : Binds K fd2 ["colours", "figures"] []) (g2 : mg "check_figures" = some (.ref f2)) (G2 : FnOk P w K mg base CX0 k f2 fd2 ["colours", "figures"] (spC0 K))
    (F3 : Fun K "check_meetings" "check_meetings" sCMeet f3 fd3) (b3 : Binds K fd3 ["figures"] []) (g3 : mg "check_meetings" = some (.ref f3)) (G3 : FnOk P w K mg base CX0 k f3 fd3 ["figures"] (spM0 K))
    (F4 : Fun K "copy_of_figure" "copy_of_figure" sCopyF f4 fd4) (b4 : Binds K fd4 ["figure"] []) (g4 : mg "copy_of_figure" = some (.ref f4)) (G4 : FnOk P w K mg base CX0 k f4 fd4 ["figure"] (spCopyF K)) :
    FnOk P w K mg base CX0 (k + 1) f fd ["self", "colours", "figures"] (spInit0 K C) := by
  refine F.ok (CX := CX0) scInit (fun vs H Q E h => ?_) (fun cdv A outer s H vs Q E hr h => ?_)
  · obtain ⟨p, dx, a, b, cs, rfl, _⟩ := h
    rfl
  · obtain ⟨p, dx, a, b, cs, rfl, hp, ha, hb, hC, q⟩ := h
    refine ⟨_, PSs.nox (pss_cons (ps_expr (pe_call G1 hr (by rfl) g1 F1.kp b1 .nil pass0 (pa_cons (pv 1) pa_nil)))
      (pss_cons (ps_if (pt_cmpR op_gt (pe_callB call_lenQ (by rfl) ml PySem.boot_len (pa_cons (pv 2) pa_nil)) (pe_glob (v := .int 12) (by rfl) mF ⟨_, rfl⟩) (nomark _)) (pss_one ps_never) pss_nil)
      (pss_cons (ps_expr (pe_call G2 hr (by rfl) g2 F2.kp b2 .nil pass0 (pa_cons (pv 1) (pa_cons (pv 2) pa_nil))))
      (pss_cons (ps_expr (pe_call G3 hr (by rfl) g3 F3.kp b3 .nil pass0 (pa_cons (pv 2) pa_nil)))
      (pss_cons (ps_fld (pv 0) (pe_callTy call_tupS (by rfl) mt (by decide +kernel) (pa_cons (pv 1) pa_nil)) rfl)
      (pss_one (ps_fld (pv 0) (pe_callTy call_tupS (by rfl) mt (by decide +kernel) (pa_cons (pe_lc (own := [("figure", 3)]) (g := gName 3) (tt := tYes) rfl scInit.nd (pi_tup (pv 2))
        (blkOk_by (own := [("figure", 3)]) (N := nInit) (sc := defScope sInit) (by decide +kernel)) (fun _ _ _ _ _ => pg_name (i := 3) scInit.nd rfl (.inl rfl)) (fun _ _ _ _ _ => pts_nil)
        (fun _ _ _ _ _ => pe_call G4 hr (by rfl) g4 F4.kp b4 .nil pass0 (pa_cons (pv 3) pa_nil))) pa_nil)) rfl))))))), ?_⟩
    refine ⟨.ref a, rfl, a, cs, rfl, ha, hC, fun H1 s1 => ?_⟩
    refine ⟨.ref b, rfl, b, _, rfl, .inr (Same.tup s1 hb), _, 12, rfl, rfl, _, rfl, iteF ?_⟩
    refine ⟨.ref a, rfl, .ref b, rfl, .ref a, b, rfl, Same.tup s1 hb, ?_⟩
    refine ⟨.ref b, rfl, b, rfl, Same.tup s1 hb, ?_⟩
    refine ⟨.ref a, rfl, a, _, rfl, .inl (s1.seq ha), fun a2 H4 s4 ha2 => ?_⟩
    have s14 := s1.trans s4
    have hp4 := s14 _ _ hp
    refine ⟨.ref p, rfl, p, C, dx, [], rfl, hp4, T.cl, T.nP, (show 0 < 1000 by decide), ?_⟩
    have off5 : Off p H4 (upd H4 p (.ins C dx (putF "palette" (.ref a2) []))) := Off.upd
    have hp5 : (upd H4 p (.ins C dx (putF "palette" (.ref a2) []))) p = some (.ins C dx [("palette", .ref a2)]) := upd_same
    have ts5 : TS K H (upd H4 p (.ins C dx (putF "palette" (.ref a2) []))) := (TS.of s14).trans (TS.ins off5 hp4)
    have ha5 : SqT K (upd H4 p (.ins C dx (putF "palette" (.ref a2) []))) a2 (cs.map V.int) := TS.ins off5 hp4 _ _ ha2
    have off15 : Off p H (upd H4 p (.ins C dx (putF "palette" (.ref a2) []))) := (Off.same s14).trans off5
    generalize upd H4 p (.ins C dx (putF "palette" (.ref a2) [])) = H5 at off5 hp5 ts5 ha5 off15 ⊢
    refine ⟨.ref b, rfl, b, rfl, ⟨_, ts5 _ _ hb⟩, fun D nD => ?_⟩
    refine lc_tup (K := K) (a := b) (xs := []) (fun i H' => Same H5 H' ∧ H' D = some (.lst [])) ⟨same_upd nD, upd_same⟩ (fun i H' _ hP => Same.tup hP.1 (ts5 _ _ hb)) (fun i x H' hx hP => by cases hx) (fun H6 hP => ?_)
    obtain ⟨sm, hD⟩ := hP
    refine ⟨D, _, rfl, .inl (SqL.of hD), fun l H7 s7 hl => ?_⟩
    have s57 := sm.trans s7
    have hp7 := s57 _ _ hp5
    refine ⟨.ref p, rfl, p, C, dx, _, rfl, hp7, T.cl, T.nS, (show 1 < 1000 by decide), ?_⟩
    have off8 : Off p H7 (upd H7 p (.ins C dx (putF "shapes" (.ref l) [("palette", .ref a2)]))) := Off.upd
    exact q _ ((off15.trans (Off.same s57)).trans off8) ⟨dx, a2, l, [], upd_same, TS.ins off8 hp7 _ _ (Same.tup s57 ha5), TS.ins off8 hp7 _ _ hl, True.intro⟩
end
/-! ### the law -/
abbrev sLaw : Stmt := topS 40
abbrev nLaw : List Str := ["_law_script", "_law_bag_here", "_law_colours", "_law_shapes_here", "_law_book", "_law_again", "_law_told"]
theorem scLaw : FnScope nLaw ["_law_script"] (defScope sLaw) := ⟨rfl, rfl, rfl, by decide +kernel, rfl, by decide +kernel, by decide +kernel⟩
def spLaw (K : PySem.W.Frag) : Sp := fun vs H Q _ => ∃ (a : Addr) (ns : List Int), vs = [.ref a] ∧ SqL K H a (ns.map V.int) ∧ ns.length ≤ 63 ∧ ∀ H', Q (.bl true) H'
theorem lk_int {K : PySem.W.Frag} {H : Hp} {n : Nat} (i : Int) : Lk K H (n + 1) (.int i) (.int i) := .inl ⟨rfl, .inr (.inr (.inl ⟨i, rfl⟩))⟩
theorem lk_ints {K : PySem.W.Frag} {H : Hp} {n : Nat} {a b : Addr} {c : List Int} (h1 : SqT K H a (c.map V.int)) (h2 : SqT K H b (c.map V.int)) (hl : c.length ≤ 1000) : Lk K H (n + 2) (.ref a) (.ref b) :=
  .inr ⟨a, b, _, _, rfl, rfl, .inr ⟨h1, h2⟩, rfl, by rw [List.length_map]; exact hl, fun i x y hx hy => by
    rw [hx] at hy
    obtain rfl := Option.some.inj hy
    rw [List.getElem?_map] at hx
    cases hz : c[i]? with
    | none => rw [hz] at hx; cases hx
    | some z =>
      rw [hz] at hx
      obtain rfl := Option.some.inj hx
      exact lk_int z⟩
theorem lk_tups {K : PySem.W.Frag} {H : Hp} {n : Nat} {a b : Addr} {xs ys : List V} {ds : List (List Int)} (h1 : SqL K H a xs) (h2 : SqL K H b ys) (a1 : All2 (TupI K H) xs ds) (a2 : All2 (TupI K H) ys ds) (hl : ds.length ≤ 1000) (hd : ∀ d ∈ ds, d.length ≤ 1000) : Lk K H (n + 3) (.ref a) (.ref b) := by
  refine .inr ⟨a, b, xs, ys, rfl, rfl, .inl ⟨h1, h2⟩, a1.len.trans a2.len.symm, by rw [a1.len]; exact hl, fun i x y hx hy => ?_⟩
  obtain ⟨c, hc, t, rfl, ht⟩ := a1.get hx
  obtain ⟨c2, hc2, t2, rfl, ht2⟩ := a2.get hy
  rw [hc] at hc2
  obtain rfl := Option.some.inj hc2
  exact lk_ints ht ht2 (hd c (List.mem_of_getElem? hc))
section
variable {P : Program} {w : World} {K : PySem.W.Frag} {mg : Str → Option Value} {base : Heap}
theorem ok_law {f C fB fH fS fI fA fL fK tD : Addr} {fd fdB fdH fdS fdI fdA fdL fdK : FuncData} {gI : List Value → List Value → List Value} {dsI : List Value} (F : Fun K "law" "law" sLaw f fd) (T : BkTxt K mg C) (M : Mk K C fI)
    (FB : Fun K "_law_bag" "_law_bag" sBag fB fdB) (bB : Binds K fdB ["_law_script"] []) (gB : mg "_law_bag" = some (.ref fB)) (GB : FnOk P w K mg base CX0 5 fB fdB ["_law_script"] (spBag K))
    (FH : Fun K "_law_hues" "_law_hues" sHues fH fdH) (bH : Binds K fdH ["_law_bag_here", "_law_most"] []) (gH : mg "_law_hues" = some (.ref fH)) (GH : FnOk P w K mg base CX0 5 fH fdH ["_law_bag_here", "_law_most"] spHues)
    (FS : Fun K "_law_shapes" "_law_shapes" sShapes fS fdS) (bS : Binds K fdS ["_law_bag_here", "_law_colours", "_law_most"] []) (gS : mg "_law_shapes" = some (.ref fS)) (GS : FnOk P w K mg base CX0 5 fS fdS ["_law_bag_here", "_law_colours", "_law_most"] (spShapes K))
    (kI : KBn K fdI ["self", "colours", "figures"] 2 ["figures"] gI (fun vs zs => vs ++ zs)) (GI : FnOk P w K mg base CX0 4 fI fdI ["self", "colours", "figures"] (spInit K C))
    (bI : Binds K fdI ["self", "colours", "figures"] dsI) (vI : Vals [.ref tD] dsI) (GI0 : FnOk P w K mg base CX0 4 fI fdI ["self", "colours", "figures"] (spInit0 K C)) (tT : ∀ H, SqT K H tD [])
    (FA : Fun K "apart_sets" "Book.apart_sets" sApS fA fdA) (bA : Binds K fdA ["self"] []) (mA : Meth K C "apart_sets" fA) (GA : FnOk P w K mg base CX0 5 fA fdA ["self"] (spApS K C))
    (FL : Fun K "_law_all_apart" "_law_all_apart" sAll fL fdL) (bL : Binds K fdL ["_law_shapes_here"] []) (gL : mg "_law_all_apart" = some (.ref fL)) (GL : FnOk P w K mg base CX0 5 fL fdL ["_law_shapes_here"] (spAll K))
    (FK : Fun K "_law_like" "_law_like" sLike fK fdK) (bK : Binds K fdK ["_law_one", "_law_due"] []) (gK : mg "_law_like" = some (.ref fK)) (GK : FnOk P w K mg base CX0 5 fK fdK ["_law_one", "_law_due"] (spLike K 5))
    (mr : mg "range" = none) : FnOk P w K mg base CX0 6 f fd ["_law_script"] (spLaw K) := by
  refine F.ok scLaw (fun vs H Q E h => ?_) (fun cdv A outer s H vs Q E hr h => ?_)
  · obtain ⟨a, ns, rfl, _⟩ := h
    rfl
  · obtain ⟨a, ns, rfl, hS, hlen, q⟩ := h
    refine ⟨_, pss_cons (ps_set (i := 1) scLaw.nd rfl (.inl rfl) (pe_call GB hr (by rfl) gB FB.kp bB .nil pass0 (pa_cons (pv 0) pa_nil)))
      (pss_cons (ps_set (i := 2) scLaw.nd rfl (.inl rfl) (pe_call GH hr (by rfl) gH FH.kp bH .nil pass0 (pa_cons (pv 1) (pa_cons pe_int pa_nil))))
      (pss_cons (ps_set (i := 3) scLaw.nd rfl (.inl rfl) (pe_call GS hr (by rfl) gS FS.kp bS .nil pass0 (pa_cons (pv 1) (pa_cons (pv 2) (pa_cons pe_int pa_nil)))))
      (pss_cons (ps_set (i := 4) scLaw.nd rfl (.inl rfl) (pe_makeK (n := 1) M GI hr (by rfl) T.mgC kI pass0 (pa_cons (pv 2) pa_nil) (pk_cons (pv 3) pk_nil)))
      (pss_cons (ps_for PassesOwn.never rfl (pi_range1 (by rfl) mr (pa_cons pe_int pa_nil)) (pg_name (i := 5) scLaw.nd rfl (.inl rfl))
        (pss_cons (ps_set (i := 6) scLaw.nd rfl (.inl rfl) (pe_meth0 (pv 4) T.cl mA GA hr bA .nil pass0))
        (pss_cons (ps_if (pt_not (pt_val (pe_call GK hr (by rfl) gK FK.kp bK .nil pass0 (pa_cons (pv 6) (pa_cons (pe_call GL hr (by rfl) gL FL.kp bL .nil pass0 (pa_cons (pv 3) pa_nil)) pa_nil))))) (pss_one (ps_ret pe_bl)) pss_nil)
        (pss_one (ps_expr (pe_bm0 PySem.F.plainAttrs_list PySem.F.slot_list_clear PySem.F.type_list_clear mt_clear (pv 6)))))))
      (pss_one (ps_ret (pe_call GK hr (by rfl) gK FK.kp bK .nil pass0 (pa_cons (pe_meth0 (pe_make M GI0 hr (by rfl) T.mgC bI vI pass0 (pa_cons (pe_lst (pa_cons pe_int pa_nil)) pa_nil)) T.cl mA GA hr bA .nil pass0)
        (pa_cons (pe_lst (pa_cons (pe_tup pa_nil) pa_nil)) pa_nil))))))))), ?_⟩
    refine ⟨.ref a, rfl, a, ns, rfl, hS, hlen, fun H1 b c s1 hB _ => ?_⟩
    refine ⟨.ref b, rfl, b, c, 6, rfl, hB, by decide, by decide, fun H2 p cs off2 hB2 _ hpb hp hc1 hc6 hcs => ?_⟩
    refine ⟨.ref b, rfl, .ref p, rfl, b, c, p, cs, 7, rfl, hB2, hp, hpb, hc1, hc6, hcs, by decide, fun H3 d xs fs off3 hB3 _ hdb hd hA hG hfl _ => ?_⟩
    have hp3 := off3 _ _ hpb hp
    have hfl100 : ∀ f ∈ fs, f.length ≤ 100 := fun f hf => by
      have := (hG.all f hf).len
      omega
    refine ⟨.ref p, rfl, .ref d, rfl, rfl, rfl, fun x dx nx ndx nxd => ?_⟩
    have u1 := same_upd (o := .own x) ndx
    have nx1 : (upd H3 dx (.own x)) x = none := by
      rw [upd_ne nxd.symm]
      exact nx
    have u2 := same_upd (o := .ins C dx []) nx1
    have u12 := u1.trans u2
    refine ⟨x, dx, p, d, cs, xs, fs, rfl, upd_same, u12.seq (SqL.of hp3), u12.seq (SqL.of hd), hA.mono fun _ _ => FigT.ts (TS.of u12), ⟨hc1, hc6, hcs⟩, hG, by omega, fun H4 off4 hBk => ⟨rfl, ?_⟩⟩
    have s34 : Same H3 H4 := fun q o e => off4 q o (ne_of_none e nx) (u12 q o e)
    have hd4 := s34 _ _ hd
    have hA4 := hA.mono fun _ _ => FigT.ts (TS.of (K := K) s34)
    refine ⟨2, rfl, by decide, by decide, for_range (lo := 0) (n := 2) (fun i σ H' => ∃ (y0 y1 y2 y5 y6 : Option V), σ = [y0, y1, y2, some (.ref d), some (.ref x), y5, y6] ∧ Same H4 H') ⟨_, _, _, _, _, rfl, Same.refl _⟩ ?_ ?_⟩
    · rintro i σ H' hi ⟨y0, y1, y2, y5, y6, rfl, sm⟩
      obtain ⟨dx', a', b', xs', hx', _⟩ := id (hBk.same sm)
      refine ⟨.ref x, rfl, x, dx', _, rfl, hx', rfl, x, cs, fs, rfl, hBk.same sm, by omega, hfl100, fun H5 t ys ds s5 nt ht hy hpm hst => ?_⟩
      have s45 := sm.trans s5
      refine ⟨.ref t, rfl, .ref d, rfl, d, xs, fs, rfl, SqL.of (s45 _ _ hd4), hA4.mono fun _ _ => FigT.ts (TS.of s45), hfl, hfl100, fun H6 t2 ys2 ds2 s6 ht2 hy2 hpm2 hst2 => ?_⟩
      have eds : ds = ds2 := lex_uniq (hpm.trans (((found_perm hfl).map nI).trans hpm2.symm)) hst hst2
      subst eds
      have hfl2 := foundF_len fs 128
      have hdl : ds.length ≤ 1000 := by
        rw [hpm2.length_eq, List.length_map]
        omega
      have hdd : ∀ e ∈ ds, e.length ≤ 1000 := fun e he => by
        obtain ⟨s0, hs0, rfl⟩ := List.mem_map.mp (hpm2.mem_iff.mp he)
        obtain ⟨⟨j, _, ej⟩, _⟩ := (foundF_mem fs 128 s0).mp hs0
        have := bits_len fs.length j
        rw [nI_len, ← ej]
        omega
      refine ⟨.ref t, .ref t2, rfl, lk_tups (SqL.of (s6 _ _ ht)) (SqL.of ht2) (hy.mono fun _ _ => TupI.ts (TS.of s6)) hy2 hdl hdd, fun H7 s7 => ⟨_, rfl, iteF ?_⟩⟩
      have ht7 := s7 _ _ (s6 _ _ ht)
      refine ⟨.ref t, rfl, .inl ⟨rfl, _, SqL.of ht7⟩, t, _, rfl, rfl, ht7, ?_⟩
      exact ⟨_, _, _, _, _, rfl, Same.offUpd ((s45.trans s6).trans s7) (sm.free nt)⟩
    · rintro σ H' ⟨y0, y1, y2, y5, y6, rfl, sm⟩
      refine ⟨(show (1 : Nat) ≤ sizeLine by decide), fun l nl => fun x2 dx2 nx2 ndx2 nxd2 => ?_⟩
      have v0 := same_upd (o := .lst [V.int 2]) nl
      have v1 := same_upd (o := .own x2) ndx2
      have nx21 : (upd (upd H' l (.lst [V.int 2])) dx2 (.own x2)) x2 = none := by
        rw [upd_ne nxd2.symm]
        exact nx2
      have v2 := same_upd (o := .ins C dx2 []) nx21
      refine ⟨x2, dx2, l, tD, [2], rfl, upd_same, SqL.of (v2 _ _ (v1 _ _ upd_same)), tT _, ⟨by decide, by decide, fun y hy => by rw [List.mem_singleton.mp hy]; decide⟩, fun H5 off5 hBk5 => ⟨rfl, ?_⟩⟩
      obtain ⟨dx', a', b', xs', hx', _⟩ := id hBk5
      refine ⟨x2, dx', _, rfl, hx', rfl, x2, [2], [], rfl, hBk5, by decide, fun f hf => (by cases hf), fun H6 t ys ds s6 nt ht hy hpm hst => ?_⟩
      have eds : ds = [[]] := List.perm_singleton.mp hpm
      subst eds
      refine ⟨Nat.zero_le _, fun e1 n1 => ⟨(show (1 : Nat) ≤ sizeLine by decide), fun e2 n2 => ?_⟩⟩
      have w1 := same_upd (o := .tup []) n1
      have w2 := same_upd (o := .lst [.ref e1]) n2
      have w12 := w1.trans w2
      refine ⟨.ref t, .ref e2, rfl, lk_tups (SqL.of (w12 _ _ ht)) (SqL.of upd_same) (hy.mono fun _ _ => TupI.ts (TS.of w12)) ⟨⟨e1, rfl, SqT.of (w2 _ _ upd_same)⟩, True.intro⟩ (by decide) (fun d hd => by rw [List.mem_singleton.mp hd]; decide), fun H7 _ => q _⟩
end
/-! ### what the top has written; the end -/
theorem all_mk {l : PySem.W.OpenLaw} {w : World} {K : PySem.W.Frag} {h : Heap} {mg : Str → Option Value} {fa C : Addr} (X : K.In h) (G : h.Ns mainGlobals mg) (hfa : mg "law" = some (.ref fa))
    (aC : PySem.W.nsIn K mainGlobals "Book" = some (some (.ref C)))
    {kwD tD : Addr} {ddT : Option Addr} {nT : Nat} {slT : Array (Option Value)}
    {fIn : Addr} {odIn anIn : Option Addr} {slIn : Array (Option Value)} {ocIn dcIn pmIn cdIn ctIn : Value}
    (aIn : PySem.W.findIn K (.ref C) "__init__" = some (some (.ref fIn))) (lIn : K.lookup fIn = some ⟨ocIn, odIn, .func (PySem.W.fnOf "__init__" "Book.__init__" (defArgs sInit) (defBody sInit) (defScope sInit) .none (.ref kwD) dcIn pmIn anIn cdIn ctIn), slIn⟩) (cIn : PySem.W.codeIn K cdIn "Book.__init__" = true) (kIn : PySem.W.keepIn K (.ref fIn) = true)
    (iIn : PySem.W.isFn K (.ref fIn) = true) (kw : PySem.W.nsIn K kwD "figures" = some (some (.ref tD))) (kt : K.lookup tD = some ⟨.type "tuple", ddT, .seq #[] nT, slT⟩)
    {fms : Addr} {odms anms : Option Addr} {slms : Array (Option Value)} {ocms kVms dcms pmms cdms ctms : Value}
    (ams : PySem.W.findIn K (.ref C) "shape" = some (some (.ref fms))) (lms : K.lookup fms = some ⟨ocms, odms, .func (PySem.W.fnOf "shape" "Book.shape" (defArgs sShp) (defBody sShp) (defScope sShp) .none kVms dcms pmms anms cdms ctms), slms⟩) (cms : PySem.W.codeIn K cdms "Book.shape" = true) (kms : PySem.W.keepIn K (.ref fms) = true)
    (ims : PySem.W.isFn K (.ref fms) = true)
    {fmm : Addr} {odmm anmm : Option Addr} {slmm : Array (Option Value)} {ocmm kVmm dcmm pmmm cdmm ctmm : Value}
    (amm : PySem.W.findIn K (.ref C) "meet" = some (some (.ref fmm))) (lmm : K.lookup fmm = some ⟨ocmm, odmm, .func (PySem.W.fnOf "meet" "Book.meet" (defArgs sMeetM) (defBody sMeetM) (defScope sMeetM) .none kVmm dcmm pmmm anmm cdmm ctmm), slmm⟩) (cmm : PySem.W.codeIn K cdmm "Book.meet" = true) (kmm : PySem.W.keepIn K (.ref fmm) = true)
    (imm : PySem.W.isFn K (.ref fmm) = true)
    {fma : Addr} {odma anma : Option Addr} {slma : Array (Option Value)} {ocma kVma dcma pmma cdma ctma : Value}
    (ama : PySem.W.findIn K (.ref C) "apart_sets" = some (some (.ref fma))) (lma : K.lookup fma = some ⟨ocma, odma, .func (PySem.W.fnOf "apart_sets" "Book.apart_sets" (defArgs sApS) (defBody sApS) (defScope sApS) .none kVma dcma pmma anma cdma ctma), slma⟩) (cma : PySem.W.codeIn K cdma "Book.apart_sets" = true) (kma : PySem.W.keepIn K (.ref fma) = true)
    (ima : PySem.W.isFn K (.ref fma) = true)
    {fmp : Addr} {odmp anmp : Option Addr} {slmp : Array (Option Value)} {ocmp kVmp dcmp pmmp cdmp ctmp : Value}
    (amp : PySem.W.findIn K (.ref C) "is_apart" = some (some (.ref fmp))) (lmp : K.lookup fmp = some ⟨ocmp, odmp, .func (PySem.W.fnOf "is_apart" "Book.is_apart" (defArgs sApart) (defBody sApart) (defScope sApart) .none kVmp dcmp pmmp anmp cdmp ctmp), slmp⟩) (cmp : PySem.W.codeIn K cdmp "Book.is_apart" = true) (kmp : PySem.W.keepIn K (.ref fmp) = true)
    (imp : PySem.W.isFn K (.ref fmp) = true)
    {fcc : Addr} {odcc ancc : Option Addr} {slcc : Array (Option Value)} {occc kVcc dccc pmcc cdcc ctcc : Value}
    (acc : PySem.W.nsIn K mainGlobals "check_colours" = some (some (.ref fcc))) (lcc : K.lookup fcc = some ⟨occc, odcc, .func (PySem.W.fnOf "check_colours" "check_colours" (defArgs sCCol) (defBody sCCol) (defScope sCCol) .none kVcc dccc pmcc ancc cdcc ctcc), slcc⟩) (ccc : PySem.W.codeIn K cdcc "check_colours" = true) (kcc : PySem.W.keepIn K (.ref fcc) = true)
    {fcf : Addr} {odcf ancf : Option Addr} {slcf : Array (Option Value)} {occf kVcf dccf pmcf cdcf ctcf : Value}
    (acf : PySem.W.nsIn K mainGlobals "check_figures" = some (some (.ref fcf))) (lcf : K.lookup fcf = some ⟨occf, odcf, .func (PySem.W.fnOf "check_figures" "check_figures" (defArgs sCFig) (defBody sCFig) (defScope sCFig) .none kVcf dccf pmcf ancf cdcf ctcf), slcf⟩) (ccf : PySem.W.codeIn K cdcf "check_figures" = true) (kcf : PySem.W.keepIn K (.ref fcf) = true)
    {ffi : Addr} {odfi anfi : Option Addr} {slfi : Array (Option Value)} {ocfi kVfi dcfi pmfi cdfi ctfi : Value}
    (afi : PySem.W.nsIn K mainGlobals "is_figure" = some (some (.ref ffi))) (lfi : K.lookup ffi = some ⟨ocfi, odfi, .func (PySem.W.fnOf "is_figure" "is_figure" (defArgs sIsFig) (defBody sIsFig) (defScope sIsFig) .none kVfi dcfi pmfi anfi cdfi ctfi), slfi⟩) (cfi : PySem.W.codeIn K cdfi "is_figure" = true) (kfi : PySem.W.keepIn K (.ref ffi) = true)
    {fti : Addr} {odti anti : Option Addr} {slti : Array (Option Value)} {octi kVti dcti pmti cdti ctti : Value}
    (ati : PySem.W.nsIn K mainGlobals "is_triple" = some (some (.ref fti))) (lti : K.lookup fti = some ⟨octi, odti, .func (PySem.W.fnOf "is_triple" "is_triple" (defArgs sIsTri) (defBody sIsTri) (defScope sIsTri) .none kVti dcti pmti anti cdti ctti), slti⟩) (cti : PySem.W.codeIn K cdti "is_triple" = true) (kti : PySem.W.keepIn K (.ref fti) = true)
    {fcm : Addr} {odcm ancm : Option Addr} {slcm : Array (Option Value)} {occm kVcm dccm pmcm cdcm ctcm : Value}
    (acm : PySem.W.nsIn K mainGlobals "check_meetings" = some (some (.ref fcm))) (lcm : K.lookup fcm = some ⟨occm, odcm, .func (PySem.W.fnOf "check_meetings" "check_meetings" (defArgs sCMeet) (defBody sCMeet) (defScope sCMeet) .none kVcm dccm pmcm ancm cdcm ctcm), slcm⟩) (ccm : PySem.W.codeIn K cdcm "check_meetings" = true) (kcm : PySem.W.keepIn K (.ref fcm) = true)
    {fcy : Addr} {odcy ancy : Option Addr} {slcy : Array (Option Value)} {occy kVcy dccy pmcy cdcy ctcy : Value}
    (acy : PySem.W.nsIn K mainGlobals "copy_of_figure" = some (some (.ref fcy))) (lcy : K.lookup fcy = some ⟨occy, odcy, .func (PySem.W.fnOf "copy_of_figure" "copy_of_figure" (defArgs sCopyF) (defBody sCopyF) (defScope sCopyF) .none kVcy dccy pmcy ancy cdcy ctcy), slcy⟩) (ccy : PySem.W.codeIn K cdcy "copy_of_figure" = true) (kcy : PySem.W.keepIn K (.ref fcy) = true)
    {fpo_ : Addr} {odpo_ anpo_ : Option Addr} {slpo_ : Array (Option Value)} {ocpo_ kVpo_ dcpo_ pmpo_ cdpo_ ctpo_ : Value}
    (apo_ : PySem.W.nsIn K mainGlobals "pads_of" = some (some (.ref fpo_))) (lpo_ : K.lookup fpo_ = some ⟨ocpo_, odpo_, .func (PySem.W.fnOf "pads_of" "pads_of" (defArgs sPadsOf) (defBody sPadsOf) (defScope sPadsOf) .none kVpo_ dcpo_ pmpo_ anpo_ cdpo_ ctpo_), slpo_⟩) (cpo_ : PySem.W.codeIn K cdpo_ "pads_of" = true) (kpo_ : PySem.W.keepIn K (.ref fpo_) = true)
    {fsh : Addr} {odsh ansh : Option Addr} {slsh : Array (Option Value)} {ocsh kVsh dcsh pmsh cdsh ctsh : Value}
    (ash : PySem.W.nsIn K mainGlobals "share" = some (some (.ref fsh))) (lsh : K.lookup fsh = some ⟨ocsh, odsh, .func (PySem.W.fnOf "share" "share" (defArgs sShare) (defBody sShare) (defScope sShare) .none kVsh dcsh pmsh ansh cdsh ctsh), slsh⟩) (csh : PySem.W.codeIn K cdsh "share" = true) (ksh : PySem.W.keepIn K (.ref fsh) = true)
    {fhc : Addr} {odhc anhc : Option Addr} {slhc : Array (Option Value)} {ochc kVhc dchc pmhc cdhc cthc : Value}
    (ahc : PySem.W.nsIn K mainGlobals "have_common_pad" = some (some (.ref fhc))) (lhc : K.lookup fhc = some ⟨ochc, odhc, .func (PySem.W.fnOf "have_common_pad" "have_common_pad" (defArgs sHcp) (defBody sHcp) (defScope sHcp) .none kVhc dchc pmhc anhc cdhc cthc), slhc⟩) (chc : PySem.W.codeIn K cdhc "have_common_pad" = true) (khc : PySem.W.keepIn K (.ref fhc) = true)
    {fba : Addr} {odba anba : Option Addr} {slba : Array (Option Value)} {ocba kVba dcba pmba cdba ctba : Value}
    (aba : PySem.W.nsIn K mainGlobals "bar" = some (some (.ref fba))) (lba : K.lookup fba = some ⟨ocba, odba, .func (PySem.W.fnOf "bar" "bar" (defArgs sBar) (defBody sBar) (defScope sBar) .none kVba dcba pmba anba cdba ctba), slba⟩) (cba : PySem.W.codeIn K cdba "bar" = true) (kba : PySem.W.keepIn K (.ref fba) = true)
    {fB : Addr} {odB anB : Option Addr} {slB : Array (Option Value)} {ocB kVB dcB pmB cdB ctB : Value}
    (aB : PySem.W.nsIn K mainGlobals "_law_bag" = some (some (.ref fB))) (lB : K.lookup fB = some ⟨ocB, odB, .func (PySem.W.fnOf "_law_bag" "_law_bag" (defArgs sBag) (defBody sBag) (defScope sBag) .none kVB dcB pmB anB cdB ctB), slB⟩) (cB : PySem.W.codeIn K cdB "_law_bag" = true) (kB : PySem.W.keepIn K (.ref fB) = true)
    {fP : Addr} {odP anP : Option Addr} {slP : Array (Option Value)} {ocP kVP dcP pmP cdP ctP : Value}
    (aP : PySem.W.nsIn K mainGlobals "_law_pull" = some (some (.ref fP))) (lP : K.lookup fP = some ⟨ocP, odP, .func (PySem.W.fnOf "_law_pull" "_law_pull" (defArgs sPull) (defBody sPull) (defScope sPull) .none kVP dcP pmP anP cdP ctP), slP⟩) (cP : PySem.W.codeIn K cdP "_law_pull" = true) (kP : PySem.W.keepIn K (.ref fP) = true)
    {fO : Addr} {odO anO : Option Addr} {slO : Array (Option Value)} {ocO kVO dcO pmO cdO ctO : Value}
    (aO : PySem.W.nsIn K mainGlobals "_law_of" = some (some (.ref fO))) (lO : K.lookup fO = some ⟨ocO, odO, .func (PySem.W.fnOf "_law_of" "_law_of" (defArgs sOf) (defBody sOf) (defScope sOf) .none kVO dcO pmO anO cdO ctO), slO⟩) (cO : PySem.W.codeIn K cdO "_law_of" = true) (kO : PySem.W.keepIn K (.ref fO) = true)
    {fHu : Addr} {odHu anHu : Option Addr} {slHu : Array (Option Value)} {ocHu kVHu dcHu pmHu cdHu ctHu : Value}
    (aHu : PySem.W.nsIn K mainGlobals "_law_hues" = some (some (.ref fHu))) (lHu : K.lookup fHu = some ⟨ocHu, odHu, .func (PySem.W.fnOf "_law_hues" "_law_hues" (defArgs sHues) (defBody sHues) (defScope sHues) .none kVHu dcHu pmHu anHu cdHu ctHu), slHu⟩) (cHu : PySem.W.codeIn K cdHu "_law_hues" = true) (kHu : PySem.W.keepIn K (.ref fHu) = true)
    {fSp : Addr} {odSp anSp : Option Addr} {slSp : Array (Option Value)} {ocSp kVSp dcSp pmSp cdSp ctSp : Value}
    (aSp : PySem.W.nsIn K mainGlobals "_law_shape" = some (some (.ref fSp))) (lSp : K.lookup fSp = some ⟨ocSp, odSp, .func (PySem.W.fnOf "_law_shape" "_law_shape" (defArgs sShape) (defBody sShape) (defScope sShape) .none kVSp dcSp pmSp anSp cdSp ctSp), slSp⟩) (cSp : PySem.W.codeIn K cdSp "_law_shape" = true) (kSp : PySem.W.keepIn K (.ref fSp) = true)
    {fBa : Addr} {odBa anBa : Option Addr} {slBa : Array (Option Value)} {ocBa kVBa dcBa pmBa cdBa ctBa : Value}
    (aBa : PySem.W.nsIn K mainGlobals "_law_bars" = some (some (.ref fBa))) (lBa : K.lookup fBa = some ⟨ocBa, odBa, .func (PySem.W.fnOf "_law_bars" "_law_bars" (defArgs sBars) (defBody sBars) (defScope sBars) .none kVBa dcBa pmBa anBa cdBa ctBa), slBa⟩) (cBa : PySem.W.codeIn K cdBa "_law_bars" = true) (kBa : PySem.W.keepIn K (.ref fBa) = true)
    {fSs : Addr} {odSs anSs : Option Addr} {slSs : Array (Option Value)} {ocSs kVSs dcSs pmSs cdSs ctSs : Value}
    (aSs : PySem.W.nsIn K mainGlobals "_law_shapes" = some (some (.ref fSs))) (lSs : K.lookup fSs = some ⟨ocSs, odSs, .func (PySem.W.fnOf "_law_shapes" "_law_shapes" (defArgs sShapes) (defBody sShapes) (defScope sShapes) .none kVSs dcSs pmSs anSs cdSs ctSs), slSs⟩) (cSs : PySem.W.codeIn K cdSs "_law_shapes" = true) (kSs : PySem.W.keepIn K (.ref fSs) = true)
    {fK : Addr} {odK anK : Option Addr} {slK : Array (Option Value)} {ocK kVK dcK pmK cdK ctK : Value}
    (aK : PySem.W.nsIn K mainGlobals "_law_like" = some (some (.ref fK))) (lK : K.lookup fK = some ⟨ocK, odK, .func (PySem.W.fnOf "_law_like" "_law_like" (defArgs sLike) (defBody sLike) (defScope sLike) .none kVK dcK pmK anK cdK ctK), slK⟩) (cK : PySem.W.codeIn K cdK "_law_like" = true) (kK : PySem.W.keepIn K (.ref fK) = true)
    {fPd : Addr} {odPd anPd : Option Addr} {slPd : Array (Option Value)} {ocPd kVPd dcPd pmPd cdPd ctPd : Value}
    (aPd : PySem.W.nsIn K mainGlobals "_law_pads" = some (some (.ref fPd))) (lPd : K.lookup fPd = some ⟨ocPd, odPd, .func (PySem.W.fnOf "_law_pads" "_law_pads" (defArgs sLPads) (defBody sLPads) (defScope sLPads) .none kVPd dcPd pmPd anPd cdPd ctPd), slPd⟩) (cPd : PySem.W.codeIn K cdPd "_law_pads" = true) (kPd : PySem.W.keepIn K (.ref fPd) = true)
    {fMe : Addr} {odMe anMe : Option Addr} {slMe : Array (Option Value)} {ocMe kVMe dcMe pmMe cdMe ctMe : Value}
    (aMe : PySem.W.nsIn K mainGlobals "_law_meet" = some (some (.ref fMe))) (lMe : K.lookup fMe = some ⟨ocMe, odMe, .func (PySem.W.fnOf "_law_meet" "_law_meet" (defArgs sLMeet) (defBody sLMeet) (defScope sLMeet) .none kVMe dcMe pmMe anMe cdMe ctMe), slMe⟩) (cMe : PySem.W.codeIn K cdMe "_law_meet" = true) (kMe : PySem.W.keepIn K (.ref fMe) = true)
    {fAl : Addr} {odAl anAl : Option Addr} {slAl : Array (Option Value)} {ocAl kVAl dcAl pmAl cdAl ctAl : Value}
    (aAl : PySem.W.nsIn K mainGlobals "_law_all_apart" = some (some (.ref fAl))) (lAl : K.lookup fAl = some ⟨ocAl, odAl, .func (PySem.W.fnOf "_law_all_apart" "_law_all_apart" (defArgs sAll) (defBody sAll) (defScope sAll) .none kVAl dcAl pmAl anAl cdAl ctAl), slAl⟩) (cAl : PySem.W.codeIn K cdAl "_law_all_apart" = true) (kAl : PySem.W.keepIn K (.ref fAl) = true)
    {fW : Addr} {odW anW : Option Addr} {slW : Array (Option Value)} {ocW kVW dcW pmW cdW ctW : Value}
    (aW : PySem.W.nsIn K mainGlobals "law" = some (some (.ref fW))) (lW : K.lookup fW = some ⟨ocW, odW, .func (PySem.W.fnOf "law" "law" (defArgs sLaw) (defBody sLaw) (defScope sLaw) .none kVW dcW pmW anW cdW ctW), slW⟩) (cW : PySem.W.codeIn K cdW "law" = true) (kW : PySem.W.keepIn K (.ref fW) = true)
    (pg : PySem.W.plainGet K C Str.empty = true) (hd : PySem.W.hasDictIn K C = true) (po : PySem.W.plainOver K C = true) (sa : PySem.W.findIn K (.ref C) "__setattr__" = some (some (.builtin "object.__setattr__"))) (mk : PySem.W.makesIn K C = true) (kc : PySem.W.keepIn K (.ref C) = true)
    (n_palette : PySem.W.findIn K (.ref C) "palette" = some none)
    (n_shapes : PySem.W.findIn K (.ref C) "shapes" = some none)
    (z_len : PySem.W.nsIn K mainGlobals "len" = some none)
    (z_list : PySem.W.nsIn K mainGlobals "list" = some none)
    (z_tuple : PySem.W.nsIn K mainGlobals "tuple" = some none)
    (z_range : PySem.W.nsIn K mainGlobals "range" = some none)
    (z_isinstance : PySem.W.nsIn K mainGlobals "isinstance" = some none)
    (z_all : PySem.W.nsIn K mainGlobals "all" = some none)
    (z_any : PySem.W.nsIn K mainGlobals "any" = some none)
    (z_bool : PySem.W.nsIn K mainGlobals "bool" = some none)
    (z_int : PySem.W.nsIn K mainGlobals "int" = some none)
    (z_str : PySem.W.nsIn K mainGlobals "str" = some none)
    (z_dict : PySem.W.nsIn K mainGlobals "dict" = some none)
    (z_enumerate : PySem.W.nsIn K mainGlobals "enumerate" = some none)
    (z_zip : PySem.W.nsIn K mainGlobals "zip" = some none)
    (z_sorted : PySem.W.nsIn K mainGlobals "sorted" = some none)
    {tk1 : Tok} (v1 : PySem.W.nsIn K mainGlobals "MOST_PADS" = some (some (.int 6 tk1)))
    {tk2 : Tok} (v2 : PySem.W.nsIn K mainGlobals "MOST_COLOURS" = some (some (.int 4 tk2)))
    {tk3 : Tok} (v3 : PySem.W.nsIn K mainGlobals "MOST_FIGURES" = some (some (.int 12 tk3)))
    {tk4 : Tok} (v4 : PySem.W.nsIn K mainGlobals "MOST_DEPTH" = some (some (.int 3 tk4))) :
    ∃ fd : FuncData, (∀ (s : Shared) (v : Value), BindsTo s fd ⟨[v], []⟩ [("_law_script", v)]) ∧ ∀ base : Heap, K.In base → base.Ns mainGlobals mg → FnOk l.prog w K mg base CX0 6 fa fd ["_law_script"] (spLaw K) := by
  have e := hfa.symm.trans (PySem.W.mg_of X G aW)
  cases e
  have FIn : FunD K "__init__" "Book.__init__" (defArgs sInit) (defBody sInit) (defScope sInit) [] [("figures", .ref tD)] fIn _ := ⟨⟨_, _, _, _, _, _, _, _, _, _, rfl, lIn, cIn, .inl ⟨rfl, rfl⟩, .inr ⟨kwD, rfl, fun q hq => by rw [List.mem_singleton.mp hq]; exact ⟨.ref tD, kw, rfl⟩⟩⟩, kIn⟩
  obtain ⟨mvIn, kbIn⟩ := FIn.kbinds0 (ps := ["self", "colours", "figures"]) 2 ["figures"] [] (fun us mv ws => us ++ ws) (List.cons_ne_nil _ _) (fun q hq => by cases hq) (fun r1 r2 r3 => r1.append r3) (fun D doc pm an cdv ct us mv ws l1 l2 l3 => match us, mv, ws, l1, l2, l3 with | [_, _], [], [_], _, _, _ => rfl)
  obtain ⟨dsIn, vdIn, bdIn⟩ := FIn.binds0 (ps := ["self", "colours", "figures"]) 2 (List.cons_ne_nil _ _) rfl (fun D doc pm an cdv ct us ks l1 l2 => match us, ks, l1, l2 with | [_, _], [_], _, _ => ⟨_, _, _, _, _, _, rfl, rfl, rfl⟩)
  have tT : ∀ H, SqT K H tD [] := fun H => .inr ⟨_, #[], nT, kt, rfl, rfl, Nat.zero_le _, .nil⟩
  have Fms := fun_mk (st := sShp) lms cms kms
  have mms : Meth K C "shape" fms := ⟨ams, ims, kms⟩
  have bms := Fms.binds (ps := ["self", "at"]) fun _ _ _ _ _ _ us hl => match us, hl with | [_, _], _ => rfl
  have Fmm := fun_mk (st := sMeetM) lmm cmm kmm
  have mmm : Meth K C "meet" fmm := ⟨amm, imm, kmm⟩
  have bmm := Fmm.binds (ps := ["self", "one", "other"]) fun _ _ _ _ _ _ us hl => match us, hl with | [_, _, _], _ => rfl
  have Fma := fun_mk (st := sApS) lma cma kma
  have mma : Meth K C "apart_sets" fma := ⟨ama, ima, kma⟩
  have bma := Fma.binds (ps := ["self"]) fun _ _ _ _ _ _ us hl => match us, hl with | [_], _ => rfl
  have Fmp := fun_mk (st := sApart) lmp cmp kmp
  have mmp : Meth K C "is_apart" fmp := ⟨amp, imp, kmp⟩
  have bmp := Fmp.binds (ps := ["self", "figure", "others"]) fun _ _ _ _ _ _ us hl => match us, hl with | [_, _, _], _ => rfl
  have Fcc := fun_mk (st := sCCol) lcc ccc kcc
  have gcc := PySem.W.mg_of X G acc
  have bcc := Fcc.binds (ps := ["colours"]) fun _ _ _ _ _ _ us hl => match us, hl with | [_], _ => rfl
  have Fcf := fun_mk (st := sCFig) lcf ccf kcf
  have gcf := PySem.W.mg_of X G acf
  have bcf := Fcf.binds (ps := ["colours", "figures"]) fun _ _ _ _ _ _ us hl => match us, hl with | [_, _], _ => rfl
  have Ffi := fun_mk (st := sIsFig) lfi cfi kfi
  have gfi := PySem.W.mg_of X G afi
  have bfi := Ffi.binds (ps := ["colours", "figure"]) fun _ _ _ _ _ _ us hl => match us, hl with | [_, _], _ => rfl
  have Fti := fun_mk (st := sIsTri) lti cti kti
  have gti := PySem.W.mg_of X G ati
  have bti := Fti.binds (ps := ["colours", "triple"]) fun _ _ _ _ _ _ us hl => match us, hl with | [_, _], _ => rfl
  have Fcm := fun_mk (st := sCMeet) lcm ccm kcm
  have gcm := PySem.W.mg_of X G acm
  have bcm := Fcm.binds (ps := ["figures"]) fun _ _ _ _ _ _ us hl => match us, hl with | [_], _ => rfl
  have Fcy := fun_mk (st := sCopyF) lcy ccy kcy
  have gcy := PySem.W.mg_of X G acy
  have bcy := Fcy.binds (ps := ["figure"]) fun _ _ _ _ _ _ us hl => match us, hl with | [_], _ => rfl
  have Fpo_ := fun_mk (st := sPadsOf) lpo_ cpo_ kpo_
  have gpo_ := PySem.W.mg_of X G apo_
  have bpo_ := Fpo_.binds (ps := ["figure"]) fun _ _ _ _ _ _ us hl => match us, hl with | [_], _ => rfl
  have Fsh := fun_mk (st := sShare) lsh csh ksh
  have gsh := PySem.W.mg_of X G ash
  have bsh := Fsh.binds (ps := ["some", "others"]) fun _ _ _ _ _ _ us hl => match us, hl with | [_, _], _ => rfl
  have Fhc := fun_mk (st := sHcp) lhc chc khc
  have ghc := PySem.W.mg_of X G ahc
  have bhc := Fhc.binds (ps := ["one", "other"]) fun _ _ _ _ _ _ us hl => match us, hl with | [_, _], _ => rfl
  have Fba := fun_mk (st := sBar) lba cba kba
  have gba := PySem.W.mg_of X G aba
  have bba := Fba.binds (ps := ["one", "other"]) fun _ _ _ _ _ _ us hl => match us, hl with | [_, _], _ => rfl
  have FB := fun_mk (st := sBag) lB cB kB
  have gB := PySem.W.mg_of X G aB
  have bB := FB.binds (ps := ["_law_script"]) fun _ _ _ _ _ _ us hl => match us, hl with | [_], _ => rfl
  have FP := fun_mk (st := sPull) lP cP kP
  have gP := PySem.W.mg_of X G aP
  have bP := FP.binds (ps := ["_law_bag_here", "_law_size"]) fun _ _ _ _ _ _ us hl => match us, hl with | [_, _], _ => rfl
  have FO := fun_mk (st := sOf) lO cO kO
  have gO := PySem.W.mg_of X G aO
  have bO := FO.binds (ps := ["_law_bag_here", "_law_things"]) fun _ _ _ _ _ _ us hl => match us, hl with | [_, _], _ => rfl
  have FHu := fun_mk (st := sHues) lHu cHu kHu
  have gHu := PySem.W.mg_of X G aHu
  have bHu := FHu.binds (ps := ["_law_bag_here", "_law_most"]) fun _ _ _ _ _ _ us hl => match us, hl with | [_, _], _ => rfl
  have FSp := fun_mk (st := sShape) lSp cSp kSp
  have gSp := PySem.W.mg_of X G aSp
  have bSp := FSp.binds (ps := ["_law_bag_here", "_law_colours"]) fun _ _ _ _ _ _ us hl => match us, hl with | [_, _], _ => rfl
  have FBa := fun_mk (st := sBars) lBa cBa kBa
  have gBa := PySem.W.mg_of X G aBa
  have bBa := FBa.binds (ps := ["_law_one", "_law_other"]) fun _ _ _ _ _ _ us hl => match us, hl with | [_, _], _ => rfl
  have FSs := fun_mk (st := sShapes) lSs cSs kSs
  have gSs := PySem.W.mg_of X G aSs
  have bSs := FSs.binds (ps := ["_law_bag_here", "_law_colours", "_law_most"]) fun _ _ _ _ _ _ us hl => match us, hl with | [_, _, _], _ => rfl
  have FK := fun_mk (st := sLike) lK cK kK
  have gK := PySem.W.mg_of X G aK
  have bK := FK.binds (ps := ["_law_one", "_law_due"]) fun _ _ _ _ _ _ us hl => match us, hl with | [_, _], _ => rfl
  have FPd := fun_mk (st := sLPads) lPd cPd kPd
  have gPd := PySem.W.mg_of X G aPd
  have bPd := FPd.binds (ps := ["_law_shape_here"]) fun _ _ _ _ _ _ us hl => match us, hl with | [_], _ => rfl
  have FMe := fun_mk (st := sLMeet) lMe cMe kMe
  have gMe := PySem.W.mg_of X G aMe
  have bMe := FMe.binds (ps := ["_law_one", "_law_other"]) fun _ _ _ _ _ _ us hl => match us, hl with | [_, _], _ => rfl
  have FAl := fun_mk (st := sAll) lAl cAl kAl
  have gAl := PySem.W.mg_of X G aAl
  have bAl := FAl.binds (ps := ["_law_shapes_here"]) fun _ _ _ _ _ _ us hl => match us, hl with | [_], _ => rfl
  have FW := fun_mk (st := sLaw) lW cW kW
  have gW := PySem.W.mg_of X G aW
  have m_len := PySem.W.mg_none_of X G z_len
  have m_list := PySem.W.mg_none_of X G z_list
  have m_tuple := PySem.W.mg_none_of X G z_tuple
  have m_range := PySem.W.mg_none_of X G z_range
  have m_isinstance := PySem.W.mg_none_of X G z_isinstance
  have m_all := PySem.W.mg_none_of X G z_all
  have m_any := PySem.W.mg_none_of X G z_any
  have m_bool := PySem.W.mg_none_of X G z_bool
  have m_int := PySem.W.mg_none_of X G z_int
  have m_str := PySem.W.mg_none_of X G z_str
  have m_dict := PySem.W.mg_none_of X G z_dict
  have m_enumerate := PySem.W.mg_none_of X G z_enumerate
  have m_zip := PySem.W.mg_none_of X G z_zip
  have m_sorted := PySem.W.mg_none_of X G z_sorted
  have w1 := PySem.W.mg_of X G v1
  have w2 := PySem.W.mg_of X G v2
  have w3 := PySem.W.mg_of X G v3
  have w4 := PySem.W.mg_of X G v4
  refine ⟨PySem.W.fnOf "law" "law" (defArgs sLaw) (defBody sLaw) (defScope sLaw) .none kVW dcW pmW anW cdW ctW, fun s v => .of_eq rfl, fun base _ _ => ?_⟩
  have T : BkTxt K mg C := ⟨⟨pg, hd, po, sa⟩, n_palette, n_shapes, PySem.W.mg_of X G aC⟩
  have M : LkG mg := ⟨m_isinstance, m_tuple, m_list, m_len, m_all, m_range, m_bool, m_int, m_str⟩
  have GP : FnOk l.prog w K mg base CX0 2 fP _ ["_law_bag_here", "_law_size"] spPull := ok_pull FP m_len
  have GO : FnOk l.prog w K mg base CX0 2 fO _ ["_law_bag_here", "_law_things"] spOf := ok_of (k := 0) FO m_len FP bP gP
  have GSp : FnOk l.prog w K mg base CX0 3 fSp _ ["_law_bag_here", "_law_colours"] (spShape K) := ok_shape FSp m_range m_len m_tuple FP bP gP GP FO bO gO GO
  have GBa : FnOk l.prog w K mg base CX0 3 fBa _ ["_law_one", "_law_other"] (spBars K) := ok_bars FBa m_dict m_any
  have Ghc : FnOk l.prog w K mg base CX0 2 fhc _ ["one", "other"] (spMeet2 K) := ok_hcp (k := 0) Fhc m_any Fpo_ bpo_ gpo_ Fsh bsh gsh
  have Gba : FnOk l.prog w K mg base CX0 2 fba _ ["one", "other"] (spBar K) := ok_bar Fba m_any
  have Gfi : FnOk l.prog w K mg base CX0 2 ffi _ ["colours", "figure"] (spIsFig K) := ok_isfig (k := 0) Ffi m_len m_all m_zip w4 Fti bti gti Fpo_ bpo_ gpo_
  have Gcc : FnOk l.prog w K mg base CX0 3 fcc _ ["colours"] (spCCol K) := ok_ccol Fcc m_len m_enumerate w1 w2
  have Gcy : FnOk l.prog w K mg base CX0 3 fcy _ ["figure"] (spCopyF K) := ok_copyf Fcy m_tuple
  have GIn : FnOk l.prog w K mg base CX0 4 fIn _ ["self", "colours", "figures"] (spInit K C) := ok_init FIn T m_len m_tuple w3 Fcc bcc gcc Gcc Fcf bcf gcf (ok_cfig Fcf m_enumerate Ffi bfi gfi Gfi) Fcm bcm gcm (ok_cmeet Fcm m_enumerate m_range m_len Fhc bhc ghc Ghc Fba bba gba Gba) Fcy bcy gcy Gcy
  have GIn0 : FnOk l.prog w K mg base CX0 4 fIn _ ["self", "colours", "figures"] (spInit0 K C) := ok_init0 FIn T m_len m_tuple w3 Fcc bcc gcc Gcc Fcf bcf gcf (ok_cfig0 Fcf m_enumerate Ffi bfi gfi Gfi) Fcm bcm gcm (ok_cmeet0 Fcm m_enumerate m_range m_len Fhc bhc ghc Ghc Fba bba gba Gba) Fcy bcy gcy Gcy
  have Gmm : FnOk l.prog w K mg base CX0 3 fmm _ ["self", "one", "other"] (spMeetM K C) := ok_meetM (k := 1) Fmm T m_len Fms bms mms Fhc bhc ghc Ghc
  have Gmp : FnOk l.prog w K mg base CX0 4 fmp _ ["self", "figure", "others"] (spApart K C) := ok_apart Fmp T m_any Fmm bmm mmm Gmm
  have Gma : FnOk l.prog w K mg base CX0 5 fma _ ["self"] (spApS K C) := ok_apS Fma T m_len m_range m_sorted Fmp bmp mmp Gmp
  have GMe : FnOk l.prog w K mg base CX0 4 fMe _ ["_law_one", "_law_other"] (spLMeet K) := ok_lmeet (k := 2) FMe m_any FPd bPd gPd
  exact ok_law FW T ⟨mk, aIn, iIn, kc⟩ FB bB gB (ok_bag FB m_len m_list) FHu bHu gHu (FnOk.mono (ok_hues FHu m_range FP bP gP GP FO bO gO GO) (by decide)) FSs bSs gSs (FnOk.mono (ok_shapes FSs m_range m_all FSp bSp gSp GSp FBa bBa gBa GBa) (by decide))
    kbIn GIn bdIn vdIn GIn0 tT Fma bma mma Gma FAl bAl gAl (ok_all FAl m_len m_range m_any m_tuple m_sorted FMe bMe gMe GMe) FK bK gK (ok_like FK bK gK M 5) m_range
end TB
open PySem PySem.W PyProof.Rows
set_option maxHeartbeats 0 in
theorem PySem.Challenge.cw_tearboard_k06_sets_of_figures_apart_holds : PySem.Challenge.rw_tearboard_k06_sets_of_figures_apart.Holds := by
  w_on; o_law; k_head; (case hw => w_witness2)
  k_fill
  refine L2.walk_of (l := PySem.Challenge.rw_tearboard_k06_sets_of_figures_apart) (n := 63) (k := 6) (x := "_law_script") (CX := fun _ => L2.CX0) (sp := fun w => TB.spLaw _) rfl (by decide) rfl ⟨rfl, by decide, by decide⟩ (fun w h Y => PySem.W.kIn_of Y) ?F (fun _ _ a ns hl _ hS => ⟨a, ns, rfl, hS, hl, fun _ => rfl⟩) (fun _ _ _ _ _ h => h)
  case F =>
    intro w mg fa h KX G hmg
    refine' TB.all_mk KX G hmg ?aC ?aIn ?lIn ?cIn ?kIn ?iIn ?kw ?kt ?ams ?lms ?cms ?kms ?ims ?amm ?lmm ?cmm ?kmm ?imm ?ama ?lma ?cma ?kma ?ima ?amp ?lmp ?cmp ?kmp ?imp ?acc ?lcc ?ccc ?kcc ?acf ?lcf ?ccf ?kcf ?afi ?lfi ?cfi ?kfi ?ati ?lti ?cti ?kti ?acm ?lcm ?ccm ?kcm ?acy ?lcy ?ccy ?kcy ?apo_ ?lpo_ ?cpo_ ?kpo_ ?ash ?lsh ?csh ?ksh ?ahc ?lhc ?chc ?khc ?aba ?lba ?cba ?kba ?aB ?lB ?cB ?kB ?aP ?lP ?cP ?kP ?aO ?lO ?cO ?kO ?aHu ?lHu ?cHu ?kHu ?aSp ?lSp ?cSp ?kSp ?aBa ?lBa ?cBa ?kBa ?aSs ?lSs ?cSs ?kSs ?aK ?lK ?cK ?kK ?aPd ?lPd ?cPd ?kPd ?aMe ?lMe ?cMe ?kMe ?aAl ?lAl ?cAl ?kAl ?aW ?lW ?cW ?kW ?pg ?hd ?po ?sa ?mk ?kc ?n_palette ?n_shapes ?z_len ?z_list ?z_tuple ?z_range ?z_isinstance ?z_all ?z_any ?z_bool ?z_int ?z_str ?z_dict ?z_enumerate ?z_zip ?z_sorted ?v1 ?v2 ?v3 ?v4
    (case aC => k_is); (case aIn => k_is); (case lIn => k_is); (case cIn => k_is); (case kIn => k_is); (case iIn => k_is); (case kw => k_is); (case kt => k_is)
    (case ams => k_is); (case lms => k_is); (case cms => k_is); (case kms => k_is); (case ims => k_is); (case amm => k_is); (case lmm => k_is); (case cmm => k_is)
    (case kmm => k_is); (case imm => k_is); (case ama => k_is); (case lma => k_is); (case cma => k_is); (case kma => k_is); (case ima => k_is); (case amp => k_is)
    (case lmp => k_is); (case cmp => k_is); (case kmp => k_is); (case imp => k_is); (case acc => k_is); (case lcc => k_is); (case ccc => k_is); (case kcc => k_is)
    (case acf => k_is); (case lcf => k_is); (case ccf => k_is); (case kcf => k_is); (case afi => k_is); (case lfi => k_is); (case cfi => k_is); (case kfi => k_is)
    (case ati => k_is); (case lti => k_is); (case cti => k_is); (case kti => k_is); (case acm => k_is); (case lcm => k_is); (case ccm => k_is); (case kcm => k_is)
    (case acy => k_is); (case lcy => k_is); (case ccy => k_is); (case kcy => k_is); (case apo_ => k_is); (case lpo_ => k_is); (case cpo_ => k_is); (case kpo_ => k_is)
    (case ash => k_is); (case lsh => k_is); (case csh => k_is); (case ksh => k_is); (case ahc => k_is); (case lhc => k_is); (case chc => k_is); (case khc => k_is)
    (case aba => k_is); (case lba => k_is); (case cba => k_is); (case kba => k_is); (case aB => k_is); (case lB => k_is); (case cB => k_is); (case kB => k_is)
    (case aP => k_is); (case lP => k_is); (case cP => k_is); (case kP => k_is); (case aO => k_is); (case lO => k_is); (case cO => k_is); (case kO => k_is)
    (case aHu => k_is); (case lHu => k_is); (case cHu => k_is); (case kHu => k_is); (case aSp => k_is); (case lSp => k_is); (case cSp => k_is); (case kSp => k_is)
    (case aBa => k_is); (case lBa => k_is); (case cBa => k_is); (case kBa => k_is); (case aSs => k_is); (case lSs => k_is); (case cSs => k_is); (case kSs => k_is)
    (case aK => k_is); (case lK => k_is); (case cK => k_is); (case kK => k_is); (case aPd => k_is); (case lPd => k_is); (case cPd => k_is); (case kPd => k_is)
    (case aMe => k_is); (case lMe => k_is); (case cMe => k_is); (case kMe => k_is); (case aAl => k_is); (case lAl => k_is); (case cAl => k_is); (case kAl => k_is)
    (case aW => k_is); (case lW => k_is); (case cW => k_is); (case kW => k_is); (case pg => k_is); (case hd => k_is); (case po => k_is); (case sa => k_is)
    (case mk => k_is); (case kc => k_is); (case n_palette => k_is); (case n_shapes => k_is); (case z_len => k_is); (case z_list => k_is); (case z_tuple => k_is); (case z_range => k_is)
    (case z_isinstance => k_is); (case z_all => k_is); (case z_any => k_is); (case z_bool => k_is); (case z_int => k_is); (case z_str => k_is); (case z_dict => k_is); (case z_enumerate => k_is)
    (case z_zip => k_is); (case z_sorted => k_is); (case v1 => k_is); (case v2 => k_is); (case v3 => k_is); (case v4 => k_is)
