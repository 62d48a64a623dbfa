import PyProof.Rows.All
import Wide.All
import OpenK.AllK
import Wide.FinOn
import HandS.ForMost
import HandS.Defaults
import HandS.Codes
import HandS.Evl
import HandS.Exc
import HandS.ExcInit
import HandS.IsInst
import KE.KExcInit
import KE.KExcIs
import HandS.Zip
import HandS.HeadHook4
import HandS.Head0
import HandS.Head1
import HandS.Head2
import HandS.HeadEnd
import HandS.HeadHook1
import HandS.HeadHook2
import HandS.HeadHook3
import HandS.WordsExc
import PySem.Challenge.RW_othersknow_k66_errors_by_themselves
set_option Elab.async false
set_option linter.all false
set_option maxRecDepth 100000
set_option maxHeartbeats 0
/-! The draws: a bag of the script's numbers. What is told of a draw: it lies in its range. -/
namespace K66
open PySem L2 Evl
def top (i : Nat) : Stmt := PySem.Challenge.pw_othersknow_k66_errors_by_themselves.main.body.getD i (.Pass ⟨0, 0, 0, 0⟩)
abbrev sBag : Stmt := top 30
abbrev sPull : Stmt := top 31
abbrev sOf : Stmt := top 32
abbrev FnP (K : PySem.W.Frag) (x : Str) (st : Stmt) (f : Addr) (fd : FuncData) : Prop := FunD K x x (defArgs st) (defBody st) (defScope st) [] [] f fd
/-- the bag at b with its list at l -/
def Bag (H : Hp) (b l : Addr) (ns : List Int) : Prop := b ≠ l ∧ H l = some (.lst (ns.map V.int)) ∧ ns.length ≤ 1000 ∧
  ∃ i j s : Int, H b = some (.lst [.ref l, .int i, .int j, .int s]) ∧ 0 ≤ i ∧ 0 ≤ j ∧ 0 ≤ s ∧ s < 2147483579
/-- all but b stands -/
def But (b : Addr) (H H' : Hp) : Prop := ∀ c, c ≠ b → H' c = H c
def spPull : Sp := fun vs H Q _ => ∃ (b l : Addr) (ns : List Int) (m : Int), vs = [.ref b, .int m] ∧ 0 < m ∧ m < 1073741824 ∧ Bag H b l ns ∧
  ∀ (r : Int) (H' : Hp), 0 ≤ r → r < m → Bag H' b l ns → But b H H' → Q (.int r) H'
def spOf (K : PySem.W.Frag) : Sp := fun vs H Q _ => ∃ (b l t : Addr) (ns : List Int) (ts : List V), vs = [.ref b, .ref t] ∧ SqL K H t ts ∧ 0 < ts.length ∧ ts.length < 100000 ∧ t ≠ b ∧ (∀ H', But b H H' → SqL K H' t ts) ∧ Bag H b l ns ∧
  ∀ (k : Nat) (v : V) (H' : Hp), ts[k]? = some v → Bag H' b l ns → But b H H' → Q v H'
def spBag (K : PySem.W.Frag) : Sp := fun vs H Q _ => ∃ (a : Addr) (ns : List Int), vs = [.ref a] ∧ SqL K H a (ns.map V.int) ∧ ns.length ≤ 1000 ∧
  ∀ (b l : Addr) (ms : List Int) (H' : Hp), Same H H' → H b = none → H l = none → Bag H' b l ms → Q (.ref b) H'
section
variable {P : Program} {w : World} {K : PySem.W.Frag} {mg : Str → Option Value} {base : Heap} {f : Addr} {fd : FuncData}
theorem scP : FnScope ["_law_bag_here", "_law_amount", "_law_cell", "_law_got", "_law_seed"] ["_law_bag_here", "_law_amount"] (defScope sPull) := ⟨rfl, rfl, rfl, by decide +kernel, rfl, by decide +kernel, by decide +kernel⟩
/-- a field of the bag -/
abbrev bx {X : Cx} {p q r : Pos} {i : Int} {j : Nat} (h : PE X (.Name "_law_bag_here" p) (tVar 0) := by exact pv 0) : PE X (.Subscript (.Name "_law_bag_here" p) (.Constant (.int i) j q) r) (tOp (rIxL X.K) (tVar 0) (tC (.int i))) :=
  pe_ix ix_list h pe_int (fun _ _ => rfl)
theorem ok_pull (F : FnP K "_law_pull" sPull f fd) (gL : mg "len" = none) (gI : mg "int" = none) : FnOk P w K mg base CX0 1 f fd ["_law_bag_here", "_law_amount"] spPull := by
  refine F.ok scP (fun vs H Q E h => ?_) (fun cdv A outer s H vs Q E hr h => ?_)
  · obtain ⟨b, l, ns, m, rfl, _⟩ := h
    rfl
  · obtain ⟨b, l, ns, m, rfl, m0, m1, ⟨nbl, hl, hln, i, j, sd, hb, i0, j0, s0, s1⟩, k⟩ := h
    refine ⟨_, PSs.nox (pss_cut
      (ps_if (PW.pt (pw_and (pt_cmpR op_eq (bx (pv 0)) pe_int (nomark _)) (pw_and1 (pt_cmpR op_lt (bx (pv 0)) (pe_callB call_len_seq (by rfl) gL PySem.boot_len (pa_cons (bx (pv 0)) pa_nil)) (nomark _)))))
        (pss_cons (ps_set (i := 2) scP.nd rfl (Or.inl rfl) (pe_ix ix_list (bx (pv 0)) (bx (pv 0)) (fun _ _ => rfl)))
        (pss_cons (ps_asg (pe_op op_add (bx (pv 0)) pe_int) (pg_sub (pv 0) pe_int set_list))
        (pss_one (ps_if (pt_cmpR op_ge (pv 2) (pe_op op_pow pe_int pe_int) (nomark _))
          (pss_one (ps_asg (pv 2) (pg_sub (pv 0) pe_int set_list)))
          (pss_one (ps_asg (pe_op op_mod (pe_callTy call_int1 (by rfl) gI (by decide +kernel) (pa_cons (pe_op op_add (pe_op op_add (pe_op op_mul (bx (pv 0)) pe_int) (pe_op op_mul (pe_op op_mod (pe_callTy call_int1 (by rfl) gI (by decide +kernel) (pa_cons (pv 2) pa_nil)) pe_int) pe_int)) pe_int) pa_nil)) pe_int) (pg_sub (pv 0) pe_int set_list)))))))
        pss_nil)
      (pss_cons (ps_if (pt_cmpR op_gt (bx (pv 0)) pe_int (nomark _))
        (pss_cons (ps_set (i := 3) scP.nd rfl (Or.inl rfl) (pe_op op_mod (pe_callTy call_int1 (by rfl) gI (by decide +kernel) (pa_cons (bx (pv 0)) pa_nil)) (pv 1)))
        (pss_cons (ps_asg (pe_op op_fdiv (bx (pv 0)) (pv 1)) (pg_sub (pv 0) pe_int set_list))
        (pss_one (ps_ret (pv 3)))))
        pss_nil)
      (pss_cons (ps_set (i := 4) scP.nd rfl (Or.inl rfl) (bx (pv 0)))
      (pss_cons (ps_asg (pe_op op_mod (pe_callTy call_int1 (by rfl) gI (by decide +kernel) (pa_cons (pe_op op_add (pe_op op_add (pe_op op_mul (pv 4) (pv 4)) (pe_op op_mul (pv 4) pe_int)) pe_int) pa_nil)) pe_int) (pg_sub (pv 0) pe_int set_list))
      (pss_one (ps_ret (pe_op op_mod (pe_callTy call_int1 (by rfl) gI (by decide +kernel) (pa_cons (pe_op op_add (pe_op op_fdiv (bx (pv 0)) pe_int) (pe_op op_mul (pe_op op_mod (pe_callTy call_int1 (by rfl) gI (by decide +kernel) (pa_cons (bx (pv 0)) pa_nil)) pe_int) pe_int)) pa_nil)) (pv 1)))))))), ?_⟩
    -- what stands between the first if and the rest
    refine ⟨fun σ1 H1 => (∃ u, σ1 = [some (.ref b), some (.int m), u, none, none]) ∧ But b H H1 ∧ ∃ i j sd : Int, H1 b = some (.lst [.ref l, .int i, .int j, .int sd]) ∧ 0 ≤ i ∧ 0 ≤ j ∧ 0 ≤ sd ∧ sd < 2147483579, ?_, ?_⟩
    · -- the first if
      refine ⟨_, rfl, b, _, 2, _, rfl, rfl, SqL.of hb, rfl, rfl, _, rfl, ?_⟩
      refine ite2 (fun ej => ?_) (fun _ => ⟨⟨none, rfl⟩, fun _ _ => rfl, i, j, sd, hb, i0, j0, s0, s1⟩)
      refine ⟨_, rfl, b, _, 1, _, rfl, rfl, SqL.of hb, rfl, _, rfl, b, _, 0, _, rfl, rfl, SqL.of hb, rfl, l, _, rfl, .inl (SqL.of hl), _, _, rfl, rfl, _, rfl, ?_⟩
      refine ite2 (fun hlt => ?_) (fun _ => ⟨⟨none, rfl⟩, fun _ _ => rfl, i, j, sd, hb, i0, j0, s0, s1⟩)
      have hlt' : i < ((ns.map V.int).length : Int) := of_decide_eq_true hlt
      rw [List.length_map] at hlt'
      obtain ⟨n, rfl⟩ : ∃ n : Nat, i = (n : Int) := ⟨i.toNat, by omega⟩
      have hn : n < ns.length := by omega
      have hat : (ns.map V.int)[n]? = some (V.int ns[n]) := by rw [List.getElem?_map, List.getElem?_eq_getElem hn]; rfl
      -- cell = bag[0][bag[1]]
      refine ⟨_, rfl, b, _, 0, _, rfl, rfl, SqL.of hb, rfl, _, rfl, b, _, 1, _, rfl, rfl, SqL.of hb, rfl, l, _, _, _, rfl, rfl, SqL.of hl, atI_nat hat, ?_⟩
      -- bag[1] = bag[1] + 1
      refine ⟨_, rfl, b, _, 1, _, rfl, rfl, SqL.of hb, rfl, _, _, rfl, rfl, _, rfl, b, _, 1, 1, rfl, rfl, hb, rfl, ?_⟩
      refine ⟨_, rfl, _, _, rfl, rfl, (by show (0 : Int) ≤ 18 ∧ (18 : Int) ≤ 1000000 ∧ (10 : Int).natAbs < 2 ^ 64; decide), _, _, rfl, rfl, _, rfl, ?_⟩
      have bb : But b H (upd H b (.lst [.ref l, .int (n : Int), .int j, .int sd])) := fun c hc => upd_ne hc
      refine ite2 (fun hge => ?_) (fun hge => ?_)
      · have hge' : (10 : Int) ^ 18 ≤ ns[n] := of_decide_eq_true hge
        refine ⟨_, rfl, _, rfl, b, _, 2, 2, rfl, rfl, upd_same, rfl, ?_⟩
        refine ⟨⟨_, rfl⟩, fun c hc => by rw [upd_ne hc, upd_ne hc], (n : Int) + 1, ns[n], sd, upd_same, by omega, ?_, s0, s1⟩
        exact Int.le_trans (by decide) hge'
      · refine ⟨_, rfl, b, _, 3, _, rfl, rfl, SqL.of upd_same, rfl, _, _, rfl, rfl, .inl ⟨by omega, by omega⟩, ?_⟩
        refine ⟨_, rfl, .inl ⟨_, rfl, _, _, rfl, rfl, (by show (0 : Int) < 2147483399; decide), _, _, rfl, rfl, .inr ⟨by decide, by decide⟩, _, _, rfl, rfl, _, _, rfl, rfl, .inl ⟨_, rfl, _, _, rfl, rfl, (by show (0 : Int) < 2147483579; decide), ?_⟩⟩⟩
        refine ⟨_, rfl, b, _, 3, 3, rfl, rfl, upd_same, rfl, ?_⟩
        refine ⟨⟨_, rfl⟩, fun c hc => by rw [upd_ne hc, upd_ne hc], (n : Int) + 1, j, _, upd_same, by omega, j0, ?_, ?_⟩
        · exact Int.emod_nonneg _ (by decide)
        · exact Int.emod_lt_of_pos _ (by decide)
    · rintro σ1 H1 ⟨⟨u, rfl⟩, hB, i, j, sd, hb, i0, j0, s0, s1⟩
      have hl1 : H1 l = some (.lst (ns.map V.int)) := (hB l nbl.symm).trans hl
      refine ⟨_, rfl, b, _, 2, _, rfl, rfl, SqL.of hb, rfl, _, _, rfl, rfl, _, rfl, ?_⟩
      refine ite2 (fun hpos => ?_) (fun _ => ?_)
      · have hpos' : (0 : Int) < j := of_decide_eq_true hpos
        refine ⟨_, rfl, b, _, 2, _, rfl, rfl, SqL.of hb, rfl, .inl ⟨_, rfl, _, rfl, _, _, rfl, rfl, m0, ?_⟩⟩
        refine ⟨_, rfl, b, _, 2, _, rfl, rfl, SqL.of hb, rfl, _, rfl, _, _, rfl, rfl, ⟨m0, m1⟩, _, rfl, b, _, 2, 2, rfl, rfl, hb, rfl, ?_⟩
        refine ⟨_, rfl, ?_⟩
        refine k _ _ (Int.emod_nonneg _ (by omega)) (Int.emod_lt_of_pos _ m0) ⟨nbl, by rw [upd_ne nbl.symm]; exact hl1, hln, i, j / m, sd, upd_same, i0, Int.ediv_nonneg j0 (by omega), s0, s1⟩ fun c hc => by rw [upd_ne hc]; exact hB c hc
      · refine ⟨_, rfl, b, _, 3, _, rfl, rfl, SqL.of hb, rfl, ?_⟩
        refine ⟨_, rfl, _, rfl, _, _, rfl, rfl, .inl ⟨by omega, by omega⟩, _, rfl, _, _, rfl, rfl, .inl ⟨by omega, by omega⟩, _, _, rfl, rfl, _, _, rfl, rfl, .inl ⟨_, rfl, _, _, rfl, rfl, (by show (0 : Int) < 2147483579; decide), ?_⟩⟩
        refine ⟨_, rfl, b, _, 3, 3, rfl, rfl, hb, rfl, ?_⟩
        refine ⟨_, rfl, b, _, 3, _, rfl, rfl, SqL.of upd_same, rfl, _, _, rfl, rfl, ⟨by decide, by decide⟩, _, rfl, b, _, 3, _, rfl, rfl, SqL.of upd_same, rfl, .inl ⟨_, rfl, _, _, rfl, rfl, (by show (0 : Int) < 8111; decide), _, _, rfl, rfl, .inr ⟨by decide, by decide⟩, _, _, rfl, rfl, .inl ⟨_, rfl, _, rfl, _, _, rfl, rfl, m0, ?_⟩⟩⟩
        refine k _ _ (Int.emod_nonneg _ (by omega)) (Int.emod_lt_of_pos _ m0) ⟨nbl, by rw [upd_ne nbl.symm]; exact hl1, hln, i, j, _, upd_same, i0, j0, Int.emod_nonneg _ (by decide), Int.emod_lt_of_pos _ (by decide)⟩ fun c hc => by rw [upd_ne hc]; exact hB c hc
theorem scO : FnScope ["_law_bag_here", "_law_things"] ["_law_bag_here", "_law_things"] (defScope sOf) := ⟨rfl, rfl, rfl, by decide +kernel, rfl, by decide +kernel, by decide +kernel⟩
theorem ok_of {fP : Addr} {fdP : FuncData} (F : FnP K "_law_of" sOf f fd) (FP : FnP K "_law_pull" sPull fP fdP) (gP : mg "_law_pull" = some (.ref fP)) (gL : mg "len" = none) (gI : mg "int" = none) :
    FnOk P w K mg base CX0 2 f fd ["_law_bag_here", "_law_things"] (spOf K) := by
  have GP : FnOk P w K mg base CX0 1 fP fdP ["_law_bag_here", "_law_amount"] spPull := ok_pull FP gL gI
  have bP : Binds K fdP ["_law_bag_here", "_law_amount"] [] := FP.bindsN fun _ _ _ _ _ _ us hl => match us, hl with | [_, _], _ => rfl
  refine F.ok scO (fun vs H Q E h => ?_) (fun cdv A outer s H vs Q E hr h => ?_)
  · obtain ⟨b, l, t, ns, ts, rfl, _⟩ := h
    rfl
  · obtain ⟨b, l, t, ns, ts, rfl, ht, h0, h1, nbt, keep, hB, k⟩ := h
    refine ⟨_, PSs.nox (pss_one (ps_ret (pe_ix ix_list (pv 1) (pe_call GP hr rfl gP FP.kp bP .nil pass0 (pa_cons (pv 0) (pa_cons (pe_callB call_len_seq (by rfl) gL PySem.boot_len (pa_cons (pv 1) pa_nil)) pa_nil))) (fun _ _ => rfl)))), ?_⟩
    refine ⟨_, rfl, _, rfl, _, rfl, t, _, rfl, .inl ht, b, l, ns, _, rfl, by omega, by omega, hB, fun r H' r0 r1 hB' hk => ?_⟩
    obtain ⟨n, rfl⟩ : ∃ n : Nat, r = (n : Int) := ⟨r.toNat, by omega⟩
    have hn : n < ts.length := by omega
    exact ⟨t, ts, _, ts[n], rfl, rfl, keep H' hk, atI_nat (List.getElem?_eq_getElem hn), k n _ H' (List.getElem?_eq_getElem hn) hB' hk⟩
theorem scB : FnScope ["_law_script", "_law_salt", "_law_cell"] ["_law_script"] (defScope sBag) := ⟨rfl, rfl, rfl, by decide +kernel, rfl, by decide +kernel, by decide +kernel⟩
theorem cut_map (ns : List Int) (lo hi : Option Int) : ∃ ms : List Int, cutV (ns.map V.int) lo hi = ms.map V.int ∧ ms.length ≤ ns.length := by
  refine ⟨(ns.drop (HT.sIx (ns.map V.int).length 0 lo)).take (HT.sIx (ns.map V.int).length (ns.map V.int).length hi - HT.sIx (ns.map V.int).length 0 lo), ?_, ?_⟩
  · unfold cutV
    rw [List.map_take, List.map_drop]
  · rw [List.length_take, List.length_drop]
    omega
theorem ok_bag (F : FnP K "_law_bag" sBag f fd) (gI : mg "int" = none) (gL : mg "list" = none) : FnOk P w K mg base CX0 1 f fd ["_law_script"] (spBag K) := by
  refine F.ok scB (fun vs H Q E h => ?_) (fun cdv A outer s H vs Q E hr h => ?_)
  · obtain ⟨a, ns, rfl, _⟩ := h
    rfl
  · obtain ⟨a, ns, rfl, hS, hlen, k⟩ := h
    refine ⟨_, PSs.nox (pss_cons (ps_set (i := 1) scB.nd rfl (Or.inl rfl) pe_int)
      (pss_cons (ps_for PassesOwn.never rfl (pi_list (pe_slice sl_list (pv 0) po_none (po_some pe_int))) (pg_name (i := 2) scB.nd rfl (Or.inl rfl))
        (pss_one (ps_set (i := 1) scB.nd rfl (Or.inl rfl) (pe_op op_mod (pe_callTy call_int1 (by rfl) gI (by decide +kernel) (pa_cons (pe_op op_add (pe_op op_add (pe_op op_mul (pv 1) pe_int) (pe_op op_mod (pe_callTy call_int1 (by rfl) gI (by decide +kernel) (pa_cons (pv 2) pa_nil)) pe_int)) pe_int) pa_nil)) pe_int))))
      (pss_one (ps_ret (pe_lst (pa_cons (pe_callTy call_list_of (by rfl) gL (by decide +kernel) (pa_cons (pe_slice sl_list (pv 0) po_none (po_some pe_int)) pa_nil)) (pa_cons pe_int (pa_cons pe_int (pa_cons (pv 1) pa_nil))))))))), ?_⟩
    obtain ⟨ms, hms, hmsl⟩ := cut_map ns none (some 63)
    refine ⟨_, rfl, _, rfl, a, _, rfl, hS, fun c hc => ?_⟩
    have hSc : SqL K (upd H c (.lst (cutV (ns.map V.int) none (some 63)))) c (ms.map V.int) := by rw [hms]; exact SqL.of upd_same
    refine ⟨c, rfl, ⟨_, hSc⟩, for_list (K := K) (a := c) (xs := ms.map V.int) (fun _ σ' H' => ∃ (z : Int) (u : Option V), σ' = [some (.ref a), some (.int z), u] ∧ 0 ≤ z ∧ z < 2147483579 ∧ H' = upd H c (.lst (cutV (ns.map V.int) none (some 63))))
      ⟨5606, none, rfl, by decide, by decide, rfl⟩ (fun i σ' H' _ ⟨_, _, _, _, _, e⟩ => by rw [e]; exact hSc) ?_ ?_⟩
    · rintro i y σ' H' hi ⟨z, u, rfl, z0, z1, rfl⟩
      obtain ⟨x, rfl⟩ : ∃ x, y = V.int x := by
        rw [List.getElem?_map] at hi
        cases e : ms[i]? with
        | none => rw [e] at hi; cases hi
        | some x => rw [e] at hi; exact ⟨x, (Option.some.inj hi).symm⟩
      refine ⟨_, rfl, _, _, rfl, rfl, .inl ⟨by omega, by omega⟩, _, rfl, .inl ⟨_, rfl, _, _, rfl, rfl, (by show (0 : Int) < 2147483399; decide), _, _, rfl, rfl, _, _, rfl, rfl, .inl ⟨_, rfl, _, _, rfl, rfl, (by show (0 : Int) < 2147483579; decide), ?_⟩⟩⟩
      exact ⟨_, _, rfl, Int.emod_nonneg _ (by decide), Int.emod_lt_of_pos _ (by decide), rfl⟩
    · rintro σ' H' ⟨z, u, rfl, z0, z1, rfl⟩
      refine ⟨_, rfl, _, rfl, a, _, rfl, ex_l (Ex.new hc) hS, fun d hd => ?_⟩
      refine ⟨d, _, rfl, .inl (SqL.of upd_same), fun l hl => ⟨_, rfl, (by show 4 ≤ sizeLine; decide), fun b hb => ?_⟩⟩
      have e1 : Ex H (upd H c (.lst (cutV (ns.map V.int) none (some 63)))) := Ex.new hc
      have e2 := e1.trans (Ex.new (o := .lst (cutV (ns.map V.int) none (some 63))) hd)
      have e3 := e2.trans (Ex.new (o := .lst (cutV (ns.map V.int) none (some 63))) hl)
      have e4 := e3.trans (Ex.new (o := .lst [.ref l, .int 0, .int 0, .int z]) hb)
      have nbl : b ≠ l := fun q => by rw [q, upd_same] at hb; cases hb
      refine k b l ms _ e4 (fresh_back e3 hb) (fresh_back e2 hl) ⟨nbl, by rw [upd_ne nbl.symm, upd_same, hms], by omega, 0, 0, z, upd_same, Int.le_refl 0, Int.le_refl 0, z0, z1⟩
end
end K66

/-! An own exception class made with keywords: __new__ lets them pass, __init__ takes them. -/
namespace OxK
open PySem PySem.W PySem.Calls PyProof.Rows PySem.HandSPX
section
variable {M : Model} {A : Around} {E : Value → Shared → Prop} {hp : Heap} {gs : Array GenState} {dr : Drawn} {tk : Nat} {os : OsState}
variable {n1 n2 : Str} {C N : Addr} {bs mr mrB : List Value} {hdc : Bool} {sl : List Str} {sub : List Value} {ab : Bool} {co : Option Bool} {dd : Option Addr} {z0 z1 z2 z3 z5 : Option Value} {B idN idI : String}
theorem kwCheck (FB : ExcBaseFacts B idN idI mrB) (hT : ∀ T : String, mr.contains (.type T) = mrB.contains (.type T)) {us : List Value} {kw : List (Str × Value)} {Q : Unit → Shared → Prop}
    (oC : hp.get? C = some (excClassObj n1 n2 C N bs mr hdc sl sub ab co dd z0 z1 z2 z3 z5 idN)) (q : Q () ⟨hp, gs, dr, tk, os⟩) :
    wpAny M A (checkBuiltinCall idN ⟨.ref C :: us, kw⟩) Q E ⟨hp, gs, dr, tk, os⟩ := by
  have inB : (Value.ref C :: mr).contains (.type B) = true := by
    rw [List.contains_cons, hT]
    rw [FB.hasB, Bool.or_true]
  have star := FB.noStar
  simp only [checkBuiltinCall, FB.newKind, FB.newSplit, FB.newRow]
  repeat (first
    | refine wpAny_loadPart_at oC ?_
    | (refine wpAny_isSubtype_exc oC ?_
       rw [inB])
    | refine wpAny_staticBase_exc oC ?_
    | refine wpAny_madeBy_exc oC ?_
    | simp only [bne_self_eq_false, Bool.false_eq_true, if_false]
    | wp_step)
  exact q
end
section
variable {prog : Program} {w : World} {A : Around} {E : Value → Shared → Prop} {R : Result → Shared → Prop} {hp : Heap} {gs : Array GenState} {dr : Drawn} {tk : Nat} {os : OsState}
variable {n1 n2 : Str} {C N : Addr} {bs mr mrB : List Value} {hdc : Bool} {sl : List Str} {sub : List Value} {ab : Bool} {co : Option Bool} {dd : Option Addr} {z0 z1 z2 z3 z5 : Option Value} {B idN idI : String}
theorem kwNew (FB : ExcBaseFacts B idN idI mrB) (hT : ∀ T : String, mr.contains (.type T) = mrB.contains (.type T)) {us : List Value} {kw : List (Str × Value)}
    (oC : hp.get? C = some (excClassObj n1 n2 C N bs mr hdc sl sub ab co dd z0 z1 z2 z3 z5 idN)) (lu : us.length ≤ sizeLine)
    (q : R (.ok (.ret (.ref (hp.objs.size + 1)))) ⟨(hp.push (W.kdv_tup us)).push (excO C hp.objs.size), gs, dr, tk, os⟩) :
    codeAny (model prog w) A (.builtin idN ⟨.ref C :: us, kw⟩) R ⟨hp, gs, dr, tk, os⟩ := by
  have fin := FB.ends
  have has : ∀ (T : String) (v : Bool), mrB.contains (.type T) = v → (Value.ref C :: mr).contains (.type T) = v := fun T v e => by
    rw [List.contains_cons, hT, e]
    rfl
  have inB := has _ _ FB.hasB
  have notA := has _ _ FB.noAttr
  have notN := has _ _ FB.noName
  refine codeAny_builtinAt FB.entry ?_
  unfold Builtin.«BaseException.__new__»
  refine PySem.wpAt_bind ?_
  show PySem.wpAt _ _ _ (stack >>= _) _ _ _
  refine PySem.wpAt_bind (PySem.wpAt_stack fun p below => PySem.wpAt_of_wpAny ?_)
  wp_walk
  refine PySem.wpAt_of_wpAny ?_
  rw [FB.owner]
  repeat (first
    | with_reducible refine wpAny_madeHere_exc FB.canon oC ?_
    | with_reducible refine wpAny_loadPart_at oC ?_
    | (with_reducible refine wpAny_isSubtype_exc oC ?_
       first | rw [inB] | rw [notA] | rw [notN])
    | wp_step)
  show R _ _
  rw [Heap.size_push]
  exact q
theorem kwTypeCall (FB : ExcBaseFacts B idN idI mrB) (hT : ∀ T : String, mr.contains (.type T) = mrB.contains (.type T)) {us : List Value} {kw : List (Str × Value)} {fI : Addr} {Q : Fin → Shared → Prop}
    (oC : hp.get? C = some (excClassObj n1 n2 C N bs mr hdc sl sub ab co dd z0 z1 z2 z3 z5 idN))
    (li : W.Looks (model prog w) hp (typeLookup (.ref C) "__init__") (some (.ref fI))) (bi : ∀ self, W.Looks (model prog w) hp (bindSpecial (.ref fI) self) (.ref fI, [self])) (lu : us.length ≤ sizeLine)
    (q : codeAny (model prog w) A (.call (.ref fI) ⟨.ref (hp.objs.size + 1) :: us, kw⟩)
      (fun r s' => match r with
        | .ok (.ret v) => v = .none ∧ Q (.done (.ret (.ref (hp.objs.size + 1)))) s'
        | .ok _ => False
        | .error x => E x s') ⟨(hp.push (W.kdv_tup us)).push (excO C hp.objs.size), gs, dr, tk, os⟩) :
    wpAny (model prog w) A (Builtin.«type.__call__» ⟨.ref C :: us, kw⟩) Q E ⟨hp, gs, dr, tk, os⟩ := by
  repeat (first
    | with_reducible refine wpAny_loadPart_at oC ?_
    | with_reducible refine wpAny_madeBy_exc oC ?_
    | wp_step)
  refine codeAny_call_builtin_code (Code.quiet_builtin _ FB.quiet) (kwCheck FB hT oC ?_)
  refine kwNew FB hT oC lu ?_
  show wpAny _ _ _ _ _ _
  have up : ∀ b o, hp.get? b = some o → ((hp.push (W.kdv_tup us)).push (excO C hp.objs.size)).get? b = some o :=
    fun b o e => Heap.get?_push_of_some _ (Heap.get?_push_of_some _ e)
  have oC2 := up _ _ oC
  have oe : ((hp.push (W.kdv_tup us)).push (excO C hp.objs.size)).get? (hp.objs.size + 1) = some (excO C hp.objs.size) := by
    heap_get
  have inC : (Value.ref C :: mr).contains (.ref C) = true := by simp
  have li2 := li.keeps up
  have bi2 := (bi (.ref (hp.objs.size + 1))).keeps up
  unfold isInstance
  repeat (first
    | with_reducible refine wpAny_loadPart_at oe ?_
    | (with_reducible refine wpAny_isSubtype_exc oC2 ?_
       rw [inC])
    | wp_step)
  show wpAny _ _ (typeLookup (.ref C) _) _ _ _
  refine li2.at ?_
  refine wpAny_holding (wpAny_bind (bi2.at ?_))
  refine wpAny_bind (wpAny_call (codeAny_mono q fun r s' y => ?_))
  rcases r with x | (v | _ | _ | _) <;> first | exact y | exact y.elim | skip
  obtain ⟨rfl, y⟩ := y
  first
    | exact wpAny_pure (wpAny_pure y)
    | (wp_walk; exact y)
theorem kwCheckT {M : Model} {us : List Value} {kw : List (Str × Value)} {Q : Unit → Shared → Prop} (oC : hp.get? C = some (excClassObj n1 n2 C N bs mr hdc sl sub ab co dd z0 z1 z2 z3 z5 idN))
    (q : Q () ⟨hp, gs, dr, tk, os⟩) : wpAny M A (checkBuiltinCall "type.__call__" ⟨.ref C :: us, kw⟩) Q E ⟨hp, gs, dr, tk, os⟩ := by
  have so := tc_sub
  have ty : (⟨hp, gs, dr, tk, os⟩ : Shared).TypeIs (.ref C) "type" := ⟨_, oC, rfl⟩
  simp only [checkBuiltinCall, tc_kind, tc_split]
  repeat (any_goals (first
    | assumption
    | with_reducible refine wpAny_loadPart_at oC ?_
    | with_reducible refine wpAny_onRaise ?_
    | with_reducible refine wpAny_map ?_
    | wp_step))
theorem kwOwn (FB : ExcBaseFacts B idN idI mrB) (hT : ∀ T : String, mr.contains (.type T) = mrB.contains (.type T)) {us : List Value} {kw : List (Str × Value)} {fI : Addr}
    (oC : hp.get? C = some (excClassObj n1 n2 C N bs mr hdc sl sub ab co dd z0 z1 z2 z3 z5 idN))
    (li : W.Looks (model prog w) hp (typeLookup (.ref C) "__init__") (some (.ref fI))) (bi : ∀ self, W.Looks (model prog w) hp (bindSpecial (.ref fI) self) (.ref fI, [self])) (lu : us.length ≤ sizeLine)
    (q : codeAny (model prog w) (A.under (.builtin "type.__call__" ⟨.ref C :: us, kw⟩)) (.call (.ref fI) ⟨.ref (hp.objs.size + 1) :: us, kw⟩) (W.InitBack (hp.objs.size + 1) R)
      ⟨(hp.push (W.kdv_tup us)).push (excO C hp.objs.size), gs, dr, tk, os⟩) :
    codeAny (model prog w) A (.call (.ref C) ⟨us, kw⟩) R ⟨hp, gs, dr, tk, os⟩ := by
  have lo := tc_lookup
  have bo := tc_bind (.ref C)
  have ty : (⟨hp, gs, dr, tk, os⟩ : Shared).TypeIs (.ref C) "type" := ⟨_, oC, rfl⟩
  refine codeAny_of_tree ?_
  show wpAny _ _ (callAny (.ref C) _) _ _ _
  repeat (any_goals (first
    | assumption
    | with_reducible refine wpAny_loadPart_at oC ?_
    | wp_step))
  refine ⟨rfl, ?_⟩
  refine codeAny_call_builtin_at (Code.quiet_builtin _ (by decide +kernel)) entry_typeCall (kwCheckT oC (kwTypeCall FB hT oC li bi lu ?_))
  refine codeAny_mono q fun r s' y => ?_
  rcases r with x | (v | _ | _ | _) <;> exact y
end
end OxK

/-! Own exceptions as values that are kept: what their class says, a store into one. -/
namespace OxK
open PySem PySem.W PySem.Calls PyProof.Rows PySem.HandSPX Builtin Builtin.ObjectAttr
/-- what the written part says of an own exception's class, whatever built-in class stands below -/
structure ExC (K : Frag) (C : Addr) : Prop where
  base : ∃ (B idN idI : String) (mrB : List Value), ExcBaseFacts B idN idI mrB ∧ StoreFacts B mrB "object.__setattr__" "object" ∧ excInitIn K C mrB idN = true ∧ excOver K C mrB = true
  hasD : hasDictIn K C = true
  sa : findIn K (.ref C) "__setattr__" = some (some (.builtin "object.__setattr__"))
  ga : findIn K (.ref C) "__getattribute__" = some (some (.builtin "BaseException.__getattribute__"))
  gg : findIn K (.ref C) "__getattr__" = some none
  exC : subIn K (.ref C) (.type "BaseException") = some true
  tyC : typeIn K (.ref C) = some (.type "type")
  kC : keepIn K (.ref C) = true
section
variable {prog : Program} {w : World} {A : Around} {E : Value → Shared → Prop} {R : Result → Shared → Prop} {hp : Heap} {gs : Array GenState} {dr : Drawn} {tk : Nat} {os : OsState} {K : Frag} {x C : Addr} {nm : Str} {t : Tok} {v : Value} {fv : Array Value}
theorem takes_none (no : findIn K (.ref C) nm = some none) : takerIn K C nm = some none := by
  unfold takerIn
  rw [no]
  rfl
theorem dict_of {cd : ClassData} (hc : clsIn K C = some cd) (T : hasDictIn K C = true) : cd.hasDict = true := by
  unfold hasDictIn at T
  rw [hc] at T
  simpa using T
/-- the first field: a dict of its own is laid -/
theorem put_first (T : ExC K C) (X : K.In hp) (ox : hp.get? x = some { cls := .ref C, data := .fields fv }) (no : findIn K (.ref C) nm = some none)
    (q : ∀ h' t' dx, (∀ b o, b ≠ x → hp.get? b = some o → h'.get? b = some o) → hp.objs.size ≤ dx → dx ≠ x → h'.get? x = some { cls := .ref C, dict := some dx, data := .fields fv } →
      h'.Ns1 dx (fun y => if y = nm then some v else none) → R (.ok (.ret .none)) ⟨h', gs, dr, t', os⟩) :
    codeAny (model prog w) A (.call (.builtin "object.__setattr__") ⟨[.ref x, .str nm t, v], []⟩) R ⟨hp, gs, dr, tk, os⟩ := by
  obtain ⟨B, idN, idI, mrB, FB, SF, hi, ho⟩ := T.base
  have I : InstAt hp x { cls := .ref C, data := .fields fv } C none := ⟨ox, rfl, rfl, trivial⟩
  refine osa_openX (s := ⟨hp, gs, dr, tk, os⟩) SF X I ho (takes_none no) fun b => ?_
  obtain ⟨cd, hc, _⟩ := any_some ho
  have hd := dict_of hc T.hasD
  have lc : W.Looks (model prog w) hp (classData C) cd := looks_clsIn X hc
  have far : x ≠ hp.objs.size := Nat.ne_of_lt (Heap.lt_size ox)
  obtain ⟨a1, a2, a3, a4, a5, hd', a6, a7, a8, a9, a10⟩ := cd
  dsimp only at hd
  subst hd
  show wpAny _ _ (storeInOwnDict (.ref x) (.ref C) (.str nm t) nm v b) _ _ _
  unfold storeInOwnDict ownDictForStores
  repeat (first
    | with_reducible refine store_in_new ?_ ?_
    | with_reducible refine wpAny_loadPart_at ox ?_
    | with_reducible refine lc.at ?_
    | wp_step)
  · exact ⟨_, #[], _, (Heap.get?_update_ne _ _ _ _ far.symm).trans (Heap.get?_push_at rfl rfl), rfl, fun e z => absurd z (by simp), fun _ => rfl⟩
  · intro h' t' hn sb
    have ox2 : (hp.push { cls := .type "dict", data := .dict #[] }).get? x = some { cls := .ref C, data := .fields fv } := Heap.get?_push_of_some _ ox
    refine q h' t' hp.objs.size (fun b' o nb z => ?_) (Nat.le_refl _) far.symm ?_ hn
    · exact (sb.2 b' (Nat.ne_of_lt (Heap.lt_size z))).trans ((Heap.get?_update_ne _ _ _ _ nb).trans (Heap.get?_push_of_some _ z))
    · exact (sb.2 x far).trans (Heap.get?_update_self _ ox2 rfl)
/-- a further field -/
theorem put_more {dx : Addr} {m0 : Str → Option Value} {nl : List Str} (T : ExC K C) (X : K.In hp) (ox : hp.get? x = some { cls := .ref C, dict := some dx, data := .fields fv }) (hn : hp.Ns1 dx m0) (wi : Within m0 nl) (few : nl.length ≤ 1000) (no : findIn K (.ref C) nm = some none)
    (q : ∀ h' t', (∀ b o, b ≠ dx → hp.get? b = some o → h'.get? b = some o) → h'.Ns1 dx (fun y => if y = nm then some v else m0 y) → R (.ok (.ret .none)) ⟨h', gs, dr, t', os⟩) :
    codeAny (model prog w) A (.call (.builtin "object.__setattr__") ⟨[.ref x, .str nm t, v], []⟩) R ⟨hp, gs, dr, tk, os⟩ := by
  obtain ⟨B, idN, idI, mrB, FB, SF, hi, ho⟩ := T.base
  obtain ⟨oD, esD, epD, gD, dD, _⟩ := hn.count wi
  have I : InstAt hp x { cls := .ref C, dict := some dx, data := .fields fv } C (some oD) := ⟨ox, rfl, rfl, gD⟩
  refine osa_openX (s := ⟨hp, gs, dr, tk, os⟩) SF X I ho (takes_none no) fun b => ?_
  obtain ⟨cd, hc, _⟩ := any_some ho
  have hd := dict_of hc T.hasD
  have lc : W.Looks (model prog w) hp (classData C) cd := looks_clsIn X hc
  obtain ⟨a1, a2, a3, a4, a5, hd', a6, a7, a8, a9, a10⟩ := cd
  dsimp only at hd
  subst hd
  show wpAny _ _ (storeInOwnDict (.ref x) (.ref C) (.str nm t) nm v b) _ _ _
  unfold storeInOwnDict ownDictForStores
  repeat (first
    | with_reducible refine PySem.OEX.store_in_old hn wi few ?_
    | with_reducible refine wpAny_loadPart_at ox ?_
    | with_reducible refine lc.at ?_
    | wp_step)
  intro h' t' hn' sb
  exact q h' t' (fun b' o nb z => (sb.2 b' nb).trans z) hn'
end
end OxK

/-! The same over the abstract heap: kept exceptions (exo, exd), their making, their fields. -/
namespace L2
open PySem PySem.Spec PyProof.Rows OxK
section
variable {X : Cx} {pins : List (Addr × Obj)} {σ : St} {H : Hp} {s : Shared} {a C dx : Addr} {f : Str} {y : V} {u : Value} {fs : List (Str × V)} {E : Value → Shared → Prop} {A : Around}
theorem xput_first {Q : Unit → Shared → Prop} (T : ExC X.K C) (I : Inv X pins σ H s) (ea : H a = some (exo a C none)) (no : PySem.W.findIn X.K (.ref C) f = some none) (ry : RelV y u)
    (q : ∀ d s', H d = none → d ≠ a → Inv X pins σ (upd (upd H d (exd d [(f, y)])) a (exo a C (some d))) s' → Q () s') :
    wpAny (model X.prog X.w) A (setAttr (.ref a) f u) Q E s := by
  obtain ⟨t1, oa⟩ := exo_at I.hok ea
  obtain ⟨hp, gs, dr, tk, os⟩ := s
  refine PySem.W.set_plain I.kIn (ox := { cls := .ref C, dict := none, data := .fields #[.ref t1, .none, .none, .none, .bool false, .none] }) (od := none) ⟨oa, rfl, rfl, trivial⟩ T.sa ?_
  refine put_first T I.kIn oa no fun h' t' d keep big nda oa' hn => ?_
  have free : H d = none := I.hok.fresh big
  have nd : ∀ {b : Addr} {o : Obj}, hp.get? b = some o → b ≠ d := fun z => Nat.ne_of_lt (Nat.lt_of_lt_of_le (Heap.lt_size z) big)
  have na : ∀ {b : Addr}, H b = none → b ≠ a := fun {b} z e => by
    rw [e, ea] at z
    cases z
  have put : ∀ {b : Addr} {o : HO}, H b = some o → exo a C none ≠ o → upd (upd H d (exd d [(f, y)])) a (exo a C (some d)) b = some o := fun {b o} z k => by
    rw [upd_ne (at_ne ea z k), upd_ne (ne_of_none z free)]
    exact z
  have Y : Un X.fs [] H (upd (upd H d (exd d [(f, y)])) a (exo a C (some d))) hp h' :=
    { keep := fun b o z n _ _ => keep b o (na n) z
      slot := fun b o z n _ _ => ⟨o.slots, keep b o (na n) z⟩
      free := fun b o z n _ => by
        rw [upd_ne (na n), upd_ne (nd z)]
        exact n
      there := fun b o z _ => by
        by_cases e : b = a
        · rw [e]
          exact ⟨_, oa'⟩
        · exact ⟨o, keep b o e z⟩
      tups := fun b xs z => put z exo_tup
      frzs := fun b o v z => put z exo_frz
      tbls := fun b ps z => ⟨#[], by
        rw [put z exo_tbl]
        simp⟩ }
  refine q d _ free nda (I.un (t' := t') Y fun b o z => ?_)
  by_cases e : b = a
  · subst e
    rw [upd_same] at z
    cases z
    exact exo_ok oa'
  · rw [upd_ne e] at z
    by_cases e2 : b = d
    · subst e2
      rw [upd_same] at z
      cases z
      exact exd_ok hn (relO_put (fs := []) ry fun _ => True.intro)
    · rw [upd_ne e2] at z
      refine (I.hok b o z).stay (fun c v hc k => keep c v ?_ k) (fun c hc => put hc exo_own) (fun c xs hc => put hc exo_tup)
      rcases hc with hc | hc
      · rw [hc]
        exact e
      · exact at_ne ea hc exo_own
theorem xput_more {Q : Unit → Shared → Prop} (T : ExC X.K C) (I : Inv X pins σ H s) (ea : H a = some (exo a C (some dx))) (ed : H dx = some (exd dx fs)) (few : fs.length ≤ 900) (no : PySem.W.findIn X.K (.ref C) f = some none) (ry : RelV y u)
    (q : ∀ s', Inv X pins σ (upd H dx (exd dx ((f, y) :: fs))) s' → Q () s') : wpAny (model X.prog X.w) A (setAttr (.ref a) f u) Q E s := by
  obtain ⟨t1, oa⟩ := exo_at I.hok ea
  obtain ⟨mA, hn, rel⟩ := exd_at I.hok ed
  have wi := within_of rel
  obtain ⟨hp, gs, dr, tk, os⟩ := s
  obtain ⟨oD, _, _, gD, _, _⟩ := hn.count wi
  refine PySem.W.set_plain I.kIn (ox := { cls := .ref C, dict := some dx, data := .fields #[.ref t1, .none, .none, .none, .bool false, .none] }) (od := some oD) ⟨oa, rfl, rfl, gD⟩ T.sa ?_
  refine put_more T I.kIn oa hn wi (by rw [List.length_map]; omega) no fun h' t' keep hn' => ?_
  have there : ∃ o, h'.get? dx = some o := by
    obtain ⟨o, _, _, z, _⟩ := hn'
    exact ⟨o, z⟩
  exact q _ (I.write (t' := t') (x := dx) (e := dx) (o := exd dx ((f, y) :: fs)) (by rw [ed]; exact True.intro) (.inl rfl) keep there (exd_ok hn' (relO_put ry rel)))
end
/-- o.f = e, o a kept exception -/
def tXst (K : PySem.W.Frag) (f : Str) (to te : TE) : TS := fun D σ H => te σ H fun y H1 => to σ H1 fun x H2 => ∃ a C : Addr, x = .ref a ∧ ExC K C ∧ PySem.W.findIn K (.ref C) f = some none ∧
  ((H2 a = some (exo a C none) ∧ ∀ d, H2 d = none → d ≠ a → D.nx σ (upd (upd H2 d (exd d [(f, y)])) a (exo a C (some d)))) ∨
    ∃ (d : Addr) (fs : List (Str × V)), H2 a = some (exo a C (some d)) ∧ H2 d = some (exd d fs) ∧ fs.length ≤ 900 ∧ D.nx σ (upd H2 d (exd d ((f, y) :: fs))))
section
variable {X : Cx} {o e : Expr} {es : List Expr} {kws : List Keyword} {to te : TE} {ta tk : TA} {f : Str} {p p' p1 p2 pos : Pos}
theorem ps_xst (ho : PE X o to) (he : PE X e te) (hs : swapsWith e (some (.Attribute o f p')) pos.line X.env = pure false := by rfl) : PS X (.Assign [.Attribute o f p'] e pos) (tXst X.K f to te) :=
  ⟨fun pins s σ H D I h => plainObj_wpAny_Assign_Attribute (thn (he.run pins s σ H _ I h) fun v s1 ⟨y, H1, I1, ry, q1⟩ =>
    thn (ho.run pins s1 σ H1 _ I1 q1) fun u s2 ⟨x, H2, I2, rx, a, C, ex, T, no, q⟩ => by
      subst ex
      cases rx
      rcases q with ⟨ea, q⟩ | ⟨d, fs, ea, ed, few, q⟩
      · exact xput_first T I2 ea no ry fun d s' free ne J => ⟨σ, _, J, q d free ne⟩
      · exact xput_more T I2 ea ed few no ry fun s' J => ⟨σ, _, J, q⟩) hs⟩
/-- o.f, o a kept exception -/
def tXg (K : PySem.W.Frag) (f : Str) (to : TE) : TE := fun σ H Q => to σ H fun x H1 => ∃ (a C d : Addr) (fs : List (Str × V)) (v : V), x = .ref a ∧ ExC K C ∧ PySem.W.findIn K (.ref C) f = some none ∧
  H1 a = some (exo a C (some d)) ∧ H1 d = some (exd d fs) ∧ fs.lookup f = some v ∧ Q v H1
theorem pe_xg (ho : PE X o to) (hb : attributeBase o f X.env (eval o X.env) = eval o X.env := by rfl) : PE X (.Attribute o f pos) (tXg X.K f to) := by
  refine ⟨fun pins s σ H Q I h => ?_⟩
  refine attr_of hb (thn (ho.run pins s σ H _ I h) fun u s1 hh => ?_)
  obtain ⟨x, H1, I1, rx, a, C, d, fs, v, ex, T, no, ea, ed, el, q⟩ := hh
  subst ex
  cases rx
  obtain ⟨t1, oa⟩ := exo_at I1.hok ea
  obtain ⟨mA, hn, rel⟩ := exd_at I1.hok ed
  obtain ⟨od, gD, lD⟩ := lookIn_ns hn
  obtain ⟨u, hu, ru⟩ := RelO.some_of (v := v) (o := mA f) (by rw [← el]; exact rel f)
  have J : PySem.W.InstAt s1.heap a _ C (some od) := ⟨oa, rfl, rfl, gD⟩
  exact HandSPX.exc_get I1.kIn J T.ga T.gg T.exC (PySem.W.findObj_own T.hasD no rfl (by rw [lD f, hu])) (handed_of ru) ⟨v, H1, I1.tok _, ru, q⟩
end
/-- how values and keywords come to the parameters: the keywords behind -/
def XB (K : PySem.W.Frag) (fd : FuncData) (ps : List Str) (n : Nat) (ks : List Str) : Prop :=
  ∀ (s : Shared) (us ws : List Value), K.In s.heap → us.length = n → ws.length = ks.length → BindsTo s fd ⟨us, ks.zip ws⟩ (ps.zip (us ++ ws))
section
variable {X : Cx} {CX : CXT} {k n : Nat} {fI C : Addr} {fd : FuncData} {ps ks : List Str} {sp : Sp} {x : Str} {p pos : Pos} {e : Expr} {es : List Expr} {kws : List Keyword} {t tk : TA}
theorem run_xnew {pins : List (Addr × Obj)} {σ : St} {H : Hp} {s : Shared} {Q : VK} {us ws : List Value} {vs zs : List V} (T : ExC X.K C) (iC : PySem.W.findIn X.K (.ref C) "__init__" = some (some (.ref fI)))
    (tI : PySem.W.typeIn X.K (.ref fI) = some (.type "function")) (F : FnOk X.prog X.w X.K X.mg X.base CX k fI fd ps sp) (hr : Room (k + 1) X.A) (hb : XB X.K fd ps (n + 1) ks) (hx : Passes CX X E0)
    (I : Inv X pins σ H s) (r : Vals vs us) (rz : Vals zs ws) (l1 : vs.length = n) (l2 : zs.length = ks.length) (l3 : n ≤ 1000)
    (h : ∀ a, H a = none → sp (.ref a :: (vs ++ zs)) (upd H a (exo a C none)) (fun v H2 => v = .non ∧ Q (.ref a) H2) E0) :
    wpAny (model X.prog X.w) X.A (call (.ref C) us (ks.zip ws)) (EP X pins σ Q) X.xe s := by
  obtain ⟨B, idN, idI, mrB, FB, SF, hi, ho⟩ := T.base
  obtain ⟨hp, gs, dr, tk', os⟩ := s
  obtain ⟨nm, N, qn, bs, bm, hdct, sn, sub, ab, col, dd, k0, k1, k2, k3, k5, oC, hT⟩ := PySem.W.excInit_of I.kIn hi
  have big : hp.objs.size ≤ hp.objs.size + 1 := Nat.le_succ _
  have free : H (hp.objs.size + 1) = none := I.hok.fresh big
  have hq := h (hp.objs.size + 1) free
  have up : ∀ b o, hp.get? b = some o → ((hp.push (PySem.W.kdv_tup us)).push (HandSPX.excO C hp.objs.size)).get? b = some o := fun b o z => Heap.get?_push_of_some _ (Heap.get?_push_of_some _ z)
  have oe : ((hp.push (PySem.W.kdv_tup us)).push (HandSPX.excO C hp.objs.size)).get? (hp.objs.size + 1) = some (HandSPX.excO C hp.objs.size) := by heap_get
  have I2 : Inv X pins σ (upd H (hp.objs.size + 1) (exo (hp.objs.size + 1) C none)) ⟨(hp.push (PySem.W.kdv_tup us)).push (HandSPX.excO C hp.objs.size), gs, dr, tk', os⟩ :=
    I.laid (t' := tk') up big (exo_ok oe)
  have r2 : Vals (V.ref (hp.objs.size + 1) :: (vs ++ zs)) ((Value.ref (hp.objs.size + 1) :: us) ++ ws) := .cons rfl (r.append rz)
  have e1 : us.length = n := r.length.symm.trans l1
  have e2 : ws.length = ks.length := rz.length.symm.trans l2
  have few : us.length ≤ sizeLine := by
    rw [e1, sizeLine_eq]
    omega
  refine wpAny_call (kwOwn FB hT oC (PySem.W.looks_findIn I.kIn iC) (fun self => PySem.W.bind_fn I.kIn self tI) few
    (codeAny_mono (F.run _ X.stack _ _ ⟨Value.ref (hp.objs.size + 1) :: us, ks.zip ws⟩ ((Value.ref (hp.objs.size + 1) :: us) ++ ws) _ _ E0 (hr.make C us (ks.zip ws)) (I2.env0.make C us (ks.zip ws))
      (hb _ (Value.ref (hp.objs.size + 1) :: us) ws I2.kIn (by rw [List.length_cons, e1]) e2) r2 hq) fun r s' hq' => ?_))
  cases r with
  | error er => exact hx pins σ _ _ er s' I2 hq'
  | ok fl =>
    cases fl with
    | ret u =>
      obtain ⟨v, H', I3, rv, ev, q3⟩ := I2.after hq'
      subst ev
      exact ⟨rv, ⟨V.ref (hp.objs.size + 1), H', I3, rfl, q3⟩⟩
    | next => exact False.elim hq'
    | brk => exact False.elim hq'
    | cont => exact False.elim hq'
/-- a kept exception is made: n values, the keywords' behind them -/
def tXnew (C : Addr) (n m : Nat) (sp : Sp) (t tk : TA) : TE := fun σ H Q => t σ H fun vs H1 => tk σ H1 fun zs H2 => vs.length = n ∧ zs.length = m ∧
  ∀ a, H2 a = none → sp (.ref a :: (vs ++ zs)) (upd H2 a (exo a C none)) (fun v H3 => v = .non ∧ Q (.ref a) H3) E0
theorem pe_x1 (T : ExC X.K C) (iC : PySem.W.findIn X.K (.ref C) "__init__" = some (some (.ref fI))) (tI : PySem.W.typeIn X.K (.ref fI) = some (.type "function")) (F : FnOk X.prog X.w X.K X.mg X.base CX k fI fd ps sp) (hr : Room (k + 1) X.A)
    (hb : XB X.K fd ps (n + 1) []) (hx : Passes CX X E0) (hg : Gl X x) (hm : X.mg x = some (.ref C)) (l3 : n ≤ 1000) (ha : PA X (e :: es) t) (hdb : (x == ("__debug__" : Str)) = false := by decide)
    (he : starEach (e :: es) X.env = (false, eval e X.env) :: starEach es X.env := by rfl) (hpl : (backTo pos (starEach es X.env)).any (·.1) = false := by rfl) :
    PE X (.Call (.Name x p) (e :: es) [] pos) (tXnew C n 0 sp t tNil) := by
  refine ⟨fun pins s σ H Q I h => wpAny_Call_Name_kw (ld_glob I hg hm ?_ hdb)⟩
  refine PySem.W.callWith_K (h₀ := X.base) I.ok.mod.kin T.kC (thn (ha.run pos pins s σ H _ I h) fun us s1 ⟨vs, H1, I1, r, l1, _, q⟩ => ⟨I1.kIn, ?_⟩) he hpl
  exact run_xnew (ks := []) (ws := []) (zs := []) T iC tI F hr hb hx I1 r .nil l1 rfl l3 q
theorem pe_x0 (T : ExC X.K C) (iC : PySem.W.findIn X.K (.ref C) "__init__" = some (some (.ref fI))) (tI : PySem.W.typeIn X.K (.ref fI) = some (.type "function")) (F : FnOk X.prog X.w X.K X.mg X.base CX k fI fd ps sp) (hr : Room (k + 1) X.A)
    (hb : XB X.K fd ps 1 []) (hx : Passes CX X E0) (hg : Gl X x) (hm : X.mg x = some (.ref C)) (hdb : (x == ("__debug__" : Str)) = false := by decide) :
    PE X (.Call (.Name x p) [] [] pos) (tXnew C 0 0 sp tNil tNil) := by
  refine ⟨fun pins s σ H Q I h => wpAny_Call_Name_kw (ld_glob I hg hm ?_ hdb)⟩
  obtain ⟨l1, l2, q⟩ := h
  exact PySem.W.callWith_K0 I.kIn T.kC (run_xnew (n := 0) (us := []) (ks := []) (ws := []) (vs := []) (zs := []) T iC tI F hr hb hx I .nil .nil l1 l2 (Nat.zero_le _) q)
theorem pe_xk (T : ExC X.K C) (iC : PySem.W.findIn X.K (.ref C) "__init__" = some (some (.ref fI))) (tI : PySem.W.typeIn X.K (.ref fI) = some (.type "function")) (F : FnOk X.prog X.w X.K X.mg X.base CX k fI fd ps sp) (hr : Room (k + 1) X.A)
    (hb : XB X.K fd ps 1 ks) (hx : Passes CX X E0) (hg : Gl X x) (hm : X.mg x = some (.ref C)) (hkw : PK X kws tk) (hall : (backToKw pos (keywordEach kws X.env)).all (·.1.isSome) = true := by rfl)
    (hks : (backToKw pos (keywordEach kws X.env)).filterMap (·.1) = ks := by rfl) (hdb : (x == ("__debug__" : Str)) = false := by decide)
    (hpl : ((backTo pos (starEach [] X.env)).any (·.1) || (backToKw pos (keywordEach kws X.env)).any (·.1.isNone)) = false := by rfl) :
    PE X (.Call (.Name x p) [] kws pos) (tXnew C 0 ks.length sp tNil tk) := by
  refine ⟨fun pins s σ H Q I h => wpAny_Call_Name_kw (ld_glob I hg hm ?_ hdb)⟩
  refine PySem.W.callWith_KW0 (h₀ := X.base) I.ok.mod.kin T.kC hall (thn (hkw.run pos pins s σ H _ I h) fun ws s1 ⟨zs, H1, I1, r, l1, l2, q⟩ => ⟨I1.kIn, ?_⟩) hpl
  rw [hks]
  exact run_xnew (n := 0) (us := []) (vs := []) T iC tI F hr hb hx I1 .nil r l1 l2 (Nat.zero_le _) q
end
/-! ### isinstance of a kept exception -/
structure IsC (K : PySem.W.Frag) (D : Addr) : Prop where
  cl : (PySem.W.clsIn K D).isSome = true
  ha : PySem.W.findIn K (.ref D) "__class__" = some (some (.builtin "object.__class__"))
  hn : PySem.W.specialIn K (.builtin "object.__class__") "__get__" = some (some (.builtin "getset_descriptor.__get__"))
  ht : PySem.W.takesIn K (.builtin "object.__class__") = some true
  hm : PySem.W.mroIn K D (.type "object") = some true
def rIsX (K : PySem.W.Frag) : List V → Hp → VK → Prop := fun xs H Q => ∃ (a D d : Addr) (fs : List (Str × V)) (c : V) (u : Value) (b : Bool), xs = [.ref a, c] ∧ ExC K D ∧ IsC K D ∧ H a = some (exo a D (some d)) ∧ H d = some (exd d fs) ∧
  ClsV c u ∧ PySem.W.kitOne K (.ref D) u = some b ∧ Q (.bl b) H
theorem call_isX {X : Cx} : CallR X (.builtin "isinstance") (rIsX X.K) := by
  intro pins s σ H xs us Q I r h
  obtain ⟨a, D, d, fs, c, u, b, rfl, T, S, ea, ed, kc, e, q⟩ := h
  obtain ⟨v1, v2, rfl, r1, r2⟩ := vals2 r
  cases r1
  have ec := kc.eq r2
  subst ec
  obtain ⟨t1, oa⟩ := exo_at I.hok ea
  obtain ⟨mA, hn, rel⟩ := exd_at I.hok ed
  obtain ⟨od, gD, lD⟩ := lookIn_ns hn
  have J : PySem.W.InstAt s.heap a _ D (some od) := ⟨oa, rfl, rfl, gD⟩
  exact PySem.W.kia_one (PySem.W.kitx_exc S.cl T.ga T.gg T.exC S.ha S.hn S.ht S.hm) I.kIn J e (fun z => nomatch z) fun tk => ⟨.bl b, H, I.tok _, rfl, q⟩
end L2

/-! copied: a flat value is itself, a tuple is laid anew -/
namespace K66
open PySem L2 Evl
abbrev sCop : Stmt := top 1
/-- None, a bool, a number, a text -/
def Flat : V → Prop
  | .non => True
  | .bl _ => True
  | .int _ => True
  | .str _ => True
  | _ => False
def tyF : V → String
  | .non => "NoneType"
  | .bl _ => "bool"
  | .int _ => "int"
  | .str _ => "str"
  | _ => ""
section
variable {K : PySem.W.Frag} {H : Hp} {v : V}
theorem flat_ty (h : Flat v) : TyX K H v (.type (tyF v)) := by
  cases v <;> first | exact h.elim | skip
  · exact .base .non
  · exact .base (.bl _)
  · exact .base (.int _)
  · exact .base (.str _)
theorem flat_kit (h : Flat v) (T : String) (b : Bool) (h1 : kitB "NoneType" T = some b) (h2 : kitB "bool" T = some b) (h3 : kitB "int" T = some b) (h4 : kitB "str" T = some b) : PySem.W.kitOne K (.type (tyF v)) (.type T) = some b :=
  match v, h with
  | .non, _ => kit_ty h1
  | .bl _, _ => kit_ty h2
  | .int _, _ => kit_ty h3
  | .str _, _ => kit_ty h4
theorem flat_list (h : Flat v) : PySem.W.kitOne K (.type (tyF v)) (.type "list") = some false := flat_kit h "list" false (by decide +kernel) (by decide +kernel) (by decide +kernel) (by decide +kernel)
theorem flat_tuple (h : Flat v) : PySem.W.kitOne K (.type (tyF v)) (.type "tuple") = some false := flat_kit h "tuple" false (by decide +kernel) (by decide +kernel) (by decide +kernel) (by decide +kernel)
theorem flat_dict (h : Flat v) : PySem.W.kitOne K (.type (tyF v)) (.type "dict") = some false := flat_kit h "dict" false (by decide +kernel) (by decide +kernel) (by decide +kernel) (by decide +kernel)
theorem tup_list : PySem.W.kitOne K (.type "tuple") (.type "list") = some false := kit_ty (by decide +kernel)
theorem tup_tuple : PySem.W.kitOne K (.type "tuple") (.type "tuple") = some true := kit_ty (by decide +kernel)
theorem lst_list : PySem.W.kitOne K (.type "list") (.type "list") = some true := kit_ty (by decide +kernel)
theorem lst_tuple : PySem.W.kitOne K (.type "list") (.type "tuple") = some false := kit_ty (by decide +kernel)
end
theorem tt_yes {σ : L2.St} {H : Hp} {A B : Hp → Prop} (h : A H) : tYes σ H fun b H3 => if b = true then A H3 else B H3 := by
  show (if true = true then A H else B H)
  rw [if_pos rfl]
  exact h
/-- copied of a flat value, of a tuple of flat ones -/
def spCpF : Sp := fun vs H Q _ => ∃ v, vs = [v] ∧ Flat v ∧ Q v H
def spCpT : Sp := fun vs H Q _ => ∃ (a : Addr) (xs : List V), vs = [.ref a] ∧ H a = some (.tup xs) ∧ (∀ x ∈ xs, Flat x) ∧ xs.length ≤ 1000 ∧ ∀ (b : Addr) (H' : Hp), H b = none → Ex H H' → H' b = some (.tup xs) → Q (.ref b) H'
section
variable {P : Program} {w : World} {K : PySem.W.Frag} {mg : Str → Option Value} {base : Heap} {f : Addr} {fd : FuncData}
structure NoB (mg : Str → Option Value) : Prop where
  isi : mg "isinstance" = none
  lst : mg "list" = none
  tup : mg "tuple" = none
theorem scC : FnScope ["value", "item", "key"] ["value"] (defScope sCop) := ⟨rfl, rfl, rfl, by decide +kernel, rfl, by decide +kernel, by decide +kernel⟩
theorem ok_cpF (F : FnP K "copied" sCop f fd) (T : NoB mg) (nd : mg "dict" = none) : FnOk P w K mg base CX0 1 f fd ["value"] spCpF := by
  refine F.ok scC (fun vs H Q E h => ?_) (fun cdv A outer s H vs Q E hr h => ?_)
  · obtain ⟨v, rfl, _⟩ := h
    rfl
  · obtain ⟨v, rfl, fl, k⟩ := h
    refine ⟨_, PSs.nox (pss_cons (ps_if (pt_val (pe_callB call_isi (by rfl) T.isi PyProof.Rows.boot_isinstance (pa_cons (pv 0) (pa_cons (pe_bltn (v := .ty "list") (by rfl) T.lst PyProof.Rows.boot_list rfl) pa_nil)))) (pss_one ps_never) pss_nil)
      (pss_cons (ps_if (pt_val (pe_callB call_isi (by rfl) T.isi PyProof.Rows.boot_isinstance (pa_cons (pv 0) (pa_cons (pe_bltn (v := .ty "tuple") (by rfl) T.tup PyProof.Rows.boot_tuple rfl) pa_nil)))) (pss_one ps_never) pss_nil)
      (pss_cons (ps_if (pt_val (pe_callB call_isi (by rfl) T.isi PyProof.Rows.boot_isinstance (pa_cons (pv 0) (pa_cons (pe_bltn (v := .ty "dict") (by rfl) nd (by decide +kernel) rfl) pa_nil)))) (pss_one ps_never) pss_nil)
      (pss_one (ps_ret (pv 0)))))), ?_⟩
    refine ⟨_, rfl, v, .ty "list", _, _, false, rfl, .ty "list", flat_ty fl, flat_list fl, false, rfl, iteF ?_⟩
    refine ⟨_, rfl, v, .ty "tuple", _, _, false, rfl, .ty "tuple", flat_ty fl, flat_tuple fl, false, rfl, iteF ?_⟩
    refine ⟨_, rfl, v, .ty "dict", _, _, false, rfl, .ty "dict", flat_ty fl, flat_dict fl, false, rfl, iteF ?_⟩
    exact ⟨_, rfl, k⟩
theorem ok_cpT (F : FnP K "copied" sCop f fd) (T : NoB mg) (nd : mg "dict" = none) (gC : mg "copied" = some (.ref f)) : FnOk P w K mg base CX0 2 f fd ["value"] spCpT := by
  have G1 : FnOk P w K mg base CX0 1 f fd ["value"] spCpF := ok_cpF F T nd
  have b1 : Binds K fd ["value"] [] := F.bindsN fun _ _ _ _ _ _ us hl => match us, hl with | [_], _ => rfl
  refine F.ok scC (fun vs H Q E h => ?_) (fun cdv A outer s H vs Q E hr h => ?_)
  · obtain ⟨a, xs, rfl, _⟩ := h
    rfl
  · obtain ⟨a, xs, rfl, ha, fl, few, k⟩ := h
    refine ⟨_, PSs.nox (pss_cons (ps_if (pt_val (pe_callB call_isi (by rfl) T.isi PyProof.Rows.boot_isinstance (pa_cons (pv 0) (pa_cons (pe_bltn (v := .ty "list") (by rfl) T.lst PyProof.Rows.boot_list rfl) pa_nil)))) (pss_one ps_never) pss_nil)
      (pss_cons (ps_if (pt_val (pe_callB call_isi (by rfl) T.isi PyProof.Rows.boot_isinstance (pa_cons (pv 0) (pa_cons (pe_bltn (v := .ty "tuple") (by rfl) T.tup PyProof.Rows.boot_tuple rfl) pa_nil))))
        (pss_one (ps_ret (pe_callTy call_tuple_of (by rfl) T.tup PyProof.Rows.boot_tuple (pa_cons (pe_lc (own := [("item", 1)]) (g := gName 1) (by rfl) scC.nd (pi_tup (pv 0)) (blkOk_by (own := [("item", 1)]) (N := ["value", "item", "key"]) (sc := defScope sCop) (by decide +kernel))
          (fun _ _ _ _ _ => pg_name (i := 1) scC.nd rfl (Or.inl rfl)) (fun _ _ _ _ _ => pts_nil)
          (fun _ _ _ _ _ => pe_call G1 (hr.mono (by decide)) rfl gC F.kp b1 .nil pass0 (pa_cons (pv 1) pa_nil))) pa_nil)))) pss_nil)
      (pss_cons ps_never (pss_one ps_never)))), ?_⟩
    refine ⟨_, rfl, .ref a, .ty "list", _, _, false, rfl, .ty "list", .base (.tup ha), tup_list, false, rfl, iteF ?_⟩
    refine ⟨_, rfl, .ref a, .ty "tuple", _, _, true, rfl, .ty "tuple", .base (.tup ha), tup_tuple, true, rfl, iteT ?_⟩
    refine ⟨_, rfl, a, rfl, ⟨_, SqT.of ha⟩, fun D hD => lc_tup (K := K) (a := a) (xs := xs) (fun i H' => H' = upd H D (.lst (xs.take i))) rfl ?_ ?_ ?_⟩
    · rintro i H' hi rfl
      exact SqT.of (by rw [upd_ne (ne_of_none ha hD)]; exact ha)
    · rintro i x H' hx rfl
      have fx : Flat x := fl x (List.mem_of_getElem? hx)
      have hi : i < xs.length := (List.getElem?_eq_some_iff.mp hx).1
      refine ⟨rfl, ?_⟩
      refine tt_yes ?_
      refine ⟨_, rfl, x, rfl, fx, xs.take i, upd_same, small1000 (by rw [List.length_take]; omega), ?_⟩
      have e : xs.take (i + 1) = xs.take i ++ [x] := by
        rw [List.take_add_one, hx]
        rfl
      funext c
      rw [e]
      by_cases hc : c = D
      · rw [hc, upd_same, upd_same]
      · rw [upd_ne hc, upd_ne hc, upd_ne hc]
    · rintro H' rfl
      rw [List.take_length]
      refine ⟨D, xs, rfl, .inl ⟨SqL.of upd_same, fun b hb => ?_⟩⟩
      exact k b _ (fresh_back (Ex.new hD) hb) ((Ex.new hD).trans (Ex.new hb)) upd_same
end
end K66

/-! The errors' __init__: a tag, and a copy of what is given -/
namespace K66
open PySem L2 Evl OxK
/-- what may be given -/
def Arg (H : Hp) (v : V) : Prop := Flat v ∨ ∃ (t : Addr) (xs : List V), v = .ref t ∧ H t = some (.tup xs) ∧ (∀ x ∈ xs, Flat x) ∧ xs.length ≤ 1000
/-- v and what copied makes of it -/
def Twin (H : Hp) (v v' : V) : Prop := (Flat v ∧ v' = v) ∨ ∃ (t t' : Addr) (xs : List V), v = .ref t ∧ v' = .ref t' ∧ H t = some (.tup xs) ∧ H t' = some (.tup xs) ∧ (∀ x ∈ xs, Flat x) ∧ xs.length ≤ 1000
theorem Arg.ex {H H' : Hp} {v : V} (h : Arg H v) (e : Ex H H') : Arg H' v := by
  rcases h with h | ⟨t, xs, r, ht, hx, hl⟩
  · exact .inl h
  · exact .inr ⟨t, xs, r, e _ _ ht, hx, hl⟩
theorem Twin.ex {H H' : Hp} {v v' : V} (h : Twin H v v') (e : Ex H H') : Twin H' v v' := by
  rcases h with h | ⟨t, t', xs, r, r', ht, ht', hx, hl⟩
  · exact .inl h
  · exact .inr ⟨t, t', xs, r, r', e _ _ ht, e _ _ ht', hx, hl⟩
/-- an exception of the class at C with these fields, kept at a -/
def Mde (H : Hp) (a C : Addr) (fs : List (Str × V)) : Prop := ∃ d, H a = some (exo a C (some d)) ∧ H d = some (exd d fs)
theorem Mde.ex {H H' : Hp} {a C : Addr} {fs : List (Str × V)} (h : Mde H a C fs) (e : Ex H H') : Mde H' a C fs := by
  obtain ⟨d, h1, h2⟩ := h
  exact ⟨d, e _ _ h1, e _ _ h2⟩
def spCp : Sp := fun vs H Q E => spCpF vs H Q E ∨ spCpT vs H Q E
def spI (C : Addr) (cn pn : Str) : Sp := fun vs H Q _ => ∃ (a : Addr) (v : V) (H0 : Hp), vs = [.ref a, v] ∧ H0 a = none ∧ H = upd H0 a (exo a C none) ∧ Arg H0 v ∧
  ∀ (v' : V) (H' : Hp), Ex H0 H' → Twin H' v v' → Mde H' a C [(pn, v'), ("tag", .str cn)] → Q .non H'
def spI0 (C : Addr) (cn : Str) : Sp := fun vs H Q _ => ∃ (a : Addr) (H0 : Hp), vs = [.ref a] ∧ H0 a = none ∧ H = upd H0 a (exo a C none) ∧
  ∀ (H' : Hp), Ex H0 H' → Mde H' a C [("tag", .str cn)] → Q .non H'
section
variable {P : Program} {w : World} {K : PySem.W.Frag} {mg : Str → Option Value} {base : Heap} {f C : Addr} {fd : FuncData}
theorem ok_cp (F : FnP K "copied" sCop f fd) (T : NoB mg) (nd : mg "dict" = none) (gC : mg "copied" = some (.ref f)) : FnOk P w K mg base CX0 2 f fd ["value"] spCp := by
  have F1 : FnOk P w K mg base CX0 2 f fd ["value"] spCpF := (ok_cpF F T nd).mono (by decide)
  have F2 : FnOk P w K mg base CX0 2 f fd ["value"] spCpT := ok_cpT F T nd gC
  exact ⟨fun vs H Q E h => h.elim (F1.len vs H Q E) (F2.len vs H Q E), fun A outer s H args us vs Q E hr he hb hv h =>
    h.elim (F1.run A outer s H args us vs Q E hr he hb hv) (F2.run A outer s H args us vs Q E hr he hb hv)⟩
def t_init (K : PySem.W.Frag) (cn pn : Str) : TS := tSeq (tXst K "tag" (tVar 0) (tC (.str cn))) (tXst K pn (tVar 0) (tCall spCp [] E0 (tCons (tVar 1) tNil)))
theorem fresh_put {H : Hp} {a : Addr} {o : HO} (h : H a = none) : Ex H (upd H a o) := Ex.new h
theorem pure_init (cn pn : Str) (T : ExC K C) (nT : PySem.W.findIn K (.ref C) "tag" = some none) (nP : PySem.W.findIn K (.ref C) pn = some none) {vs : List V} {H : Hp} {Q : VK} {E : XK} (h : spI C cn pn vs H Q E) :
    t_init K cn pn { nx := fun _ H' => Q .non H', rt := Q } (L2.start ["self", pn] vs) H := by
  obtain ⟨a, v, H0, rfl, ha, rfl, hv, k⟩ := h
  refine ⟨_, rfl, a, C, rfl, T, nT, .inl ⟨upd_same, fun d hd nda => ?_⟩⟩
  have nd0 : H0 d = none := by rw [upd_ne nda] at hd; exact hd
  have e1 : Ex H0 (upd (upd (upd H0 a (exo a C none)) d (exd d [("tag", .str cn)])) a (exo a C (some d))) := fun b o z => by
    have nb : b ≠ a := ne_of_none z ha
    rw [upd_ne nb, upd_ne (ne_of_none z nd0), upd_ne nb]
    exact z
  have ed1 : (upd (upd (upd H0 a (exo a C none)) d (exd d [("tag", .str cn)])) a (exo a C (some d))) d = some (exd d [("tag", .str cn)]) := by rw [upd_ne nda, upd_same]
  refine ⟨_, rfl, ?_⟩
  have fin : ∀ (v' : V) (H1 : Hp), Ex (upd (upd (upd H0 a (exo a C none)) d (exd d [("tag", .str cn)])) a (exo a C (some d))) H1 → Twin H1 v v' →
      tVar 0 (L2.start ["self", pn] [V.ref a, v]) H1 (fun x H2 => ∃ a C : Addr, x = .ref a ∧ ExC K C ∧ PySem.W.findIn K (.ref C) pn = some none ∧
        ((H2 a = some (exo a C none) ∧ ∀ d, H2 d = none → d ≠ a → Q .non (upd (upd H2 d (exd d [(pn, v')])) a (exo a C (some d)))) ∨
          ∃ (d : Addr) (fs : List (Str × V)), H2 a = some (exo a C (some d)) ∧ H2 d = some (exd d fs) ∧ fs.length ≤ 900 ∧ Q .non (upd H2 d (exd d ((pn, v') :: fs))))) := by
    intro v' H1 x1 tw
    have x0 := e1.trans x1
    have hd1 := x1 d _ ed1
    refine ⟨_, rfl, a, C, rfl, T, nP, .inr ⟨d, [("tag", .str cn)], x1 _ _ upd_same, hd1, (by show 1 ≤ 900; decide), ?_⟩⟩
    refine k v' _ (Ex.mut x0 nd0) ?_ ⟨d, by rw [upd_ne nda.symm]; exact x1 _ _ upd_same, upd_same⟩
    rcases tw with tw | ⟨t, t', xs, r, r', ht, ht', hx, hl⟩
    · exact .inl tw
    · exact .inr ⟨t, t', xs, r, r', by rw [upd_ne (at_ne hd1 ht exd_tup)]; exact ht, by rw [upd_ne (at_ne hd1 ht' exd_tup)]; exact ht', hx, hl⟩
  rcases hv with hv | ⟨t, xs, rfl, ht, hx, hl⟩
  · exact .inl ⟨v, rfl, hv, fin v _ (Ex.refl _) (.inl ⟨hv, rfl⟩)⟩
  · exact .inr ⟨t, xs, rfl, e1 _ _ ht, hx, hl, fun b H' hb ex hb' => fin (.ref b) H' ex (.inr ⟨t, b, xs, rfl, rfl, ex _ _ (e1 _ _ ht), hb', hx, hl⟩)⟩
theorem pure_init0 (cn : Str) (T : ExC K C) (nT : PySem.W.findIn K (.ref C) "tag" = some none) {vs : List V} {H : Hp} {Q : VK} {E : XK} (h : spI0 C cn vs H Q E) :
    tXst K "tag" (tVar 0) (tC (.str cn)) { nx := fun _ H' => Q .non H', rt := Q } (L2.start ["self"] vs) H := by
  obtain ⟨a, H0, rfl, ha, rfl, k⟩ := h
  refine ⟨_, rfl, a, C, rfl, T, nT, .inl ⟨upd_same, fun d hd nda => ?_⟩⟩
  have nd0 : H0 d = none := by rw [upd_ne nda] at hd; exact hd
  refine k _ (fun b o z => ?_) ⟨d, upd_same, by rw [upd_ne nda, upd_same]⟩
  have nb : b ≠ a := ne_of_none z ha
  rw [upd_ne nb, upd_ne (ne_of_none z nd0), upd_ne nb]
  exact z
end
end K66

namespace K66
open PySem L2 Evl OxK
section
variable {P : Program} {w : World} {K : PySem.W.Frag} {mg : Str → Option Value} {base : Heap} {f fC C : Addr} {fd fdC : FuncData}
theorem dfl_nil {K : PySem.W.Frag} {dV : Value} (h : DflV K dV []) : dV = .none := by
  rcases h with ⟨_, e⟩ | ⟨e, _⟩
  · exact e
  · exact absurd rfl e
abbrev sInvalidAlphabet : Stmt := inClass (top 5) 0
theorem scInvalidAlphabet : FnScope ["self"] ["self"] (defScope sInvalidAlphabet) := ⟨rfl, rfl, rfl, by decide +kernel, rfl, by decide +kernel, by decide +kernel⟩
theorem okInvalidAlphabet (F : FunD K "__init__" "InvalidAlphabet.__init__" (defArgs sInvalidAlphabet) (defBody sInvalidAlphabet) (defScope sInvalidAlphabet) [] [] f fd) (T : ExC K C) (nT : PySem.W.findIn K (.ref C) "tag" = some none) : FnOk P w K mg base CX0 3 f fd ["self"] (spI0 C "InvalidAlphabet") := by
  refine (F.ok (k := 0) scInvalidAlphabet (fun vs H Q E h => ?_) (fun cdv A outer s H vs Q E hr h => ⟨_, PSs.nox (pss_one (ps_xst (pv 0) pe_str)), pure_init0 "InvalidAlphabet" T nT h⟩)).mono (by decide)
  obtain ⟨a, H0, rfl, _⟩ := h
  rfl
theorem xbInvalidAlphabet (F : FunD K "__init__" "InvalidAlphabet.__init__" (defArgs sInvalidAlphabet) (defBody sInvalidAlphabet) (defScope sInvalidAlphabet) [] [] f fd) : XB K fd ["self"] 1 [] := by
  obtain ⟨oc, od, dV, kV, doc, pm, an, cdv, ct, osl, rfl, lk, hcd, hD, hK⟩ := F.ex
  obtain rfl := dfl_nil hD
  exact fun s us ws _ h1 h2 => match us, ws, h1, h2 with | [_], [], _, _ => .of_eq rfl
abbrev sInvalidStates : Stmt := inClass (top 6) 0
theorem scInvalidStates : FnScope ["self", "given"] ["self", "given"] (defScope sInvalidStates) := ⟨rfl, rfl, rfl, by decide +kernel, rfl, by decide +kernel, by decide +kernel⟩
theorem okInvalidStates (F : FunD K "__init__" "InvalidStates.__init__" (defArgs sInvalidStates) (defBody sInvalidStates) (defScope sInvalidStates) [] [] f fd) (T : ExC K C) (nT : PySem.W.findIn K (.ref C) "tag" = some none) (nP : PySem.W.findIn K (.ref C) "given" = some none)
    (GC : FnOk P w K mg base CX0 2 fC fdC ["value"] spCp) (gC : mg "copied" = some (.ref fC)) (kC : PySem.W.keepIn K (.ref fC) = true) (bC : Binds K fdC ["value"] []) : FnOk P w K mg base CX0 3 f fd ["self", "given"] (spI C "InvalidStates" "given") := by
  refine F.ok scInvalidStates (fun vs H Q E h => ?_) (fun cdv A outer s H vs Q E hr h => ⟨t_init K "InvalidStates" "given", PSs.nox (pss_cons (ps_xst (pv 0) pe_str) (pss_one (ps_xst (pv 0) (pe_call GC hr rfl gC kC bC .nil pass0 (pa_cons (pv 1) pa_nil))))), pure_init "InvalidStates" "given" T nT nP h⟩)
  obtain ⟨a, v, H0, rfl, _⟩ := h
  rfl
theorem xbInvalidStates (F : FunD K "__init__" "InvalidStates.__init__" (defArgs sInvalidStates) (defBody sInvalidStates) (defScope sInvalidStates) [] [] f fd) : XB K fd ["self", "given"] 2 [] ∧ XB K fd ["self", "given"] 1 ["given"] := by
  obtain ⟨oc, od, dV, kV, doc, pm, an, cdv, ct, osl, rfl, lk, hcd, hD, hK⟩ := F.ex
  obtain rfl := dfl_nil hD
  exact ⟨fun s us ws _ h1 h2 => match us, ws, h1, h2 with | [_, _], [], _, _ => .of_eq rfl, fun s us ws _ h1 h2 => match us, ws, h1, h2 with | [_], [_], _, _ => .of_eq rfl⟩
abbrev sInvalidMove : Stmt := inClass (top 7) 0
theorem scInvalidMove : FnScope ["self", "index"] ["self", "index"] (defScope sInvalidMove) := ⟨rfl, rfl, rfl, by decide +kernel, rfl, by decide +kernel, by decide +kernel⟩
theorem okInvalidMove (F : FunD K "__init__" "InvalidMove.__init__" (defArgs sInvalidMove) (defBody sInvalidMove) (defScope sInvalidMove) [] [] f fd) (T : ExC K C) (nT : PySem.W.findIn K (.ref C) "tag" = some none) (nP : PySem.W.findIn K (.ref C) "index" = some none)
    (GC : FnOk P w K mg base CX0 2 fC fdC ["value"] spCp) (gC : mg "copied" = some (.ref fC)) (kC : PySem.W.keepIn K (.ref fC) = true) (bC : Binds K fdC ["value"] []) : FnOk P w K mg base CX0 3 f fd ["self", "index"] (spI C "InvalidMove" "index") := by
  refine F.ok scInvalidMove (fun vs H Q E h => ?_) (fun cdv A outer s H vs Q E hr h => ⟨t_init K "InvalidMove" "index", PSs.nox (pss_cons (ps_xst (pv 0) pe_str) (pss_one (ps_xst (pv 0) (pe_call GC hr rfl gC kC bC .nil pass0 (pa_cons (pv 1) pa_nil))))), pure_init "InvalidMove" "index" T nT nP h⟩)
  obtain ⟨a, v, H0, rfl, _⟩ := h
  rfl
theorem xbInvalidMove (F : FunD K "__init__" "InvalidMove.__init__" (defArgs sInvalidMove) (defBody sInvalidMove) (defScope sInvalidMove) [] [] f fd) : XB K fd ["self", "index"] 2 [] ∧ XB K fd ["self", "index"] 1 ["index"] := by
  obtain ⟨oc, od, dV, kV, doc, pm, an, cdv, ct, osl, rfl, lk, hcd, hD, hK⟩ := F.ex
  obtain rfl := dfl_nil hD
  exact ⟨fun s us ws _ h1 h2 => match us, ws, h1, h2 with | [_, _], [], _, _ => .of_eq rfl, fun s us ws _ h1 h2 => match us, ws, h1, h2 with | [_], [_], _, _ => .of_eq rfl⟩
abbrev sInvalidState : Stmt := inClass (top 8) 0
theorem scInvalidState : FnScope ["self", "given"] ["self", "given"] (defScope sInvalidState) := ⟨rfl, rfl, rfl, by decide +kernel, rfl, by decide +kernel, by decide +kernel⟩
theorem okInvalidState (F : FunD K "__init__" "InvalidState.__init__" (defArgs sInvalidState) (defBody sInvalidState) (defScope sInvalidState) [] [] f fd) (T : ExC K C) (nT : PySem.W.findIn K (.ref C) "tag" = some none) (nP : PySem.W.findIn K (.ref C) "given" = some none)
    (GC : FnOk P w K mg base CX0 2 fC fdC ["value"] spCp) (gC : mg "copied" = some (.ref fC)) (kC : PySem.W.keepIn K (.ref fC) = true) (bC : Binds K fdC ["value"] []) : FnOk P w K mg base CX0 3 f fd ["self", "given"] (spI C "InvalidState" "given") := by
  refine F.ok scInvalidState (fun vs H Q E h => ?_) (fun cdv A outer s H vs Q E hr h => ⟨t_init K "InvalidState" "given", PSs.nox (pss_cons (ps_xst (pv 0) pe_str) (pss_one (ps_xst (pv 0) (pe_call GC hr rfl gC kC bC .nil pass0 (pa_cons (pv 1) pa_nil))))), pure_init "InvalidState" "given" T nT nP h⟩)
  obtain ⟨a, v, H0, rfl, _⟩ := h
  rfl
theorem xbInvalidState (F : FunD K "__init__" "InvalidState.__init__" (defArgs sInvalidState) (defBody sInvalidState) (defScope sInvalidState) [] [] f fd) : XB K fd ["self", "given"] 2 [] ∧ XB K fd ["self", "given"] 1 ["given"] := by
  obtain ⟨oc, od, dV, kV, doc, pm, an, cdv, ct, osl, rfl, lk, hcd, hD, hK⟩ := F.ex
  obtain rfl := dfl_nil hD
  exact ⟨fun s us ws _ h1 h2 => match us, ws, h1, h2 with | [_, _], [], _, _ => .of_eq rfl, fun s us ws _ h1 h2 => match us, ws, h1, h2 with | [_], [_], _, _ => .of_eq rfl⟩
abbrev sInvalidWord : Stmt := inClass (top 9) 0
theorem scInvalidWord : FnScope ["self", "given"] ["self", "given"] (defScope sInvalidWord) := ⟨rfl, rfl, rfl, by decide +kernel, rfl, by decide +kernel, by decide +kernel⟩
theorem okInvalidWord (F : FunD K "__init__" "InvalidWord.__init__" (defArgs sInvalidWord) (defBody sInvalidWord) (defScope sInvalidWord) [] [] f fd) (T : ExC K C) (nT : PySem.W.findIn K (.ref C) "tag" = some none) (nP : PySem.W.findIn K (.ref C) "given" = some none)
    (GC : FnOk P w K mg base CX0 2 fC fdC ["value"] spCp) (gC : mg "copied" = some (.ref fC)) (kC : PySem.W.keepIn K (.ref fC) = true) (bC : Binds K fdC ["value"] []) : FnOk P w K mg base CX0 3 f fd ["self", "given"] (spI C "InvalidWord" "given") := by
  refine F.ok scInvalidWord (fun vs H Q E h => ?_) (fun cdv A outer s H vs Q E hr h => ⟨t_init K "InvalidWord" "given", PSs.nox (pss_cons (ps_xst (pv 0) pe_str) (pss_one (ps_xst (pv 0) (pe_call GC hr rfl gC kC bC .nil pass0 (pa_cons (pv 1) pa_nil))))), pure_init "InvalidWord" "given" T nT nP h⟩)
  obtain ⟨a, v, H0, rfl, _⟩ := h
  rfl
theorem xbInvalidWord (F : FunD K "__init__" "InvalidWord.__init__" (defArgs sInvalidWord) (defBody sInvalidWord) (defScope sInvalidWord) [] [] f fd) : XB K fd ["self", "given"] 2 [] ∧ XB K fd ["self", "given"] 1 ["given"] := by
  obtain ⟨oc, od, dV, kV, doc, pm, an, cdv, ct, osl, rfl, lk, hcd, hD, hK⟩ := F.ex
  obtain rfl := dfl_nil hD
  exact ⟨fun s us ws _ h1 h2 => match us, ws, h1, h2 with | [_, _], [], _, _ => .of_eq rfl, fun s us ws _ h1 h2 => match us, ws, h1, h2 with | [_], [_], _, _ => .of_eq rfl⟩
abbrev sInvalidCount : Stmt := inClass (top 10) 0
theorem scInvalidCount : FnScope ["self", "given"] ["self", "given"] (defScope sInvalidCount) := ⟨rfl, rfl, rfl, by decide +kernel, rfl, by decide +kernel, by decide +kernel⟩
theorem okInvalidCount (F : FunD K "__init__" "InvalidCount.__init__" (defArgs sInvalidCount) (defBody sInvalidCount) (defScope sInvalidCount) [] [] f fd) (T : ExC K C) (nT : PySem.W.findIn K (.ref C) "tag" = some none) (nP : PySem.W.findIn K (.ref C) "given" = some none)
    (GC : FnOk P w K mg base CX0 2 fC fdC ["value"] spCp) (gC : mg "copied" = some (.ref fC)) (kC : PySem.W.keepIn K (.ref fC) = true) (bC : Binds K fdC ["value"] []) : FnOk P w K mg base CX0 3 f fd ["self", "given"] (spI C "InvalidCount" "given") := by
  refine F.ok scInvalidCount (fun vs H Q E h => ?_) (fun cdv A outer s H vs Q E hr h => ⟨t_init K "InvalidCount" "given", PSs.nox (pss_cons (ps_xst (pv 0) pe_str) (pss_one (ps_xst (pv 0) (pe_call GC hr rfl gC kC bC .nil pass0 (pa_cons (pv 1) pa_nil))))), pure_init "InvalidCount" "given" T nT nP h⟩)
  obtain ⟨a, v, H0, rfl, _⟩ := h
  rfl
theorem xbInvalidCount (F : FunD K "__init__" "InvalidCount.__init__" (defArgs sInvalidCount) (defBody sInvalidCount) (defScope sInvalidCount) [] [] f fd) : XB K fd ["self", "given"] 2 [] ∧ XB K fd ["self", "given"] 1 ["given"] := by
  obtain ⟨oc, od, dV, kV, doc, pm, an, cdv, ct, osl, rfl, lk, hcd, hD, hK⟩ := F.ex
  obtain rfl := dfl_nil hD
  exact ⟨fun s us ws _ h1 h2 => match us, ws, h1, h2 with | [_, _], [], _, _ => .of_eq rfl, fun s us ws _ h1 h2 => match us, ws, h1, h2 with | [_], [_], _, _ => .of_eq rfl⟩
abbrev sInvalidIndex : Stmt := inClass (top 11) 0
theorem scInvalidIndex : FnScope ["self", "given"] ["self", "given"] (defScope sInvalidIndex) := ⟨rfl, rfl, rfl, by decide +kernel, rfl, by decide +kernel, by decide +kernel⟩
theorem okInvalidIndex (F : FunD K "__init__" "InvalidIndex.__init__" (defArgs sInvalidIndex) (defBody sInvalidIndex) (defScope sInvalidIndex) [] [] f fd) (T : ExC K C) (nT : PySem.W.findIn K (.ref C) "tag" = some none) (nP : PySem.W.findIn K (.ref C) "given" = some none)
    (GC : FnOk P w K mg base CX0 2 fC fdC ["value"] spCp) (gC : mg "copied" = some (.ref fC)) (kC : PySem.W.keepIn K (.ref fC) = true) (bC : Binds K fdC ["value"] []) : FnOk P w K mg base CX0 3 f fd ["self", "given"] (spI C "InvalidIndex" "given") := by
  refine F.ok scInvalidIndex (fun vs H Q E h => ?_) (fun cdv A outer s H vs Q E hr h => ⟨t_init K "InvalidIndex" "given", PSs.nox (pss_cons (ps_xst (pv 0) pe_str) (pss_one (ps_xst (pv 0) (pe_call GC hr rfl gC kC bC .nil pass0 (pa_cons (pv 1) pa_nil))))), pure_init "InvalidIndex" "given" T nT nP h⟩)
  obtain ⟨a, v, H0, rfl, _⟩ := h
  rfl
theorem xbInvalidIndex (F : FunD K "__init__" "InvalidIndex.__init__" (defArgs sInvalidIndex) (defBody sInvalidIndex) (defScope sInvalidIndex) [] [] f fd) : XB K fd ["self", "given"] 2 [] ∧ XB K fd ["self", "given"] 1 ["given"] := by
  obtain ⟨oc, od, dV, kV, doc, pm, an, cdv, ct, osl, rfl, lk, hcd, hD, hK⟩ := F.ex
  obtain rfl := dfl_nil hD
  exact ⟨fun s us ws _ h1 h2 => match us, ws, h1, h2 with | [_, _], [], _, _ => .of_eq rfl, fun s us ws _ h1 h2 => match us, ws, h1, h2 with | [_], [_], _, _ => .of_eq rfl⟩
abbrev sInvalidGroup : Stmt := inClass (top 12) 0
theorem scInvalidGroup : FnScope ["self"] ["self"] (defScope sInvalidGroup) := ⟨rfl, rfl, rfl, by decide +kernel, rfl, by decide +kernel, by decide +kernel⟩
theorem okInvalidGroup (F : FunD K "__init__" "InvalidGroup.__init__" (defArgs sInvalidGroup) (defBody sInvalidGroup) (defScope sInvalidGroup) [] [] f fd) (T : ExC K C) (nT : PySem.W.findIn K (.ref C) "tag" = some none) : FnOk P w K mg base CX0 3 f fd ["self"] (spI0 C "InvalidGroup") := by
  refine (F.ok (k := 0) scInvalidGroup (fun vs H Q E h => ?_) (fun cdv A outer s H vs Q E hr h => ⟨_, PSs.nox (pss_one (ps_xst (pv 0) pe_str)), pure_init0 "InvalidGroup" T nT h⟩)).mono (by decide)
  obtain ⟨a, H0, rfl, _⟩ := h
  rfl
theorem xbInvalidGroup (F : FunD K "__init__" "InvalidGroup.__init__" (defArgs sInvalidGroup) (defBody sInvalidGroup) (defScope sInvalidGroup) [] [] f fd) : XB K fd ["self"] 1 [] := by
  obtain ⟨oc, od, dV, kV, doc, pm, an, cdv, ct, osl, rfl, lk, hcd, hD, hK⟩ := F.ex
  obtain rfl := dfl_nil hD
  exact fun s us ws _ h1 h2 => match us, ws, h1, h2 with | [_], [], _, _ => .of_eq rfl
abbrev sInvalidReport : Stmt := inClass (top 13) 0
theorem scInvalidReport : FnScope ["self"] ["self"] (defScope sInvalidReport) := ⟨rfl, rfl, rfl, by decide +kernel, rfl, by decide +kernel, by decide +kernel⟩
theorem okInvalidReport (F : FunD K "__init__" "InvalidReport.__init__" (defArgs sInvalidReport) (defBody sInvalidReport) (defScope sInvalidReport) [] [] f fd) (T : ExC K C) (nT : PySem.W.findIn K (.ref C) "tag" = some none) : FnOk P w K mg base CX0 3 f fd ["self"] (spI0 C "InvalidReport") := by
  refine (F.ok (k := 0) scInvalidReport (fun vs H Q E h => ?_) (fun cdv A outer s H vs Q E hr h => ⟨_, PSs.nox (pss_one (ps_xst (pv 0) pe_str)), pure_init0 "InvalidReport" T nT h⟩)).mono (by decide)
  obtain ⟨a, H0, rfl, _⟩ := h
  rfl
theorem xbInvalidReport (F : FunD K "__init__" "InvalidReport.__init__" (defArgs sInvalidReport) (defBody sInvalidReport) (defScope sInvalidReport) [] [] f fd) : XB K fd ["self"] 1 [] := by
  obtain ⟨oc, od, dV, kV, doc, pm, an, cdv, ct, osl, rfl, lk, hcd, hD, hK⟩ := F.ex
  obtain rfl := dfl_nil hD
  exact fun s us ws _ h1 h2 => match us, ws, h1, h2 with | [_], [], _, _ => .of_eq rfl
abbrev sInvalidPartition : Stmt := inClass (top 14) 0
theorem scInvalidPartition : FnScope ["self"] ["self"] (defScope sInvalidPartition) := ⟨rfl, rfl, rfl, by decide +kernel, rfl, by decide +kernel, by decide +kernel⟩
theorem okInvalidPartition (F : FunD K "__init__" "InvalidPartition.__init__" (defArgs sInvalidPartition) (defBody sInvalidPartition) (defScope sInvalidPartition) [] [] f fd) (T : ExC K C) (nT : PySem.W.findIn K (.ref C) "tag" = some none) : FnOk P w K mg base CX0 3 f fd ["self"] (spI0 C "InvalidPartition") := by
  refine (F.ok (k := 0) scInvalidPartition (fun vs H Q E h => ?_) (fun cdv A outer s H vs Q E hr h => ⟨_, PSs.nox (pss_one (ps_xst (pv 0) pe_str)), pure_init0 "InvalidPartition" T nT h⟩)).mono (by decide)
  obtain ⟨a, H0, rfl, _⟩ := h
  rfl
theorem xbInvalidPartition (F : FunD K "__init__" "InvalidPartition.__init__" (defArgs sInvalidPartition) (defBody sInvalidPartition) (defScope sInvalidPartition) [] [] f fd) : XB K fd ["self"] 1 [] := by
  obtain ⟨oc, od, dV, kV, doc, pm, an, cdv, ct, osl, rfl, lk, hcd, hD, hK⟩ := F.ex
  obtain rfl := dfl_nil hD
  exact fun s us ws _ h1 h2 => match us, ws, h1, h2 with | [_], [], _, _ => .of_eq rfl
abbrev sInvalidPairs : Stmt := inClass (top 15) 0
theorem scInvalidPairs : FnScope ["self"] ["self"] (defScope sInvalidPairs) := ⟨rfl, rfl, rfl, by decide +kernel, rfl, by decide +kernel, by decide +kernel⟩
theorem okInvalidPairs (F : FunD K "__init__" "InvalidPairs.__init__" (defArgs sInvalidPairs) (defBody sInvalidPairs) (defScope sInvalidPairs) [] [] f fd) (T : ExC K C) (nT : PySem.W.findIn K (.ref C) "tag" = some none) : FnOk P w K mg base CX0 3 f fd ["self"] (spI0 C "InvalidPairs") := by
  refine (F.ok (k := 0) scInvalidPairs (fun vs H Q E h => ?_) (fun cdv A outer s H vs Q E hr h => ⟨_, PSs.nox (pss_one (ps_xst (pv 0) pe_str)), pure_init0 "InvalidPairs" T nT h⟩)).mono (by decide)
  obtain ⟨a, H0, rfl, _⟩ := h
  rfl
theorem xbInvalidPairs (F : FunD K "__init__" "InvalidPairs.__init__" (defArgs sInvalidPairs) (defBody sInvalidPairs) (defScope sInvalidPairs) [] [] f fd) : XB K fd ["self"] 1 [] := by
  obtain ⟨oc, od, dV, kV, doc, pm, an, cdv, ct, osl, rfl, lk, hcd, hD, hK⟩ := F.ex
  obtain rfl := dfl_nil hD
  exact fun s us ws _ h1 h2 => match us, ws, h1, h2 with | [_], [], _, _ => .of_eq rfl
abbrev sInvalidText : Stmt := inClass (top 16) 0
theorem scInvalidText : FnScope ["self"] ["self"] (defScope sInvalidText) := ⟨rfl, rfl, rfl, by decide +kernel, rfl, by decide +kernel, by decide +kernel⟩
theorem okInvalidText (F : FunD K "__init__" "InvalidText.__init__" (defArgs sInvalidText) (defBody sInvalidText) (defScope sInvalidText) [] [] f fd) (T : ExC K C) (nT : PySem.W.findIn K (.ref C) "tag" = some none) : FnOk P w K mg base CX0 3 f fd ["self"] (spI0 C "InvalidText") := by
  refine (F.ok (k := 0) scInvalidText (fun vs H Q E h => ?_) (fun cdv A outer s H vs Q E hr h => ⟨_, PSs.nox (pss_one (ps_xst (pv 0) pe_str)), pure_init0 "InvalidText" T nT h⟩)).mono (by decide)
  obtain ⟨a, H0, rfl, _⟩ := h
  rfl
theorem xbInvalidText (F : FunD K "__init__" "InvalidText.__init__" (defArgs sInvalidText) (defBody sInvalidText) (defScope sInvalidText) [] [] f fd) : XB K fd ["self"] 1 [] := by
  obtain ⟨oc, od, dV, kV, doc, pm, an, cdv, ct, osl, rfl, lk, hcd, hD, hK⟩ := F.ex
  obtain rfl := dfl_nil hD
  exact fun s us ws _ h1 h2 => match us, ws, h1, h2 with | [_], [], _, _ => .of_eq rfl
abbrev sNoMachines : Stmt := inClass (top 17) 0
theorem scNoMachines : FnScope ["self"] ["self"] (defScope sNoMachines) := ⟨rfl, rfl, rfl, by decide +kernel, rfl, by decide +kernel, by decide +kernel⟩
theorem okNoMachines (F : FunD K "__init__" "NoMachines.__init__" (defArgs sNoMachines) (defBody sNoMachines) (defScope sNoMachines) [] [] f fd) (T : ExC K C) (nT : PySem.W.findIn K (.ref C) "tag" = some none) : FnOk P w K mg base CX0 3 f fd ["self"] (spI0 C "NoMachines") := by
  refine (F.ok (k := 0) scNoMachines (fun vs H Q E h => ?_) (fun cdv A outer s H vs Q E hr h => ⟨_, PSs.nox (pss_one (ps_xst (pv 0) pe_str)), pure_init0 "NoMachines" T nT h⟩)).mono (by decide)
  obtain ⟨a, H0, rfl, _⟩ := h
  rfl
theorem xbNoMachines (F : FunD K "__init__" "NoMachines.__init__" (defArgs sNoMachines) (defBody sNoMachines) (defScope sNoMachines) [] [] f fd) : XB K fd ["self"] 1 [] := by
  obtain ⟨oc, od, dV, kV, doc, pm, an, cdv, ct, osl, rfl, lk, hcd, hD, hK⟩ := F.ex
  obtain rfl := dfl_nil hD
  exact fun s us ws _ h1 h2 => match us, ws, h1, h2 with | [_], [], _, _ => .of_eq rfl
abbrev sAlphabetsDiffer : Stmt := inClass (top 18) 0
theorem scAlphabetsDiffer : FnScope ["self"] ["self"] (defScope sAlphabetsDiffer) := ⟨rfl, rfl, rfl, by decide +kernel, rfl, by decide +kernel, by decide +kernel⟩
theorem okAlphabetsDiffer (F : FunD K "__init__" "AlphabetsDiffer.__init__" (defArgs sAlphabetsDiffer) (defBody sAlphabetsDiffer) (defScope sAlphabetsDiffer) [] [] f fd) (T : ExC K C) (nT : PySem.W.findIn K (.ref C) "tag" = some none) : FnOk P w K mg base CX0 3 f fd ["self"] (spI0 C "AlphabetsDiffer") := by
  refine (F.ok (k := 0) scAlphabetsDiffer (fun vs H Q E h => ?_) (fun cdv A outer s H vs Q E hr h => ⟨_, PSs.nox (pss_one (ps_xst (pv 0) pe_str)), pure_init0 "AlphabetsDiffer" T nT h⟩)).mono (by decide)
  obtain ⟨a, H0, rfl, _⟩ := h
  rfl
theorem xbAlphabetsDiffer (F : FunD K "__init__" "AlphabetsDiffer.__init__" (defArgs sAlphabetsDiffer) (defBody sAlphabetsDiffer) (defScope sAlphabetsDiffer) [] [] f fd) : XB K fd ["self"] 1 [] := by
  obtain ⟨oc, od, dV, kV, doc, pm, an, cdv, ct, osl, rfl, lk, hcd, hD, hK⟩ := F.ex
  obtain rfl := dfl_nil hD
  exact fun s us ws _ h1 h2 => match us, ws, h1, h2 with | [_], [], _, _ => .of_eq rfl
abbrev sTooMany : Stmt := inClass (top 19) 0
theorem scTooMany : FnScope ["self", "most"] ["self", "most"] (defScope sTooMany) := ⟨rfl, rfl, rfl, by decide +kernel, rfl, by decide +kernel, by decide +kernel⟩
theorem okTooMany (F : FunD K "__init__" "TooMany.__init__" (defArgs sTooMany) (defBody sTooMany) (defScope sTooMany) [] [] f fd) (T : ExC K C) (nT : PySem.W.findIn K (.ref C) "tag" = some none) (nP : PySem.W.findIn K (.ref C) "most" = some none)
    (GC : FnOk P w K mg base CX0 2 fC fdC ["value"] spCp) (gC : mg "copied" = some (.ref fC)) (kC : PySem.W.keepIn K (.ref fC) = true) (bC : Binds K fdC ["value"] []) : FnOk P w K mg base CX0 3 f fd ["self", "most"] (spI C "TooMany" "most") := by
  refine F.ok scTooMany (fun vs H Q E h => ?_) (fun cdv A outer s H vs Q E hr h => ⟨t_init K "TooMany" "most", PSs.nox (pss_cons (ps_xst (pv 0) pe_str) (pss_one (ps_xst (pv 0) (pe_call GC hr rfl gC kC bC .nil pass0 (pa_cons (pv 1) pa_nil))))), pure_init "TooMany" "most" T nT nP h⟩)
  obtain ⟨a, v, H0, rfl, _⟩ := h
  rfl
theorem xbTooMany (F : FunD K "__init__" "TooMany.__init__" (defArgs sTooMany) (defBody sTooMany) (defScope sTooMany) [] [] f fd) : XB K fd ["self", "most"] 2 [] ∧ XB K fd ["self", "most"] 1 ["most"] := by
  obtain ⟨oc, od, dV, kV, doc, pm, an, cdv, ct, osl, rfl, lk, hcd, hD, hK⟩ := F.ex
  obtain rfl := dfl_nil hD
  exact ⟨fun s us ws _ h1 h2 => match us, ws, h1, h2 with | [_, _], [], _, _ => .of_eq rfl, fun s us ws _ h1 h2 => match us, ws, h1, h2 with | [_], [_], _, _ => .of_eq rfl⟩
abbrev sRefused : Stmt := inClass (top 20) 0
theorem scRefused : FnScope ["self"] ["self"] (defScope sRefused) := ⟨rfl, rfl, rfl, by decide +kernel, rfl, by decide +kernel, by decide +kernel⟩
theorem okRefused (F : FunD K "__init__" "Refused.__init__" (defArgs sRefused) (defBody sRefused) (defScope sRefused) [] [] f fd) (T : ExC K C) (nT : PySem.W.findIn K (.ref C) "tag" = some none) : FnOk P w K mg base CX0 3 f fd ["self"] (spI0 C "Refused") := by
  refine (F.ok (k := 0) scRefused (fun vs H Q E h => ?_) (fun cdv A outer s H vs Q E hr h => ⟨_, PSs.nox (pss_one (ps_xst (pv 0) pe_str)), pure_init0 "Refused" T nT h⟩)).mono (by decide)
  obtain ⟨a, H0, rfl, _⟩ := h
  rfl
theorem xbRefused (F : FunD K "__init__" "Refused.__init__" (defArgs sRefused) (defBody sRefused) (defScope sRefused) [] [] f fd) : XB K fd ["self"] 1 [] := by
  obtain ⟨oc, od, dV, kV, doc, pm, an, cdv, ct, osl, rfl, lk, hcd, hD, hK⟩ := F.ex
  obtain rfl := dfl_nil hD
  exact fun s us ws _ h1 h2 => match us, ws, h1, h2 with | [_], [], _, _ => .of_eq rfl
abbrev sInvalidName : Stmt := inClass (top 21) 0
theorem scInvalidName : FnScope ["self", "name"] ["self", "name"] (defScope sInvalidName) := ⟨rfl, rfl, rfl, by decide +kernel, rfl, by decide +kernel, by decide +kernel⟩
theorem okInvalidName (F : FunD K "__init__" "InvalidName.__init__" (defArgs sInvalidName) (defBody sInvalidName) (defScope sInvalidName) [] [] f fd) (T : ExC K C) (nT : PySem.W.findIn K (.ref C) "tag" = some none) (nP : PySem.W.findIn K (.ref C) "name" = some none)
    (GC : FnOk P w K mg base CX0 2 fC fdC ["value"] spCp) (gC : mg "copied" = some (.ref fC)) (kC : PySem.W.keepIn K (.ref fC) = true) (bC : Binds K fdC ["value"] []) : FnOk P w K mg base CX0 3 f fd ["self", "name"] (spI C "InvalidName" "name") := by
  refine F.ok scInvalidName (fun vs H Q E h => ?_) (fun cdv A outer s H vs Q E hr h => ⟨t_init K "InvalidName" "name", PSs.nox (pss_cons (ps_xst (pv 0) pe_str) (pss_one (ps_xst (pv 0) (pe_call GC hr rfl gC kC bC .nil pass0 (pa_cons (pv 1) pa_nil))))), pure_init "InvalidName" "name" T nT nP h⟩)
  obtain ⟨a, v, H0, rfl, _⟩ := h
  rfl
theorem xbInvalidName (F : FunD K "__init__" "InvalidName.__init__" (defArgs sInvalidName) (defBody sInvalidName) (defScope sInvalidName) [] [] f fd) : XB K fd ["self", "name"] 2 [] ∧ XB K fd ["self", "name"] 1 ["name"] := by
  obtain ⟨oc, od, dV, kV, doc, pm, an, cdv, ct, osl, rfl, lk, hcd, hD, hK⟩ := F.ex
  obtain rfl := dfl_nil hD
  exact ⟨fun s us ws _ h1 h2 => match us, ws, h1, h2 with | [_, _], [], _, _ => .of_eq rfl, fun s us ws _ h1 h2 => match us, ws, h1, h2 with | [_], [_], _, _ => .of_eq rfl⟩
abbrev sDuplicateName : Stmt := inClass (top 22) 0
theorem scDuplicateName : FnScope ["self", "name"] ["self", "name"] (defScope sDuplicateName) := ⟨rfl, rfl, rfl, by decide +kernel, rfl, by decide +kernel, by decide +kernel⟩
theorem okDuplicateName (F : FunD K "__init__" "DuplicateName.__init__" (defArgs sDuplicateName) (defBody sDuplicateName) (defScope sDuplicateName) [] [] f fd) (T : ExC K C) (nT : PySem.W.findIn K (.ref C) "tag" = some none) (nP : PySem.W.findIn K (.ref C) "name" = some none)
    (GC : FnOk P w K mg base CX0 2 fC fdC ["value"] spCp) (gC : mg "copied" = some (.ref fC)) (kC : PySem.W.keepIn K (.ref fC) = true) (bC : Binds K fdC ["value"] []) : FnOk P w K mg base CX0 3 f fd ["self", "name"] (spI C "DuplicateName" "name") := by
  refine F.ok scDuplicateName (fun vs H Q E h => ?_) (fun cdv A outer s H vs Q E hr h => ⟨t_init K "DuplicateName" "name", PSs.nox (pss_cons (ps_xst (pv 0) pe_str) (pss_one (ps_xst (pv 0) (pe_call GC hr rfl gC kC bC .nil pass0 (pa_cons (pv 1) pa_nil))))), pure_init "DuplicateName" "name" T nT nP h⟩)
  obtain ⟨a, v, H0, rfl, _⟩ := h
  rfl
theorem xbDuplicateName (F : FunD K "__init__" "DuplicateName.__init__" (defArgs sDuplicateName) (defBody sDuplicateName) (defScope sDuplicateName) [] [] f fd) : XB K fd ["self", "name"] 2 [] ∧ XB K fd ["self", "name"] 1 ["name"] := by
  obtain ⟨oc, od, dV, kV, doc, pm, an, cdv, ct, osl, rfl, lk, hcd, hD, hK⟩ := F.ex
  obtain rfl := dfl_nil hD
  exact ⟨fun s us ws _ h1 h2 => match us, ws, h1, h2 with | [_, _], [], _, _ => .of_eq rfl, fun s us ws _ h1 h2 => match us, ws, h1, h2 with | [_], [_], _, _ => .of_eq rfl⟩
abbrev sCapacityExceeded : Stmt := inClass (top 23) 0
theorem scCapacityExceeded : FnScope ["self", "limit"] ["self", "limit"] (defScope sCapacityExceeded) := ⟨rfl, rfl, rfl, by decide +kernel, rfl, by decide +kernel, by decide +kernel⟩
theorem okCapacityExceeded (F : FunD K "__init__" "CapacityExceeded.__init__" (defArgs sCapacityExceeded) (defBody sCapacityExceeded) (defScope sCapacityExceeded) [] [] f fd) (T : ExC K C) (nT : PySem.W.findIn K (.ref C) "tag" = some none) (nP : PySem.W.findIn K (.ref C) "limit" = some none)
    (GC : FnOk P w K mg base CX0 2 fC fdC ["value"] spCp) (gC : mg "copied" = some (.ref fC)) (kC : PySem.W.keepIn K (.ref fC) = true) (bC : Binds K fdC ["value"] []) : FnOk P w K mg base CX0 3 f fd ["self", "limit"] (spI C "CapacityExceeded" "limit") := by
  refine F.ok scCapacityExceeded (fun vs H Q E h => ?_) (fun cdv A outer s H vs Q E hr h => ⟨t_init K "CapacityExceeded" "limit", PSs.nox (pss_cons (ps_xst (pv 0) pe_str) (pss_one (ps_xst (pv 0) (pe_call GC hr rfl gC kC bC .nil pass0 (pa_cons (pv 1) pa_nil))))), pure_init "CapacityExceeded" "limit" T nT nP h⟩)
  obtain ⟨a, v, H0, rfl, _⟩ := h
  rfl
theorem xbCapacityExceeded (F : FunD K "__init__" "CapacityExceeded.__init__" (defArgs sCapacityExceeded) (defBody sCapacityExceeded) (defScope sCapacityExceeded) [] [] f fd) : XB K fd ["self", "limit"] 2 [] ∧ XB K fd ["self", "limit"] 1 ["limit"] := by
  obtain ⟨oc, od, dV, kV, doc, pm, an, cdv, ct, osl, rfl, lk, hcd, hD, hK⟩ := F.ex
  obtain rfl := dfl_nil hD
  exact ⟨fun s us ws _ h1 h2 => match us, ws, h1, h2 with | [_, _], [], _, _ => .of_eq rfl, fun s us ws _ h1 h2 => match us, ws, h1, h2 with | [_], [_], _, _ => .of_eq rfl⟩
abbrev sInvalidLimit : Stmt := inClass (top 24) 0
theorem scInvalidLimit : FnScope ["self", "given"] ["self", "given"] (defScope sInvalidLimit) := ⟨rfl, rfl, rfl, by decide +kernel, rfl, by decide +kernel, by decide +kernel⟩
theorem okInvalidLimit (F : FunD K "__init__" "InvalidLimit.__init__" (defArgs sInvalidLimit) (defBody sInvalidLimit) (defScope sInvalidLimit) [] [] f fd) (T : ExC K C) (nT : PySem.W.findIn K (.ref C) "tag" = some none) (nP : PySem.W.findIn K (.ref C) "given" = some none)
    (GC : FnOk P w K mg base CX0 2 fC fdC ["value"] spCp) (gC : mg "copied" = some (.ref fC)) (kC : PySem.W.keepIn K (.ref fC) = true) (bC : Binds K fdC ["value"] []) : FnOk P w K mg base CX0 3 f fd ["self", "given"] (spI C "InvalidLimit" "given") := by
  refine F.ok scInvalidLimit (fun vs H Q E h => ?_) (fun cdv A outer s H vs Q E hr h => ⟨t_init K "InvalidLimit" "given", PSs.nox (pss_cons (ps_xst (pv 0) pe_str) (pss_one (ps_xst (pv 0) (pe_call GC hr rfl gC kC bC .nil pass0 (pa_cons (pv 1) pa_nil))))), pure_init "InvalidLimit" "given" T nT nP h⟩)
  obtain ⟨a, v, H0, rfl, _⟩ := h
  rfl
theorem xbInvalidLimit (F : FunD K "__init__" "InvalidLimit.__init__" (defArgs sInvalidLimit) (defBody sInvalidLimit) (defScope sInvalidLimit) [] [] f fd) : XB K fd ["self", "given"] 2 [] ∧ XB K fd ["self", "given"] 1 ["given"] := by
  obtain ⟨oc, od, dV, kV, doc, pm, an, cdv, ct, osl, rfl, lk, hcd, hD, hK⟩ := F.ex
  obtain rfl := dfl_nil hD
  exact ⟨fun s us ws _ h1 h2 => match us, ws, h1, h2 with | [_, _], [], _, _ => .of_eq rfl, fun s us ws _ h1 h2 => match us, ws, h1, h2 with | [_], [_], _, _ => .of_eq rfl⟩
abbrev sInvalidCommand : Stmt := inClass (top 25) 0
theorem scInvalidCommand : FnScope ["self", "word"] ["self", "word"] (defScope sInvalidCommand) := ⟨rfl, rfl, rfl, by decide +kernel, rfl, by decide +kernel, by decide +kernel⟩
theorem okInvalidCommand (F : FunD K "__init__" "InvalidCommand.__init__" (defArgs sInvalidCommand) (defBody sInvalidCommand) (defScope sInvalidCommand) [] [] f fd) (T : ExC K C) (nT : PySem.W.findIn K (.ref C) "tag" = some none) (nP : PySem.W.findIn K (.ref C) "word" = some none)
    (GC : FnOk P w K mg base CX0 2 fC fdC ["value"] spCp) (gC : mg "copied" = some (.ref fC)) (kC : PySem.W.keepIn K (.ref fC) = true) (bC : Binds K fdC ["value"] []) : FnOk P w K mg base CX0 3 f fd ["self", "word"] (spI C "InvalidCommand" "word") := by
  refine F.ok scInvalidCommand (fun vs H Q E h => ?_) (fun cdv A outer s H vs Q E hr h => ⟨t_init K "InvalidCommand" "word", PSs.nox (pss_cons (ps_xst (pv 0) pe_str) (pss_one (ps_xst (pv 0) (pe_call GC hr rfl gC kC bC .nil pass0 (pa_cons (pv 1) pa_nil))))), pure_init "InvalidCommand" "word" T nT nP h⟩)
  obtain ⟨a, v, H0, rfl, _⟩ := h
  rfl
theorem xbInvalidCommand (F : FunD K "__init__" "InvalidCommand.__init__" (defArgs sInvalidCommand) (defBody sInvalidCommand) (defScope sInvalidCommand) [] [] f fd) : XB K fd ["self", "word"] 2 [] ∧ XB K fd ["self", "word"] 1 ["word"] := by
  obtain ⟨oc, od, dV, kV, doc, pm, an, cdv, ct, osl, rfl, lk, hcd, hD, hK⟩ := F.ex
  obtain rfl := dfl_nil hD
  exact ⟨fun s us ws _ h1 h2 => match us, ws, h1, h2 with | [_, _], [], _, _ => .of_eq rfl, fun s us ws _ h1 h2 => match us, ws, h1, h2 with | [_], [_], _, _ => .of_eq rfl⟩
abbrev sParseError : Stmt := inClass (top 26) 0
theorem scParseError : FnScope ["self", "line"] ["self", "line"] (defScope sParseError) := ⟨rfl, rfl, rfl, by decide +kernel, rfl, by decide +kernel, by decide +kernel⟩
theorem okParseError (F : FunD K "__init__" "ParseError.__init__" (defArgs sParseError) (defBody sParseError) (defScope sParseError) [] [] f fd) (T : ExC K C) (nT : PySem.W.findIn K (.ref C) "tag" = some none) (nP : PySem.W.findIn K (.ref C) "line" = some none)
    (GC : FnOk P w K mg base CX0 2 fC fdC ["value"] spCp) (gC : mg "copied" = some (.ref fC)) (kC : PySem.W.keepIn K (.ref fC) = true) (bC : Binds K fdC ["value"] []) : FnOk P w K mg base CX0 3 f fd ["self", "line"] (spI C "ParseError" "line") := by
  refine F.ok scParseError (fun vs H Q E h => ?_) (fun cdv A outer s H vs Q E hr h => ⟨t_init K "ParseError" "line", PSs.nox (pss_cons (ps_xst (pv 0) pe_str) (pss_one (ps_xst (pv 0) (pe_call GC hr rfl gC kC bC .nil pass0 (pa_cons (pv 1) pa_nil))))), pure_init "ParseError" "line" T nT nP h⟩)
  obtain ⟨a, v, H0, rfl, _⟩ := h
  rfl
theorem xbParseError (F : FunD K "__init__" "ParseError.__init__" (defArgs sParseError) (defBody sParseError) (defScope sParseError) [] [] f fd) : XB K fd ["self", "line"] 2 [] ∧ XB K fd ["self", "line"] 1 ["line"] := by
  obtain ⟨oc, od, dV, kV, doc, pm, an, cdv, ct, osl, rfl, lk, hcd, hD, hK⟩ := F.ex
  obtain rfl := dfl_nil hD
  exact ⟨fun s us ws _ h1 h2 => match us, ws, h1, h2 with | [_, _], [], _, _ => .of_eq rfl, fun s us ws _ h1 h2 => match us, ws, h1, h2 with | [_], [_], _, _ => .of_eq rfl⟩
abbrev sUnknownName : Stmt := inClass (top 27) 0
theorem scUnknownName : FnScope ["self", "name"] ["self", "name"] (defScope sUnknownName) := ⟨rfl, rfl, rfl, by decide +kernel, rfl, by decide +kernel, by decide +kernel⟩
theorem okUnknownName (F : FunD K "__init__" "UnknownName.__init__" (defArgs sUnknownName) (defBody sUnknownName) (defScope sUnknownName) [] [] f fd) (T : ExC K C) (nT : PySem.W.findIn K (.ref C) "tag" = some none) (nP : PySem.W.findIn K (.ref C) "name" = some none)
    (GC : FnOk P w K mg base CX0 2 fC fdC ["value"] spCp) (gC : mg "copied" = some (.ref fC)) (kC : PySem.W.keepIn K (.ref fC) = true) (bC : Binds K fdC ["value"] []) : FnOk P w K mg base CX0 3 f fd ["self", "name"] (spI C "UnknownName" "name") := by
  refine F.ok scUnknownName (fun vs H Q E h => ?_) (fun cdv A outer s H vs Q E hr h => ⟨t_init K "UnknownName" "name", PSs.nox (pss_cons (ps_xst (pv 0) pe_str) (pss_one (ps_xst (pv 0) (pe_call GC hr rfl gC kC bC .nil pass0 (pa_cons (pv 1) pa_nil))))), pure_init "UnknownName" "name" T nT nP h⟩)
  obtain ⟨a, v, H0, rfl, _⟩ := h
  rfl
theorem xbUnknownName (F : FunD K "__init__" "UnknownName.__init__" (defArgs sUnknownName) (defBody sUnknownName) (defScope sUnknownName) [] [] f fd) : XB K fd ["self", "name"] 2 [] ∧ XB K fd ["self", "name"] 1 ["name"] := by
  obtain ⟨oc, od, dV, kV, doc, pm, an, cdv, ct, osl, rfl, lk, hcd, hD, hK⟩ := F.ex
  obtain rfl := dfl_nil hD
  exact ⟨fun s us ws _ h1 h2 => match us, ws, h1, h2 with | [_, _], [], _, _ => .of_eq rfl, fun s us ws _ h1 h2 => match us, ws, h1, h2 with | [_], [_], _, _ => .of_eq rfl⟩
abbrev sNothingLeft : Stmt := inClass (top 28) 0
theorem scNothingLeft : FnScope ["self"] ["self"] (defScope sNothingLeft) := ⟨rfl, rfl, rfl, by decide +kernel, rfl, by decide +kernel, by decide +kernel⟩
theorem okNothingLeft (F : FunD K "__init__" "NothingLeft.__init__" (defArgs sNothingLeft) (defBody sNothingLeft) (defScope sNothingLeft) [] [] f fd) (T : ExC K C) (nT : PySem.W.findIn K (.ref C) "tag" = some none) : FnOk P w K mg base CX0 3 f fd ["self"] (spI0 C "NothingLeft") := by
  refine (F.ok (k := 0) scNothingLeft (fun vs H Q E h => ?_) (fun cdv A outer s H vs Q E hr h => ⟨_, PSs.nox (pss_one (ps_xst (pv 0) pe_str)), pure_init0 "NothingLeft" T nT h⟩)).mono (by decide)
  obtain ⟨a, H0, rfl, _⟩ := h
  rfl
theorem xbNothingLeft (F : FunD K "__init__" "NothingLeft.__init__" (defArgs sNothingLeft) (defBody sNothingLeft) (defScope sNothingLeft) [] [] f fd) : XB K fd ["self"] 1 [] := by
  obtain ⟨oc, od, dV, kV, doc, pm, an, cdv, ct, osl, rfl, lk, hcd, hD, hK⟩ := F.ex
  obtain rfl := dfl_nil hD
  exact fun s us ws _ h1 h2 => match us, ws, h1, h2 with | [_], [], _, _ => .of_eq rfl
end
end K66

/-! _law_same: data of any depth, alike in kind and value -/
namespace K66
open PySem L2 Evl OxK
inductive Dt where
  | f (v : V)
  | l (xs : List Dt)
  | t (xs : List Dt)
noncomputable instance decDt : DecidableEq Dt := fun _ _ => Classical.propDecidable _
/-- at the value v stands the data d, at most n deep -/
def Has (H : Hp) : Nat → V → Dt → Prop
  | 0, v, d => Flat v ∧ d = .f v
  | n + 1, v, d => (Flat v ∧ d = .f v) ∨ ∃ (a : Addr) (vs : List V) (ds : List Dt), v = .ref a ∧ ((H a = some (.lst vs) ∧ d = .l ds) ∨ (H a = some (.tup vs) ∧ d = .t ds)) ∧ vs.length = ds.length ∧ vs.length ≤ 1000 ∧
      ∀ (i : Nat) (x : V) (y : Dt), vs[i]? = some x → ds[i]? = some y → Has H n x y
theorem Has.ex {H H' : Hp} (e : Ex H H') : ∀ {n : Nat} {v : V} {d : Dt}, Has H n v d → Has H' n v d
  | 0, v, d, h => (show Flat v ∧ d = .f v from h)
  | n + 1, _, _, h => by
    rcases h with h | ⟨a, vs, ds, r, hk, hl, hb, hi⟩
    · exact .inl h
    · refine .inr ⟨a, vs, ds, r, ?_, hl, hb, fun i x y h1 h2 => Has.ex e (hi i x y h1 h2)⟩
      rcases hk with ⟨h1, h2⟩ | ⟨h1, h2⟩
      · exact .inl ⟨e _ _ h1, h2⟩
      · exact .inr ⟨e _ _ h1, h2⟩
theorem Has.up {H : Hp} : ∀ {n : Nat} {v : V} {d : Dt}, Has H n v d → Has H (n + 1) v d
  | 0, v, d, h => Or.inl (show Flat v ∧ d = .f v from h)
  | n + 1, _, _, h => by
    rcases h with h | ⟨a, vs, ds, r, hk, hl, hb, hi⟩
    · exact .inl h
    · exact .inr ⟨a, vs, ds, r, hk, hl, hb, fun i x y h1 h2 => Has.up (hi i x y h1 h2)⟩
/-! ### kinds -/
def six : List String := ["NoneType", "bool", "int", "str", "list", "tuple"]
def five : List String := ["list", "tuple", "bool", "int", "str"]
def isB (T S : String) : Bool := T == S || (T == "bool" && S == "int")
theorem kit_six : ∀ T ∈ six, ∀ S ∈ five, kitB T S = some (isB T S) := by decide +kernel
structure Kn (K : PySem.W.Frag) (H : Hp) (v : V) (T : String) : Prop where
  six : T ∈ six
  ty : ∀ H1, Ex H H1 → TyX K H1 v (.type T)
theorem Kn.ex {K : PySem.W.Frag} {H H' : Hp} {v : V} {T : String} (h : Kn K H v T) (e : Ex H H') : Kn K H' v T := ⟨h.six, fun H1 e1 => h.ty H1 (e.trans e1)⟩
theorem kn_flat {K : PySem.W.Frag} {H : Hp} {v : V} (h : Flat v) : Kn K H v (tyF v) := ⟨match v, h with
  | .non, _ => by decide
  | .bl _, _ => by show "bool" ∈ _; decide
  | .int _, _ => by show "int" ∈ _; decide
  | .str _, _ => by show "str" ∈ _; decide, fun _ _ => flat_ty h⟩
theorem kn_lst {K : PySem.W.Frag} {H : Hp} {a : Addr} {vs : List V} (h : H a = some (.lst vs)) : Kn K H (.ref a) "list" := ⟨by decide, fun _ e => .base (.lst (e _ _ h))⟩
theorem kn_tup {K : PySem.W.Frag} {H : Hp} {a : Addr} {vs : List V} (h : H a = some (.tup vs)) : Kn K H (.ref a) "tuple" := ⟨by decide, fun _ e => .base (.tup (e _ _ h))⟩
section
variable {K : PySem.W.Frag} {σ : L2.St} {H : Hp} {te : TE} {v : V} {T : String}
theorem ev_isi {S : String} (h : Ev te σ H v) (k : Kn K H v T) (hS : S ∈ five := by decide) : Ev (tCB (rIsi K) (tCons te (tCons (tC (.ty S)) tNil))) σ H (.bl (isB T S)) := fun H1 e Q q =>
  h H1 e _ fun H2 e2 => ⟨v, .ty S, _, _, isB T S, rfl, .ty S, k.ty H2 (e.trans e2), kit_ty (kit_six T k.six S hS), q H2 e2⟩
theorem ev_isN (h : Ev te σ H v) : Ev (tIsN te) σ H (.bl (decide (v = .non))) := fun H1 e Q q => h H1 e _ fun H2 e2 => q H2 e2
end
theorem ev_lenS {K : PySem.W.Frag} {σ : L2.St} {H : Hp} {te : TE} {p : Addr} {xs : List V} (h : Ev te σ H (.ref p)) (hx : SqL K H p xs ∨ SqT K H p xs) : Ev (tCB (rLenS K) (tCons te tNil)) σ H (.int (xs.length : Int)) := fun H1 e Q q =>
  h H1 e _ fun H2 e2 => ⟨p, xs, rfl, hx.elim (fun z => .inl (ex_l (e.trans e2) z)) (fun z => .inr (ex_t (e.trans e2) z)), q H2 e2⟩
/-- a comprehension over any walk -/
theorem lc_any {J : It} {n : Nat} {g : TG} {tt : TT} {te : TE} {vs : List Nat} {σ : L2.St} {H1 : Hp} {D : Addr} {Qd : Hp → Prop} (Pv : Nat → Hp → Prop) (h0 : Pv 0 (upd H1 D (.lst []))) (hgo : ∀ i H, i < n → Pv i H → J.go i H) (hst : ∀ H, Pv n H → J.stop n H)
    (hs : ∀ i H x H', i < n → Pv i H → J.yld i H x H' → g x (wipe σ vs) H' fun σ2 H2 => wipe σ2 vs = wipe σ vs ∧ tt σ2 H2 fun b H3 =>
      if b = true then te σ2 H3 fun y H4 => ∃ acc, H4 D = some (.lst acc) ∧ acc.length < sizeLine ∧ Pv (i + 1) (upd H4 D (.lst (acc ++ [y]))) else Pv (i + 1) H3) (hd : ∀ H, Pv n H → Qd H) :
    ∃ W : Nat → Nat → Hp → Prop, (∃ m, W 0 m (upd H1 D (.lst []))) ∧ ∀ i m H, W i m H →
      (J.stop i H ∧ Qd H) ∨ (J.go i H ∧ ∃ Nx : Hp → Prop, (∀ H', Nx H' → ∃ m', m' < m ∧ W (i + 1) m' H') ∧ ∀ x H', J.yld i H x H' → g x (wipe σ vs) H' fun σ2 H2 => wipe σ2 vs = wipe σ vs ∧ tt σ2 H2 fun b H3 =>
        if b = true then te σ2 H3 fun y H4 => ∃ acc, H4 D = some (.lst acc) ∧ acc.length < sizeLine ∧ Nx (upd H4 D (.lst (acc ++ [y]))) else Nx H3) := by
  refine ⟨fun i m H => i + m = n ∧ Pv i H, ⟨n, Nat.zero_add n, h0⟩, fun i m H ⟨e, p⟩ => ?_⟩
  cases m with
  | zero =>
    cases (show i = n from e)
    exact .inl ⟨hst H p, hd H p⟩
  | succ k =>
    have lt : i < n := by omega
    exact .inr ⟨hgo i H lt p, Pv (i + 1), fun H' p' => ⟨k, Nat.lt_succ_self k, by omega, p'⟩, fun x H' y => hs i H x H' lt p y⟩
/-! ### the def -/
abbrev sSame : Stmt := top 33
def tIs (K : PySem.W.Frag) (i : Nat) (S : String) : TE := tCB (rIsi K) (tCons (tVar i) (tCons (tC (.ty S)) tNil))
/-- what follows where due is no list and no tuple -/
def t_tail (K : PySem.W.Frag) : TS :=
  tSeq (tIfS (tOr (tB (tIsN (tVar 1))) (tB (tIsN (tVar 0)))) (tRet (tAndV (tIsN (tVar 1)) (tIsN (tVar 0)))) tNext)
    (tSeq (tIfS (tOr (tTest (tOp rNe (tIs K 0 "bool") (tIs K 1 "bool"))) (tTest (tOp rNe (tIs K 0 "int") (tIs K 1 "int")))) (tRet (tC (.bl false))) tNext)
      (tRet (tAndV (tOp rEq (tIs K 0 "str") (tIs K 1 "str")) (tOp rEq (tVar 0) (tVar 1)))))
theorem pure_tail {K : PySem.W.Frag} {D : Ends} {H : Hp} {v w : V} {Tv : String} {r : List (Option V)} (fw : Flat w) (kv : Kn K H v Tv) (hv : (Flat v ∧ Tv = tyF v) ∨ ((Tv = "list" ∨ Tv = "tuple") ∧ ∃ a, v = .ref a))
    (k : ∀ H', Ex H H' → D.rt (.bl (decide (v = w))) H') : t_tail K D (some v :: some w :: r) H := by
  have kw := kn_flat (K := K) (H := H) fw
  refine s_if (et_or (et_B (ev_isN (ev_var rfl))) (fun _ => et_B (ev_isN (ev_var rfl)))) (fun h H1 e1 => ?_) (fun h H1 e1 => ?_)
  · refine s_ret (ev_andV (ev_isN (ev_var rfl)) (fun _ => ev_isN (ev_var rfl))) fun H2 e2 => ?_
    have e : (decide (w = V.non) && decide (v = V.non)) = decide (v = w) := by
      by_cases h1 : w = .non
      · rw [h1]
        simp
      · have h2 : v = .non := by simpa [h1] using h
        rw [h2]
        simp [h1, eq_comm]
    rw [e]
    exact k H2 (e1.trans e2)
  · have hn : ¬ w = .non ∧ ¬ v = .non := by simpa using h
    refine s_if (et_or (et_test (ev_op (ev_isi (ev_var rfl) (kv.ex e1)) (ev_isi (ev_var rfl) (kw.ex e1)) (rv_ne rfl))) (fun _ => et_test (ev_op (ev_isi (ev_var rfl) (kv.ex e1)) (ev_isi (ev_var rfl) (kw.ex e1)) (rv_ne rfl)))) (fun h' H2 e2 => ?_) (fun h' H2 e2 => ?_)
    · refine s_ret ev_c fun H3 e3 => ?_
      have e : decide (v = w) = false := by
        refine decide_eq_false fun q => ?_
        subst q
        rcases hv with ⟨_, rfl⟩ | ⟨_, a, rfl⟩
        · simp at h'
        · exact fw.elim
      have z := k H3 ((e1.trans e2).trans e3)
      rw [e] at z
      exact z
    · have hsc : decide (V.bl (isB Tv "str") = V.bl (isB (tyF w) "str")) = true → scal v w = true := fun hs => by
        have hb : isB Tv "bool" = isB (tyF w) "bool" ∧ isB Tv "int" = isB (tyF w) "int" ∧ isB Tv "str" = isB (tyF w) "str" := by
          have hs' := of_decide_eq_true hs
          simp at h' hs'
          exact ⟨h'.1, h'.2, hs'⟩
        clear h' hs
        rcases hv with ⟨fv, rfl⟩ | ⟨hT, a, rfl⟩
        · cases v <;> first | exact fv.elim | skip
          all_goals cases w <;> first | exact fw.elim | rfl | exact absurd hb (by simp [isB, tyF])
        · rcases hT with rfl | rfl
          all_goals cases w <;> first | exact fw.elim | exact absurd rfl hn.1 | exact absurd hb (by simp [isB, tyF])
      refine s_ret (ev_andV (ev_op (ev_isi (ev_var rfl) (kv.ex (e1.trans e2))) (ev_isi (ev_var rfl) (kw.ex (e1.trans e2))) (rv_eq rfl)) (fun hs => ev_op (ev_var rfl) (ev_var rfl) (rv_eq (hsc hs)))) fun H3 e3 => ?_
      have e : (decide (V.bl (isB Tv "str") = V.bl (isB (tyF w) "str")) && decide (v = w)) = decide (v = w) := by
        by_cases q : v = w
        · subst q
          rcases hv with ⟨_, rfl⟩ | ⟨_, a, rfl⟩
          · simp
          · exact fw.elim
        · rw [decide_eq_false q, Bool.and_false]
      rw [e]
      exact k H3 ((e1.trans e2).trans e3)
def spSame (n : Nat) : Sp := fun vs H Q _ => ∃ (v w : V) (d e : Dt), vs = [v, w] ∧ Has H n v d ∧ Has H n w e ∧ ∀ (b : Bool) (H' : Hp), (b = true ↔ d = e) → Ex H H' → Q (.bl b) H'
structure NoS (mg : Str → Option Value) : Prop where
  b : NoB mg
  bool : mg "bool" = none
  int : mg "int" = none
  str : mg "str" = none
  len : mg "len" = none
  all : mg "all" = none
  zip : mg "zip" = none
section
variable {P : Program} {w : World} {K : PySem.W.Frag} {mg : Str → Option Value} {base : Heap} {f : Addr} {fd : FuncData}
theorem scS : FnScope ["_law_found", "_law_due", "_law_one", "_law_other"] ["_law_found", "_law_due"] (defScope sSame) := ⟨rfl, rfl, rfl, by decide +kernel, rfl, by decide +kernel, by decide +kernel⟩
theorem ok_same0 (F : FnP K "_law_same" sSame f fd) (T : NoS mg) : FnOk P w K mg base CX0 1 f fd ["_law_found", "_law_due"] (spSame 0) := by
  refine F.ok scS (fun vs H Q E h => ?_) (fun cdv A outer s H vs Q E hr h => ?_)
  · obtain ⟨v, w, d, e, rfl, _⟩ := h
    rfl
  · obtain ⟨v, w, d, e, rfl, ⟨fv, rfl⟩, ⟨fw, rfl⟩, k⟩ := h
    refine ⟨_, PSs.nox (pss_cons (ps_if (PW.pt (pw_or (pt_val (pe_callB call_isi (by rfl) T.b.isi PyProof.Rows.boot_isinstance (pa_cons (pv 1) (pa_cons (pe_bltn (v := .ty "list") (by rfl) T.b.lst PyProof.Rows.boot_list rfl) pa_nil)))) (pw_or1 (pt_val (pe_callB call_isi (by rfl) T.b.isi PyProof.Rows.boot_isinstance (pa_cons (pv 1) (pa_cons (pe_bltn (v := .ty "tuple") (by rfl) T.b.tup PyProof.Rows.boot_tuple rfl) pa_nil))))))) pss_never pss_nil)
      (pss_cons (ps_if (PW.pt (pw_or (pt_cmp (pc_isN (pv 1))) (pw_or1 (pt_cmp (pc_isN (pv 0)))))) (pss_one (ps_ret (pe_and (pe_cmp (pc_isN (pv 1))) (pe_one (pe_cmp (pc_isN (pv 0))))))) pss_nil)
      (pss_cons (ps_if (PW.pt (pw_or (pt_cmpR op_ne (pe_callB call_isi (by rfl) T.b.isi PyProof.Rows.boot_isinstance (pa_cons (pv 0) (pa_cons (pe_bltn (v := .ty "bool") (by rfl) T.bool (by decide +kernel) rfl) pa_nil))) (pe_callB call_isi (by rfl) T.b.isi PyProof.Rows.boot_isinstance (pa_cons (pv 1) (pa_cons (pe_bltn (v := .ty "bool") (by rfl) T.bool (by decide +kernel) rfl) pa_nil))) (nomark _)) (pw_or1 (pt_cmpR op_ne (pe_callB call_isi (by rfl) T.b.isi PyProof.Rows.boot_isinstance (pa_cons (pv 0) (pa_cons (pe_bltn (v := .ty "int") (by rfl) T.int (by decide +kernel) rfl) pa_nil))) (pe_callB call_isi (by rfl) T.b.isi PyProof.Rows.boot_isinstance (pa_cons (pv 1) (pa_cons (pe_bltn (v := .ty "int") (by rfl) T.int (by decide +kernel) rfl) pa_nil))) (nomark _))))) (pss_one (ps_ret pe_bl)) pss_nil)
      (pss_one (ps_ret (pe_and (pe_cmpR op_eq (pe_callB call_isi (by rfl) T.b.isi PyProof.Rows.boot_isinstance (pa_cons (pv 0) (pa_cons (pe_bltn (v := .ty "str") (by rfl) T.str (by decide +kernel) rfl) pa_nil))) (pe_callB call_isi (by rfl) T.b.isi PyProof.Rows.boot_isinstance (pa_cons (pv 1) (pa_cons (pe_bltn (v := .ty "str") (by rfl) T.str (by decide +kernel) rfl) pa_nil))) (nomark _)) (pe_one (pe_cmpR op_eq (pv 0) (pv 1) (nomark _))))))))), ?_⟩
    have hb : (isB (tyF w) "list" || isB (tyF w) "tuple") = false := by cases w <;> first | exact fw.elim | rfl
    refine s_if (et_is (et_or (et_B (ev_isi (ev_var rfl) (kn_flat fw))) (fun _ => et_B (ev_isi (ev_var rfl) (kn_flat fw)))) hb) (fun h => nomatch h) fun _ H1 e1 => ?_
    refine pure_tail (K := K) (r := [none, none]) fw (kn_flat fv) (.inl ⟨fv, rfl⟩) fun H' e2 => k _ H' ?_ (e1.trans e2)
    rw [decide_eq_true_iff]
    exact ⟨fun e => by rw [e], fun e => Dt.f.inj e⟩
/-- what stands of the answers behind i turns -/
def Turns (H0 : Hp) (D : Addr) (ds es : List Dt) (i : Nat) (H' : Hp) : Prop := H0 D = none ∧ Ex H0 H' ∧ ∃ bs : List Bool, H' D = some (.lst (bs.map V.bl)) ∧ bs.length = i ∧
  ∀ (j : Nat) (d e : Dt) (b : Bool), ds[j]? = some d → es[j]? = some e → bs[j]? = some b → (b = true ↔ d = e)
theorem turns_all {ds es : List Dt} {bs : List Bool} (h1 : ds.length = es.length) (h2 : bs.length = ds.length) (h : ∀ (j : Nat) (d e : Dt) (b : Bool), ds[j]? = some d → es[j]? = some e → bs[j]? = some b → (b = true ↔ d = e)) :
    bs.all id = true ↔ ds = es := by
  rw [List.all_eq_true]
  constructor
  · intro q
    refine List.ext_getElem h1 fun j l1 l2 => ?_
    have hb := h j ds[j] es[j] (bs[j]'(by omega)) (List.getElem?_eq_getElem l1) (List.getElem?_eq_getElem l2) (List.getElem?_eq_getElem (by omega))
    exact hb.mp (q _ (List.getElem_mem _))
  · rintro rfl b hb
    obtain ⟨j, hj, rfl⟩ := List.mem_iff_getElem.mp hb
    exact (h j ds[j] ds[j] bs[j] (List.getElem?_eq_getElem (by omega)) (List.getElem?_eq_getElem (by omega)) (List.getElem?_eq_getElem hj)).mpr rfl
/-- one turn -/
theorem turn_one {K : PySem.W.Frag} {n i : Nat} {H0 H' : Hp} {D T : Addr} {x y : V} {dx dy : Dt} {ds es : List Dt} {σ : L2.St} (hσ : ∃ a b c d, σ = [a, b, c, d]) (p : Turns H0 D ds es i H') (hT : H' T = none) (hi : i < 1000) (hx : ds[i]? = some dx) (hy : es[i]? = some dy) (px : Has H0 n x dx) (py : Has H0 n y dy) :
    gTup K 2 (gCons (gName 2) (gCons (gName 3) gNil)) (.ref T) (wipe σ [2, 3]) (upd H' T (.tup [x, y])) fun σ2 H2 => wipe σ2 [2, 3] = wipe σ [2, 3] ∧ tYes σ2 H2 fun b H3 =>
      if b = true then tCall (spSame n) [] E0 (tCons (tVar 2) (tCons (tVar 3) tNil)) σ2 H3 fun z H4 => ∃ acc, H4 D = some (.lst acc) ∧ acc.length < sizeLine ∧ Turns H0 D ds es (i + 1) (upd H4 D (.lst (acc ++ [z]))) else Turns H0 D ds es (i + 1) H3 := by
  obtain ⟨a, b, c, d, rfl⟩ := hσ
  obtain ⟨free, e0, bs, hD, hl, hb⟩ := p
  have nDT : D ≠ T := ne_of_none hD hT
  have e1 : Ex H' (upd H' T (.tup [x, y])) := Ex.new hT
  refine ⟨T, [x, y], rfl, SqT.of upd_same, rfl, x, [y], rfl, y, [], rfl, rfl, rfl, ?_⟩
  refine tt_yes ?_
  refine ⟨_, rfl, _, rfl, x, y, dx, dy, rfl, px.ex (e0.trans e1), py.ex (e0.trans e1), fun r H4 hr e2 => ?_⟩
  refine ⟨bs.map V.bl, e2 _ _ (by rw [upd_ne nDT]; exact hD), small1000 (by rw [List.length_map]; omega), free, Ex.mut ((e0.trans e1).trans e2) free, bs ++ [r], by rw [upd_same, List.map_append]; rfl, by rw [List.length_append, hl]; rfl, ?_⟩
  intro j d' e' b' h1 h2 h3
  by_cases hj : j < i
  · rw [List.getElem?_append_left (by omega)] at h3
    exact hb j d' e' b' h1 h2 h3
  · have hj2 : j = i := by
      have := (List.getElem?_eq_some_iff.mp h3).1
      rw [List.length_append, hl] at this
      simp only [List.length_singleton] at this
      omega
    subst hj2
    rw [List.getElem?_append_right (by omega), hl] at h3
    simp at h3
    subst h3
    rw [hx] at h1
    rw [hy] at h2
    cases h1
    cases h2
    exact hr
theorem ok_same (F : FnP K "_law_same" sSame f fd) (T : NoS mg) (gS : mg "_law_same" = some (.ref f)) : ∀ n, FnOk P w K mg base CX0 (n + 1) f fd ["_law_found", "_law_due"] (spSame n)
  | 0 => ok_same0 F T
  | n + 1 => by
    have G : FnOk P w K mg base CX0 (n + 1) f fd ["_law_found", "_law_due"] (spSame n) := ok_same F T gS n
    have bS : Binds K fd ["_law_found", "_law_due"] [] := F.bindsN fun _ _ _ _ _ _ us hl => match us, hl with | [_, _], _ => rfl
    refine F.ok scS (fun vs H Q E h => ?_) (fun cdv A outer s H vs Q E hr h => ?_)
    · obtain ⟨v, w, d, e, rfl, _⟩ := h
      rfl
    · obtain ⟨v, w, d, e, rfl, hv, hw, k⟩ := h
      refine ⟨_, PSs.nox (pss_cons (ps_if (PW.pt (pw_or (pt_val (pe_callB call_isi (by rfl) T.b.isi PyProof.Rows.boot_isinstance (pa_cons (pv 1) (pa_cons (pe_bltn (v := .ty "list") (by rfl) T.b.lst PyProof.Rows.boot_list rfl) pa_nil)))) (pw_or1 (pt_val (pe_callB call_isi (by rfl) T.b.isi PyProof.Rows.boot_isinstance (pa_cons (pv 1) (pa_cons (pe_bltn (v := .ty "tuple") (by rfl) T.b.tup PyProof.Rows.boot_tuple rfl) pa_nil))))))) (pss_cons (ps_if (PW.pt (pw_or (pt_cmpR op_ne (pe_callB call_isi (by rfl) T.b.isi PyProof.Rows.boot_isinstance (pa_cons (pv 0) (pa_cons (pe_bltn (v := .ty "list") (by rfl) T.b.lst PyProof.Rows.boot_list rfl) pa_nil))) (pe_callB call_isi (by rfl) T.b.isi PyProof.Rows.boot_isinstance (pa_cons (pv 1) (pa_cons (pe_bltn (v := .ty "list") (by rfl) T.b.lst PyProof.Rows.boot_list rfl) pa_nil))) (nomark _)) (pw_or1 (pt_cmpR op_ne (pe_callB call_isi (by rfl) T.b.isi PyProof.Rows.boot_isinstance (pa_cons (pv 0) (pa_cons (pe_bltn (v := .ty "tuple") (by rfl) T.b.tup PyProof.Rows.boot_tuple rfl) pa_nil))) (pe_callB call_isi (by rfl) T.b.isi PyProof.Rows.boot_isinstance (pa_cons (pv 1) (pa_cons (pe_bltn (v := .ty "tuple") (by rfl) T.b.tup PyProof.Rows.boot_tuple rfl) pa_nil))) (nomark _))))) (pss_one (ps_ret pe_bl)) pss_nil)
        (pss_one (ps_ret (pe_and (pe_cmpR op_eq (pe_callB call_len_seq (by rfl) T.len PySem.boot_len (pa_cons (pv 0) pa_nil)) (pe_callB call_len_seq (by rfl) T.len PySem.boot_len (pa_cons (pv 1) pa_nil)) (nomark _)) (pe_one (pe_callB (cr_all rfl) (by rfl) T.all PyProof.Rows.boot_all (pa_cons (pe_lc (own := [("_law_one", 2), ("_law_other", 3)]) (g := gTup K 2 (gCons (gName 2) (gCons (gName 3) gNil))) (by rfl) scS.nd (RZ.pi_zipA (by rfl) T.zip (pa_cons (pv 0) (pa_cons (pv 1) pa_nil))) (blkOk_by (own := [("_law_one", 2), ("_law_other", 3)]) (N := ["_law_found", "_law_due", "_law_one", "_law_other"]) (sc := defScope sSame) (by decide +kernel))
          (fun _ _ _ _ _ => pg_tup (by rfl) (pgs_cons (pg_name (i := 2) scS.nd rfl (Or.inl rfl)) (pgs_cons (pg_name (i := 3) scS.nd rfl (Or.inl rfl)) pgs_nil))) (fun _ _ _ _ _ => pts_nil)
          (fun _ _ _ _ _ => pe_call G (hr.mono (by omega)) rfl gS F.kp bS .nil pass0 (pa_cons (pv 2) (pa_cons (pv 3) pa_nil)))) pa_nil))))))) pss_nil)
      (pss_cons (ps_if (PW.pt (pw_or (pt_cmp (pc_isN (pv 1))) (pw_or1 (pt_cmp (pc_isN (pv 0)))))) (pss_one (ps_ret (pe_and (pe_cmp (pc_isN (pv 1))) (pe_one (pe_cmp (pc_isN (pv 0))))))) pss_nil)
      (pss_cons (ps_if (PW.pt (pw_or (pt_cmpR op_ne (pe_callB call_isi (by rfl) T.b.isi PyProof.Rows.boot_isinstance (pa_cons (pv 0) (pa_cons (pe_bltn (v := .ty "bool") (by rfl) T.bool (by decide +kernel) rfl) pa_nil))) (pe_callB call_isi (by rfl) T.b.isi PyProof.Rows.boot_isinstance (pa_cons (pv 1) (pa_cons (pe_bltn (v := .ty "bool") (by rfl) T.bool (by decide +kernel) rfl) pa_nil))) (nomark _)) (pw_or1 (pt_cmpR op_ne (pe_callB call_isi (by rfl) T.b.isi PyProof.Rows.boot_isinstance (pa_cons (pv 0) (pa_cons (pe_bltn (v := .ty "int") (by rfl) T.int (by decide +kernel) rfl) pa_nil))) (pe_callB call_isi (by rfl) T.b.isi PyProof.Rows.boot_isinstance (pa_cons (pv 1) (pa_cons (pe_bltn (v := .ty "int") (by rfl) T.int (by decide +kernel) rfl) pa_nil))) (nomark _))))) (pss_one (ps_ret pe_bl)) pss_nil)
      (pss_one (ps_ret (pe_and (pe_cmpR op_eq (pe_callB call_isi (by rfl) T.b.isi PyProof.Rows.boot_isinstance (pa_cons (pv 0) (pa_cons (pe_bltn (v := .ty "str") (by rfl) T.str (by decide +kernel) rfl) pa_nil))) (pe_callB call_isi (by rfl) T.b.isi PyProof.Rows.boot_isinstance (pa_cons (pv 1) (pa_cons (pe_bltn (v := .ty "str") (by rfl) T.str (by decide +kernel) rfl) pa_nil))) (nomark _)) (pe_one (pe_cmpR op_eq (pv 0) (pv 1) (nomark _))))))))), ?_⟩
      rcases hw with ⟨fw, rfl⟩ | ⟨b, ws, es, rfl, hwk, hwl, hwb, hwi⟩
      · have hb : (isB (tyF w) "list" || isB (tyF w) "tuple") = false := by cases w <;> first | exact fw.elim | rfl
        refine s_if (et_is (et_or (et_B (ev_isi (ev_var rfl) (kn_flat fw))) (fun _ => et_B (ev_isi (ev_var rfl) (kn_flat fw)))) hb) (fun h => nomatch h) fun _ H1 e1 => ?_
        rcases hv with ⟨fv, rfl⟩ | ⟨a, vs, ds, rfl, hvk, hvl, hvb, hvi⟩
        · refine pure_tail (K := K) (r := [none, none]) fw (kn_flat fv) (.inl ⟨fv, rfl⟩) fun H' e2 => k _ H' ?_ (e1.trans e2)
          rw [decide_eq_true_iff]
          exact ⟨fun e => by rw [e], fun e => Dt.f.inj e⟩
        · have hne : ¬ V.ref a = w := fun e => by
            rw [← e] at fw
            exact fw.elim
          rcases hvk with ⟨ha, rfl⟩ | ⟨ha, rfl⟩
          · refine pure_tail (K := K) (r := [none, none]) fw ((kn_lst ha).ex e1) (.inr ⟨.inl rfl, a, rfl⟩) fun H' e2 => k _ H' ?_ (e1.trans e2)
            rw [decide_eq_true_iff]
            exact ⟨fun e => absurd e hne, fun e => nomatch e⟩
          · refine pure_tail (K := K) (r := [none, none]) fw ((kn_tup ha).ex e1) (.inr ⟨.inr rfl, a, rfl⟩) fun H' e2 => k _ H' ?_ (e1.trans e2)
            rw [decide_eq_true_iff]
            exact ⟨fun e => absurd e hne, fun e => nomatch e⟩
      · rcases hwk with ⟨hb, rfl⟩ | ⟨hb, rfl⟩
        · refine s_if (et_is (et_or (et_B (ev_isi (ev_var rfl) (kn_lst hb))) (fun _ => et_B (ev_isi (ev_var rfl) (kn_lst hb)))) (by decide : _ = true)) (fun _ H1 e1 => ?_) (fun h => nomatch h)
          rcases hv with ⟨fv, rfl⟩ | ⟨a, vs, ds, rfl, ⟨ha, rfl⟩ | ⟨ha, rfl⟩, hvl, hvb, hvi⟩
          · have z : ((!decide (V.bl (isB (tyF v) "list") = V.bl (isB "list" "list"))) || !decide (V.bl (isB (tyF v) "tuple") = V.bl (isB "list" "tuple"))) = true := by cases v <;> first | exact fv.elim | rfl
            refine s_if (et_is (et_or (et_test (ev_op (ev_isi (ev_var rfl) ((kn_flat (K := K) (H := H) fv).ex e1)) (ev_isi (ev_var rfl) ((kn_lst (K := K) hb).ex e1)) (rv_ne rfl))) (fun _ => et_test (ev_op (ev_isi (ev_var rfl) ((kn_flat (K := K) (H := H) fv).ex e1)) (ev_isi (ev_var rfl) ((kn_lst (K := K) hb).ex e1)) (rv_ne rfl)))) z) (fun _ H2 e2 => ?_) (fun h => nomatch h)
            exact s_ret ev_c fun H3 e3 => k false H3 ⟨fun h => (nomatch h), fun h => (nomatch h)⟩ ((e1.trans e2).trans e3)
          · skip
            refine s_if (et_is (et_or (et_test (ev_op (ev_isi (ev_var rfl) ((kn_lst (K := K) ha).ex e1)) (ev_isi (ev_var rfl) ((kn_lst (K := K) hb).ex e1)) (rv_ne rfl))) (fun _ => et_test (ev_op (ev_isi (ev_var rfl) ((kn_lst (K := K) ha).ex e1)) (ev_isi (ev_var rfl) ((kn_lst (K := K) hb).ex e1)) (rv_ne rfl)))) (by decide : _ = false)) (fun h => nomatch h) (fun _ H2 e2 => ?_)
            have e12 := e1.trans e2
            refine s_ret (ev_andV (ev_op (ev_lenS (ev_var rfl) (.inl (SqL.of (e12 _ _ ha)))) (ev_lenS (ev_var rfl) (.inl (SqL.of (e12 _ _ hb)))) (rv_eq rfl)) (b := decide (ds = es)) (fun hlen => ?_)) fun H3 e3 => ?_
            · have hl : vs.length = ws.length := Int.ofNat.inj (V.int.inj (of_decide_eq_true hlen))
              have hl2 : ds.length = es.length := by omega
              intro H4 e4 Q' q'
              have e14 := e12.trans e4
              refine ⟨_, rfl, _, rfl, a, b, vs, ws, rfl, .inl ⟨SqL.of (e14 _ _ ha), SqL.of (e14 _ _ hb), fun D hD => ?_⟩⟩
              refine lc_any (J := Itz K a b) (n := vs.length) (Turns H4 D ds es) ⟨hD, Ex.new hD, [], upd_same, rfl, fun j d' e' b' _ _ h3 => by simp at h3⟩ (fun i H5 hi p => ?_) (fun H5 p => ?_) (fun i H5 x H6 hi p y => ?_) (fun H5 p => ?_)
              · have e5 := e14.trans p.2.1
                exact ⟨vs, ws, vs[i], ws[i]'(by omega), SqL.of (e5 _ _ ha), SqL.of (e5 _ _ hb), List.getElem?_eq_getElem hi, List.getElem?_eq_getElem (by omega)⟩
              · have e5 := e14.trans p.2.1
                exact ⟨vs, ws, SqL.of (e5 _ _ ha), SqL.of (e5 _ _ hb), .inl (Nat.le_refl _)⟩
              · obtain ⟨T, x', y', rfl, hT, rfl, f1, f2⟩ := y
                have e5 := e14.trans p.2.1
                have hx := f1 vs (SqL.of (e5 _ _ ha))
                have hy := f2 ws (SqL.of (e5 _ _ hb))
                have hdx : ds[i]? = some (ds[i]'(by omega)) := List.getElem?_eq_getElem _
                have hdy : es[i]? = some (es[i]'(by omega)) := List.getElem?_eq_getElem _
                exact turn_one ⟨_, _, _, _, rfl⟩ p hT (by omega) hdx hdy ((hvi i _ _ hx hdx).ex e14) ((hwi i _ _ hy hdy).ex e14)
              · obtain ⟨_, e5, bs, hD5, hl5, hb5⟩ := p
                refine ⟨D, bs, rfl, SqL.of hD5, ?_⟩
                have z : bs.all id = decide (ds = es) := by
                  have := turns_all hl2 (by omega) hb5
                  by_cases q : ds = es
                  · rw [decide_eq_true q, this.mpr q]
                  · rw [decide_eq_false q]
                    exact Bool.eq_false_iff.mpr fun h => q (this.mp h)
                rw [z]
                exact q' H5 e5
            · refine k _ H3 ?_ (e12.trans e3)
              rw [Bool.and_eq_true, decide_eq_true_iff, decide_eq_true_iff]
              refine ⟨fun h => by rw [h.2], fun h => ?_⟩
              have h2 := Dt.l.inj h
              subst h2
              exact ⟨by rw [hvl, hwl], rfl⟩
          · skip
            refine s_if (et_is (et_or (et_test (ev_op (ev_isi (ev_var rfl) ((kn_tup (K := K) ha).ex e1)) (ev_isi (ev_var rfl) ((kn_lst (K := K) hb).ex e1)) (rv_ne rfl))) (fun _ => et_test (ev_op (ev_isi (ev_var rfl) ((kn_tup (K := K) ha).ex e1)) (ev_isi (ev_var rfl) ((kn_lst (K := K) hb).ex e1)) (rv_ne rfl)))) (by decide : _ = true)) (fun _ H2 e2 => ?_) (fun h => nomatch h)
            exact s_ret ev_c fun H3 e3 => k false H3 ⟨fun h => (nomatch h), fun h => (nomatch h)⟩ ((e1.trans e2).trans e3)
        · refine s_if (et_is (et_or (et_B (ev_isi (ev_var rfl) (kn_tup hb))) (fun _ => et_B (ev_isi (ev_var rfl) (kn_tup hb)))) (by decide : _ = true)) (fun _ H1 e1 => ?_) (fun h => nomatch h)
          rcases hv with ⟨fv, rfl⟩ | ⟨a, vs, ds, rfl, ⟨ha, rfl⟩ | ⟨ha, rfl⟩, hvl, hvb, hvi⟩
          · have z : ((!decide (V.bl (isB (tyF v) "list") = V.bl (isB "tuple" "list"))) || !decide (V.bl (isB (tyF v) "tuple") = V.bl (isB "tuple" "tuple"))) = true := by cases v <;> first | exact fv.elim | rfl
            refine s_if (et_is (et_or (et_test (ev_op (ev_isi (ev_var rfl) ((kn_flat (K := K) (H := H) fv).ex e1)) (ev_isi (ev_var rfl) ((kn_tup (K := K) hb).ex e1)) (rv_ne rfl))) (fun _ => et_test (ev_op (ev_isi (ev_var rfl) ((kn_flat (K := K) (H := H) fv).ex e1)) (ev_isi (ev_var rfl) ((kn_tup (K := K) hb).ex e1)) (rv_ne rfl)))) z) (fun _ H2 e2 => ?_) (fun h => nomatch h)
            exact s_ret ev_c fun H3 e3 => k false H3 ⟨fun h => (nomatch h), fun h => (nomatch h)⟩ ((e1.trans e2).trans e3)
          · skip
            refine s_if (et_is (et_or (et_test (ev_op (ev_isi (ev_var rfl) ((kn_lst (K := K) ha).ex e1)) (ev_isi (ev_var rfl) ((kn_tup (K := K) hb).ex e1)) (rv_ne rfl))) (fun _ => et_test (ev_op (ev_isi (ev_var rfl) ((kn_lst (K := K) ha).ex e1)) (ev_isi (ev_var rfl) ((kn_tup (K := K) hb).ex e1)) (rv_ne rfl)))) (by decide : _ = true)) (fun _ H2 e2 => ?_) (fun h => nomatch h)
            exact s_ret ev_c fun H3 e3 => k false H3 ⟨fun h => (nomatch h), fun h => (nomatch h)⟩ ((e1.trans e2).trans e3)
          · skip
            refine s_if (et_is (et_or (et_test (ev_op (ev_isi (ev_var rfl) ((kn_tup (K := K) ha).ex e1)) (ev_isi (ev_var rfl) ((kn_tup (K := K) hb).ex e1)) (rv_ne rfl))) (fun _ => et_test (ev_op (ev_isi (ev_var rfl) ((kn_tup (K := K) ha).ex e1)) (ev_isi (ev_var rfl) ((kn_tup (K := K) hb).ex e1)) (rv_ne rfl)))) (by decide : _ = false)) (fun h => nomatch h) (fun _ H2 e2 => ?_)
            have e12 := e1.trans e2
            refine s_ret (ev_andV (ev_op (ev_lenS (ev_var rfl) (.inr (SqT.of (e12 _ _ ha)))) (ev_lenS (ev_var rfl) (.inr (SqT.of (e12 _ _ hb)))) (rv_eq rfl)) (b := decide (ds = es)) (fun hlen => ?_)) fun H3 e3 => ?_
            · have hl : vs.length = ws.length := Int.ofNat.inj (V.int.inj (of_decide_eq_true hlen))
              have hl2 : ds.length = es.length := by omega
              intro H4 e4 Q' q'
              have e14 := e12.trans e4
              refine ⟨_, rfl, _, rfl, a, b, vs, ws, rfl, .inr ⟨SqT.of (e14 _ _ ha), SqT.of (e14 _ _ hb), fun D hD => ?_⟩⟩
              refine lc_any (J := RZ.ItzT K a b) (n := vs.length) (Turns H4 D ds es) ⟨hD, Ex.new hD, [], upd_same, rfl, fun j d' e' b' _ _ h3 => by simp at h3⟩ (fun i H5 hi p => ?_) (fun H5 p => ?_) (fun i H5 x H6 hi p y => ?_) (fun H5 p => ?_)
              · have e5 := e14.trans p.2.1
                exact ⟨vs, ws, vs[i], ws[i]'(by omega), SqT.of (e5 _ _ ha), SqT.of (e5 _ _ hb), List.getElem?_eq_getElem hi, List.getElem?_eq_getElem (by omega)⟩
              · have e5 := e14.trans p.2.1
                exact ⟨vs, ws, SqT.of (e5 _ _ ha), SqT.of (e5 _ _ hb), .inl (Nat.le_refl _)⟩
              · obtain ⟨T, x', y', rfl, hT, rfl, f1, f2⟩ := y
                have e5 := e14.trans p.2.1
                have hx := f1 vs (SqT.of (e5 _ _ ha))
                have hy := f2 ws (SqT.of (e5 _ _ hb))
                have hdx : ds[i]? = some (ds[i]'(by omega)) := List.getElem?_eq_getElem _
                have hdy : es[i]? = some (es[i]'(by omega)) := List.getElem?_eq_getElem _
                exact turn_one ⟨_, _, _, _, rfl⟩ p hT (by omega) hdx hdy ((hvi i _ _ hx hdx).ex e14) ((hwi i _ _ hy hdy).ex e14)
              · obtain ⟨_, e5, bs, hD5, hl5, hb5⟩ := p
                refine ⟨D, bs, rfl, SqL.of hD5, ?_⟩
                have z : bs.all id = decide (ds = es) := by
                  have := turns_all hl2 (by omega) hb5
                  by_cases q : ds = es
                  · rw [decide_eq_true q, this.mpr q]
                  · rw [decide_eq_false q]
                    exact Bool.eq_false_iff.mpr fun h => q (this.mp h)
                rw [z]
                exact q' H5 e5
            · refine k _ H3 ?_ (e12.trans e3)
              rw [Bool.and_eq_true, decide_eq_true_iff, decide_eq_true_iff]
              refine ⟨fun h => by rw [h.2], fun h => ?_⟩
              have h2 := Dt.t.inj h
              subst h2
              exact ⟨by rw [hvl, hwl], rfl⟩
end
end K66

/-! What an expression yields, told by a property that growing heaps keep -/
namespace K66
open PySem L2 Evl OxK
structure Pd where
  p : V → Hp → Prop
  up : ∀ {v : V} {H H' : Hp}, p v H → Ex H H' → p v H'
def AllP : List Pd → List V → Hp → Prop
  | [], [], _ => True
  | P :: Ps, v :: vs, H => P.p v H ∧ AllP Ps vs H
  | _, _, _ => False
theorem AllP.up {H H' : Hp} (e : Ex H H') : ∀ {Ps : List Pd} {vs : List V}, AllP Ps vs H → AllP Ps vs H'
  | [], [], _ => True.intro
  | P :: Ps, v :: vs, h => ⟨P.up h.1 e, AllP.up e h.2⟩
  | [], _ :: _, h => h.elim
  | _ :: _, [], h => h.elim
theorem AllP.len {H : Hp} : ∀ {Ps : List Pd} {vs : List V}, AllP Ps vs H → vs.length = Ps.length
  | [], [], _ => rfl
  | P :: Ps, v :: vs, h => congrArg Nat.succ (AllP.len h.2)
  | [], _ :: _, h => h.elim
  | _ :: _, [], h => h.elim
theorem AllP.at_ {H : Hp} : ∀ {Ps : List Pd} {vs : List V}, AllP Ps vs H → ∀ {i : Nat} {P : Pd} {v : V}, Ps[i]? = some P → vs[i]? = some v → P.p v H
  | P :: Ps, v :: vs, h, 0, P', v', h1, h2 => by
    cases h1
    cases h2
    exact h.1
  | P :: Ps, v :: vs, h, i + 1, P', v', h1, h2 => AllP.at_ h.2 (i := i) (by simpa using h1) (by simpa using h2)
  | [], _, _, i, _, _, h1, _ => by simp at h1
  | _ :: _, [], h, _, _, _, _, _ => h.elim
theorem AllP.app {H : Hp} : ∀ {Ps Rs : List Pd} {vs ws : List V}, AllP Ps vs H → AllP Rs ws H → AllP (Ps ++ Rs) (vs ++ ws) H
  | [], _, [], _, _, h => h
  | P :: Ps, _, v :: vs, _, h, h' => ⟨h.1, AllP.app h.2 h'⟩
  | [], _, _ :: _, _, h, _ => h.elim
  | _ :: _, _, [], _, h, _ => h.elim
def Pd.is (v0 : V) : Pd := ⟨fun v _ => v = v0, fun h _ => h⟩
def Pd.lst (Ps : List Pd) : Pd := ⟨fun v H => ∃ (a : Addr) (vs : List V), v = .ref a ∧ H a = some (.lst vs) ∧ AllP Ps vs H, fun ⟨a, vs, r, h1, h2⟩ e => ⟨a, vs, r, e _ _ h1, h2.up e⟩⟩
def Pd.tup (Ps : List Pd) : Pd := ⟨fun v H => ∃ (a : Addr) (vs : List V), v = .ref a ∧ H a = some (.tup vs) ∧ AllP Ps vs H, fun ⟨a, vs, r, h1, h2⟩ e => ⟨a, vs, r, e _ _ h1, h2.up e⟩⟩
def Pd.dat (n : Nat) (d : Dt) : Pd := ⟨fun v H => Has H n v d, fun h e => h.ex e⟩
def EvP (te : TE) (σ : L2.St) (H : Hp) (P : Pd) : Prop := ∀ H1, Ex H H1 → ∀ Q : VK, (∀ v H2, Ex H1 H2 → P.p v H2 → Q v H2) → te σ H1 Q
def EvPA (ta : TA) (σ : L2.St) (H : Hp) (Ps : List Pd) : Prop := ∀ H1, Ex H H1 → ∀ Q : List V → Hp → Prop, (∀ vs H2, Ex H1 H2 → AllP Ps vs H2 → Q vs H2) → ta σ H1 Q
section
variable {K : PySem.W.Frag} {σ : L2.St} {H H' : Hp} {te ta tb : TE} {tr : TA} {P R : Pd} {Ps Rs : List Pd} {v : V}
theorem EvP.ex (h : EvP te σ H P) (e : Ex H H') : EvP te σ H' P := fun H1 e1 => h H1 (e.trans e1)
theorem EvPA.ex {ta : TA} (h : EvPA ta σ H Ps) (e : Ex H H') : EvPA ta σ H' Ps := fun H1 e1 => h H1 (e.trans e1)
theorem ep_of (h : Ev te σ H v) (hp : P.p v H) : EvP te σ H P := fun H1 e Q q => h H1 e _ fun H2 e2 => q v H2 e2 (P.up hp (e.trans e2))
theorem ep_is (h : Ev te σ H v) : EvP te σ H (.is v) := fun H1 e Q q => h H1 e _ fun H2 e2 => q v H2 e2 rfl
theorem ep_var {i : Nat} (h : σ[i]? = some (some v)) (hp : P.p v H) : EvP (tVar i) σ H P := ep_of (ev_var h) hp
theorem epa_nil : EvPA tNil σ H [] := fun H1 _ _ q => q [] H1 (Ex.refl H1) True.intro
theorem epa_cons (h : EvP te σ H P) (hr : EvPA tr σ H Ps) : EvPA (tCons te tr) σ H (P :: Ps) := fun H1 e Q q =>
  h H1 e _ fun v H2 e2 hv => hr H2 (e.trans e2) _ fun vs H3 e3 hvs => q (v :: vs) H3 (e2.trans e3) ⟨P.up hv e3, hvs⟩
theorem ep_lst {ta : TA} (h : EvPA ta σ H Ps) (hl : Ps.length ≤ 1000) : EvP (tLst ta) σ H (.lst Ps) := fun H1 e Q q =>
  h H1 e _ fun vs H2 e2 hvs => ⟨Nat.le_of_lt (small1000 (by rw [hvs.len]; exact hl)), fun p hp => q (.ref p) _ (e2.trans (Ex.new hp)) ⟨p, vs, rfl, upd_same, hvs.up (Ex.new hp)⟩⟩
theorem ep_tup {ta : TA} (h : EvPA ta σ H Ps) (hl : Ps.length ≤ 1000) : EvP (tTup ta) σ H (.tup Ps) := fun H1 e Q q =>
  h H1 e _ fun vs H2 e2 hvs => ⟨Nat.le_of_lt (small1000 (by rw [hvs.len]; exact hl)), fun p hp => q (.ref p) _ (e2.trans (Ex.new hp)) ⟨p, vs, rfl, upd_same, hvs.up (Ex.new hp)⟩⟩
/-- an item of a list at a written place -/
theorem ep_ix {i : Nat} (h : EvP ta σ H (.lst Ps)) (hi : Ps[i]? = some P) : EvP (tOp (rIxL K) ta (tC (.int (i : Int)))) σ H P := fun H1 e Q q =>
  h H1 e _ fun v H2 e2 hv => by
    obtain ⟨a, vs, rfl, ha, hvs⟩ := hv
    have hlt : i < vs.length := by
      rw [hvs.len]
      exact (List.getElem?_eq_some_iff.mp hi).1
    have hx : vs[i]? = some vs[i] := List.getElem?_eq_getElem hlt
    exact ⟨a, vs, _, vs[i], rfl, rfl, SqL.of ha, atI_nat hx, q _ H2 e2 (hvs.at_ hi hx)⟩
theorem s_asgP {D : Ends} {i : Nat} (h : EvP te σ H P) (k : ∀ v H1, Ex H H1 → P.p v H1 → D.nx (σ.set i (some v)) H1) : tAsg te (gName i) D σ H := h H (Ex.refl H) _ k
theorem ep_cat (ha : EvP ta σ H (.lst Ps)) (hb : EvP tb σ H (.lst Rs)) (hz : Ps.length + Rs.length ≤ 1000) : EvP (tOp rCat ta tb) σ H (.lst (Ps ++ Rs)) := fun H1 e Q q =>
  ha H1 e _ fun v H2 e2 ⟨a, vs, rv, h2, p2⟩ => hb H2 (e.trans e2) _ fun u H3 e3 ⟨b, us, ru, h3, p3⟩ => by
    subst rv ru
    refine ⟨a, b, vs, us, rfl, rfl, e3 _ _ h2, h3, Nat.le_of_lt (small1000 (by rw [p2.len, p3.len]; exact hz)), fun p hp => q (.ref p) _ ((e2.trans e3).trans (Ex.new hp)) ⟨p, _, rfl, upd_same, ((p2.up e3).app p3).up (Ex.new hp)⟩⟩
theorem given_all (n : Nat) (v : Nat → V) : given n (fun _ => true) v = (List.range n).map v := by
  unfold given
  rw [List.filter_eq_self.mpr (fun _ _ => rfl)]
/-- a comprehension whose items are known -/
theorem el_lcC {a : Addr} {xs : List V} {tl : TE} {j : Nat} {vs : List Nat} (v : Nat → V) (h : Ev tl σ H (.ref a)) (hx : H a = some (.lst xs)) (hz : xs.length ≤ 1000) (hw : ∀ x, wipe ((wipe σ vs).set j (some x)) vs = wipe σ vs)
    (he : ∀ (i : Nat) (x : V) H1, Ex H H1 → xs[i]? = some x → Ev te ((wipe σ vs).set j (some x)) H1 (v i)) : EvL (tLc (iList K tl) (gName j) tYes te vs) σ H ((List.range xs.length).map v) := by
  have z := el_lcL (K := K) (te := te) (t := tYes) (fun _ => true) v h (SqL.of hx) (by omega) hw (fun i x H1 _ _ => fun H2 e2 Q q => q H2 (Ex.refl H2)) (fun i x H1 e hi _ => he i x H1 e hi)
  rw [given_all] at z
  exact z
/-- a comprehension whose items are new lists -/
def LL (xss : Nat → List V) (D : Addr) (i : Nat) (H : Hp) (ys : List V) : Prop := ys.length = i ∧ ∀ (k : Nat) (y : V), ys[k]? = some y → ∃ t, y = .ref t ∧ t ≠ D ∧ H t = some (.lst (xss k))
theorem el_lcLL {a : Addr} {xs : List V} {tl : TE} {j : Nat} {vs : List Nat} (xss : Nat → List V) (h : Ev tl σ H (.ref a)) (hx : H a = some (.lst xs)) (hz : xs.length ≤ 1000) (hw : ∀ x, wipe ((wipe σ vs).set j (some x)) vs = wipe σ vs)
    (he : ∀ (i : Nat) (x : V) H1, Ex H H1 → xs[i]? = some x → EvL te ((wipe σ vs).set j (some x)) H1 (xss i)) :
    ∀ H1, Ex H H1 → ∀ Q : VK, (∀ D H2 ys, Ex H1 H2 → H2 D = some (.lst ys) → LL xss D xs.length H2 ys → Q (.ref D) H2) → tLc (iList K tl) (gName j) tYes te vs σ H1 Q := fun H1 e Q q =>
  h H1 e _ fun H2 e2 => by
    refine ⟨a, rfl, ⟨_, SqL.of ((e.trans e2) _ _ hx)⟩, fun D hD => lc_list (K := K) (a := a) (xs := xs) (fun i H' => Ex H2 H' ∧ ∃ ys, H' D = some (.lst ys) ∧ LL xss D i H' ys) ⟨Ex.new hD, [], upd_same, rfl, fun k y hk => by simp at hk⟩ ?_ ?_ ?_⟩
    · rintro i H' hi ⟨e3, _⟩
      exact SqL.of (((e.trans e2).trans e3) _ _ hx)
    · rintro i x H' hxi ⟨e3, ys, hys, hl, al⟩
      have hi : i < xs.length := (List.getElem?_eq_some_iff.mp hxi).1
      refine ⟨hw x, ?_⟩
      refine tt_yes ?_
      refine he i x H' ((e.trans e2).trans e3) hxi H' (Ex.refl H') _ fun p H4 hp e4 h4 => ?_
      have npD : p ≠ D := fun z => by rw [z, hys] at hp; cases hp
      refine ⟨ys, e4 _ _ hys, small1000 (by omega), Ex.mut (e3.trans e4) hD, ys ++ [.ref p], upd_same, by rw [List.length_append, hl]; rfl, fun k y hk => ?_⟩
      by_cases hlt : k < i
      · rw [List.getElem?_append_left (by omega)] at hk
        obtain ⟨t, rt, nt, ht⟩ := al k y hk
        exact ⟨t, rt, nt, by rw [upd_ne nt]; exact e4 _ _ ht⟩
      · have hk2 : k = i := by
          have := (List.getElem?_eq_some_iff.mp hk).1
          rw [List.length_append, hl] at this
          simp only [List.length_singleton] at this
          omega
        subst hk2
        rw [List.getElem?_append_right (by omega), hl] at hk
        simp at hk
        subst hk
        exact ⟨p, rfl, npD, by rw [upd_ne npD]; exact h4⟩
    · rintro H' ⟨e3, ys, hys, al⟩
      exact q D H' ys (e2.trans e3) hys al
/-! ### kept exceptions -/
def Pd.exc (C : Addr) (cn pn : Str) (v : V) : Pd := ⟨fun x H => ∃ (a : Addr) (v' : V), x = .ref a ∧ Twin H v v' ∧ Mde H a C [(pn, v'), ("tag", .str cn)], fun ⟨a, v', r, h1, h2⟩ e => ⟨a, v', r, h1.ex e, h2.ex e⟩⟩
def Pd.exc0 (C : Addr) (cn : Str) : Pd := ⟨fun x H => ∃ (a : Addr), x = .ref a ∧ Mde H a C [("tag", .str cn)], fun ⟨a, r, h⟩ e => ⟨a, r, h.ex e⟩⟩
theorem ep_new {C : Addr} {cn pn : Str} {ta : TE} {v : V} (h : Ev ta σ H v) (hv : Arg H v) : EvP (tXnew C 1 0 (spI C cn pn) (tCons ta tNil) tNil) σ H (.exc C cn pn v) := fun H1 e Q q =>
  h H1 e _ fun H2 e2 => ⟨rfl, rfl, fun a ha => ⟨a, v, H2, rfl, ha, rfl, hv.ex (e.trans e2), fun v' H' e3 tw m => ⟨rfl, q (.ref a) H' (e2.trans e3) ⟨a, v', rfl, tw, m⟩⟩⟩⟩
theorem ep_newK {C : Addr} {cn pn : Str} {ta : TE} {v : V} (h : Ev ta σ H v) (hv : Arg H v) : EvP (tXnew C 0 1 (spI C cn pn) tNil (tCons ta tNil)) σ H (.exc C cn pn v) := fun H1 e Q q =>
  h H1 e _ fun H2 e2 => ⟨rfl, rfl, fun a ha => ⟨a, v, H2, rfl, ha, rfl, hv.ex (e.trans e2), fun v' H' e3 tw m => ⟨rfl, q (.ref a) H' (e2.trans e3) ⟨a, v', rfl, tw, m⟩⟩⟩⟩
theorem ep_new0 {C : Addr} {cn : Str} : EvP (tXnew C 0 0 (spI0 C cn) tNil tNil) σ H (.exc0 C cn) := fun H1 e Q q =>
  ⟨rfl, rfl, fun a ha => ⟨a, H1, rfl, ha, rfl, fun H' e3 m => ⟨rfl, q (.ref a) H' e3 ⟨a, rfl, m⟩⟩⟩⟩
theorem ev_xg {a C : Addr} {f : Str} {fs : List (Str × V)} {v : V} (h : Ev te σ H (.ref a)) (m : Mde H a C fs) (T : ExC K C) (no : PySem.W.findIn K (.ref C) f = some none) (hf : fs.lookup f = some v) : Ev (tXg K f te) σ H v := fun H1 e Q q =>
  h H1 e _ fun H2 e2 => by
    obtain ⟨d, h1, h2⟩ := m.ex (e.trans e2)
    exact ⟨a, C, d, fs, v, rfl, T, no, h1, h2, hf, q H2 e2⟩
theorem ev_isx {a D : Addr} {fs : List (Str × V)} {tc : TE} {c : V} {u : Value} {b : Bool} (h : Ev te σ H (.ref a)) (hc : Ev tc σ H c) (m : Mde H a D fs) (T : ExC K D) (S : IsC K D) (kc : ClsV c u) (hk : PySem.W.kitOne K (.ref D) u = some b) :
    Ev (tCB (rIsX K) (tCons te (tCons tc tNil))) σ H (.bl b) := fun H1 e Q q =>
  h H1 e _ fun H2 e2 => hc H2 (e.trans e2) _ fun H3 e3 => by
    obtain ⟨d, h1, h2⟩ := m.ex ((e.trans e2).trans e3)
    exact ⟨a, D, d, fs, c, u, b, rfl, T, S, h1, h2, kc, hk, q H3 (e2.trans e3)⟩
end
end K66

/-! Which of the errors' classes an error is of: its own alone -/
namespace K66
open PySem L2 Evl OxK
abbrev sCls : Stmt := top 34
def cls24 : List Str := ["InvalidStates", "InvalidState", "InvalidWord", "InvalidCount", "InvalidIndex", "InvalidLimit", "InvalidName", "DuplicateName", "UnknownName", "InvalidMove", "TooMany", "CapacityExceeded", "InvalidCommand", "ParseError", "InvalidAlphabet", "InvalidGroup", "InvalidReport", "InvalidPartition", "InvalidPairs", "InvalidText", "NoMachines", "AlphabetsDiffer", "Refused", "NothingLeft"]
def nm (i : Nat) : Str := cls24.getD i ""
def cA (K : PySem.W.Frag) (i : Nat) : Addr := He.ga K (nm i)
structure Fx (K : PySem.W.Frag) (mg : Str → Option Value) : Prop where
  gl : ∀ i, i < 24 → mg (nm i) = some (.ref (cA K i))
  ex : ∀ i, i < 24 → ExC K (cA K i)
  is_ : ∀ i, i < 24 → IsC K (cA K i)
  kit : ∀ i, i < 24 → ∀ j, j < 24 → PySem.W.kitOne K (.ref (cA K i)) (.ref (cA K j)) = some (decide (j = i))
def spCls (K : PySem.W.Frag) : Sp := fun vs H Q _ => ∃ (a : Addr) (i : Nat) (fs : List (Str × V)), vs = [.ref a] ∧ i < 24 ∧ Mde H a (cA K i) fs ∧ ∀ (p : Addr) (H' : Hp), H p = none → Ex H H' → H' p = some (.lst [.str (nm i)]) → Q (.ref p) H'
theorem one_of : ∀ i, i < 24 → (List.range 24).filter (fun k => decide (k = i)) = [i] := by decide
/-- [word for word, is_one in pairs if is_one] -/
theorem el_lcW {K : PySem.W.Frag} {σ : L2.St} {H : Hp} {a : Addr} {xs : List V} {tl : TE} (ws : Nat → Str) (bs : Nat → Bool) (hσ : ∃ a b c d, σ = [a, b, c, d]) (h : Ev tl σ H (.ref a)) (hx : H a = some (.lst xs)) (hz : xs.length ≤ 1000)
    (ht : ∀ (k : Nat) (x : V), xs[k]? = some x → ∃ t, x = .ref t ∧ H t = some (.tup [.str (ws k), .bl (bs k)])) :
    EvL (tLc (iList K tl) (gTup K 2 (gCons (gName 2) (gCons (gName 3) gNil))) (tB (tVar 3)) (tVar 2) [2, 3]) σ H (given xs.length bs fun k => .str (ws k)) := fun H0 e Q q => h H0 e _ fun H1 e1 => ⟨a, rfl, ⟨xs, SqL.of ((e.trans e1) _ _ hx)⟩, fun D hD =>
  lc_list (xs := xs) (Cw H1 bs (fun k => .str (ws k)) D) ⟨hD, Ex.new hD, upd_same⟩ (fun i H' _ p => SqL.of (((e.trans e1).trans p.2.1) _ _ hx)) (fun i x H' hi p => by
      obtain ⟨t, rfl, h2⟩ := ht i x hi
      obtain ⟨a1, a2, a3, a4, rfl⟩ := hσ
      refine ⟨t, _, rfl, SqT.of (((e.trans e1).trans p.2.1) _ _ h2), rfl, _, _, rfl, _, _, rfl, rfl, rfl, ?_⟩
      exact cw_turn p (by have := (List.getElem?_eq_some_iff.mp hi).1; omega) (et_B (ev_var rfl)) (fun _ => ev_var rfl))
    (fun H' p => q D H' (fresh_back e1 p.1) (e1.trans p.2.1) p.2.2)⟩
section
variable {P : Program} {w : World} {K : PySem.W.Frag} {mg : Str → Option Value} {base : Heap} {f : Addr} {fd : FuncData}
theorem scK : FnScope ["_law_e", "_law_kinds", "_law_word", "_law_is_one"] ["_law_e"] (defScope sCls) := ⟨rfl, rfl, rfl, by decide +kernel, rfl, by decide +kernel, by decide +kernel⟩
theorem ok_cls (F : FnP K "_law_classes" sCls f fd) (T : Fx K mg) (gI : mg "isinstance" = none) : FnOk P w K mg base CX0 1 f fd ["_law_e"] (spCls K) := by
  refine F.ok scK (fun vs H Q E h => ?_) (fun cdv A outer s H vs Q E hr h => ?_)
  · obtain ⟨a, i, fs, rfl, _⟩ := h
    rfl
  · obtain ⟨a, i, fs, rfl, hi, m, k⟩ := h
    refine ⟨_, PSs.nox (pss_cons (ps_set (i := 1) scK.nd rfl (Or.inl rfl) (pe_lst (pa_cons (pe_tup (pa_cons pe_str (pa_cons (pe_callB call_isX (by rfl) gI PyProof.Rows.boot_isinstance (pa_cons (pv 0) (pa_cons (pe_glob (v := .ref (cA K 0)) rfl (T.gl 0 (by decide)) rfl) pa_nil))) pa_nil))) (pa_cons (pe_tup (pa_cons pe_str (pa_cons (pe_callB call_isX (by rfl) gI PyProof.Rows.boot_isinstance (pa_cons (pv 0) (pa_cons (pe_glob (v := .ref (cA K 1)) rfl (T.gl 1 (by decide)) rfl) pa_nil))) pa_nil))) (pa_cons (pe_tup (pa_cons pe_str (pa_cons (pe_callB call_isX (by rfl) gI PyProof.Rows.boot_isinstance (pa_cons (pv 0) (pa_cons (pe_glob (v := .ref (cA K 2)) rfl (T.gl 2 (by decide)) rfl) pa_nil))) pa_nil))) pa_nil)))))
      (pss_cons (ps_set (i := 1) scK.nd rfl (Or.inl rfl) (pe_op op_cat (pv 1) (pe_lst (pa_cons (pe_tup (pa_cons pe_str (pa_cons (pe_callB call_isX (by rfl) gI PyProof.Rows.boot_isinstance (pa_cons (pv 0) (pa_cons (pe_glob (v := .ref (cA K 3)) rfl (T.gl 3 (by decide)) rfl) pa_nil))) pa_nil))) (pa_cons (pe_tup (pa_cons pe_str (pa_cons (pe_callB call_isX (by rfl) gI PyProof.Rows.boot_isinstance (pa_cons (pv 0) (pa_cons (pe_glob (v := .ref (cA K 4)) rfl (T.gl 4 (by decide)) rfl) pa_nil))) pa_nil))) (pa_cons (pe_tup (pa_cons pe_str (pa_cons (pe_callB call_isX (by rfl) gI PyProof.Rows.boot_isinstance (pa_cons (pv 0) (pa_cons (pe_glob (v := .ref (cA K 5)) rfl (T.gl 5 (by decide)) rfl) pa_nil))) pa_nil))) pa_nil))))))
      (pss_cons (ps_set (i := 1) scK.nd rfl (Or.inl rfl) (pe_op op_cat (pv 1) (pe_lst (pa_cons (pe_tup (pa_cons pe_str (pa_cons (pe_callB call_isX (by rfl) gI PyProof.Rows.boot_isinstance (pa_cons (pv 0) (pa_cons (pe_glob (v := .ref (cA K 6)) rfl (T.gl 6 (by decide)) rfl) pa_nil))) pa_nil))) (pa_cons (pe_tup (pa_cons pe_str (pa_cons (pe_callB call_isX (by rfl) gI PyProof.Rows.boot_isinstance (pa_cons (pv 0) (pa_cons (pe_glob (v := .ref (cA K 7)) rfl (T.gl 7 (by decide)) rfl) pa_nil))) pa_nil))) (pa_cons (pe_tup (pa_cons pe_str (pa_cons (pe_callB call_isX (by rfl) gI PyProof.Rows.boot_isinstance (pa_cons (pv 0) (pa_cons (pe_glob (v := .ref (cA K 8)) rfl (T.gl 8 (by decide)) rfl) pa_nil))) pa_nil))) pa_nil))))))
      (pss_cons (ps_set (i := 1) scK.nd rfl (Or.inl rfl) (pe_op op_cat (pv 1) (pe_lst (pa_cons (pe_tup (pa_cons pe_str (pa_cons (pe_callB call_isX (by rfl) gI PyProof.Rows.boot_isinstance (pa_cons (pv 0) (pa_cons (pe_glob (v := .ref (cA K 9)) rfl (T.gl 9 (by decide)) rfl) pa_nil))) pa_nil))) (pa_cons (pe_tup (pa_cons pe_str (pa_cons (pe_callB call_isX (by rfl) gI PyProof.Rows.boot_isinstance (pa_cons (pv 0) (pa_cons (pe_glob (v := .ref (cA K 10)) rfl (T.gl 10 (by decide)) rfl) pa_nil))) pa_nil))) (pa_cons (pe_tup (pa_cons pe_str (pa_cons (pe_callB call_isX (by rfl) gI PyProof.Rows.boot_isinstance (pa_cons (pv 0) (pa_cons (pe_glob (v := .ref (cA K 11)) rfl (T.gl 11 (by decide)) rfl) pa_nil))) pa_nil))) pa_nil))))))
      (pss_cons (ps_set (i := 1) scK.nd rfl (Or.inl rfl) (pe_op op_cat (pv 1) (pe_lst (pa_cons (pe_tup (pa_cons pe_str (pa_cons (pe_callB call_isX (by rfl) gI PyProof.Rows.boot_isinstance (pa_cons (pv 0) (pa_cons (pe_glob (v := .ref (cA K 12)) rfl (T.gl 12 (by decide)) rfl) pa_nil))) pa_nil))) (pa_cons (pe_tup (pa_cons pe_str (pa_cons (pe_callB call_isX (by rfl) gI PyProof.Rows.boot_isinstance (pa_cons (pv 0) (pa_cons (pe_glob (v := .ref (cA K 13)) rfl (T.gl 13 (by decide)) rfl) pa_nil))) pa_nil))) (pa_cons (pe_tup (pa_cons pe_str (pa_cons (pe_callB call_isX (by rfl) gI PyProof.Rows.boot_isinstance (pa_cons (pv 0) (pa_cons (pe_glob (v := .ref (cA K 14)) rfl (T.gl 14 (by decide)) rfl) pa_nil))) pa_nil))) pa_nil))))))
      (pss_cons (ps_set (i := 1) scK.nd rfl (Or.inl rfl) (pe_op op_cat (pv 1) (pe_lst (pa_cons (pe_tup (pa_cons pe_str (pa_cons (pe_callB call_isX (by rfl) gI PyProof.Rows.boot_isinstance (pa_cons (pv 0) (pa_cons (pe_glob (v := .ref (cA K 15)) rfl (T.gl 15 (by decide)) rfl) pa_nil))) pa_nil))) (pa_cons (pe_tup (pa_cons pe_str (pa_cons (pe_callB call_isX (by rfl) gI PyProof.Rows.boot_isinstance (pa_cons (pv 0) (pa_cons (pe_glob (v := .ref (cA K 16)) rfl (T.gl 16 (by decide)) rfl) pa_nil))) pa_nil))) (pa_cons (pe_tup (pa_cons pe_str (pa_cons (pe_callB call_isX (by rfl) gI PyProof.Rows.boot_isinstance (pa_cons (pv 0) (pa_cons (pe_glob (v := .ref (cA K 17)) rfl (T.gl 17 (by decide)) rfl) pa_nil))) pa_nil))) pa_nil))))))
      (pss_cons (ps_set (i := 1) scK.nd rfl (Or.inl rfl) (pe_op op_cat (pv 1) (pe_lst (pa_cons (pe_tup (pa_cons pe_str (pa_cons (pe_callB call_isX (by rfl) gI PyProof.Rows.boot_isinstance (pa_cons (pv 0) (pa_cons (pe_glob (v := .ref (cA K 18)) rfl (T.gl 18 (by decide)) rfl) pa_nil))) pa_nil))) (pa_cons (pe_tup (pa_cons pe_str (pa_cons (pe_callB call_isX (by rfl) gI PyProof.Rows.boot_isinstance (pa_cons (pv 0) (pa_cons (pe_glob (v := .ref (cA K 19)) rfl (T.gl 19 (by decide)) rfl) pa_nil))) pa_nil))) (pa_cons (pe_tup (pa_cons pe_str (pa_cons (pe_callB call_isX (by rfl) gI PyProof.Rows.boot_isinstance (pa_cons (pv 0) (pa_cons (pe_glob (v := .ref (cA K 20)) rfl (T.gl 20 (by decide)) rfl) pa_nil))) pa_nil))) pa_nil))))))
      (pss_cons (ps_set (i := 1) scK.nd rfl (Or.inl rfl) (pe_op op_cat (pv 1) (pe_lst (pa_cons (pe_tup (pa_cons pe_str (pa_cons (pe_callB call_isX (by rfl) gI PyProof.Rows.boot_isinstance (pa_cons (pv 0) (pa_cons (pe_glob (v := .ref (cA K 21)) rfl (T.gl 21 (by decide)) rfl) pa_nil))) pa_nil))) (pa_cons (pe_tup (pa_cons pe_str (pa_cons (pe_callB call_isX (by rfl) gI PyProof.Rows.boot_isinstance (pa_cons (pv 0) (pa_cons (pe_glob (v := .ref (cA K 22)) rfl (T.gl 22 (by decide)) rfl) pa_nil))) pa_nil))) (pa_cons (pe_tup (pa_cons pe_str (pa_cons (pe_callB call_isX (by rfl) gI PyProof.Rows.boot_isinstance (pa_cons (pv 0) (pa_cons (pe_glob (v := .ref (cA K 23)) rfl (T.gl 23 (by decide)) rfl) pa_nil))) pa_nil))) pa_nil))))))
      (pss_one (ps_ret (pe_lc (own := [("_law_word", 2), ("_law_is_one", 3)]) (g := gTup K 2 (gCons (gName 2) (gCons (gName 3) gNil))) (tt := tB (tVar 3)) (by rfl) scK.nd (pi_list (pv 1)) (blkOk_by (own := [("_law_word", 2), ("_law_is_one", 3)]) (N := ["_law_e", "_law_kinds", "_law_word", "_law_is_one"]) (sc := defScope sCls) (by decide +kernel))
        (fun _ _ _ _ _ => pg_tup (by rfl) (pgs_cons (pg_name (i := 2) scK.nd rfl (Or.inl rfl)) (pgs_cons (pg_name (i := 3) scK.nd rfl (Or.inl rfl)) pgs_nil))) (fun _ _ _ _ _ => pts_one (pt_val (pv 3))) (fun _ _ _ _ _ => pv 2)))))))))))), ?_⟩
    have e0 : Ex H H := Ex.refl H
    refine s_asgP (ep_lst (epa_cons (ep_tup (epa_cons (ep_is ev_c) (epa_cons (ep_is (ev_isx (ev_var rfl) ev_c (m.ex e0) (T.ex i hi) (T.is_ i hi) (.own _) (T.kit i hi 0 (by decide)))) epa_nil)) (by decide : 2 ≤ 1000)) (epa_cons (ep_tup (epa_cons (ep_is ev_c) (epa_cons (ep_is (ev_isx (ev_var rfl) ev_c (m.ex e0) (T.ex i hi) (T.is_ i hi) (.own _) (T.kit i hi 1 (by decide)))) epa_nil)) (by decide : 2 ≤ 1000)) (epa_cons (ep_tup (epa_cons (ep_is ev_c) (epa_cons (ep_is (ev_isx (ev_var rfl) ev_c (m.ex e0) (T.ex i hi) (T.is_ i hi) (.own _) (T.kit i hi 2 (by decide)))) epa_nil)) (by decide : 2 ≤ 1000)) epa_nil))) (by decide : 3 ≤ 1000)) fun v1 H1 x1 h1 => ?_
    have e1 := e0.trans x1
    refine s_asgP (ep_cat (ep_var rfl h1) (ep_lst (epa_cons (ep_tup (epa_cons (ep_is ev_c) (epa_cons (ep_is (ev_isx (ev_var rfl) ev_c (m.ex e1) (T.ex i hi) (T.is_ i hi) (.own _) (T.kit i hi 3 (by decide)))) epa_nil)) (by decide : 2 ≤ 1000)) (epa_cons (ep_tup (epa_cons (ep_is ev_c) (epa_cons (ep_is (ev_isx (ev_var rfl) ev_c (m.ex e1) (T.ex i hi) (T.is_ i hi) (.own _) (T.kit i hi 4 (by decide)))) epa_nil)) (by decide : 2 ≤ 1000)) (epa_cons (ep_tup (epa_cons (ep_is ev_c) (epa_cons (ep_is (ev_isx (ev_var rfl) ev_c (m.ex e1) (T.ex i hi) (T.is_ i hi) (.own _) (T.kit i hi 5 (by decide)))) epa_nil)) (by decide : 2 ≤ 1000)) epa_nil))) (by decide : 3 ≤ 1000)) (by exact Nat.le_of_ble_eq_true rfl)) fun v2 H2 x2 h2 => ?_
    have e2 := e1.trans x2
    refine s_asgP (ep_cat (ep_var rfl h2) (ep_lst (epa_cons (ep_tup (epa_cons (ep_is ev_c) (epa_cons (ep_is (ev_isx (ev_var rfl) ev_c (m.ex e2) (T.ex i hi) (T.is_ i hi) (.own _) (T.kit i hi 6 (by decide)))) epa_nil)) (by decide : 2 ≤ 1000)) (epa_cons (ep_tup (epa_cons (ep_is ev_c) (epa_cons (ep_is (ev_isx (ev_var rfl) ev_c (m.ex e2) (T.ex i hi) (T.is_ i hi) (.own _) (T.kit i hi 7 (by decide)))) epa_nil)) (by decide : 2 ≤ 1000)) (epa_cons (ep_tup (epa_cons (ep_is ev_c) (epa_cons (ep_is (ev_isx (ev_var rfl) ev_c (m.ex e2) (T.ex i hi) (T.is_ i hi) (.own _) (T.kit i hi 8 (by decide)))) epa_nil)) (by decide : 2 ≤ 1000)) epa_nil))) (by decide : 3 ≤ 1000)) (by exact Nat.le_of_ble_eq_true rfl)) fun v3 H3 x3 h3 => ?_
    have e3 := e2.trans x3
    refine s_asgP (ep_cat (ep_var rfl h3) (ep_lst (epa_cons (ep_tup (epa_cons (ep_is ev_c) (epa_cons (ep_is (ev_isx (ev_var rfl) ev_c (m.ex e3) (T.ex i hi) (T.is_ i hi) (.own _) (T.kit i hi 9 (by decide)))) epa_nil)) (by decide : 2 ≤ 1000)) (epa_cons (ep_tup (epa_cons (ep_is ev_c) (epa_cons (ep_is (ev_isx (ev_var rfl) ev_c (m.ex e3) (T.ex i hi) (T.is_ i hi) (.own _) (T.kit i hi 10 (by decide)))) epa_nil)) (by decide : 2 ≤ 1000)) (epa_cons (ep_tup (epa_cons (ep_is ev_c) (epa_cons (ep_is (ev_isx (ev_var rfl) ev_c (m.ex e3) (T.ex i hi) (T.is_ i hi) (.own _) (T.kit i hi 11 (by decide)))) epa_nil)) (by decide : 2 ≤ 1000)) epa_nil))) (by decide : 3 ≤ 1000)) (by exact Nat.le_of_ble_eq_true rfl)) fun v4 H4 x4 h4 => ?_
    have e4 := e3.trans x4
    refine s_asgP (ep_cat (ep_var rfl h4) (ep_lst (epa_cons (ep_tup (epa_cons (ep_is ev_c) (epa_cons (ep_is (ev_isx (ev_var rfl) ev_c (m.ex e4) (T.ex i hi) (T.is_ i hi) (.own _) (T.kit i hi 12 (by decide)))) epa_nil)) (by decide : 2 ≤ 1000)) (epa_cons (ep_tup (epa_cons (ep_is ev_c) (epa_cons (ep_is (ev_isx (ev_var rfl) ev_c (m.ex e4) (T.ex i hi) (T.is_ i hi) (.own _) (T.kit i hi 13 (by decide)))) epa_nil)) (by decide : 2 ≤ 1000)) (epa_cons (ep_tup (epa_cons (ep_is ev_c) (epa_cons (ep_is (ev_isx (ev_var rfl) ev_c (m.ex e4) (T.ex i hi) (T.is_ i hi) (.own _) (T.kit i hi 14 (by decide)))) epa_nil)) (by decide : 2 ≤ 1000)) epa_nil))) (by decide : 3 ≤ 1000)) (by exact Nat.le_of_ble_eq_true rfl)) fun v5 H5 x5 h5 => ?_
    have e5 := e4.trans x5
    refine s_asgP (ep_cat (ep_var rfl h5) (ep_lst (epa_cons (ep_tup (epa_cons (ep_is ev_c) (epa_cons (ep_is (ev_isx (ev_var rfl) ev_c (m.ex e5) (T.ex i hi) (T.is_ i hi) (.own _) (T.kit i hi 15 (by decide)))) epa_nil)) (by decide : 2 ≤ 1000)) (epa_cons (ep_tup (epa_cons (ep_is ev_c) (epa_cons (ep_is (ev_isx (ev_var rfl) ev_c (m.ex e5) (T.ex i hi) (T.is_ i hi) (.own _) (T.kit i hi 16 (by decide)))) epa_nil)) (by decide : 2 ≤ 1000)) (epa_cons (ep_tup (epa_cons (ep_is ev_c) (epa_cons (ep_is (ev_isx (ev_var rfl) ev_c (m.ex e5) (T.ex i hi) (T.is_ i hi) (.own _) (T.kit i hi 17 (by decide)))) epa_nil)) (by decide : 2 ≤ 1000)) epa_nil))) (by decide : 3 ≤ 1000)) (by exact Nat.le_of_ble_eq_true rfl)) fun v6 H6 x6 h6 => ?_
    have e6 := e5.trans x6
    refine s_asgP (ep_cat (ep_var rfl h6) (ep_lst (epa_cons (ep_tup (epa_cons (ep_is ev_c) (epa_cons (ep_is (ev_isx (ev_var rfl) ev_c (m.ex e6) (T.ex i hi) (T.is_ i hi) (.own _) (T.kit i hi 18 (by decide)))) epa_nil)) (by decide : 2 ≤ 1000)) (epa_cons (ep_tup (epa_cons (ep_is ev_c) (epa_cons (ep_is (ev_isx (ev_var rfl) ev_c (m.ex e6) (T.ex i hi) (T.is_ i hi) (.own _) (T.kit i hi 19 (by decide)))) epa_nil)) (by decide : 2 ≤ 1000)) (epa_cons (ep_tup (epa_cons (ep_is ev_c) (epa_cons (ep_is (ev_isx (ev_var rfl) ev_c (m.ex e6) (T.ex i hi) (T.is_ i hi) (.own _) (T.kit i hi 20 (by decide)))) epa_nil)) (by decide : 2 ≤ 1000)) epa_nil))) (by decide : 3 ≤ 1000)) (by exact Nat.le_of_ble_eq_true rfl)) fun v7 H7 x7 h7 => ?_
    have e7 := e6.trans x7
    refine s_asgP (ep_cat (ep_var rfl h7) (ep_lst (epa_cons (ep_tup (epa_cons (ep_is ev_c) (epa_cons (ep_is (ev_isx (ev_var rfl) ev_c (m.ex e7) (T.ex i hi) (T.is_ i hi) (.own _) (T.kit i hi 21 (by decide)))) epa_nil)) (by decide : 2 ≤ 1000)) (epa_cons (ep_tup (epa_cons (ep_is ev_c) (epa_cons (ep_is (ev_isx (ev_var rfl) ev_c (m.ex e7) (T.ex i hi) (T.is_ i hi) (.own _) (T.kit i hi 22 (by decide)))) epa_nil)) (by decide : 2 ≤ 1000)) (epa_cons (ep_tup (epa_cons (ep_is ev_c) (epa_cons (ep_is (ev_isx (ev_var rfl) ev_c (m.ex e7) (T.ex i hi) (T.is_ i hi) (.own _) (T.kit i hi 23 (by decide)))) epa_nil)) (by decide : 2 ≤ 1000)) epa_nil))) (by decide : 3 ≤ 1000)) (by exact Nat.le_of_ble_eq_true rfl)) fun v8 H8 x8 h8 => ?_
    have e8 := e7.trans x8
    obtain ⟨p, xs, rfl, hp, al⟩ := h8
    have hn : xs.length = 24 := al.len
    have al2 : AllP ((List.range 24).map fun k => Pd.tup [Pd.is (.str (nm k)), Pd.is (.bl (decide (k = i)))]) xs H8 := al
    have tu : ∀ (k : Nat) (x : V), xs[k]? = some x → ∃ t, x = .ref t ∧ H8 t = some (.tup [.str (nm k), .bl (decide (k = i))]) := fun k x hk => by
      have hk2 : k < 24 := by
        have := (List.getElem?_eq_some_iff.mp hk).1
        omega
      obtain ⟨t, ys, rx, h2, hy⟩ := al2.at_ (P := Pd.tup [Pd.is (.str (nm k)), Pd.is (.bl (decide (k = i)))]) (by rw [List.getElem?_map, List.getElem?_range hk2]; rfl) hk
      match ys, hy with
      | [y1, y2], ⟨z1, z2, _⟩ =>
        cases z1
        cases z2
        exact ⟨t, rx, h2⟩
    refine s_retL (el_lcW (K := K) nm (fun k => decide (k = i)) ⟨_, _, _, _, rfl⟩ (ev_var rfl) hp (by omega) tu) fun p' H9 hp' e9 h9 => ?_
    refine k p' H9 (fresh_back e8 hp') (e8.trans e9) ?_
    rw [h9, hn]
    unfold given
    rw [one_of i hi]
    rfl
end
end K66

/-! Lists compared; lists of lists -/
namespace K66
open PySem L2 Evl OxK
section
variable {K : PySem.W.Frag} {σ : L2.St} {H H' : Hp} {te ta tb : TE} {P R : Pd} {Ps Rs : List Pd} {v : V}
theorem dp_map {α : Type} {f : α → V} {g : α → PyData} : ∀ (l : List α), (∀ x ∈ l, Dp K H (f x) (g x)) → DpAll K H (l.map f) (l.map g)
  | [], _ => .nil
  | x :: l, h => .cons (h x List.mem_cons_self) (dp_map l fun y hy => h y (List.mem_cons_of_mem _ hy))
theorem dp_all : ∀ {vs : List V} {ds : List PyData}, vs.length = ds.length → (∀ (i : Nat) (x : V) (d : PyData), vs[i]? = some x → ds[i]? = some d → Dp K H x d) → DpAll K H vs ds
  | [], [], _, _ => .nil
  | v :: vs, d :: ds, hl, h => .cons (h 0 v d rfl rfl) (dp_all (by simpa using hl) fun i x y h1 h2 => h (i + 1) x y (by simpa using h1) (by simpa using h2))
  | [], _ :: _, hl, _ => by simp at hl
  | _ :: _, [], hl, _ => by simp at hl
/-- lists of one data are alike -/
theorem rv_neD {a b : Addr} {xs ys : List V} {ds : List PyData} (ha : H a = some (.lst xs)) (hb : H b = some (.lst ys)) (dx : ∀ H1, Ex H H1 → DpAll K H1 xs ds) (dy : ∀ H1, Ex H H1 → DpAll K H1 ys ds) (hs : SeqAt.shaped (.list ds) = true) (he : PyData.eqv (.list ds) (.list ds) = true) :
    RV (rNeD K) (.ref a) (.ref b) H (.bl false) := fun H1 e Q q => ⟨.list ds, .list ds, .lst (SqL.of (e _ _ ha)) (dx H1 e), .lst (SqL.of (e _ _ hb)) (dy H1 e), hs, hs, by
  rw [he]
  exact q H1 (Ex.refl H1)⟩
theorem rv_eqD {a b : Addr} {xs ys : List V} {ds : List PyData} (ha : H a = some (.lst xs)) (hb : H b = some (.lst ys)) (dx : ∀ H1, Ex H H1 → DpAll K H1 xs ds) (dy : ∀ H1, Ex H H1 → DpAll K H1 ys ds) (hs : SeqAt.shaped (.list ds) = true) (he : PyData.eqv (.list ds) (.list ds) = true) :
    RV (rEqD K) (.ref a) (.ref b) H (.bl true) := fun H1 e Q q => ⟨.list ds, .list ds, .lst (SqL.of (e _ _ ha)) (dx H1 e), .lst (SqL.of (e _ _ hb)) (dy H1 e), hs, hs, by
  rw [he]
  exact q H1 (Ex.refl H1)⟩
def LLr (te : TE) (σ : L2.St) (H : Hp) (n : Nat) (xss : Nat → List V) : Prop := ∀ H1, Ex H H1 → ∀ Q : VK, (∀ D H2 ys, Ex H1 H2 → H2 D = some (.lst ys) → LL xss D n H2 ys → Q (.ref D) H2) → te σ H1 Q
theorem el_lcLP {tl : TE} {j : Nat} {vs : List Nat} {xss : Nat → List V} (h : EvP tl σ H (.lst Ps)) (hz : Ps.length ≤ 1000) (hw : ∀ x, wipe ((wipe σ vs).set j (some x)) vs = wipe σ vs)
    (he : ∀ (i : Nat) (P : Pd) (x : V) H1, Ps[i]? = some P → Ex H H1 → P.p x H1 → EvL te ((wipe σ vs).set j (some x)) H1 (xss i)) : LLr (tLc (iList K tl) (gName j) tYes te vs) σ H Ps.length xss := fun H1 e Q q =>
  h H1 e _ fun v H2 e2 hv => by
    obtain ⟨a, xs, rfl, ha, al⟩ := hv
    have hn := al.len
    have z := el_lcLL (K := K) (σ := σ) (H := H2) (te := te) (tl := tC (.ref a)) (j := j) (vs := vs) xss ev_c ha (by omega) hw (fun i x H3 e3 hi => by
      have hi2 : i < Ps.length := by
        have := (List.getElem?_eq_some_iff.mp hi).1
        omega
      exact he i (Ps[i]) x H3 (List.getElem?_eq_getElem hi2) ((e.trans e2).trans e3) (Pd.up _ (al.at_ (List.getElem?_eq_getElem hi2) hi) e3)) H2 (Ex.refl H2) Q (fun D H3 ys e3 hD hl => q D H3 ys (e2.trans e3) hD (by rw [hn] at hl; exact hl))
    exact z
theorem ev_neLL {n : Nat} {xss : Nat → List V} {g : Nat → PyData} (ha : LLr ta σ H n xss) (hb : LLr tb σ H n xss) (hg : ∀ i, i < n → ∀ H1, ∃ ds, g i = .list ds ∧ DpAll K H1 (xss i) ds)
    (hs : SeqAt.shaped (.list ((List.range n).map g)) = true) (he : PyData.eqv (.list ((List.range n).map g)) (.list ((List.range n).map g)) = true) : Ev (tOp (rNeD K) ta tb) σ H (.bl false) := fun H1 e Q q =>
  ha H1 e _ fun A H2 ys e2 hA lA => hb H2 (e.trans e2) _ fun B H3 zs e3 hB lB => by
    have key : ∀ (D : Addr) (H' : Hp) (ws : List V), LL xss D n H' ws → Ex H' H3 → DpAll K H3 ws ((List.range n).map g) := fun D H' ws lw x => by
      refine dp_all (by rw [lw.1, List.length_map, List.length_range]) fun i y d h1 h2 => ?_
      have hi : i < n := by
        have := (List.getElem?_eq_some_iff.mp h1).1
        rw [lw.1] at this
        exact this
      rw [List.getElem?_map, List.getElem?_range hi] at h2
      cases h2
      obtain ⟨t, rfl, _, ht⟩ := lw.2 i y h1
      obtain ⟨ds, eg, dd⟩ := hg i hi H3
      rw [eg]
      exact .lst (SqL.of (x _ _ ht)) dd
    refine ⟨_, _, .lst (SqL.of (e3 _ _ hA)) (key A H2 ys lA e3), .lst (SqL.of hB) (key B H3 zs lB (Ex.refl H3)), hs, hs, ?_⟩
    rw [he]
    exact q H3 (e2.trans e3)
end
end K66

/-! What the law's pieces say -/
namespace K66
open PySem L2 Evl OxK
section
variable {K : PySem.W.Frag}
theorem s_seq {t u : TS} {D : Ends} {σ : L2.St} {H : Hp} (h : t { D with nx := u D } σ H) : tSeq t u D σ H := h
theorem Bag.ex {H H' : Hp} {b l : Addr} {ns : List Int} (h : Bag H b l ns) (e : Ex H H') : Bag H' b l ns := by
  obtain ⟨h1, h2, h3, i, j, s, h4, h5⟩ := h
  exact ⟨h1, e _ _ h2, h3, i, j, s, e _ _ h4, h5⟩
theorem But.ex {b : Addr} {H H0 H' : Hp} (h : But b H0 H') (e : Ex H H0) (n : H b = none) : Ex H H' := fun a o z => by
  rw [h a (fun q => by rw [q, n] at z; cases z)]
  exact e a o z
/-- the data of what is given, and of its copies -/
theorem datum {H : Hp} {v : V} (h : Arg H v) : ∃ d : Dt, ∀ H', Ex H H' → Has H' 1 v d ∧ ∀ v', Twin H' v v' → Has H' 1 v' d := by
  rcases h with h | ⟨t, xs, rfl, ht, hx, hl⟩
  · refine ⟨.f v, fun H' e => ⟨.inl ⟨h, rfl⟩, fun v' tw => ?_⟩⟩
    rcases tw with ⟨_, rfl⟩ | ⟨t, t', xs, rfl, _⟩
    · exact .inl ⟨h, rfl⟩
    · exact h.elim
  · have key : ∀ (H' : Hp) (u : Addr), H' u = some (.tup xs) → Has H' 1 (.ref u) (.t (xs.map Dt.f)) := fun H' u hu =>
      .inr ⟨u, xs, xs.map Dt.f, rfl, .inr ⟨hu, rfl⟩, by rw [List.length_map], hl, fun i x y h1 h2 => by
        rw [List.getElem?_map, h1] at h2
        cases h2
        exact ⟨hx x (List.mem_of_getElem? h1), rfl⟩⟩
    refine ⟨.t (xs.map Dt.f), fun H' e => ⟨key H' t (e _ _ ht), fun v' tw => ?_⟩⟩
    rcases tw with ⟨h, _⟩ | ⟨t1, t', ys, r, rfl, h1, h2, _⟩
    · exact h.elim
    · cases r
      rw [e _ _ ht] at h1
      cases h1
      exact key H' t' h2
theorem has_list {H : Hp} {p : Addr} {xs : List V} {d : Dt} (hp : H p = some (.lst xs)) (hz : xs.length ≤ 1000) (hx : ∀ (i : Nat) (x : V), xs[i]? = some x → Has H 1 x d) : Has H 2 (.ref p) (.l (List.replicate xs.length d)) :=
  .inr ⟨p, xs, _, rfl, .inl ⟨hp, rfl⟩, by rw [List.length_replicate], hz, fun i x y h1 h2 => by
    have := List.eq_of_mem_replicate (List.mem_of_getElem? h2)
    subst this
    exact hx i x h1⟩
section
variable {σ : L2.St} {H H' : Hp} {te ta tb : TE} {P' R : Pd} {Ps Rs : List Pd} {v : V}
theorem ev_same {d : Dt} (ha : EvP ta σ H (.dat 2 d)) (hb : EvP tb σ H (.dat 2 d)) : Ev (tCall (spSame 2) [] E0 (tCons ta (tCons tb tNil))) σ H (.bl true) := fun H1 e Q q =>
  ha H1 e _ fun x H2 e2 hx => hb H2 (e.trans e2) _ fun y H3 e3 hy => ⟨x, y, d, d, rfl, Has.ex e3 hx, hy, fun b H4 hb e4 => by
    have : b = true := hb.mpr rfl
    subst this
    exact q H4 ((e2.trans e3).trans e4)⟩
def Le (P R : Pd) : Prop := ∀ v H, P.p v H → R.p v H
def AllLe : List Pd → List Pd → Prop
  | [], [] => True
  | P :: Ps, R :: Rs => Le P R ∧ AllLe Ps Rs
  | _, _ => False
theorem allP_le {H : Hp} : ∀ {Ps Rs : List Pd} {vs : List V}, AllLe Ps Rs → AllP Ps vs H → AllP Rs vs H
  | [], [], [], _, _ => True.intro
  | P :: Ps, R :: Rs, v :: vs, h, p => ⟨h.1 v H p.1, allP_le h.2 p.2⟩
  | [], _ :: _, _, h, _ => h.elim
  | _ :: _, [], _, h, _ => h.elim
  | [], [], _ :: _, _, p => p.elim
  | _ :: _, _ :: _, [], _, p => p.elim
theorem lst_le (h : AllLe Ps Rs) : Le (.lst Ps) (.lst Rs) := fun _ _ ⟨a, vs, r, h1, h2⟩ => ⟨a, vs, r, h1, allP_le h h2⟩
theorem EvP.le (h : EvP te σ H P') (l : Le P' R) : EvP te σ H R := fun H1 e Q q => h H1 e Q fun v H2 e2 p => q v H2 e2 (l v H2 p)
theorem le_refl (P : Pd) : Le P P := fun _ _ h => h
/-- an error of the i-th class, its tag told -/
def Pd.exq (K : PySem.W.Frag) (i : Nat) : Pd := ⟨fun x H => ∃ (a : Addr) (fs : List (Str × V)), x = .ref a ∧ Mde H a (cA K i) fs ∧ fs.lookup ("tag" : Str) = some (V.str (nm i)), fun ⟨a, fs, r, h1, h2⟩ e => ⟨a, fs, r, h1.ex e, h2⟩⟩
theorem exc_le {i : Nat} {cn pn : Str} (hc : cn = nm i) (hp : (("tag" : Str) == pn) = false) : Le (.exc (cA K i) cn pn v) (.exq K i) := fun x H ⟨a, v', r, _, m⟩ => ⟨a, _, r, m, by
  subst hc
  simp [List.lookup, hp]⟩
theorem exc0_le {i : Nat} {cn : Str} (hc : cn = nm i) : Le (.exc0 (cA K i) cn) (.exq K i) := fun x H ⟨a, r, m⟩ => ⟨a, _, r, m, by
  subst hc
  simp [List.lookup]⟩
theorem is_all : ∀ {vs ws : List V} {H : Hp}, AllP (ws.map Pd.is) vs H → vs = ws
  | [], [], _, _ => rfl
  | v :: vs, w :: ws, H, h => by
    have e : v = w := h.1
    rw [e, is_all h.2]
  | [], _ :: _, _, h => h.elim
  | _ :: _, [], _, h => h.elim
/-- the fields of a list of errors of one shape -/
theorem fields {pn : Str} {o n : Nat} {xs : List V} {H : Hp} (al : AllP ((List.range n).map fun i => Pd.exc (cA K (o + i)) (nm (o + i)) pn v) xs H) :
    ∃ u : Nat → V, ∀ (i : Nat) (x : V), xs[i]? = some x → ∃ a, x = .ref a ∧ Twin H v (u i) ∧ Mde H a (cA K (o + i)) [(pn, u i), ("tag", .str (nm (o + i)))] := by
  have hn : xs.length = n := by
    rw [al.len]
    simp
  have z : ∀ i : Nat, ∃ u : V, ∀ x, xs[i]? = some x → ∃ a, x = .ref a ∧ Twin H v u ∧ Mde H a (cA K (o + i)) [(pn, u), ("tag", .str (nm (o + i)))] := fun i => by
    by_cases hi : i < n
    · have hx : xs[i]? = some (xs[i]'(by omega)) := List.getElem?_eq_getElem _
      obtain ⟨a, u, r, tw, m⟩ := al.at_ (P := Pd.exc (cA K (o + i)) (nm (o + i)) pn v) (by rw [List.getElem?_map, List.getElem?_range hi]; rfl) hx
      refine ⟨u, fun x h => ?_⟩
      rw [hx] at h
      cases h
      exact ⟨a, r, tw, m⟩
    · refine ⟨.non, fun x h => ?_⟩
      have := (List.getElem?_eq_some_iff.mp h).1
      omega
  exact ⟨fun i => Classical.choose (z i), fun i x h => Classical.choose_spec (z i) x h⟩
theorem ep_rep {n : Nat} {x : V} {d : Dt} {tx : TE} (h : Ev tx σ H x) (hn : n ≤ 1000) (hd : ∀ H', Ex H H' → Has H' 1 x d) : EvP (tOp rRep (tLst (tCons tx tNil)) (tC (.int (n : Int)))) σ H (.dat 2 (.l (List.replicate n d))) := fun H1 e Q q =>
  h H1 e _ fun H2 e2 => ⟨by show 1 ≤ sizeLine; decide, fun p hp => ⟨p, n, [x], rfl, rfl, upd_same, by omega, by omega, Nat.le_of_lt (small1000 (by simp; omega)), fun p2 hp2 => by
    have e3 := (e2.trans (Ex.new (o := .lst [x]) hp)).trans (Ex.new (o := .lst (List.replicate (Int.toNat (n : Int)) [x]).flatten) hp2)
    refine q _ _ e3 ?_
    have hlen : (List.replicate (Int.toNat (n : Int)) [x]).flatten.length = n := by simp
    have z := has_list (d := d) (H := upd (upd H2 p (.lst [x])) p2 (.lst (List.replicate (Int.toNat (n : Int)) [x]).flatten)) (p := p2) upd_same (by omega) (fun i y hy => by
      have : y = x := by
        have := List.mem_of_getElem? hy
        simp at this
        exact this.2
      subst this
      exact hd _ (e.trans e3))
    rw [hlen] at z
    exact z⟩⟩
theorem el_dat {xs : List V} {d : Dt} (h : EvL te σ H xs) (hz : xs.length ≤ 1000) (hd : ∀ H', Ex H H' → ∀ x ∈ xs, Has H' 1 x d) : EvP te σ H (.dat 2 (.l (List.replicate xs.length d))) := fun H1 e Q q =>
  h H1 e _ fun p H2 _ e2 h2 => q _ H2 e2 (has_list h2 hz fun i x hx => hd H2 (e.trans e2) x (List.mem_of_getElem? hx))
theorem el_datN {xs : List V} {d : Dt} {n : Nat} (h : EvL te σ H xs) (hn : xs.length = n) (hz : n ≤ 1000) (hd : ∀ H', Ex H H' → ∀ x ∈ xs, Has H' 1 x d) : EvP te σ H (.dat 2 (.l (List.replicate n d))) := by
  subst hn
  exact el_dat h hz hd
/-- the first k names, a list of them -/
def ws (o k : Nat) : List V := (List.range k).map fun i => V.str (nm (o + i))
theorem ws_app (k m : Nat) : ws 0 k ++ ws k m = ws 0 (k + m) := by
  unfold ws
  rw [List.range_add, List.map_append, List.map_map]
  congr 1
  refine List.map_congr_left fun i _ => ?_
  show V.str (nm (k + i)) = V.str (nm (0 + (k + i)))
  rw [Nat.zero_add]
def WL (k : Nat) : Pd := ⟨fun v H => ∃ a, v = .ref a ∧ H a = some (.lst (ws 0 k)), fun ⟨a, r, h⟩ e => ⟨a, r, e _ _ h⟩⟩
theorem ws_len (o k : Nat) : (ws o k).length = k := by simp [ws]
theorem ep_w0 {ta : TA} {k : Nat} (h : EvA ta σ H (ws 0 k)) (hk : k ≤ 1000) : EvP (tLst ta) σ H (WL k) := fun H1 e Q q =>
  el_lst h (by rw [ws_len]; omega) H1 e Q fun p H2 _ e2 h2 => q _ H2 e2 ⟨p, rfl, h2⟩
theorem ep_wc {tx : TE} {ta : TA} {k m : Nat} (hx : EvP tx σ H (WL k)) (h : EvA ta σ H (ws k m)) (hk : k + m ≤ 1000) : EvP (tOp rCat tx (tLst ta)) σ H (WL (k + m)) := fun H1 e Q q =>
  hx H1 e _ fun v H2 e2 ⟨a, rv, h2⟩ => el_lst h (by rw [ws_len]; omega) H2 (e.trans e2) _ fun b H3 _ e3 h3 => by
    subst rv
    refine ⟨a, b, _, _, rfl, rfl, e3 _ _ h2, h3, Nat.le_of_lt (small1000 (by rw [ws_len, ws_len]; exact hk)), fun p hp => q _ _ ((e2.trans e3).trans (Ex.new hp)) ⟨p, rfl, ?_⟩⟩
    rw [upd_same, ws_app]
def KL (xs : List V) : Pd := ⟨fun v H => ∃ a, v = .ref a ∧ H a = some (.lst xs), fun ⟨a, r, h⟩ e => ⟨a, r, e _ _ h⟩⟩
theorem ep_kl {ta : TA} {xs : List V} (h : EvA ta σ H xs) (hk : xs.length ≤ 1000) : EvP (tLst ta) σ H (KL xs) := fun H1 e Q q =>
  el_lst h (by omega) H1 e Q fun p H2 _ e2 h2 => q _ H2 e2 ⟨p, rfl, h2⟩
theorem ep_kcat {tx : TE} {ta : TA} {xs ys : List V} (hx : EvP tx σ H (KL xs)) (h : EvA ta σ H ys) (hk : xs.length + ys.length ≤ 1000) : EvP (tOp rCat tx (tLst ta)) σ H (KL (xs ++ ys)) := fun H1 e Q q =>
  hx H1 e _ fun v H2 e2 ⟨a, rv, h2⟩ => el_lst h (by omega) H2 (e.trans e2) _ fun b H3 _ e3 h3 => by
    subst rv
    exact ⟨a, b, _, _, rfl, rfl, e3 _ _ h2, h3, Nat.le_of_lt (small1000 hk), fun p hp => q _ _ ((e2.trans e3).trans (Ex.new hp)) ⟨p, rfl, upd_same⟩⟩
theorem all_is {α : Type} {f : α → V} {H : Hp} : ∀ l : List α, AllP (l.map fun i => Pd.is (f i)) (l.map f) H
  | [] => True.intro
  | _ :: l => ⟨rfl, all_is l⟩
theorem wl_le (k : Nat) : Le (WL k) (.lst ((List.range k).map fun i => Pd.is (V.str (nm (0 + i))))) := fun v H ⟨a, r, h⟩ => ⟨a, _, r, h, all_is _⟩
theorem ev_allT {te : TE} {n : Nat} (h : EvL te σ H ((List.range n).map fun _ => V.bl true)) : Ev (tCB (rAll K) (tCons te tNil)) σ H (.bl true) := fun H1 e Q q =>
  h H1 e _ fun p H2 _ e2 h2 => ⟨p, (List.range n).map fun _ => true, rfl, SqL.of (by rw [h2, List.map_map]; rfl), by
    have z : ((List.range n).map fun _ => true).all id = true := by simp
    rw [z]
    exact q H2 e2⟩
theorem s_parP {i j : Nat} {ta : TA} {D : Ends} {P R : Pd} (h : EvPA ta σ H [P, R]) (k : ∀ v w H1, Ex H H1 → P.p v H1 → R.p w H1 → D.nx ((σ.set i (some v)).set j (some w)) H1) : tPar i j ta D σ H :=
  h H (Ex.refl H) _ fun vs H1 e al => match vs, al with
    | [v, w], ⟨p, r, _⟩ => ⟨v, w, rfl, k v w H1 e p r⟩
theorem not_unk : ∀ i, i < 23 → (!decide (V.str (nm (0 + i)) = V.str "UnknownName")) = decide (i ≠ 8) := by decide +kernel
theorem look1 (pn : Str) (w t : V) : List.lookup pn [(pn, w), (("tag" : Str), t)] = some w := by simp [List.lookup]
theorem al_five {P0 P1 P2 P3 P4 : Pd} {vs : List V} {H : Hp} (h : AllP [P0, P1, P2, P3, P4] vs H) : ∃ v0 v1 v2 v3 v4, vs = [v0, v1, v2, v3, v4] ∧ P0.p v0 H ∧ P1.p v1 H ∧ P2.p v2 H ∧ P3.p v3 H ∧ P4.p v4 H :=
  match vs, h with
  | [v0, v1, v2, v3, v4], ⟨h0, h1, h2, h3, h4, _⟩ => ⟨v0, v1, v2, v3, v4, rfl, h0, h1, h2, h3, h4⟩
theorem el_cat {xs ys : List V} (ha : EvL ta σ H xs) (hb : EvL tb σ H ys) (hz : xs.length + ys.length ≤ 1000) : EvL (tOp rCat ta tb) σ H (xs ++ ys) := fun H1 e Q q =>
  ha H1 e _ fun p H2 _ e2 h2 => hb H2 (e.trans e2) _ fun p' H3 hp' e3 h3 => ⟨p, p', xs, ys, rfl, rfl, e3 _ _ h2, h3, Nat.le_of_lt (small1000 hz), fun r hr => q r _ (fresh_back (e2.trans e3) hr) ((e2.trans e3).trans (Ex.new hr)) upd_same⟩
theorem ev_xg0 {C : Addr} {cn : Str} (h : EvP te σ H (.exc0 C cn)) (T : ExC K C) (no : PySem.W.findIn K (.ref C) "tag" = some none) : Ev (tXg K "tag" te) σ H (.str cn) := fun H1 e Q q =>
  h H1 e _ fun x H2 e2 ⟨a, r, d, h1, h2⟩ => ⟨a, C, d, _, .str cn, r, T, no, h1, h2, by simp [List.lookup], q H2 e2⟩
end
end
end K66

/-! The law -/
namespace K66
open PySem L2 Evl OxK
abbrev sLaw : Stmt := top 35
def fI (K : PySem.W.Frag) (i : Nat) : Addr := He.ma K (cA K i) "__init__"
structure Gx (P : Program) (w : World) (K : PySem.W.Frag) (mg : Str → Option Value) (base : Heap) : Prop where
  gTE : mg "TeamError" = some (.ref (He.ga K "TeamError"))
  gMi : mg "Missing" = some (.ref (He.ga K "Missing"))
  bisinstance : mg "isinstance" = none
  ball : mg "all" = none
  bValueError : mg "ValueError" = none
  bIndexError : mg "IndexError" = none
  bLookupError : mg "LookupError" = none
  iC : ∀ i, i < 24 → PySem.W.findIn K (.ref (cA K i)) "__init__" = some (some (.ref (fI K i)))
  tI : ∀ i, i < 24 → PySem.W.typeIn K (.ref (fI K i)) = some (.type "function")
  nT : ∀ i, i < 24 → PySem.W.findIn K (.ref (cA K i)) "tag" = some none
  kTE : ∀ i, i < 23 → PySem.W.kitOne K (.ref (cA K i)) (.ref (He.ga K "TeamError")) = some (decide (i ≠ 8))
  kVE : ∀ i, i < 23 → PySem.W.kitOne K (.ref (cA K i)) (.type "ValueError") = some (decide (i ≠ 8))
  k1 : PySem.W.kitOne K (.ref (cA K 23)) (.type "IndexError") = some true
  k2 : PySem.W.kitOne K (.ref (cA K 23)) (.ref (He.ga K "Missing")) = some false
  k3 : PySem.W.kitOne K (.ref (cA K 8)) (.ref (He.ga K "Missing")) = some true
  k4 : PySem.W.kitOne K (.ref (cA K 8)) (.type "LookupError") = some true
  k5 : PySem.W.kitOne K (.ref (cA K 8)) (.type "IndexError") = some false
  gBag : mg "_law_bag" = some (.ref (He.ga K "_law_bag"))
  gOf : mg "_law_of" = some (.ref (He.ga K "_law_of"))
  gSame : mg "_law_same" = some (.ref (He.ga K "_law_same"))
  gCls : mg "_law_classes" = some (.ref (He.ga K "_law_classes"))
  kBag : PySem.W.keepIn K (.ref (He.ga K "_law_bag")) = true
  kOf : PySem.W.keepIn K (.ref (He.ga K "_law_of")) = true
  kSame : PySem.W.keepIn K (.ref (He.ga K "_law_same")) = true
  kCls : PySem.W.keepIn K (.ref (He.ga K "_law_classes")) = true
  fBag : ∃ fd, FnOk P w K mg base CX0 1 (He.ga K "_law_bag") fd ["_law_script"] (spBag K) ∧ Binds K fd ["_law_script"] []
  fOf : ∃ fd, FnOk P w K mg base CX0 2 (He.ga K "_law_of") fd ["_law_bag_here", "_law_things"] (spOf K) ∧ Binds K fd ["_law_bag_here", "_law_things"] []
  fSame : ∃ fd, FnOk P w K mg base CX0 3 (He.ga K "_law_same") fd ["_law_found", "_law_due"] (spSame 2) ∧ Binds K fd ["_law_found", "_law_due"] []
  fCls : ∃ fd, FnOk P w K mg base CX0 1 (He.ga K "_law_classes") fd ["_law_e"] (spCls K) ∧ Binds K fd ["_law_e"] []
  i0 : ∃ fd, FnOk P w K mg base CX0 3 (fI K 0) fd ["self", "given"] (spI (cA K 0) "InvalidStates" "given") ∧ XB K fd ["self", "given"] 2 [] ∧ XB K fd ["self", "given"] 1 ["given"]
  n0 : PySem.W.findIn K (.ref (cA K 0)) "given" = some none
  i1 : ∃ fd, FnOk P w K mg base CX0 3 (fI K 1) fd ["self", "given"] (spI (cA K 1) "InvalidState" "given") ∧ XB K fd ["self", "given"] 2 [] ∧ XB K fd ["self", "given"] 1 ["given"]
  n1 : PySem.W.findIn K (.ref (cA K 1)) "given" = some none
  i2 : ∃ fd, FnOk P w K mg base CX0 3 (fI K 2) fd ["self", "given"] (spI (cA K 2) "InvalidWord" "given") ∧ XB K fd ["self", "given"] 2 [] ∧ XB K fd ["self", "given"] 1 ["given"]
  n2 : PySem.W.findIn K (.ref (cA K 2)) "given" = some none
  i3 : ∃ fd, FnOk P w K mg base CX0 3 (fI K 3) fd ["self", "given"] (spI (cA K 3) "InvalidCount" "given") ∧ XB K fd ["self", "given"] 2 [] ∧ XB K fd ["self", "given"] 1 ["given"]
  n3 : PySem.W.findIn K (.ref (cA K 3)) "given" = some none
  i4 : ∃ fd, FnOk P w K mg base CX0 3 (fI K 4) fd ["self", "given"] (spI (cA K 4) "InvalidIndex" "given") ∧ XB K fd ["self", "given"] 2 [] ∧ XB K fd ["self", "given"] 1 ["given"]
  n4 : PySem.W.findIn K (.ref (cA K 4)) "given" = some none
  i5 : ∃ fd, FnOk P w K mg base CX0 3 (fI K 5) fd ["self", "given"] (spI (cA K 5) "InvalidLimit" "given") ∧ XB K fd ["self", "given"] 2 [] ∧ XB K fd ["self", "given"] 1 ["given"]
  n5 : PySem.W.findIn K (.ref (cA K 5)) "given" = some none
  i6 : ∃ fd, FnOk P w K mg base CX0 3 (fI K 6) fd ["self", "name"] (spI (cA K 6) "InvalidName" "name") ∧ XB K fd ["self", "name"] 2 [] ∧ XB K fd ["self", "name"] 1 ["name"]
  n6 : PySem.W.findIn K (.ref (cA K 6)) "name" = some none
  i7 : ∃ fd, FnOk P w K mg base CX0 3 (fI K 7) fd ["self", "name"] (spI (cA K 7) "DuplicateName" "name") ∧ XB K fd ["self", "name"] 2 [] ∧ XB K fd ["self", "name"] 1 ["name"]
  n7 : PySem.W.findIn K (.ref (cA K 7)) "name" = some none
  i8 : ∃ fd, FnOk P w K mg base CX0 3 (fI K 8) fd ["self", "name"] (spI (cA K 8) "UnknownName" "name") ∧ XB K fd ["self", "name"] 2 [] ∧ XB K fd ["self", "name"] 1 ["name"]
  n8 : PySem.W.findIn K (.ref (cA K 8)) "name" = some none
  i9 : ∃ fd, FnOk P w K mg base CX0 3 (fI K 9) fd ["self", "index"] (spI (cA K 9) "InvalidMove" "index") ∧ XB K fd ["self", "index"] 2 [] ∧ XB K fd ["self", "index"] 1 ["index"]
  n9 : PySem.W.findIn K (.ref (cA K 9)) "index" = some none
  i10 : ∃ fd, FnOk P w K mg base CX0 3 (fI K 10) fd ["self", "most"] (spI (cA K 10) "TooMany" "most") ∧ XB K fd ["self", "most"] 2 [] ∧ XB K fd ["self", "most"] 1 ["most"]
  n10 : PySem.W.findIn K (.ref (cA K 10)) "most" = some none
  i11 : ∃ fd, FnOk P w K mg base CX0 3 (fI K 11) fd ["self", "limit"] (spI (cA K 11) "CapacityExceeded" "limit") ∧ XB K fd ["self", "limit"] 2 [] ∧ XB K fd ["self", "limit"] 1 ["limit"]
  n11 : PySem.W.findIn K (.ref (cA K 11)) "limit" = some none
  i12 : ∃ fd, FnOk P w K mg base CX0 3 (fI K 12) fd ["self", "word"] (spI (cA K 12) "InvalidCommand" "word") ∧ XB K fd ["self", "word"] 2 [] ∧ XB K fd ["self", "word"] 1 ["word"]
  n12 : PySem.W.findIn K (.ref (cA K 12)) "word" = some none
  i13 : ∃ fd, FnOk P w K mg base CX0 3 (fI K 13) fd ["self", "line"] (spI (cA K 13) "ParseError" "line") ∧ XB K fd ["self", "line"] 2 [] ∧ XB K fd ["self", "line"] 1 ["line"]
  n13 : PySem.W.findIn K (.ref (cA K 13)) "line" = some none
  i14 : ∃ fd, FnOk P w K mg base CX0 3 (fI K 14) fd ["self"] (spI0 (cA K 14) "InvalidAlphabet") ∧ XB K fd ["self"] 1 []
  i15 : ∃ fd, FnOk P w K mg base CX0 3 (fI K 15) fd ["self"] (spI0 (cA K 15) "InvalidGroup") ∧ XB K fd ["self"] 1 []
  i16 : ∃ fd, FnOk P w K mg base CX0 3 (fI K 16) fd ["self"] (spI0 (cA K 16) "InvalidReport") ∧ XB K fd ["self"] 1 []
  i17 : ∃ fd, FnOk P w K mg base CX0 3 (fI K 17) fd ["self"] (spI0 (cA K 17) "InvalidPartition") ∧ XB K fd ["self"] 1 []
  i18 : ∃ fd, FnOk P w K mg base CX0 3 (fI K 18) fd ["self"] (spI0 (cA K 18) "InvalidPairs") ∧ XB K fd ["self"] 1 []
  i19 : ∃ fd, FnOk P w K mg base CX0 3 (fI K 19) fd ["self"] (spI0 (cA K 19) "InvalidText") ∧ XB K fd ["self"] 1 []
  i20 : ∃ fd, FnOk P w K mg base CX0 3 (fI K 20) fd ["self"] (spI0 (cA K 20) "NoMachines") ∧ XB K fd ["self"] 1 []
  i21 : ∃ fd, FnOk P w K mg base CX0 3 (fI K 21) fd ["self"] (spI0 (cA K 21) "AlphabetsDiffer") ∧ XB K fd ["self"] 1 []
  i22 : ∃ fd, FnOk P w K mg base CX0 3 (fI K 22) fd ["self"] (spI0 (cA K 22) "Refused") ∧ XB K fd ["self"] 1 []
  i23 : ∃ fd, FnOk P w K mg base CX0 3 (fI K 23) fd ["self"] (spI0 (cA K 23) "NothingLeft") ∧ XB K fd ["self"] 1 []
def spLaw (K : PySem.W.Frag) : Sp := fun vs H Q _ => ∃ (a : Addr) (ns : List Int), vs = [.ref a] ∧ SqL K H a (ns.map V.int) ∧ ns.length ≤ 1000 ∧ ∀ H', Q (.bl true) H'
section
variable {P : Program} {w : World} {K : PySem.W.Frag} {mg : Str → Option Value} {base : Heap} {f : Addr} {fd : FuncData}
theorem pe_xgK {X : Cx} {K : PySem.W.Frag} {o : Expr} {to : TE} {f : Str} {pos : Pos} (ho : PE X o to) (hK : X.K = K := by rfl) (hb : attributeBase o f X.env (eval o X.env) = eval o X.env := by rfl) : PE X (.Attribute o f pos) (tXg K f to) := by
  subst hK
  exact pe_xg ho hb
theorem call_isXK {X : Cx} {K : PySem.W.Frag} (hK : X.K = K := by rfl) : CallR X (.builtin "isinstance") (rIsX K) := by
  subst hK
  exact call_isX
theorem scW : FnScope ["_law_script", "_law_bag_here", "_law_value", "_law_given_z", "_law_named", "_law_some", "_law_told", "_law_plain", "_law_words", "_law_every", "_law_kinds", "_law_lone", "_law_missing", "_law_e", "_law_word"] ["_law_script"] (defScope sLaw) := ⟨rfl, rfl, rfl, by decide +kernel, rfl, by decide +kernel, by decide +kernel⟩

theorem ok_law (F : FnP K "law" sLaw f fd) (T : Fx K mg) (G : Gx P w K mg base) : FnOk P w K mg base CX0 5 f fd ["_law_script"] (spLaw K) := by
    obtain ⟨fdBag, GBag, bBag⟩ := G.fBag
    obtain ⟨fdOf, GOf, bOf⟩ := G.fOf
    obtain ⟨fdSame, GSame, bSame⟩ := G.fSame
    obtain ⟨fdCls, GCls, bCls⟩ := G.fCls
    obtain ⟨fd0, I0, x0⟩ := G.i0
    obtain ⟨fd1, I1, x1⟩ := G.i1
    obtain ⟨fd2, I2, x2⟩ := G.i2
    obtain ⟨fd3, I3, x3⟩ := G.i3
    obtain ⟨fd4, I4, x4⟩ := G.i4
    obtain ⟨fd5, I5, x5⟩ := G.i5
    obtain ⟨fd6, I6, x6⟩ := G.i6
    obtain ⟨fd7, I7, x7⟩ := G.i7
    obtain ⟨fd8, I8, x8⟩ := G.i8
    obtain ⟨fd9, I9, x9⟩ := G.i9
    obtain ⟨fd10, I10, x10⟩ := G.i10
    obtain ⟨fd11, I11, x11⟩ := G.i11
    obtain ⟨fd12, I12, x12⟩ := G.i12
    obtain ⟨fd13, I13, x13⟩ := G.i13
    obtain ⟨fd14, I14, x14⟩ := G.i14
    obtain ⟨fd15, I15, x15⟩ := G.i15
    obtain ⟨fd16, I16, x16⟩ := G.i16
    obtain ⟨fd17, I17, x17⟩ := G.i17
    obtain ⟨fd18, I18, x18⟩ := G.i18
    obtain ⟨fd19, I19, x19⟩ := G.i19
    obtain ⟨fd20, I20, x20⟩ := G.i20
    obtain ⟨fd21, I21, x21⟩ := G.i21
    obtain ⟨fd22, I22, x22⟩ := G.i22
    obtain ⟨fd23, I23, x23⟩ := G.i23
    refine F.ok scW (fun vs H Q E h => ?_) (fun cdv A outer s H vs Q E hr h => ?_)
    · obtain ⟨a, ns, rfl, _⟩ := h
      rfl
    · obtain ⟨a, ns, rfl, hS, hl, k⟩ := h
      refine ⟨_, PSs.nox (pss_cons (ps_set (i := 1) scW.nd rfl (Or.inl rfl) (pe_call GBag (hr.mono (by decide)) rfl G.gBag G.kBag bBag .nil pass0 (pa_cons (pv 0) pa_nil)))
      (pss_cons (ps_set (i := 2) scW.nd rfl (Or.inl rfl) (pe_call GOf (hr.mono (by decide)) rfl G.gOf G.kOf bOf .nil pass0 (pa_cons (pv 1) (pa_cons (pe_lst (pa_cons pe_int (pa_cons pe_int (pa_cons pe_non (pa_cons pe_str (pa_cons (pe_tup (pa_cons pe_str pa_nil)) (pa_cons (pe_un un_neg pe_int) (pa_cons pe_bl pa_nil)))))))) pa_nil))))
      (pss_cons (ps_set (i := 3) scW.nd rfl (Or.inl rfl) (pe_lst (pa_cons (pe_x1 (T.ex 0 (by decide)) (G.iC 0 (by decide)) (G.tI 0 (by decide)) I0 (hr.mono (by decide)) x0.1 pass0 (by rfl) (T.gl 0 (by decide)) (by decide : 1 ≤ 1000) (pa_cons (pv 2) pa_nil)) (pa_cons (pe_x1 (T.ex 1 (by decide)) (G.iC 1 (by decide)) (G.tI 1 (by decide)) I1 (hr.mono (by decide)) x1.1 pass0 (by rfl) (T.gl 1 (by decide)) (by decide : 1 ≤ 1000) (pa_cons (pv 2) pa_nil)) (pa_cons (pe_x1 (T.ex 2 (by decide)) (G.iC 2 (by decide)) (G.tI 2 (by decide)) I2 (hr.mono (by decide)) x2.1 pass0 (by rfl) (T.gl 2 (by decide)) (by decide : 1 ≤ 1000) (pa_cons (pv 2) pa_nil)) pa_nil)))))
      (pss_cons (ps_set (i := 3) scW.nd rfl (Or.inl rfl) (pe_op op_cat (pv 3) (pe_lst (pa_cons (pe_x1 (T.ex 3 (by decide)) (G.iC 3 (by decide)) (G.tI 3 (by decide)) I3 (hr.mono (by decide)) x3.1 pass0 (by rfl) (T.gl 3 (by decide)) (by decide : 1 ≤ 1000) (pa_cons (pv 2) pa_nil)) (pa_cons (pe_xk (T.ex 4 (by decide)) (G.iC 4 (by decide)) (G.tI 4 (by decide)) I4 (hr.mono (by decide)) x4.2 pass0 (by rfl) (T.gl 4 (by decide)) (pk_cons (pv 2) pk_nil)) (pa_cons (pe_x1 (T.ex 5 (by decide)) (G.iC 5 (by decide)) (G.tI 5 (by decide)) I5 (hr.mono (by decide)) x5.1 pass0 (by rfl) (T.gl 5 (by decide)) (by decide : 1 ≤ 1000) (pa_cons (pv 2) pa_nil)) pa_nil))))))
      (pss_cons (ps_if (pt_not (pt_val (pe_call GSame (hr.mono (by decide)) rfl G.gSame G.kSame bSame .nil pass0 (pa_cons (pe_lc (own := [("_law_e", 13)]) (g := gName 13) (tt := tYes) (by rfl) scW.nd (pi_list (pv 3)) (blkOk_by (own := [("_law_e", 13)]) (N := ["_law_script", "_law_bag_here", "_law_value", "_law_given_z", "_law_named", "_law_some", "_law_told", "_law_plain", "_law_words", "_law_every", "_law_kinds", "_law_lone", "_law_missing", "_law_e", "_law_word"]) (sc := defScope sLaw) (by decide +kernel)) (fun _ _ _ _ _ => pg_name (i := 13) scW.nd rfl (Or.inl rfl)) (fun _ _ _ _ _ => pts_nil) (fun _ _ _ _ _ => (pe_xgK (K := K) (pv 13)))) (pa_cons (pe_op op_rep (pe_lst (pa_cons (pv 2) pa_nil)) pe_int) pa_nil))))) (pss_one (ps_ret pe_bl)) pss_nil)
      (pss_cons (ps_set (i := 4) scW.nd rfl (Or.inl rfl) (pe_lst (pa_cons (pe_x1 (T.ex 6 (by decide)) (G.iC 6 (by decide)) (G.tI 6 (by decide)) I6 (hr.mono (by decide)) x6.1 pass0 (by rfl) (T.gl 6 (by decide)) (by decide : 1 ≤ 1000) (pa_cons (pv 2) pa_nil)) (pa_cons (pe_xk (T.ex 7 (by decide)) (G.iC 7 (by decide)) (G.tI 7 (by decide)) I7 (hr.mono (by decide)) x7.2 pass0 (by rfl) (T.gl 7 (by decide)) (pk_cons (pv 2) pk_nil)) (pa_cons (pe_x1 (T.ex 8 (by decide)) (G.iC 8 (by decide)) (G.tI 8 (by decide)) I8 (hr.mono (by decide)) x8.1 pass0 (by rfl) (T.gl 8 (by decide)) (by decide : 1 ≤ 1000) (pa_cons (pv 2) pa_nil)) pa_nil)))))
      (pss_cons (ps_set (i := 5) scW.nd rfl (Or.inl rfl) (pe_lst (pa_cons (pe_x1 (T.ex 9 (by decide)) (G.iC 9 (by decide)) (G.tI 9 (by decide)) I9 (hr.mono (by decide)) x9.1 pass0 (by rfl) (T.gl 9 (by decide)) (by decide : 1 ≤ 1000) (pa_cons (pv 2) pa_nil)) (pa_cons (pe_xk (T.ex 10 (by decide)) (G.iC 10 (by decide)) (G.tI 10 (by decide)) I10 (hr.mono (by decide)) x10.2 pass0 (by rfl) (T.gl 10 (by decide)) (pk_cons (pv 2) pk_nil)) (pa_cons (pe_x1 (T.ex 11 (by decide)) (G.iC 11 (by decide)) (G.tI 11 (by decide)) I11 (hr.mono (by decide)) x11.1 pass0 (by rfl) (T.gl 11 (by decide)) (by decide : 1 ≤ 1000) (pa_cons (pv 2) pa_nil)) pa_nil)))))
      (pss_cons (ps_set (i := 5) scW.nd rfl (Or.inl rfl) (pe_op op_cat (pv 5) (pe_lst (pa_cons (pe_x1 (T.ex 12 (by decide)) (G.iC 12 (by decide)) (G.tI 12 (by decide)) I12 (hr.mono (by decide)) x12.1 pass0 (by rfl) (T.gl 12 (by decide)) (by decide : 1 ≤ 1000) (pa_cons (pv 2) pa_nil)) (pa_cons (pe_xk (T.ex 13 (by decide)) (G.iC 13 (by decide)) (G.tI 13 (by decide)) I13 (hr.mono (by decide)) x13.2 pass0 (by rfl) (T.gl 13 (by decide)) (pk_cons (pv 2) pk_nil)) pa_nil)))))
      (pss_cons (ps_set (i := 6) scW.nd rfl (Or.inl rfl) (pe_op op_cat (pe_lst (pa_cons (pe_xgK (K := K) (pe_ix ix_list (pv 5) pe_int (fun _ _ => rfl))) (pa_cons (pe_xgK (K := K) (pe_ix ix_list (pv 5) pe_int (fun _ _ => rfl))) (pa_cons (pe_xgK (K := K) (pe_ix ix_list (pv 5) pe_int (fun _ _ => rfl))) (pa_cons (pe_xgK (K := K) (pe_ix ix_list (pv 5) pe_int (fun _ _ => rfl))) (pa_cons (pe_xgK (K := K) (pe_ix ix_list (pv 5) pe_int (fun _ _ => rfl))) pa_nil)))))) (pe_lc (own := [("_law_e", 13)]) (g := gName 13) (tt := tYes) (by rfl) scW.nd (pi_list (pv 4)) (blkOk_by (own := [("_law_e", 13)]) (N := ["_law_script", "_law_bag_here", "_law_value", "_law_given_z", "_law_named", "_law_some", "_law_told", "_law_plain", "_law_words", "_law_every", "_law_kinds", "_law_lone", "_law_missing", "_law_e", "_law_word"]) (sc := defScope sLaw) (by decide +kernel)) (fun _ _ _ _ _ => pg_name (i := 13) scW.nd rfl (Or.inl rfl)) (fun _ _ _ _ _ => pts_nil) (fun _ _ _ _ _ => (pe_xgK (K := K) (pv 13))))))
      (pss_cons (ps_if (pt_not (pt_val (pe_call GSame (hr.mono (by decide)) rfl G.gSame G.kSame bSame .nil pass0 (pa_cons (pv 6) (pa_cons (pe_op op_rep (pe_lst (pa_cons (pv 2) pa_nil)) pe_int) pa_nil))))) (pss_one (ps_ret pe_bl)) pss_nil)
      (pss_cons (ps_set (i := 7) scW.nd rfl (Or.inl rfl) (pe_lst (pa_cons (pe_x0 (T.ex 14 (by decide)) (G.iC 14 (by decide)) (G.tI 14 (by decide)) I14 (hr.mono (by decide)) x14 pass0 (by rfl) (T.gl 14 (by decide))) (pa_cons (pe_x0 (T.ex 15 (by decide)) (G.iC 15 (by decide)) (G.tI 15 (by decide)) I15 (hr.mono (by decide)) x15 pass0 (by rfl) (T.gl 15 (by decide))) (pa_cons (pe_x0 (T.ex 16 (by decide)) (G.iC 16 (by decide)) (G.tI 16 (by decide)) I16 (hr.mono (by decide)) x16 pass0 (by rfl) (T.gl 16 (by decide))) (pa_cons (pe_x0 (T.ex 17 (by decide)) (G.iC 17 (by decide)) (G.tI 17 (by decide)) I17 (hr.mono (by decide)) x17 pass0 (by rfl) (T.gl 17 (by decide))) pa_nil))))))
      (pss_cons (ps_set (i := 7) scW.nd rfl (Or.inl rfl) (pe_op op_cat (pv 7) (pe_lst (pa_cons (pe_x0 (T.ex 18 (by decide)) (G.iC 18 (by decide)) (G.tI 18 (by decide)) I18 (hr.mono (by decide)) x18 pass0 (by rfl) (T.gl 18 (by decide))) (pa_cons (pe_x0 (T.ex 19 (by decide)) (G.iC 19 (by decide)) (G.tI 19 (by decide)) I19 (hr.mono (by decide)) x19 pass0 (by rfl) (T.gl 19 (by decide))) (pa_cons (pe_x0 (T.ex 20 (by decide)) (G.iC 20 (by decide)) (G.tI 20 (by decide)) I20 (hr.mono (by decide)) x20 pass0 (by rfl) (T.gl 20 (by decide))) (pa_cons (pe_x0 (T.ex 21 (by decide)) (G.iC 21 (by decide)) (G.tI 21 (by decide)) I21 (hr.mono (by decide)) x21 pass0 (by rfl) (T.gl 21 (by decide))) pa_nil)))))))
      (pss_cons (ps_set (i := 7) scW.nd rfl (Or.inl rfl) (pe_op op_cat (pv 7) (pe_lst (pa_cons (pe_x0 (T.ex 22 (by decide)) (G.iC 22 (by decide)) (G.tI 22 (by decide)) I22 (hr.mono (by decide)) x22 pass0 (by rfl) (T.gl 22 (by decide))) pa_nil))))
      (pss_cons (ps_set (i := 8) scW.nd rfl (Or.inl rfl) (pe_lst (pa_cons pe_str (pa_cons pe_str (pa_cons pe_str (pa_cons pe_str pa_nil))))))
      (pss_cons (ps_set (i := 8) scW.nd rfl (Or.inl rfl) (pe_op op_cat (pv 8) (pe_lst (pa_cons pe_str (pa_cons pe_str (pa_cons pe_str (pa_cons pe_str pa_nil)))))))
      (pss_cons (ps_set (i := 8) scW.nd rfl (Or.inl rfl) (pe_op op_cat (pv 8) (pe_lst (pa_cons pe_str pa_nil))))
      (pss_cons (ps_set (i := 8) scW.nd rfl (Or.inl rfl) (pe_op op_cat (pv 8) (pe_lst (pa_cons pe_str (pa_cons pe_str (pa_cons pe_str (pa_cons pe_str pa_nil)))))))
      (pss_cons (ps_set (i := 8) scW.nd rfl (Or.inl rfl) (pe_op op_cat (pv 8) (pe_lst (pa_cons pe_str (pa_cons pe_str (pa_cons pe_str (pa_cons pe_str pa_nil)))))))
      (pss_cons (ps_set (i := 8) scW.nd rfl (Or.inl rfl) (pe_op op_cat (pv 8) (pe_lst (pa_cons pe_str (pa_cons pe_str (pa_cons pe_str (pa_cons pe_str pa_nil)))))))
      (pss_cons (ps_set (i := 8) scW.nd rfl (Or.inl rfl) (pe_op op_cat (pv 8) (pe_lst (pa_cons pe_str (pa_cons pe_str pa_nil)))))
      (pss_cons (ps_set (i := 9) scW.nd rfl (Or.inl rfl) (pe_op op_cat (pe_op op_cat (pe_op op_cat (pv 3) (pv 4)) (pv 5)) (pv 7)))
      (pss_cons (ps_if (PW.pt (pw_or (pt_cmpR (op_neD hr.units) (pe_lc (own := [("_law_e", 13)]) (g := gName 13) (tt := tYes) (by rfl) scW.nd (pi_list (pv 9)) (blkOk_by (own := [("_law_e", 13)]) (N := ["_law_script", "_law_bag_here", "_law_value", "_law_given_z", "_law_named", "_law_some", "_law_told", "_law_plain", "_law_words", "_law_every", "_law_kinds", "_law_lone", "_law_missing", "_law_e", "_law_word"]) (sc := defScope sLaw) (by decide +kernel)) (fun _ _ _ _ _ => pg_name (i := 13) scW.nd rfl (Or.inl rfl)) (fun _ _ _ _ _ => pts_nil) (fun _ _ _ _ _ => (pe_xgK (K := K) (pv 13)))) (pv 8) (nomark _)) (pw_or1 (pt_cmpR op_ne (pe_xgK (K := K) (pe_x0 (T.ex 23 (by decide)) (G.iC 23 (by decide)) (G.tI 23 (by decide)) I23 (hr.mono (by decide)) x23 pass0 (by rfl) (T.gl 23 (by decide)))) pe_str (nomark _))))) (pss_one (ps_ret pe_bl)) pss_nil)
      (pss_cons (ps_if (pt_cmpR (op_neD hr.units) (pe_lc (own := [("_law_e", 13)]) (g := gName 13) (tt := tYes) (by rfl) scW.nd (pi_list (pe_op op_cat (pv 9) (pe_lst (pa_cons (pe_x0 (T.ex 23 (by decide)) (G.iC 23 (by decide)) (G.tI 23 (by decide)) I23 (hr.mono (by decide)) x23 pass0 (by rfl) (T.gl 23 (by decide))) pa_nil)))) (blkOk_by (own := [("_law_e", 13)]) (N := ["_law_script", "_law_bag_here", "_law_value", "_law_given_z", "_law_named", "_law_some", "_law_told", "_law_plain", "_law_words", "_law_every", "_law_kinds", "_law_lone", "_law_missing", "_law_e", "_law_word"]) (sc := defScope sLaw) (by decide +kernel)) (fun _ _ _ _ _ => pg_name (i := 13) scW.nd rfl (Or.inl rfl)) (fun _ _ _ _ _ => pts_nil) (fun _ _ _ _ _ => (pe_call GCls (hr.mono (by decide)) rfl G.gCls G.kCls bCls .nil pass0 (pa_cons (pv 13) pa_nil)))) (pe_lc (own := [("_law_word", 14)]) (g := gName 14) (tt := tYes) (by rfl) scW.nd (pi_list (pe_op op_cat (pv 8) (pe_lst (pa_cons pe_str pa_nil)))) (blkOk_by (own := [("_law_word", 14)]) (N := ["_law_script", "_law_bag_here", "_law_value", "_law_given_z", "_law_named", "_law_some", "_law_told", "_law_plain", "_law_words", "_law_every", "_law_kinds", "_law_lone", "_law_missing", "_law_e", "_law_word"]) (sc := defScope sLaw) (by decide +kernel)) (fun _ _ _ _ _ => pg_name (i := 14) scW.nd rfl (Or.inl rfl)) (fun _ _ _ _ _ => pts_nil) (fun _ _ _ _ _ => (pe_lst (pa_cons (pv 14) pa_nil)))) (nomark _)) (pss_one (ps_ret pe_bl)) pss_nil)
      (pss_cons (ps_setLc (i := 10) (own := [("_law_e", 13)]) (g := gName 13) (tt := tYes) (by rfl) scW.nd rfl rfl (sw_true rfl rfl rfl (by decide +kernel)) (pi_list (pv 9)) (blkOk_by (own := [("_law_e", 13)]) (N := ["_law_script", "_law_bag_here", "_law_value", "_law_given_z", "_law_named", "_law_some", "_law_told", "_law_plain", "_law_words", "_law_every", "_law_kinds", "_law_lone", "_law_missing", "_law_e", "_law_word"]) (sc := defScope sLaw) (by decide +kernel)) (fun _ _ _ _ _ => pg_name (i := 13) scW.nd rfl (Or.inl rfl)) (fun _ _ _ _ _ => pts_nil) (fun _ _ _ _ _ => (pe_callB (call_isXK (K := K)) (by rfl) G.bisinstance PyProof.Rows.boot_isinstance (pa_cons (pv 13) (pa_cons (pe_glob (v := .ref (He.ga K "TeamError")) rfl G.gTE rfl) pa_nil)))))
      (pss_cons (ps_if (PW.pt (pw_or (pt_cmpR (op_neD hr.units) (pv 10) (pe_lc (own := [("_law_word", 14)]) (g := gName 14) (tt := tYes) (by rfl) scW.nd (pi_list (pv 8)) (blkOk_by (own := [("_law_word", 14)]) (N := ["_law_script", "_law_bag_here", "_law_value", "_law_given_z", "_law_named", "_law_some", "_law_told", "_law_plain", "_law_words", "_law_every", "_law_kinds", "_law_lone", "_law_missing", "_law_e", "_law_word"]) (sc := defScope sLaw) (by decide +kernel)) (fun _ _ _ _ _ => pg_name (i := 14) scW.nd rfl (Or.inl rfl)) (fun _ _ _ _ _ => pts_nil) (fun _ _ _ _ _ => (pe_cmpR op_ne (pv 14) pe_str (nomark _)))) (nomark _)) (pw_or1 (pt_not (pt_val (pe_callB (cr_all rfl) (by rfl) G.ball PyProof.Rows.boot_all (pa_cons (pe_lc (own := [("_law_e", 13)]) (g := gName 13) (tt := tYes) (by rfl) scW.nd (pi_list (pv 9)) (blkOk_by (own := [("_law_e", 13)]) (N := ["_law_script", "_law_bag_here", "_law_value", "_law_given_z", "_law_named", "_law_some", "_law_told", "_law_plain", "_law_words", "_law_every", "_law_kinds", "_law_lone", "_law_missing", "_law_e", "_law_word"]) (sc := defScope sLaw) (by decide +kernel)) (fun _ _ _ _ _ => pg_name (i := 13) scW.nd rfl (Or.inl rfl)) (fun _ _ _ _ _ => pts_nil) (fun _ _ _ _ _ => (pe_cmpR op_eq (pe_callB (call_isXK (K := K)) (by rfl) G.bisinstance PyProof.Rows.boot_isinstance (pa_cons (pv 13) (pa_cons (pe_bltn (v := .ty "ValueError") (by rfl) G.bValueError (by decide +kernel) rfl) pa_nil))) (pe_callB (call_isXK (K := K)) (by rfl) G.bisinstance PyProof.Rows.boot_isinstance (pa_cons (pv 13) (pa_cons (pe_glob (v := .ref (He.ga K "TeamError")) rfl G.gTE rfl) pa_nil))) (nomark _)))) pa_nil))))))) (pss_one (ps_ret pe_bl)) pss_nil)
      (pss_cons (ps_par (i := 11) (j := 12) (by rfl) scW.nd rfl rfl (by decide) rfl rfl (pa_cons (pe_x0 (T.ex 23 (by decide)) (G.iC 23 (by decide)) (G.tI 23 (by decide)) I23 (hr.mono (by decide)) x23 pass0 (by rfl) (T.gl 23 (by decide))) (pa_cons (pe_x1 (T.ex 8 (by decide)) (G.iC 8 (by decide)) (G.tI 8 (by decide)) I8 (hr.mono (by decide)) x8.1 pass0 (by rfl) (T.gl 8 (by decide)) (by decide : 1 ≤ 1000) (pa_cons pe_str pa_nil)) pa_nil)) (by rfl))
      (pss_cons (ps_set (i := 6) scW.nd rfl (Or.inl rfl) (pe_lst (pa_cons (pe_callB (call_isXK (K := K)) (by rfl) G.bisinstance PyProof.Rows.boot_isinstance (pa_cons (pv 11) (pa_cons (pe_bltn (v := .ty "IndexError") (by rfl) G.bIndexError (by decide +kernel) rfl) pa_nil))) (pa_cons (pe_callB (call_isXK (K := K)) (by rfl) G.bisinstance PyProof.Rows.boot_isinstance (pa_cons (pv 11) (pa_cons (pe_glob (v := .ref (He.ga K "Missing")) rfl G.gMi rfl) pa_nil))) pa_nil))))
      (pss_cons (ps_set (i := 6) scW.nd rfl (Or.inl rfl) (pe_op op_cat (pv 6) (pe_lst (pa_cons (pe_callB (call_isXK (K := K)) (by rfl) G.bisinstance PyProof.Rows.boot_isinstance (pa_cons (pv 12) (pa_cons (pe_glob (v := .ref (He.ga K "Missing")) rfl G.gMi rfl) pa_nil))) (pa_cons (pe_callB (call_isXK (K := K)) (by rfl) G.bisinstance PyProof.Rows.boot_isinstance (pa_cons (pv 12) (pa_cons (pe_bltn (v := .ty "LookupError") (by rfl) G.bLookupError (by decide +kernel) rfl) pa_nil))) pa_nil)))))
      (pss_cons (ps_set (i := 6) scW.nd rfl (Or.inl rfl) (pe_op op_cat (pv 6) (pe_lst (pa_cons (pe_callB (call_isXK (K := K)) (by rfl) G.bisinstance PyProof.Rows.boot_isinstance (pa_cons (pv 12) (pa_cons (pe_bltn (v := .ty "IndexError") (by rfl) G.bIndexError (by decide +kernel) rfl) pa_nil))) pa_nil))))
      (pss_one (ps_ret (pe_cmpR (op_eqD hr.units) (pv 6) (pe_lst (pa_cons pe_bl (pa_cons pe_bl (pa_cons pe_bl (pa_cons pe_bl (pa_cons pe_bl pa_nil)))))) (nomark _))))))))))))))))))))))))))))))))), ?_⟩
      have es0 : L2.start ["_law_script", "_law_bag_here", "_law_value", "_law_given_z", "_law_named", "_law_some", "_law_told", "_law_plain", "_law_words", "_law_every", "_law_kinds", "_law_lone", "_law_missing", "_law_e", "_law_word"] [V.ref a] = [some (V.ref a), none, none, none, none, none, none, none, none, none, none, none, none, none, none] := rfl
      rw [es0]
      clear es0
      -- the bag, the value
      refine ⟨_, rfl, a, ns, rfl, hS, hl, fun b l ms Ha sm nb nl B => ?_⟩
      have hb : ∃ o, Ha b = some o := by
        obtain ⟨_, _, _, _, _, _, z, _⟩ := B
        exact ⟨_, z⟩
      refine ⟨_, rfl, (by show 1 ≤ sizeLine; decide), fun t ht => ⟨3, rfl, (by show 7 ≤ sizeLine; decide), fun p hp => ?_⟩⟩
      have x1 : Ex Ha (upd Ha t (.tup [.str "a"])) := Ex.new ht
      have x2 := x1.trans (Ex.new (o := .lst [.int 0, .int 7, .non, .str "x", .ref t, .int (-3), .bl true]) hp)
      have npb : p ≠ b := fun q => by
        obtain ⟨o, z⟩ := hb
        rw [q, x1 _ _ z] at hp
        cases hp
      have ntb : t ≠ b := fun q => by
        obtain ⟨o, z⟩ := hb
        rw [q, z] at ht
        cases ht
      have ntp : t ≠ p := fun q => by
        rw [← q, upd_same] at hp
        cases hp
      refine ⟨b, l, p, ms, _, rfl, SqL.of upd_same, (by show 0 < 7; decide), (by show 7 < 100000; decide), npb, fun H' bt => SqL.of (by rw [bt p npb]; exact upd_same), B.ex x2, fun kk v H1 hk B1 bt => ?_⟩
      have hv : Arg H1 v := by
        have h1 : H1 t = some (.tup [.str "a"]) := by rw [bt t ntb, upd_ne ntp, upd_same]
        match kk, hk with
        | 0, hk => cases hk; exact .inl True.intro
        | 1, hk => cases hk; exact .inl True.intro
        | 2, hk => cases hk; exact .inl True.intro
        | 3, hk => cases hk; exact .inl True.intro
        | 4, hk => cases hk; exact .inr ⟨t, [.str "a"], rfl, h1, fun x hx => by
            simp at hx
            rw [hx]
            exact True.intro, by decide⟩
        | 5, hk => cases hk; exact .inl True.intro
        | 6, hk => cases hk; exact .inl True.intro
        | n + 7, hk => cases hk
      try dsimp only [List.set, gName]
      clear hk bt B1 npb ntb ntp x1 x2 hp ht
      obtain ⟨dv, hdv⟩ := datum hv
      -- the first six
      refine s_asgP (ep_lst (epa_cons (ep_new (ev_var rfl) hv) (epa_cons (ep_new (ev_var rfl) hv) (epa_cons (ep_new (ev_var rfl) hv) epa_nil))) (by exact Nat.le_of_ble_eq_true rfl)) fun v2 H2 y2 h2 => ?_
      try dsimp only [List.set, gName]
      refine s_asgP (ep_cat (ep_var rfl h2) (ep_lst (epa_cons (ep_new (ev_var rfl) (hv.ex y2)) (epa_cons (ep_newK (ev_var rfl) (hv.ex y2)) (epa_cons (ep_new (ev_var rfl) (hv.ex y2)) epa_nil))) (by exact Nat.le_of_ble_eq_true rfl)) (by exact Nat.le_of_ble_eq_true rfl)) fun v3 H3 y3 h3 => ?_
      try dsimp only [List.set, gName]
      have z3 := y2.trans y3
      have q3 : (Pd.lst [Pd.exq K 0, Pd.exq K 1, Pd.exq K 2, Pd.exq K 3, Pd.exq K 4, Pd.exq K 5]).p v3 H3 := by
        refine lst_le ?_ _ _ h3
        exact ⟨exc_le rfl (by decide), exc_le rfl (by decide), exc_le rfl (by decide), exc_le rfl (by decide), exc_le rfl (by decide), exc_le rfl (by decide), True.intro⟩
      obtain ⟨p3, xs3, rfl, hp3, al3⟩ := h3
      have n3 : xs3.length = 6 := al3.len
      obtain ⟨u3, hu3⟩ := fields (K := K) (pn := "given") (o := 0) (n := 6) (v := v) (xs := xs3) (H := H3) al3
      try dsimp only
      refine s_seq ?_
      refine s_if (b := false) (et_not (a := true) (et_B (ev_same (d := .l (List.replicate 6 dv)) ?_ ?_))) (fun h => nomatch h) (fun _ H4 y4 => ?_)
      · refine el_datN (d := dv) (n := 6) (el_lcC (K := K) u3 (ev_var rfl) hp3 (by omega) (fun _ => rfl) fun i x H5 e5 hi => ?_) (by rw [List.length_map, List.length_range]; omega) (by decide) fun H' e x hx => ?_
        · obtain ⟨a5, rfl, _, m5⟩ := hu3 i x hi
          have hi6 : i < 6 := by
            have := (List.getElem?_eq_some_iff.mp hi).1
            omega
          exact ev_xg (ev_var rfl) (m5.ex e5) (T.ex (0 + i) (by omega)) (by
            match i, hi6 with
            | 0, _ => exact G.n0
            | 1, _ => exact G.n1
            | 2, _ => exact G.n2
            | 3, _ => exact G.n3
            | 4, _ => exact G.n4
            | 5, _ => exact G.n5) (look1 _ _ _)
        · obtain ⟨i, hi, rfl⟩ := List.mem_map.mp hx
          have hi2 : i < xs3.length := List.mem_range.mp hi
          obtain ⟨_, _, tw, _⟩ := hu3 i _ (List.getElem?_eq_getElem hi2)
          exact (hdv H' (z3.trans e)).2 _ (tw.ex e)
      · exact ep_rep (n := 6) (ev_var rfl) (by decide) fun H' e => (hdv H' (z3.trans e)).1
      unfold tNext
      try dsimp only
      have z4 := z3.trans y4
      -- the other errors with a field
      refine s_asgP (ep_lst (epa_cons (ep_new (ev_var rfl) (hv.ex z4)) (epa_cons (ep_newK (ev_var rfl) (hv.ex z4)) (epa_cons (ep_new (ev_var rfl) (hv.ex z4)) epa_nil))) (by exact Nat.le_of_ble_eq_true rfl)) fun v5 H5 y5 h5 => ?_
      try dsimp only [List.set, gName]
      have z5 := z4.trans y5
      refine s_asgP (ep_lst (epa_cons (ep_new (ev_var rfl) (hv.ex z5)) (epa_cons (ep_newK (ev_var rfl) (hv.ex z5)) (epa_cons (ep_new (ev_var rfl) (hv.ex z5)) epa_nil))) (by exact Nat.le_of_ble_eq_true rfl)) fun v6 H6 y6 h6 => ?_
      try dsimp only [List.set, gName]
      have z6 := z5.trans y6
      refine s_asgP (ep_cat (ep_var rfl h6) (ep_lst (epa_cons (ep_new (ev_var rfl) (hv.ex z6)) (epa_cons (ep_newK (ev_var rfl) (hv.ex z6)) epa_nil)) (by exact Nat.le_of_ble_eq_true rfl)) (by exact Nat.le_of_ble_eq_true rfl)) fun v7 H7 y7 h7 => ?_
      try dsimp only [List.set, gName]
      have z7 := z6.trans y7
      have q5 : (Pd.lst [Pd.exq K 6, Pd.exq K 7, Pd.exq K 8]).p v5 H5 := by
        refine lst_le ?_ _ _ h5
        exact ⟨exc_le rfl (by decide), exc_le rfl (by decide), exc_le rfl (by decide), True.intro⟩
      have q7 : (Pd.lst [Pd.exq K 9, Pd.exq K 10, Pd.exq K 11, Pd.exq K 12, Pd.exq K 13]).p v7 H7 := by
        refine lst_le ?_ _ _ h7
        exact ⟨exc_le rfl (by decide), exc_le rfl (by decide), exc_le rfl (by decide), exc_le rfl (by decide), exc_le rfl (by decide), True.intro⟩
      obtain ⟨p5, xs5, rfl, hp5, al5⟩ := h5
      have n5 : xs5.length = 3 := al5.len
      obtain ⟨u5, hu5⟩ := fields (K := K) (pn := "name") (o := 6) (n := 3) (v := v) (xs := xs5) (H := H5) al5
      obtain ⟨p7, xs7, rfl, hp7, al7⟩ := h7
      obtain ⟨_, _, _, _, _, rfl, ⟨a9, w9, rfl, t9, m9⟩, ⟨a10, w10, rfl, t10, m10⟩, ⟨a11, w11, rfl, t11, m11⟩, ⟨a12, w12, rfl, t12, m12⟩, ⟨a13, w13, rfl, t13, m13⟩⟩ := al_five al7
      have ix : ∀ (i : Int) (x : V) (H' : Hp), Ex H7 H' → atI [V.ref a9, V.ref a10, V.ref a11, V.ref a12, V.ref a13] i = some x → RV (rIxL K) (.ref p7) (.int i) H' x := fun i x H' e h => rv_ixL (SqL.of (e _ _ hp7)) h
      have x57 := y6.trans y7
      refine s_asgL (el_cat (el_lst (ea_cons (ev_xg (ev_op (ev_var rfl) ev_c (ix 0 _ _ (Ex.refl _) rfl)) m9 (T.ex 9 (by decide)) G.n9 (look1 _ _ _))
        (ea_cons (ev_xg (ev_op (ev_var rfl) ev_c (ix 1 _ _ (Ex.refl _) rfl)) m10 (T.ex 10 (by decide)) G.n10 (look1 _ _ _))
        (ea_cons (ev_xg (ev_op (ev_var rfl) ev_c (ix 2 _ _ (Ex.refl _) rfl)) m11 (T.ex 11 (by decide)) G.n11 (look1 _ _ _))
        (ea_cons (ev_xg (ev_op (ev_var rfl) ev_c (ix 3 _ _ (Ex.refl _) rfl)) m12 (T.ex 12 (by decide)) G.n12 (look1 _ _ _))
        (ea_cons (ev_xg (ev_op (ev_var rfl) ev_c (ix 4 _ _ (Ex.refl _) rfl)) m13 (T.ex 13 (by decide)) G.n13 (look1 _ _ _)) ea_nil))))) (by show 5 ≤ 100000; decide))
        (el_lcC (K := K) u5 (ev_var rfl) (x57 _ _ hp5) (by omega) (fun _ => rfl) fun i x H5' e5 hi => ?_) ?_) fun p8 H8 _ y8 hp8 => ?_
      · obtain ⟨a5, rfl, _, m5⟩ := hu5 i x hi
        have hi3 : i < 3 := by
          have := (List.getElem?_eq_some_iff.mp hi).1
          omega
        exact ev_xg (ev_var rfl) (m5.ex (x57.trans e5)) (T.ex (6 + i) (by omega)) (by
          match i, hi3 with
          | 0, _ => exact G.n6
          | 1, _ => exact G.n7
          | 2, _ => exact G.n8) (look1 _ _ _)
      · rw [List.length_map, List.length_range, n5]
        exact Nat.le_of_ble_eq_true rfl
      try dsimp only [List.set, gName]
      have z8 := z7.trans y8
      have l8 : ([w9, w10, w11, w12, w13] ++ (List.range xs5.length).map u5).length = 8 := by rw [List.length_append, List.length_map, List.length_range, n5]; rfl
      have d8 : Has H8 2 (.ref p8) (.l (List.replicate 8 dv)) := by
        have z := has_list (d := dv) hp8 (by rw [l8]; decide) (fun i x hx => by
          rcases List.mem_append.mp (List.mem_of_getElem? hx) with hx | hx
          · simp only [List.mem_cons, List.not_mem_nil, or_false] at hx
            rcases hx with rfl | rfl | rfl | rfl | rfl
            · exact (hdv _ z8).2 _ (t9.ex y8)
            · exact (hdv _ z8).2 _ (t10.ex y8)
            · exact (hdv _ z8).2 _ (t11.ex y8)
            · exact (hdv _ z8).2 _ (t12.ex y8)
            · exact (hdv _ z8).2 _ (t13.ex y8)
          · obtain ⟨i, hi, rfl⟩ := List.mem_map.mp hx
            obtain ⟨_, _, tw, _⟩ := hu5 i _ (List.getElem?_eq_getElem (List.mem_range.mp hi))
            exact (hdv _ z8).2 _ (tw.ex (x57.trans y8)))
        rw [l8] at z
        exact z
      try dsimp only
      refine s_seq ?_
      refine s_if (b := false) (et_not (a := true) (et_B (ev_same (d := .l (List.replicate 8 dv)) (ep_var rfl d8) ?_))) (fun h => nomatch h) (fun _ H9 y9 => ?_)
      · exact ep_rep (n := 8) (ev_var rfl) (by decide) fun H' e => (hdv H' (z8.trans e)).1
      try dsimp only
      have z9 := z8.trans y9
      refine s_asgP (ep_lst (epa_cons ep_new0 (epa_cons ep_new0 (epa_cons ep_new0 (epa_cons ep_new0 epa_nil)))) (by exact Nat.le_of_ble_eq_true rfl)) fun v10 H10 y10 h10 => ?_
      try dsimp only [List.set, gName]
      refine s_asgP (ep_cat (ep_var rfl h10) (ep_lst (epa_cons ep_new0 (epa_cons ep_new0 (epa_cons ep_new0 (epa_cons ep_new0 epa_nil)))) (by exact Nat.le_of_ble_eq_true rfl)) (by exact Nat.le_of_ble_eq_true rfl)) fun v11 H11 y11 h11 => ?_
      try dsimp only [List.set, gName]
      refine s_asgP (ep_cat (ep_var rfl h11) (ep_lst (epa_cons ep_new0 epa_nil) (by exact Nat.le_of_ble_eq_true rfl)) (by exact Nat.le_of_ble_eq_true rfl)) fun v12 H12 y12 h12 => ?_
      try dsimp only [List.set, gName]
      refine s_asgP (ep_w0 (k := 4) (ea_cons ev_c (ea_cons ev_c (ea_cons ev_c (ea_cons ev_c ea_nil)))) (by decide)) fun v13 H13 y13 h13 => ?_
      try dsimp only [List.set, gName]
      refine s_asgP (ep_wc (k := 4) (m := 4) (ep_var rfl h13) (ea_cons ev_c (ea_cons ev_c (ea_cons ev_c (ea_cons ev_c ea_nil)))) (by decide)) fun v14 H14 y14 h14 => ?_
      try dsimp only [List.set, gName]
      refine s_asgP (ep_wc (k := 8) (m := 1) (ep_var rfl h14) (ea_cons ev_c ea_nil) (by decide)) fun v15 H15 y15 h15 => ?_
      try dsimp only [List.set, gName]
      refine s_asgP (ep_wc (k := 9) (m := 4) (ep_var rfl h15) (ea_cons ev_c (ea_cons ev_c (ea_cons ev_c (ea_cons ev_c ea_nil)))) (by decide)) fun v16 H16 y16 h16 => ?_
      try dsimp only [List.set, gName]
      refine s_asgP (ep_wc (k := 13) (m := 4) (ep_var rfl h16) (ea_cons ev_c (ea_cons ev_c (ea_cons ev_c (ea_cons ev_c ea_nil)))) (by decide)) fun v17 H17 y17 h17 => ?_
      try dsimp only [List.set, gName]
      refine s_asgP (ep_wc (k := 17) (m := 4) (ep_var rfl h17) (ea_cons ev_c (ea_cons ev_c (ea_cons ev_c (ea_cons ev_c ea_nil)))) (by decide)) fun v18 H18 y18 h18 => ?_
      try dsimp only [List.set, gName]
      refine s_asgP (ep_wc (k := 21) (m := 2) (ep_var rfl h18) (ea_cons ev_c (ea_cons ev_c ea_nil)) (by decide)) fun v19 H19 y19 h19 => ?_
      try dsimp only [List.set, gName]
      have q12 : (Pd.lst [Pd.exq K 14, Pd.exq K 15, Pd.exq K 16, Pd.exq K 17, Pd.exq K 18, Pd.exq K 19, Pd.exq K 20, Pd.exq K 21, Pd.exq K 22]).p v12 H12 := by
        refine lst_le ?_ _ _ h12
        exact ⟨exc0_le rfl, exc0_le rfl, exc0_le rfl, exc0_le rfl, exc0_le rfl, exc0_le rfl, exc0_le rfl, exc0_le rfl, exc0_le rfl, True.intro⟩
      have x12 := y13.trans (y14.trans (y15.trans (y16.trans (y17.trans (y18.trans y19)))))
      have x7 := y8.trans (y9.trans (y10.trans (y11.trans (y12.trans x12))))
      have x5 := y6.trans (y7.trans x7)
      have x3 := y4.trans (y5.trans x5)
      refine s_asgP (ep_cat (ep_cat (ep_cat (ep_var rfl (Pd.up _ q3 x3)) (ep_var rfl (Pd.up _ q5 x5)) (by exact Nat.le_of_ble_eq_true rfl)) (ep_var rfl (Pd.up _ q7 x7)) (by exact Nat.le_of_ble_eq_true rfl)) (ep_var rfl (Pd.up _ q12 x12)) (by exact Nat.le_of_ble_eq_true rfl)) fun v20 H20 y20 h20 => ?_
      try dsimp only [List.set, gName]
      obtain ⟨pw, rfl, hpw⟩ := Pd.up _ h19 y20
      obtain ⟨pe, xs, rfl, hpe, ale⟩ := h20
      have ne : xs.length = 23 := ale.len
      have it : ∀ (i : Nat) (x : V), xs[i]? = some x → i < 23 ∧ ∃ (a : Addr) (fs : List (Str × V)), x = .ref a ∧ Mde H20 a (cA K i) fs ∧ fs.lookup ("tag" : Str) = some (V.str (nm i)) := fun i x hx => by
        have hi : i < 23 := by
          have := (List.getElem?_eq_some_iff.mp hx).1
          omega
        have al2 : AllP ((List.range 23).map (Pd.exq K)) xs H20 := ale
        exact ⟨hi, al2.at_ (P := Pd.exq K i) (by rw [List.getElem?_map, List.getElem?_range hi]; rfl) hx⟩
      have q20 : (Pd.lst [Pd.exq K 0, Pd.exq K 1, Pd.exq K 2, Pd.exq K 3, Pd.exq K 4, Pd.exq K 5, Pd.exq K 6, Pd.exq K 7, Pd.exq K 8, Pd.exq K 9, Pd.exq K 10, Pd.exq K 11, Pd.exq K 12, Pd.exq K 13, Pd.exq K 14, Pd.exq K 15, Pd.exq K 16, Pd.exq K 17, Pd.exq K 18, Pd.exq K 19, Pd.exq K 20, Pd.exq K 21, Pd.exq K 22]).p (.ref pe) H20 := ⟨pe, xs, rfl, hpe, ale⟩
      clear ale h19 h18 h17 h16 h15 h14 h13 h12 h11 h10 q12 q3 q5 q7
      -- the tags
      try dsimp only
      refine s_seq ?_
      refine s_if (b := false) (et_is (et_or (a := false) (b := false) (et_test ?_) (fun _ => et_test ?_)) rfl) (fun h => nomatch h) (fun _ H21 y21 => ?_)
      · refine ev_opL1 (el_lcC (K := K) (fun i => V.str (nm i)) (ev_var rfl) hpe (by omega) (fun _ => rfl) fun i x H5 e5 hi => ?_) (fun H5 e5 => ev_var rfl) (fun p H5 hp5 e5 => rv_neD hp5 (e5 _ _ hpw) (ds := (List.range 23).map fun i => PyData.str (nm (0 + i))) ?_ ?_ (by decide +kernel) (by decide +kernel))
        · obtain ⟨hi2, a5, fs, rfl, m5, lk⟩ := it i x hi
          exact ev_xg (ev_var rfl) (m5.ex e5) (T.ex i (by omega)) (G.nT i (by omega)) lk
        · intro H6 _
          rw [ne]
          exact dp_map (f := fun i => V.str (nm i)) (g := fun i => PyData.str (nm (0 + i))) _ fun x _ => by
            show Dp K H6 (V.str (nm x)) (PyData.str (nm (0 + x)))
            rw [Nat.zero_add]
            exact .str _
        · intro H6 _
          exact dp_map (f := fun i => V.str (nm (0 + i))) (g := fun i => PyData.str (nm (0 + i))) _ fun x _ => .str _
      · exact ev_op (ev_xg0 ep_new0 (T.ex 23 (by decide)) (G.nT 23 (by decide))) ev_c (rv_ne rfl)
      try dsimp only
      -- the classes
      refine s_seq ?_
      refine s_if (b := false) (et_test (ev_neLL (n := 24) (xss := fun i => [V.str (nm i)]) (g := fun i => PyData.list [PyData.str (nm i)]) ?_ ?_ (fun i _ H1 => ⟨_, rfl, .cons (.str _) .nil⟩) (by decide +kernel) (by decide +kernel))) (fun h => nomatch h) (fun _ H22 y22 => ?_)
      · refine el_lcLP (Ps := (List.range 24).map (Pd.exq K)) (EvP.le (ep_cat (ep_var rfl (Pd.up _ q20 y21)) (ep_lst (epa_cons ep_new0 epa_nil) (by exact Nat.le_of_ble_eq_true rfl)) (by exact Nat.le_of_ble_eq_true rfl)) ?_) (by exact Nat.le_of_ble_eq_true rfl) (fun _ => rfl) fun i P x H5 hP e5 px => ?_
        · refine lst_le ?_
          exact ⟨le_refl _, le_refl _, le_refl _, le_refl _, le_refl _, le_refl _, le_refl _, le_refl _, le_refl _, le_refl _, le_refl _, le_refl _, le_refl _, le_refl _, le_refl _, le_refl _, le_refl _, le_refl _, le_refl _, le_refl _, le_refl _, le_refl _, le_refl _, exc0_le rfl, True.intro⟩
        · have hi : i < 24 := by
            have := (List.getElem?_eq_some_iff.mp hP).1
            simpa using this
          rw [List.getElem?_map, List.getElem?_range hi] at hP
          cases hP
          obtain ⟨a5, fs, rfl, m5, lk⟩ := px
          exact el_call (ea_cons (ev_var rfl) ea_nil) fun H6 e6 Q6 q6 E6 => ⟨a5, i, fs, rfl, hi, m5.ex e6, fun p6 H7 hp6 e7 h7 => q6 p6 H7 hp6 e7 h7⟩
      · refine el_lcLP (Ps := (List.range 24).map fun i => Pd.is (V.str (nm (0 + i)))) (EvP.le (ep_wc (k := 23) (m := 1) (ep_var rfl ⟨pw, rfl, y21 _ _ hpw⟩) (ea_cons ev_c ea_nil) (by decide)) (wl_le 24)) (by exact Nat.le_of_ble_eq_true rfl) (fun _ => rfl) fun i P x H5 hP e5 px => ?_
        have hi : i < 24 := by
          have := (List.getElem?_eq_some_iff.mp hP).1
          simpa using this
        rw [List.getElem?_map, List.getElem?_range hi] at hP
        cases hP
        have ex : x = V.str (nm i) := by
          have z : x = V.str (nm (0 + i)) := px
          rw [Nat.zero_add] at z
          exact z
        subst ex
        exact el_lst (ea_cons (ev_var rfl) ea_nil) (by show 1 ≤ 100000; decide)
      try unfold tNext
      try dsimp only
      have x22 := y21.trans y22
      -- TeamError
      refine s_asgL (el_lcC (K := K) (fun i => V.bl (decide (i ≠ 8))) (ev_var rfl) (x22 _ _ hpe) (by omega) (fun _ => rfl) fun i x H5 e5 hi => ?_) fun pk H23 _ y23 hpk => ?_
      · obtain ⟨hi2, a5, fs, rfl, m5, lk⟩ := it i x hi
        exact ev_isx (ev_var rfl) ev_c (m5.ex (x22.trans e5)) (T.ex i (by omega)) (T.is_ i (by omega)) (.own _) (G.kTE i hi2)
      try dsimp only [List.set, gName]
      have x23 := x22.trans y23
      refine s_seq ?_
      refine s_if (b := false) (et_is (et_or (a := false) (b := false) (et_test ?_) (fun _ => et_not (a := true) (et_B ?_))) rfl) (fun h => nomatch h) (fun _ H24 y24 => ?_)
      · refine ev_opL (ev_var rfl) (el_lcC (K := K) (fun i => V.bl (decide (i ≠ 8))) (ev_var rfl) (x23 _ _ hpw) (by rw [ws_len]; decide) (fun _ => rfl) fun i x H5 e5 hi => ?_) (fun p H5 hp5 e5 => rv_neD (e5 _ _ hpk) hp5 (ds := (List.range 23).map fun i => PyData.bool (decide (i ≠ 8))) ?_ ?_ (by decide +kernel) (by decide +kernel))
        · have hi2 : i < 23 := by
            have := (List.getElem?_eq_some_iff.mp hi).1
            rw [ws_len] at this
            exact this
          have ex : x = V.str (nm (0 + i)) := by
            unfold ws at hi
            rw [List.getElem?_map, List.getElem?_range hi2] at hi
            exact (Option.some.inj hi).symm
          subst ex
          exact ev_is (ev_op (ev_var rfl) ev_c (rv_ne rfl)) (congrArg V.bl (not_unk i hi2))
        · intro H6 _
          rw [ne]
          exact dp_map (f := fun i => V.bl (decide (i ≠ 8))) (g := fun i => PyData.bool (decide (i ≠ 8))) _ fun x _ => .bl _
        · intro H6 _
          rw [ws_len]
          exact dp_map (f := fun i => V.bl (decide (i ≠ 8))) (g := fun i => PyData.bool (decide (i ≠ 8))) _ fun x _ => .bl _
      · refine ev_allT (n := xs.length) (el_lcC (K := K) (fun _ => V.bl true) (ev_var rfl) (x23 _ _ hpe) (by omega) (fun _ => rfl) fun i x H5 e5 hi => ?_)
        obtain ⟨hi2, a5, fs, rfl, m5, lk⟩ := it i x hi
        exact ev_is (ev_op (ev_isx (ev_var rfl) ev_c (m5.ex (x23.trans e5)) (T.ex i (by omega)) (T.is_ i (by omega)) (.ty _) (G.kVE i hi2)) (ev_isx (ev_var rfl) ev_c (m5.ex (x23.trans e5)) (T.ex i (by omega)) (T.is_ i (by omega)) (.own _) (G.kTE i hi2)) (rv_eq rfl)) (congrArg V.bl (decide_eq_true rfl))
      try unfold tNext
      try dsimp only
      -- two that stand alone
      refine s_parP (epa_cons ep_new0 (epa_cons (ep_new ev_c (.inl True.intro)) epa_nil)) fun v25 w25 H25 y25 h25 g25 => ?_
      try dsimp only [List.set, gName]
      obtain ⟨aL, rfl, mL⟩ := h25
      obtain ⟨aM, uM, rfl, _, mM⟩ := g25
      refine s_asgP (ep_kl (ea_cons (ev_isx (ev_var rfl) ev_c mL (T.ex 23 (by decide)) (T.is_ 23 (by decide)) (.ty _) G.k1) (ea_cons (ev_isx (ev_var rfl) ev_c mL (T.ex 23 (by decide)) (T.is_ 23 (by decide)) (.own _) G.k2) ea_nil)) (by show 2 ≤ 1000; decide)) fun v26 H26 y26 h26 => ?_
      try dsimp only [List.set, gName]
      refine s_asgP (ep_kcat (ep_var rfl h26) (ea_cons (ev_isx (ev_var rfl) ev_c (mM.ex y26) (T.ex 8 (by decide)) (T.is_ 8 (by decide)) (.own _) G.k3) (ea_cons (ev_isx (ev_var rfl) ev_c (mM.ex y26) (T.ex 8 (by decide)) (T.is_ 8 (by decide)) (.ty _) G.k4) ea_nil)) (by show 2 + 2 ≤ 1000; decide)) fun v27 H27 y27 h27 => ?_
      try dsimp only [List.set, gName]
      refine s_asgP (ep_kcat (ep_var rfl h27) (ea_cons (ev_isx (ev_var rfl) ev_c (mM.ex (y26.trans y27)) (T.ex 8 (by decide)) (T.is_ 8 (by decide)) (.ty _) G.k5) ea_nil) (by show 4 + 1 ≤ 1000; decide)) fun v28 H28 y28 h28 => ?_
      try dsimp only [List.set, gName]
      obtain ⟨p28, rfl, h28⟩ := h28
      refine s_ret (ev_opL (ev_var rfl) (el_lst (ea_cons ev_c (ea_cons ev_c (ea_cons ev_c (ea_cons ev_c (ea_cons ev_c ea_nil))))) (by show 5 ≤ 100000; decide)) (fun p H5 hp5 e5 => rv_eqD (e5 _ _ h28) hp5 (ds := [.bool true, .bool false, .bool true, .bool true, .bool false]) ?_ ?_ (by decide +kernel) (by decide +kernel))) fun H' _ => k H'
      · intro H6 _
        exact .cons (.bl _) (.cons (.bl _) (.cons (.bl _) (.cons (.bl _) (.cons (.bl _) .nil))))
      · intro H6 _
        exact .cons (.bl _) (.cons (.bl _) (.cons (.bl _) (.cons (.bl _) (.cons (.bl _) .nil))))
end
end K66

/-! The head, its facts by names -/
namespace K66
open PySem L2 Evl OxK
/-- the built-in class below the i-th error: its maker, its own line of classes -/
def mkr (i : Nat) : String := if i = 8 then "LookupError.__new__" else if i = 23 then "IndexError.__new__" else "ValueError.__new__"
def tail (i : Nat) : List Value := if i = 8 then [.type "LookupError", .type "Exception", .type "BaseException", .type "object"] else if i = 23 then [.type "IndexError", .type "LookupError", .type "Exception", .type "BaseException", .type "object"] else [.type "ValueError", .type "Exception", .type "BaseException", .type "object"]
def dV (a b : Option (Option Value)) : Bool := decide (a = b)
/-- what is asked of the i-th class at C -/
def clsB (K : PySem.W.Frag) (i : Nat) (C : Addr) : Bool :=
  PySem.W.excInitIn K C (tail i) (mkr i) && (PySem.W.excOver K C (tail i) && (PySem.W.hasDictIn K C && (dV (PySem.W.findIn K (.ref C) "__setattr__") (some (some (.builtin "object.__setattr__"))) && (dV (PySem.W.findIn K (.ref C) "__getattribute__") (some (some (.builtin "BaseException.__getattribute__"))) &&
  (dV (PySem.W.findIn K (.ref C) "__getattr__") (some none) && (decide (PySem.W.subIn K (.ref C) (.type "BaseException") = some true) && (decide (PySem.W.typeIn K (.ref C) = some (.type "type")) && (PySem.W.keepIn K (.ref C) && ((PySem.W.clsIn K C).isSome &&
  (dV (PySem.W.findIn K (.ref C) "__class__") (some (some (.builtin "object.__class__"))) && (decide (PySem.W.mroIn K C (.type "object") = some true) && (dV (PySem.W.findIn K (.ref C) "__init__") (some (some (.ref (He.ma K C "__init__")))) && (decide (PySem.W.typeIn K (.ref (He.ma K C "__init__")) = some (.type "function")) &&
  dV (PySem.W.findIn K (.ref C) "tag") (some none))))))))))))))
def pns : List (Option Str) := [some ("given" : Str), some ("given" : Str), some ("given" : Str), some ("given" : Str), some ("given" : Str), some ("given" : Str), some ("name" : Str), some ("name" : Str), some ("name" : Str), some ("index" : Str), some ("most" : Str), some ("limit" : Str), some ("word" : Str), some ("line" : Str), none, none, none, none, none, none, none, none, none, none]
def parB (K : PySem.W.Frag) (i : Nat) (C : Addr) : Bool := match pns.getD i none with
  | some x => dV (PySem.W.findIn K (.ref C) x) (some none)
  | none => true
def exB (K : PySem.W.Frag) : Bool :=
  dV (PySem.W.specialIn K (.builtin "object.__class__") "__get__") (some (some (.builtin "getset_descriptor.__get__"))) && (decide (PySem.W.takesIn K (.builtin "object.__class__") = some true) &&
  (((List.range 24).all fun i => clsB K i (cA K i) && parB K i (cA K i)) && (((List.range 24).all fun i => (List.range 24).all fun j => decide (PySem.W.kitOne K (.ref (cA K i)) (.ref (cA K j)) = some (decide (j = i)))) &&
  (((List.range 23).all fun i => decide (PySem.W.kitOne K (.ref (cA K i)) (.ref (He.ga K "TeamError")) = some (decide (i ≠ 8))) && decide (PySem.W.kitOne K (.ref (cA K i)) (.type "ValueError") = some (decide (i ≠ 8)))) &&
  (decide (PySem.W.kitOne K (.ref (cA K 23)) (.type "IndexError") = some true) && (decide (PySem.W.kitOne K (.ref (cA K 23)) (.ref (He.ga K "Missing")) = some false) && (decide (PySem.W.kitOne K (.ref (cA K 8)) (.ref (He.ga K "Missing")) = some true) &&
  (decide (PySem.W.kitOne K (.ref (cA K 8)) (.type "LookupError") = some true) && decide (PySem.W.kitOne K (.ref (cA K 8)) (.type "IndexError") = some false)))))))))
def fn : List He.DefD := [
  ⟨("copied", none), "copied", "copied", defArgs sCop, defBody sCop, defScope sCop, [], []⟩,
  ⟨("_law_bag", none), "_law_bag", "_law_bag", defArgs sBag, defBody sBag, defScope sBag, [], []⟩,
  ⟨("_law_pull", none), "_law_pull", "_law_pull", defArgs sPull, defBody sPull, defScope sPull, [], []⟩,
  ⟨("_law_of", none), "_law_of", "_law_of", defArgs sOf, defBody sOf, defScope sOf, [], []⟩,
  ⟨("_law_same", none), "_law_same", "_law_same", defArgs sSame, defBody sSame, defScope sSame, [], []⟩,
  ⟨("_law_classes", none), "_law_classes", "_law_classes", defArgs sCls, defBody sCls, defScope sCls, [], []⟩,
  ⟨("law", none), "law", "law", defArgs sLaw, defBody sLaw, defScope sLaw, [], []⟩,
  ⟨("InvalidStates", some "__init__"), "__init__", "InvalidStates.__init__", defArgs sInvalidStates, defBody sInvalidStates, defScope sInvalidStates, [], []⟩,
  ⟨("InvalidState", some "__init__"), "__init__", "InvalidState.__init__", defArgs sInvalidState, defBody sInvalidState, defScope sInvalidState, [], []⟩,
  ⟨("InvalidWord", some "__init__"), "__init__", "InvalidWord.__init__", defArgs sInvalidWord, defBody sInvalidWord, defScope sInvalidWord, [], []⟩,
  ⟨("InvalidCount", some "__init__"), "__init__", "InvalidCount.__init__", defArgs sInvalidCount, defBody sInvalidCount, defScope sInvalidCount, [], []⟩,
  ⟨("InvalidIndex", some "__init__"), "__init__", "InvalidIndex.__init__", defArgs sInvalidIndex, defBody sInvalidIndex, defScope sInvalidIndex, [], []⟩,
  ⟨("InvalidLimit", some "__init__"), "__init__", "InvalidLimit.__init__", defArgs sInvalidLimit, defBody sInvalidLimit, defScope sInvalidLimit, [], []⟩,
  ⟨("InvalidName", some "__init__"), "__init__", "InvalidName.__init__", defArgs sInvalidName, defBody sInvalidName, defScope sInvalidName, [], []⟩,
  ⟨("DuplicateName", some "__init__"), "__init__", "DuplicateName.__init__", defArgs sDuplicateName, defBody sDuplicateName, defScope sDuplicateName, [], []⟩,
  ⟨("UnknownName", some "__init__"), "__init__", "UnknownName.__init__", defArgs sUnknownName, defBody sUnknownName, defScope sUnknownName, [], []⟩,
  ⟨("InvalidMove", some "__init__"), "__init__", "InvalidMove.__init__", defArgs sInvalidMove, defBody sInvalidMove, defScope sInvalidMove, [], []⟩,
  ⟨("TooMany", some "__init__"), "__init__", "TooMany.__init__", defArgs sTooMany, defBody sTooMany, defScope sTooMany, [], []⟩,
  ⟨("CapacityExceeded", some "__init__"), "__init__", "CapacityExceeded.__init__", defArgs sCapacityExceeded, defBody sCapacityExceeded, defScope sCapacityExceeded, [], []⟩,
  ⟨("InvalidCommand", some "__init__"), "__init__", "InvalidCommand.__init__", defArgs sInvalidCommand, defBody sInvalidCommand, defScope sInvalidCommand, [], []⟩,
  ⟨("ParseError", some "__init__"), "__init__", "ParseError.__init__", defArgs sParseError, defBody sParseError, defScope sParseError, [], []⟩,
  ⟨("InvalidAlphabet", some "__init__"), "__init__", "InvalidAlphabet.__init__", defArgs sInvalidAlphabet, defBody sInvalidAlphabet, defScope sInvalidAlphabet, [], []⟩,
  ⟨("InvalidGroup", some "__init__"), "__init__", "InvalidGroup.__init__", defArgs sInvalidGroup, defBody sInvalidGroup, defScope sInvalidGroup, [], []⟩,
  ⟨("InvalidReport", some "__init__"), "__init__", "InvalidReport.__init__", defArgs sInvalidReport, defBody sInvalidReport, defScope sInvalidReport, [], []⟩,
  ⟨("InvalidPartition", some "__init__"), "__init__", "InvalidPartition.__init__", defArgs sInvalidPartition, defBody sInvalidPartition, defScope sInvalidPartition, [], []⟩,
  ⟨("InvalidPairs", some "__init__"), "__init__", "InvalidPairs.__init__", defArgs sInvalidPairs, defBody sInvalidPairs, defScope sInvalidPairs, [], []⟩,
  ⟨("InvalidText", some "__init__"), "__init__", "InvalidText.__init__", defArgs sInvalidText, defBody sInvalidText, defScope sInvalidText, [], []⟩,
  ⟨("NoMachines", some "__init__"), "__init__", "NoMachines.__init__", defArgs sNoMachines, defBody sNoMachines, defScope sNoMachines, [], []⟩,
  ⟨("AlphabetsDiffer", some "__init__"), "__init__", "AlphabetsDiffer.__init__", defArgs sAlphabetsDiffer, defBody sAlphabetsDiffer, defScope sAlphabetsDiffer, [], []⟩,
  ⟨("Refused", some "__init__"), "__init__", "Refused.__init__", defArgs sRefused, defBody sRefused, defScope sRefused, [], []⟩,
  ⟨("NothingLeft", some "__init__"), "__init__", "NothingLeft.__init__", defArgs sNothingLeft, defBody sNothingLeft, defScope sNothingLeft, [], []⟩]
def fa : List He.Fa := [.glo "copied", .glo "TeamError", .glo "Missing", .glo "_law_bag", .glo "_law_pull", .glo "_law_of", .glo "_law_same", .glo "_law_classes", .glo "law", .glo "InvalidStates", .glo "InvalidState", .glo "InvalidWord", .glo "InvalidCount", .glo "InvalidIndex", .glo "InvalidLimit", .glo "InvalidName", .glo "DuplicateName", .glo "UnknownName", .glo "InvalidMove", .glo "TooMany", .glo "CapacityExceeded", .glo "InvalidCommand", .glo "ParseError", .glo "InvalidAlphabet", .glo "InvalidGroup", .glo "InvalidReport", .glo "InvalidPartition", .glo "InvalidPairs", .glo "InvalidText", .glo "NoMachines", .glo "AlphabetsDiffer", .glo "Refused", .glo "NothingLeft", .free "isinstance", .free "list", .free "tuple", .free "dict", .free "int", .free "len", .free "bool", .free "str", .free "all", .free "zip", .free "ValueError", .free "IndexError", .free "LookupError", .keep "copied", .keep "_law_bag", .keep "_law_pull", .keep "_law_of", .keep "_law_same", .keep "_law_classes"]
theorem ba {a b : Bool} (h : (a && b) = true) : a = true ∧ b = true := Bool.and_eq_true_iff.mp h
theorem dV_ok {a b : Option (Option Value)} (h : dV a b = true) : a = b := of_decide_eq_true h
theorem base_of (i : Nat) : ∃ (B idI : String), ExcBaseFacts B (mkr i) idI (tail i) ∧ StoreFacts B (tail i) "object.__setattr__" "object" := by
  unfold mkr tail
  by_cases h8 : i = 8
  · rw [if_pos h8, if_pos h8]
    exact ⟨_, _, PySem.F.excBase_LookupError, PySem.F.store_LookupError⟩
  · rw [if_neg h8, if_neg h8]
    by_cases h23 : i = 23
    · rw [if_pos h23, if_pos h23]
      exact ⟨_, _, PySem.F.excBase_IndexError, PySem.F.store_IndexError⟩
    · rw [if_neg h23, if_neg h23]
      exact ⟨_, _, PySem.F.excBase_ValueError, PySem.F.store_ValueError⟩
structure ClsF (K : PySem.W.Frag) (C : Addr) : Prop where
  ex : ExC K C
  cl : (PySem.W.clsIn K C).isSome = true
  ha : PySem.W.findIn K (.ref C) "__class__" = some (some (.builtin "object.__class__"))
  hm : PySem.W.mroIn K C (.type "object") = some true
  iC : PySem.W.findIn K (.ref C) "__init__" = some (some (.ref (He.ma K C "__init__")))
  tI : PySem.W.typeIn K (.ref (He.ma K C "__init__")) = some (.type "function")
  nT : PySem.W.findIn K (.ref C) "tag" = some none
theorem clsB_ok {K : PySem.W.Frag} {i : Nat} {C : Addr} (h : clsB K i C = true) : ClsF K C := by
  unfold clsB at h
  obtain ⟨h1, h⟩ := ba h
  obtain ⟨h2, h⟩ := ba h
  obtain ⟨h3, h⟩ := ba h
  obtain ⟨h4, h⟩ := ba h
  obtain ⟨h5, h⟩ := ba h
  obtain ⟨h6, h⟩ := ba h
  obtain ⟨h7, h⟩ := ba h
  obtain ⟨h8, h⟩ := ba h
  obtain ⟨h9, h⟩ := ba h
  obtain ⟨h10, h⟩ := ba h
  obtain ⟨h11, h⟩ := ba h
  obtain ⟨h12, h⟩ := ba h
  obtain ⟨h13, h⟩ := ba h
  obtain ⟨h14, h15⟩ := ba h
  obtain ⟨B, idI, b1, b2⟩ := base_of i
  exact ⟨⟨⟨B, mkr i, idI, tail i, b1, b2, h1, h2⟩, h3, dV_ok h4, dV_ok h5, dV_ok h6, of_decide_eq_true h7, of_decide_eq_true h8, h9⟩, h10, dV_ok h11, of_decide_eq_true h12, dV_ok h13, of_decide_eq_true h14, dV_ok h15⟩
theorem all_range {n : Nat} {p : Nat → Bool} (h : (List.range n).all p = true) (i : Nat) (hi : i < n) : p i = true := List.all_eq_true.mp h i (List.mem_range.mpr hi)
theorem facts {P : Program} {w : World} {K : PySem.W.Frag} {h : Heap} {mg : Str → Option Value} {f : Addr} (X : K.In h) (G : h.Ns mainGlobals mg) (hfa : mg ("law" : Str) = some (.ref f)) (c : He.SaysX fa fn [] [] exB w h K) :
    ∃ fd : FuncData, (∀ (s : Shared) (v : Value), BindsTo s fd ⟨[v], []⟩ [("_law_script", v)]) ∧ ∀ base : Heap, K.In base → base.Ns mainGlobals mg → FnOk P w K mg base CX0 5 f fd ["_law_script"] (spLaw K) := by
  obtain ⟨m1, m⟩ := ba (show exB K = true from c.more)
  obtain ⟨m2, m⟩ := ba m
  obtain ⟨m3, m⟩ := ba m
  obtain ⟨m4, m⟩ := ba m
  obtain ⟨m5, m⟩ := ba m
  obtain ⟨m6, m⟩ := ba m
  obtain ⟨m7, m⟩ := ba m
  obtain ⟨m8, m⟩ := ba m
  obtain ⟨m9, m10⟩ := ba m
  have cf : ∀ i, i < 24 → ClsF K (cA K i) := fun i hi => clsB_ok (ba (all_range m3 i hi)).1
  have pf : ∀ i, i < 24 → parB K i (cA K i) = true := fun i hi => (ba (all_range m3 i hi)).2
  have T : Fx K mg := ⟨fun i hi => by
    match i, hi with
    | 0, _ => exact (He.glo_ok X G (c.t.d.fact 9 (f := .glo "InvalidStates") rfl))
    | 1, _ => exact (He.glo_ok X G (c.t.d.fact 10 (f := .glo "InvalidState") rfl))
    | 2, _ => exact (He.glo_ok X G (c.t.d.fact 11 (f := .glo "InvalidWord") rfl))
    | 3, _ => exact (He.glo_ok X G (c.t.d.fact 12 (f := .glo "InvalidCount") rfl))
    | 4, _ => exact (He.glo_ok X G (c.t.d.fact 13 (f := .glo "InvalidIndex") rfl))
    | 5, _ => exact (He.glo_ok X G (c.t.d.fact 14 (f := .glo "InvalidLimit") rfl))
    | 6, _ => exact (He.glo_ok X G (c.t.d.fact 15 (f := .glo "InvalidName") rfl))
    | 7, _ => exact (He.glo_ok X G (c.t.d.fact 16 (f := .glo "DuplicateName") rfl))
    | 8, _ => exact (He.glo_ok X G (c.t.d.fact 17 (f := .glo "UnknownName") rfl))
    | 9, _ => exact (He.glo_ok X G (c.t.d.fact 18 (f := .glo "InvalidMove") rfl))
    | 10, _ => exact (He.glo_ok X G (c.t.d.fact 19 (f := .glo "TooMany") rfl))
    | 11, _ => exact (He.glo_ok X G (c.t.d.fact 20 (f := .glo "CapacityExceeded") rfl))
    | 12, _ => exact (He.glo_ok X G (c.t.d.fact 21 (f := .glo "InvalidCommand") rfl))
    | 13, _ => exact (He.glo_ok X G (c.t.d.fact 22 (f := .glo "ParseError") rfl))
    | 14, _ => exact (He.glo_ok X G (c.t.d.fact 23 (f := .glo "InvalidAlphabet") rfl))
    | 15, _ => exact (He.glo_ok X G (c.t.d.fact 24 (f := .glo "InvalidGroup") rfl))
    | 16, _ => exact (He.glo_ok X G (c.t.d.fact 25 (f := .glo "InvalidReport") rfl))
    | 17, _ => exact (He.glo_ok X G (c.t.d.fact 26 (f := .glo "InvalidPartition") rfl))
    | 18, _ => exact (He.glo_ok X G (c.t.d.fact 27 (f := .glo "InvalidPairs") rfl))
    | 19, _ => exact (He.glo_ok X G (c.t.d.fact 28 (f := .glo "InvalidText") rfl))
    | 20, _ => exact (He.glo_ok X G (c.t.d.fact 29 (f := .glo "NoMachines") rfl))
    | 21, _ => exact (He.glo_ok X G (c.t.d.fact 30 (f := .glo "AlphabetsDiffer") rfl))
    | 22, _ => exact (He.glo_ok X G (c.t.d.fact 31 (f := .glo "Refused") rfl))
    | 23, _ => exact (He.glo_ok X G (c.t.d.fact 32 (f := .glo "NothingLeft") rfl))
    | n + 24, hi => exact absurd hi (by omega)
    , fun i hi => (cf i hi).ex, fun i hi => ⟨(cf i hi).cl, (cf i hi).ha, dV_ok m1, of_decide_eq_true m2, (cf i hi).hm⟩, fun i hi j hj => of_decide_eq_true (all_range (all_range m4 i hi) j hj)⟩
  have B : NoB mg := ⟨(He.free_ok X G (c.t.d.fact 33 (f := .free "isinstance") rfl)), (He.free_ok X G (c.t.d.fact 34 (f := .free "list") rfl)), (He.free_ok X G (c.t.d.fact 35 (f := .free "tuple") rfl))⟩
  have S : NoS mg := ⟨B, (He.free_ok X G (c.t.d.fact 39 (f := .free "bool") rfl)), (He.free_ok X G (c.t.d.fact 37 (f := .free "int") rfl)), (He.free_ok X G (c.t.d.fact 40 (f := .free "str") rfl)), (He.free_ok X G (c.t.d.fact 38 (f := .free "len") rfl)), (He.free_ok X G (c.t.d.fact 41 (f := .free "all") rfl)), (He.free_ok X G (c.t.d.fact 42 (f := .free "zip") rfl))⟩
  obtain ⟨fdC, FC⟩ := c.t.d.def_ 0 rfl
  obtain ⟨fdB, FB⟩ := c.t.d.def_ 1 rfl
  obtain ⟨fdP, FP⟩ := c.t.d.def_ 2 rfl
  obtain ⟨fdO, FO⟩ := c.t.d.def_ 3 rfl
  obtain ⟨fdS, FS⟩ := c.t.d.def_ 4 rfl
  obtain ⟨fdK, FK⟩ := c.t.d.def_ 5 rfl
  obtain ⟨fdL, FL⟩ := c.t.d.def_ 6 rfl
  obtain ⟨fd0, F0⟩ := c.t.d.def_ 7 rfl
  obtain ⟨fd1, F1⟩ := c.t.d.def_ 8 rfl
  obtain ⟨fd2, F2⟩ := c.t.d.def_ 9 rfl
  obtain ⟨fd3, F3⟩ := c.t.d.def_ 10 rfl
  obtain ⟨fd4, F4⟩ := c.t.d.def_ 11 rfl
  obtain ⟨fd5, F5⟩ := c.t.d.def_ 12 rfl
  obtain ⟨fd6, F6⟩ := c.t.d.def_ 13 rfl
  obtain ⟨fd7, F7⟩ := c.t.d.def_ 14 rfl
  obtain ⟨fd8, F8⟩ := c.t.d.def_ 15 rfl
  obtain ⟨fd9, F9⟩ := c.t.d.def_ 16 rfl
  obtain ⟨fd10, F10⟩ := c.t.d.def_ 17 rfl
  obtain ⟨fd11, F11⟩ := c.t.d.def_ 18 rfl
  obtain ⟨fd12, F12⟩ := c.t.d.def_ 19 rfl
  obtain ⟨fd13, F13⟩ := c.t.d.def_ 20 rfl
  obtain ⟨fd14, F14⟩ := c.t.d.def_ 21 rfl
  obtain ⟨fd15, F15⟩ := c.t.d.def_ 22 rfl
  obtain ⟨fd16, F16⟩ := c.t.d.def_ 23 rfl
  obtain ⟨fd17, F17⟩ := c.t.d.def_ 24 rfl
  obtain ⟨fd18, F18⟩ := c.t.d.def_ 25 rfl
  obtain ⟨fd19, F19⟩ := c.t.d.def_ 26 rfl
  obtain ⟨fd20, F20⟩ := c.t.d.def_ 27 rfl
  obtain ⟨fd21, F21⟩ := c.t.d.def_ 28 rfl
  obtain ⟨fd22, F22⟩ := c.t.d.def_ 29 rfl
  obtain ⟨fd23, F23⟩ := c.t.d.def_ 30 rfl
  have e := hfa.symm.trans (He.glo_ok X G (c.t.d.fact 8 (f := .glo "law") rfl))
  cases e
  have bL := FunD.bindsA (ps := ["_law_script"]) FL fun _ _ _ _ _ _ us hl => match us, hl with | [_], _ => rfl
  refine ⟨fdL, fun s v => bL s [v] rfl, fun base _ _ => ?_⟩
  have GC : FnOk P w K mg base CX0 2 (He.ga K "copied") fdC ["value"] spCp := ok_cp FC B (He.free_ok X G (c.t.d.fact 36 (f := .free "dict") rfl)) (He.glo_ok X G (c.t.d.fact 0 (f := .glo "copied") rfl))
  have bC : Binds K fdC ["value"] [] := FunD.bindsN FC fun _ _ _ _ _ _ us hl => match us, hl with | [_], _ => rfl
  refine ok_law FL T ?_
  exact {
    gTE := (He.glo_ok X G (c.t.d.fact 1 (f := .glo "TeamError") rfl))
    gMi := (He.glo_ok X G (c.t.d.fact 2 (f := .glo "Missing") rfl))
    bisinstance := (He.free_ok X G (c.t.d.fact 33 (f := .free "isinstance") rfl))
    ball := (He.free_ok X G (c.t.d.fact 41 (f := .free "all") rfl))
    bValueError := (He.free_ok X G (c.t.d.fact 43 (f := .free "ValueError") rfl))
    bIndexError := (He.free_ok X G (c.t.d.fact 44 (f := .free "IndexError") rfl))
    bLookupError := (He.free_ok X G (c.t.d.fact 45 (f := .free "LookupError") rfl))
    iC := fun i hi => (cf i hi).iC
    tI := fun i hi => (cf i hi).tI
    nT := fun i hi => (cf i hi).nT
    kTE := fun i hi => of_decide_eq_true (ba (all_range m5 i hi)).1
    kVE := fun i hi => of_decide_eq_true (ba (all_range m5 i hi)).2
    k1 := of_decide_eq_true m6
    k2 := of_decide_eq_true m7
    k3 := of_decide_eq_true m8
    k4 := of_decide_eq_true m9
    k5 := of_decide_eq_true m10
    gBag := (He.glo_ok X G (c.t.d.fact 3 (f := .glo "_law_bag") rfl))
    gOf := (He.glo_ok X G (c.t.d.fact 5 (f := .glo "_law_of") rfl))
    gSame := (He.glo_ok X G (c.t.d.fact 6 (f := .glo "_law_same") rfl))
    gCls := (He.glo_ok X G (c.t.d.fact 7 (f := .glo "_law_classes") rfl))
    kBag := (He.keep_ok (c.t.d.fact 47 (f := .keep "_law_bag") rfl))
    kOf := (He.keep_ok (c.t.d.fact 49 (f := .keep "_law_of") rfl))
    kSame := (He.keep_ok (c.t.d.fact 50 (f := .keep "_law_same") rfl))
    kCls := (He.keep_ok (c.t.d.fact 51 (f := .keep "_law_classes") rfl))
    fBag := ⟨fdB, ok_bag FB (He.free_ok X G (c.t.d.fact 37 (f := .free "int") rfl)) (He.free_ok X G (c.t.d.fact 34 (f := .free "list") rfl)), FunD.bindsN FB fun _ _ _ _ _ _ us hl => match us, hl with | [_], _ => rfl⟩
    fOf := ⟨fdO, ok_of FO FP (He.glo_ok X G (c.t.d.fact 4 (f := .glo "_law_pull") rfl)) (He.free_ok X G (c.t.d.fact 38 (f := .free "len") rfl)) (He.free_ok X G (c.t.d.fact 37 (f := .free "int") rfl)), FunD.bindsN FO fun _ _ _ _ _ _ us hl => match us, hl with | [_, _], _ => rfl⟩
    fSame := ⟨fdS, ok_same FS S (He.glo_ok X G (c.t.d.fact 6 (f := .glo "_law_same") rfl)) 2, FunD.bindsN FS fun _ _ _ _ _ _ us hl => match us, hl with | [_, _], _ => rfl⟩
    fCls := ⟨fdK, ok_cls FK T (He.free_ok X G (c.t.d.fact 33 (f := .free "isinstance") rfl)), FunD.bindsN FK fun _ _ _ _ _ _ us hl => match us, hl with | [_], _ => rfl⟩
    i0 := ⟨fd0, okInvalidStates F0 (cf 0 (by decide)).ex (cf 0 (by decide)).nT (dV_ok (pf 0 (by decide))) GC (He.glo_ok X G (c.t.d.fact 0 (f := .glo "copied") rfl)) (He.keep_ok (c.t.d.fact 46 (f := .keep "copied") rfl)) bC, xbInvalidStates F0⟩
    n0 := dV_ok (pf 0 (by decide))
    i1 := ⟨fd1, okInvalidState F1 (cf 1 (by decide)).ex (cf 1 (by decide)).nT (dV_ok (pf 1 (by decide))) GC (He.glo_ok X G (c.t.d.fact 0 (f := .glo "copied") rfl)) (He.keep_ok (c.t.d.fact 46 (f := .keep "copied") rfl)) bC, xbInvalidState F1⟩
    n1 := dV_ok (pf 1 (by decide))
    i2 := ⟨fd2, okInvalidWord F2 (cf 2 (by decide)).ex (cf 2 (by decide)).nT (dV_ok (pf 2 (by decide))) GC (He.glo_ok X G (c.t.d.fact 0 (f := .glo "copied") rfl)) (He.keep_ok (c.t.d.fact 46 (f := .keep "copied") rfl)) bC, xbInvalidWord F2⟩
    n2 := dV_ok (pf 2 (by decide))
    i3 := ⟨fd3, okInvalidCount F3 (cf 3 (by decide)).ex (cf 3 (by decide)).nT (dV_ok (pf 3 (by decide))) GC (He.glo_ok X G (c.t.d.fact 0 (f := .glo "copied") rfl)) (He.keep_ok (c.t.d.fact 46 (f := .keep "copied") rfl)) bC, xbInvalidCount F3⟩
    n3 := dV_ok (pf 3 (by decide))
    i4 := ⟨fd4, okInvalidIndex F4 (cf 4 (by decide)).ex (cf 4 (by decide)).nT (dV_ok (pf 4 (by decide))) GC (He.glo_ok X G (c.t.d.fact 0 (f := .glo "copied") rfl)) (He.keep_ok (c.t.d.fact 46 (f := .keep "copied") rfl)) bC, xbInvalidIndex F4⟩
    n4 := dV_ok (pf 4 (by decide))
    i5 := ⟨fd5, okInvalidLimit F5 (cf 5 (by decide)).ex (cf 5 (by decide)).nT (dV_ok (pf 5 (by decide))) GC (He.glo_ok X G (c.t.d.fact 0 (f := .glo "copied") rfl)) (He.keep_ok (c.t.d.fact 46 (f := .keep "copied") rfl)) bC, xbInvalidLimit F5⟩
    n5 := dV_ok (pf 5 (by decide))
    i6 := ⟨fd6, okInvalidName F6 (cf 6 (by decide)).ex (cf 6 (by decide)).nT (dV_ok (pf 6 (by decide))) GC (He.glo_ok X G (c.t.d.fact 0 (f := .glo "copied") rfl)) (He.keep_ok (c.t.d.fact 46 (f := .keep "copied") rfl)) bC, xbInvalidName F6⟩
    n6 := dV_ok (pf 6 (by decide))
    i7 := ⟨fd7, okDuplicateName F7 (cf 7 (by decide)).ex (cf 7 (by decide)).nT (dV_ok (pf 7 (by decide))) GC (He.glo_ok X G (c.t.d.fact 0 (f := .glo "copied") rfl)) (He.keep_ok (c.t.d.fact 46 (f := .keep "copied") rfl)) bC, xbDuplicateName F7⟩
    n7 := dV_ok (pf 7 (by decide))
    i8 := ⟨fd8, okUnknownName F8 (cf 8 (by decide)).ex (cf 8 (by decide)).nT (dV_ok (pf 8 (by decide))) GC (He.glo_ok X G (c.t.d.fact 0 (f := .glo "copied") rfl)) (He.keep_ok (c.t.d.fact 46 (f := .keep "copied") rfl)) bC, xbUnknownName F8⟩
    n8 := dV_ok (pf 8 (by decide))
    i9 := ⟨fd9, okInvalidMove F9 (cf 9 (by decide)).ex (cf 9 (by decide)).nT (dV_ok (pf 9 (by decide))) GC (He.glo_ok X G (c.t.d.fact 0 (f := .glo "copied") rfl)) (He.keep_ok (c.t.d.fact 46 (f := .keep "copied") rfl)) bC, xbInvalidMove F9⟩
    n9 := dV_ok (pf 9 (by decide))
    i10 := ⟨fd10, okTooMany F10 (cf 10 (by decide)).ex (cf 10 (by decide)).nT (dV_ok (pf 10 (by decide))) GC (He.glo_ok X G (c.t.d.fact 0 (f := .glo "copied") rfl)) (He.keep_ok (c.t.d.fact 46 (f := .keep "copied") rfl)) bC, xbTooMany F10⟩
    n10 := dV_ok (pf 10 (by decide))
    i11 := ⟨fd11, okCapacityExceeded F11 (cf 11 (by decide)).ex (cf 11 (by decide)).nT (dV_ok (pf 11 (by decide))) GC (He.glo_ok X G (c.t.d.fact 0 (f := .glo "copied") rfl)) (He.keep_ok (c.t.d.fact 46 (f := .keep "copied") rfl)) bC, xbCapacityExceeded F11⟩
    n11 := dV_ok (pf 11 (by decide))
    i12 := ⟨fd12, okInvalidCommand F12 (cf 12 (by decide)).ex (cf 12 (by decide)).nT (dV_ok (pf 12 (by decide))) GC (He.glo_ok X G (c.t.d.fact 0 (f := .glo "copied") rfl)) (He.keep_ok (c.t.d.fact 46 (f := .keep "copied") rfl)) bC, xbInvalidCommand F12⟩
    n12 := dV_ok (pf 12 (by decide))
    i13 := ⟨fd13, okParseError F13 (cf 13 (by decide)).ex (cf 13 (by decide)).nT (dV_ok (pf 13 (by decide))) GC (He.glo_ok X G (c.t.d.fact 0 (f := .glo "copied") rfl)) (He.keep_ok (c.t.d.fact 46 (f := .keep "copied") rfl)) bC, xbParseError F13⟩
    n13 := dV_ok (pf 13 (by decide))
    i14 := ⟨fd14, okInvalidAlphabet F14 (cf 14 (by decide)).ex (cf 14 (by decide)).nT, xbInvalidAlphabet F14⟩
    i15 := ⟨fd15, okInvalidGroup F15 (cf 15 (by decide)).ex (cf 15 (by decide)).nT, xbInvalidGroup F15⟩
    i16 := ⟨fd16, okInvalidReport F16 (cf 16 (by decide)).ex (cf 16 (by decide)).nT, xbInvalidReport F16⟩
    i17 := ⟨fd17, okInvalidPartition F17 (cf 17 (by decide)).ex (cf 17 (by decide)).nT, xbInvalidPartition F17⟩
    i18 := ⟨fd18, okInvalidPairs F18 (cf 18 (by decide)).ex (cf 18 (by decide)).nT, xbInvalidPairs F18⟩
    i19 := ⟨fd19, okInvalidText F19 (cf 19 (by decide)).ex (cf 19 (by decide)).nT, xbInvalidText F19⟩
    i20 := ⟨fd20, okNoMachines F20 (cf 20 (by decide)).ex (cf 20 (by decide)).nT, xbNoMachines F20⟩
    i21 := ⟨fd21, okAlphabetsDiffer F21 (cf 21 (by decide)).ex (cf 21 (by decide)).nT, xbAlphabetsDiffer F21⟩
    i22 := ⟨fd22, okRefused F22 (cf 22 (by decide)).ex (cf 22 (by decide)).nT, xbRefused F22⟩
    i23 := ⟨fd23, okNothingLeft F23 (cf 23 (by decide)).ex (cf 23 (by decide)).nT, xbNothingLeft F23⟩
  }
abbrev R : PySem.W.OpenRow := PySem.W.OpenLaw.row PySem.Challenge.rw_othersknow_k66_errors_by_themselves
abbrev hk : PySem.W.Hook := He.hookX 6 fa fn [] [] exB
def ob (s : PySem.W.SharedT) : He.AlX := He.obsX 6 fa fn [] [] exB (HandSHeadRun.getT s)
theorem ob_eq (s : PySem.W.SharedT) : ob s = hk.obs s.abs := He.obsX_eq (HandSHeadRun.getT_eq s)
abbrev lse : List Str := ["copied", "TeamError", "Missing", "AlphabetsDiffer", "CapacityExceeded", "DuplicateName", "InvalidAlphabet", "InvalidCommand", "InvalidCount", "InvalidGroup", "InvalidIndex", "InvalidLimit", "InvalidMove", "InvalidName", "InvalidPairs", "InvalidPartition", "InvalidReport", "InvalidState", "InvalidStates", "InvalidText", "InvalidWord", "NoMachines", "NothingLeft", "ParseError", "Refused", "TooMany", "UnknownName", "_law_bag", "_law_pull", "_law_of", "_law_same", "_law_classes"]
end K66

namespace K66
open PySem L2 Evl OxK
theorem run (w : World) : HandSHeadRun.RunEq R (PySem.W.view R.prog [35]) hk ob 8000 lse w := by
  intro os
  kernel_rfl
end K66
open PySem PySem.W PySem.Calls PyProof.Rows
theorem PySem.Challenge.cw_othersknow_k66_errors_by_themselves_holds : PySem.Challenge.rw_othersknow_k66_errors_by_themselves.Holds := by
  w_on; o_law
  refine HandSHeadRun.head_any (r := OpenLaw.row PySem.Challenge.rw_othersknow_k66_errors_by_themselves) (q := view (OpenLaw.row PySem.Challenge.rw_othersknow_k66_errors_by_themselves).prog [35]) (H := K66.hk) (ob := K66.ob) (M := 8000) (loose := K66.lse) (d := HandSHeadRun.topDef (OpenLaw.row PySem.Challenge.rw_othersknow_k66_errors_by_themselves).prog 35) (kwd := []) K66.ob_eq
    (by kernel_rfl) (fun s => by kernel_rfl) K66.run (by kernel_rfl) (by kernel_rfl) (by kernel_rfl) (by rfl) (by first | assumption | decide +kernel) (by decide +kernel) ⟨rfl, rfl, rfl, rfl, rfl, by decide +kernel⟩ ?hw ?hc
  case hw => w_witness2
  case hc =>
    refine L2.walk_ofE (l := PySem.Challenge.rw_othersknow_k66_errors_by_themselves) (n := 63) (k := 5) (x := "_law_script") (CX := L2.CX0) rfl (by decide) (by kernel_rfl) ⟨rfl, by decide, by decide⟩ ?F (fun _ _ _ _ z => z)
    intro w mg fa h Y G hmg0
    obtain ⟨K, KX, c⟩ := Y
    have hmg : mg ("law" : PySem.Str) = some (.ref fa) := by
      have e : (HandSHeadRun.topDef (OpenLaw.row PySem.Challenge.rw_othersknow_k66_errors_by_themselves).prog 35).name = ("law" : PySem.Str) := by kernel_rfl
      rw [← e]
      exact hmg0
    obtain ⟨fd, hb, hF⟩ := K66.facts (P := (PySem.Challenge.rw_othersknow_k66_errors_by_themselves).prog) (w := w) KX G hmg c
    exact ⟨K, fd, K66.spLaw K, KX, hb, fun H a ns hl _ hS => ⟨a, ns, rfl, hS, by omega, fun _ => rfl⟩, hF⟩

