import PyProof.Rows.All
import Wide.All
import OpenK.AllK
import Wide.FinOn
import HandS.Base
import HandS.Call
import HandS.Codes
import HandS.Comp
import HandS.Deep
import HandS.DictComp
import HandS.Ends
import HandS.Exc
import HandS.ExcInit
import HandS.ExcOwn
import HandS.IsInst
import HandS.Iter
import HandS.List
import HandS.Walk
import HandS.Wide
import HandS.Words
import HandS.WordsList
import KE.KExcInit
import KE.KExcIs
import KE.KExcLine
import KE.KExcStr
import KE.KIsAll
import KE.RegKIsAll
import PyProof.ExcClass
import PyProof.FactsTree
import PyProof.ReprRoads
import PyProof.Rows.RuleB_pow
import PyProof.RulesRaise
import PySem.Challenge.RW_halflink_k00_errors_and_their_fields
set_option Elab.async false
set_option linter.all false
set_option maxRecDepth 100000
set_option maxHeartbeats 8000000
namespace K00
open PySem PySem.Spec PyProof.Rows L2
open C8 (pss_cut tCut)
def topS (i : Nat) : Stmt := PySem.Challenge.pw_halflink_k00_errors_and_their_fields.main.body.getD i (.Pass ⟨0, 0, 0, 0⟩)
abbrev sDice : Stmt := topS 19
abbrev sRoll : Stmt := topS 20
abbrev sOneOf : Stmt := topS 21
theorem same_upd {H : Hp} {p : Addr} {o : HO} (h : H p = none) : Same H (upd H p o) := fun b x e => by
  rw [upd_ne (ne_of_none e h)]
  exact e
section
variable {X : Cx}
theorem op_powW : OpR X (binaryOp .Pow) (rI (fun i j => 0 ≤ j ∧ (Builtin.Int.intBits i : Int) * j ≤ 2 ^ 27) fun i j => .int (i ^ j.toNat)) := opI fun _ _ _ _ _ _ _ hc q => pow_int hc.1 hc.2 q
end
/-- the source of draws at d: at most n times asked without great digits -/
def Dice (H : Hp) (d : Addr) (n : Nat) : Prop := ∃ g s c : Int, H d = some (.lst [.int g, .int s, .int c]) ∧ 0 ≤ g ∧ 0 ≤ s ∧ s < 4611686018427387904 ∧ 0 ≤ c ∧ c ≤ n
theorem Dice.same {H H' : Hp} {d : Addr} {n : Nat} (h : Dice H d n) (s : H' d = H d) : Dice H' d n := by
  obtain ⟨g, s', c, e, r⟩ := h
  exact ⟨g, s', c, s.trans e, r⟩
theorem Dice.mono {H : Hp} {d : Addr} {n m : Nat} (h : Dice H d n) (s : n ≤ m) : Dice H d m := by
  obtain ⟨g, s', c, e, h1, h2, h3, h4, h5⟩ := h
  exact ⟨g, s', c, e, h1, h2, h3, h4, by omega⟩
structure TxtD (mg : Str → Option Value) : Prop where
  len : mg "len" = none
  abs : mg "abs" = none
  int : mg "int" = none
  enumerate : mg "enumerate" = none
section
variable {P : Program} {w : World} {K : PySem.W.Frag} {mg : Str → Option Value} {base : Heap}
def spDice (K : PySem.W.Frag) : Sp := fun vs H Q _ => ∃ (a : Addr) (ns : List Int) (k : Nat), vs = [.ref a, .int k] ∧ SqL K H a (ns.map V.int) ∧ ns.length ≤ 63 ∧ k ≤ 1000 ∧
  ∀ H' p, Same H H' → H p = none → Dice H' p 0 → Q (.ref p) H'
theorem scDice : FnScope ["_law_script", "_law_at", "_law_cell", "_law_great", "_law_seed", "_law_place", "_law_other"] ["_law_script", "_law_at"] (defScope sDice) := ⟨rfl, rfl, rfl, by decide +kernel, rfl, by decide +kernel, by decide +kernel⟩
theorem ok_dice {f : Addr} {fd : FuncData} {k : Nat} (F : Fun K "_law_dice" "_law_dice" sDice f fd) (T : TxtD mg) : FnOk P w K mg base CX0 (k + 1) f fd ["_law_script", "_law_at"] (spDice K) := by
  refine F.ok scDice (fun vs H Q E h => ?_) (fun cdv A outer s H vs Q E hr h => ?_)
  · obtain ⟨a, ns, k, rfl, _⟩ := h
    rfl
  · obtain ⟨a, ns, k, rfl, hS, hlen, hk, q⟩ := h
    refine ⟨_, pss_cut (ps_set (i := 2) scDice.nd rfl (.inl rfl) (pe_ifExp (pt_cmpR op_lt (pv 1) (pe_callB call_len_seq (by rfl) T.len PySem.boot_len (pa_cons (pv 0) pa_nil)) (nomark _)) (pe_ix ix_list (pv 0) (pv 1) (fun _ _ => rfl)) (pe_op op_add (pe_op op_mul pe_int (pv 1)) pe_int)))
      (pss_cut (ps_set (i := 3) scDice.nd rfl (.inl rfl) (pe_op op_mod (pe_callB call_abs (by rfl) T.abs (by decide +kernel) (pa_cons (pv 2) pa_nil)) (pe_op op_powW (pe_op op_pow pe_int pe_int) pe_int)))
      (pss_cut (ps_set (i := 4) scDice.nd rfl (.inl rfl) (pe_op op_add (pe_op op_add (pe_op op_add (pe_op op_mod (pv 3) pe_int) (pe_op op_mul pe_int (pv 1))) (pe_op op_mul pe_int (pe_callTy call_int1 (by rfl) T.int (by decide +kernel) (pa_cons (pe_cmpR op_lt (pv 2) pe_int (nomark _)) pa_nil)))) pe_int))
      (pss_cut (ps_for PassesOwn.never rfl (pi_enum (by rfl) T.enumerate (pa_cons (pv 0) pa_nil)) (pg_tup rfl (pgs_cons (pg_name (i := 5) scDice.nd rfl (.inl rfl)) (pgs_cons (pg_name (i := 6) scDice.nd rfl (.inl rfl)) pgs_nil)))
        (pss_one (ps_if (pt_cmpR op_ne (pv 5) (pv 1) (nomark _)) (pss_one (ps_set (i := 4) scDice.nd rfl (.inl rfl) (pe_op op_mod (pe_op op_add (pe_op op_add (pe_op op_mul pe_int (pv 4)) (pv 6)) (pv 5)) pe_int))) pss_nil)))
      (pss_cut (ps_set (i := 4) scDice.nd rfl (.inl rfl) (pe_op op_mod (pe_op op_pow (pv 4) pe_int) pe_int))
      (pss_one (ps_ret (pe_lst (pa_cons (pe_op op_mul (pe_op op_fdivW (pv 3) (pe_op op_pow pe_int pe_int)) (pe_callTy call_int1 (by rfl) T.int (by decide +kernel) (pa_cons (pe_cmpR op_ge (pv 3) (pe_op op_pow pe_int pe_int) (nomark _)) pa_nil))) (pa_cons (pv 4) (pa_cons pe_int pa_nil))))))))))
      , ?_⟩
    -- the cell
    refine ⟨fun σ' H' => ∃ z : Int, σ' = [some (.ref a), some (.int k), some (.int z), none, none, none, none] ∧ H' = H, ?_, ?_⟩
    · refine ⟨_, rfl, _, rfl, a, _, rfl, .inl hS, _, _, rfl, rfl, _, rfl, ite2 (fun c => ?_) (fun c => ?_)⟩
      · have c1 : (k : Int) < ((ns.map V.int).length : Nat) := of_decide_eq_true c
        rw [List.length_map] at c1
        have c2 : k < ns.length := by omega
        have hz : (ns.map V.int)[k]? = some (.int ns[k]) := by
          rw [List.getElem?_map, List.getElem?_eq_getElem c2]
          rfl
        exact ⟨_, rfl, _, rfl, a, _, _, _, rfl, rfl, hS, atI_nat hz, _, rfl, rfl⟩
      · exact ⟨_, rfl, _, _, rfl, rfl, .inl (by omega), _, _, rfl, rfl, _, rfl, rfl⟩
    rintro σ1 H1 ⟨z, rfl, rfl⟩
    -- great
    refine ⟨fun σ' H' => ∃ g : Int, 0 ≤ g ∧ g < 10 ^ 780 ∧ σ' = [some (.ref a), some (.int k), some (.int z), some (.int g), none, none, none] ∧ H' = H1, ?_, ?_⟩
    · have hp : (0 : Int) < 10 ^ 780 := by decide +kernel
      have e60 : ((10 : Int) ^ (60 : Int).toNat) ^ (13 : Int).toNat = 10 ^ 780 := by decide +kernel
      refine ⟨_, rfl, _, rfl, _, _, rfl, rfl, ⟨by decide, by decide, by decide⟩, _, _, rfl, rfl, ⟨by decide, by decide +kernel⟩, _, _, rfl, rfl, ?_, _, Int.emod_nonneg _ ?_, ?_, rfl, rfl⟩
      · rw [e60]; exact hp
      · rw [e60]; omega
      · rw [e60]; exact Int.emod_lt_of_pos _ hp
    rintro σ1 H2 ⟨g, g0, g1, rfl, rfl⟩
    -- seed
    refine ⟨fun σ' H' => ∃ y : Int, 0 ≤ y ∧ y < 4611686018427387904 ∧ σ' = [some (.ref a), some (.int k), some (.int z), some (.int g), some (.int y), none, none] ∧ H' = H2, ?_, ?_⟩
    · refine ⟨_, rfl, _, _, rfl, rfl, (by show (0 : Int) < 2305843009213693907; decide), _, rfl, _, _, rfl, rfl, .inl (by decide), _, _, rfl, rfl, _, rfl, _, _, rfl, rfl, .inr ⟨_, rfl, _, _, rfl, rfl, .inl (by decide), _, _, rfl, rfl, _, _, rfl, rfl, _, ?_, ?_, rfl, rfl⟩⟩
      · have h1 := Int.emod_nonneg g (show (2305843009213693907 : Int) ≠ 0 by decide)
        split <;> omega
      · have h1 := Int.emod_lt_of_pos g (show (0 : Int) < 2305843009213693907 by decide)
        split <;> omega
    rintro σ1 H3 ⟨y, y0, y1, rfl, rfl⟩
    -- for place, other in enumerate(script)
    refine ⟨fun σ' H' => ∃ (y : Int) (u v : Option V), 0 ≤ y ∧ y < 4611686018427387904 ∧ σ' = [some (.ref a), some (.int k), some (.int z), some (.int g), some (.int y), u, v] ∧ Same H3 H', ?_, ?_⟩
    · refine ⟨_, rfl, a, _, rfl, hS, ?_⟩
      refine for_it (walk_enum (xs := ns.map V.int)) (fun i σ H' => ∃ (y : Int) (u v : Option V), 0 ≤ y ∧ y < 4611686018427387904 ∧ σ = [some (.ref a), some (.int k), some (.int z), some (.int g), some (.int y), u, v] ∧ Same H3 H') ⟨y, none, none, y0, y1, rfl, fun _ _ e => e⟩ (fun i σ H' _ ⟨_, _, _, _, _, _, s5⟩ => s5.seq hS) ?_ ?_
      · rintro i x σ H4 H5 hi ⟨y, u, v, y0, y1, rfl, s5⟩ ⟨T, x1, x2, rfl, nT, rfl, e1, e2⟩
        have x1e : x1 = .int (i : Nat) := (Option.some.inj e1).symm
        obtain ⟨m, hm⟩ : ∃ m : Int, x2 = .int m := by
          have e2' : (ns.map V.int)[i]? = some x2 := e2
          rw [List.getElem?_map] at e2'
          cases e : ns[i]? with
          | none => rw [e] at e2'; cases e2'
          | some m => rw [e] at e2'; exact ⟨m, (Option.some.inj e2').symm⟩
        subst x1e hm
        have s6 : Same H3 (upd H4 T (.tup [.int (i : Nat), .int m])) := s5.trans (same_upd nT)
        refine ⟨T, _, rfl, .inl (.inl upd_same), rfl, _, _, rfl, _, _, rfl, rfl, ?_⟩
        refine ⟨_, rfl, _, rfl, rfl, _, rfl, ite2 (fun c => ?_) (fun c => ?_)⟩
        · refine ⟨_, rfl, _, _, rfl, rfl, .inl (by decide), _, rfl, _, _, rfl, rfl, _, rfl, _, _, rfl, rfl, _, _, rfl, rfl, (by show (0 : Int) < 2305843009213693907; decide), _, _, _, ?_, ?_, rfl, s6⟩
          · exact Int.emod_nonneg _ (by decide)
          · exact Int.lt_trans (Int.emod_lt_of_pos _ (by decide)) (by decide)
        · exact ⟨y, _, _, y0, y1, rfl, s6⟩
      · rintro σ H' ⟨y, u, v, y0, y1, rfl, s5⟩
        exact ⟨y, u, v, y0, y1, rfl, s5⟩
    rintro σ1 H4 ⟨y, u, v, y0, y1, rfl, s5⟩
    -- seed ** 3 % ..
    refine ⟨fun σ' H' => ∃ (y : Int), 0 ≤ y ∧ y < 2305843009213693921 ∧ σ' = [some (.ref a), some (.int k), some (.int z), some (.int g), some (.int y), u, v] ∧ H' = H4, ?_, ?_⟩
    · refine ⟨_, rfl, _, _, rfl, rfl, ⟨by decide, by decide, by omega⟩, _, _, rfl, rfl, (by show (0 : Int) < 2305843009213693921; decide), _, Int.emod_nonneg _ (by decide), Int.emod_lt_of_pos _ (by decide), rfl, rfl⟩
    rintro σ1 H5 ⟨y, y0, y1, rfl, rfl⟩
    -- the list
    have e18 : (10 : Int) ^ (18 : Int).toNat = 1000000000000000000 := by decide +kernel
    refine ⟨_, rfl, _, _, rfl, rfl, ⟨by decide, by decide, by decide⟩, _, _, rfl, rfl, (by rw [e18]; exact wide_div (b := 60) (by decide) (by decide +kernel) (by decide) (by decide)), _, rfl, _, _, rfl, rfl, ⟨by decide, by decide, by decide⟩, _, _, rfl, rfl, .inr ⟨_, rfl, _, _, rfl, rfl, .inr ?_, _, rfl, (by show 3 ≤ sizeLine; decide), fun p hp => ?_⟩⟩
    · split <;> decide
    · refine q _ p (s5.trans (same_upd hp)) (s5.free hp) ⟨_, _, _, upd_same, ?_, y0, ?_, Int.le_refl _, Int.le_refl _⟩
      · have h1 : 0 ≤ g / (10 : Int) ^ (18 : Int).toNat := Int.ediv_nonneg g0 (by decide)
        split
        · rw [Int.mul_one]; exact h1
        · rw [Int.mul_zero]; exact Int.le_refl _
      · omega
def spRoll : Sp := fun vs H Q _ => ∃ (d : Addr) (m : Int) (n : Nat), vs = [.ref d, .int m] ∧ Dice H d n ∧ n ≤ 1000000000 ∧ 0 < m ∧ m < 1073741824 ∧
  ∀ (r : Int) (o : HO), 0 ≤ r → r < m → Dice (upd H d o) d (n + 1) → Q (.int r) (upd H d o)
theorem scRoll : FnScope ["_law_dice_here", "_law_total", "_law_found", "_law_one", "_law_two"] ["_law_dice_here", "_law_total"] (defScope sRoll) := ⟨rfl, rfl, rfl, by decide +kernel, rfl, by decide +kernel, by decide +kernel⟩
theorem ok_roll {f : Addr} {fd : FuncData} {k : Nat} (F : Fun K "_law_roll" "_law_roll" sRoll f fd) : FnOk P w K mg base CX0 (k + 1) f fd ["_law_dice_here", "_law_total"] spRoll := by
  refine F.ok scRoll (fun vs H Q E h => ?_) (fun cdv A outer s H vs Q E hr h => ?_)
  · obtain ⟨d, m, n, rfl, _⟩ := h
    rfl
  · obtain ⟨d, m, n, rfl, ⟨g, y, c, hd, g0, y0, y1, c0, c1⟩, hn, m0, m1, q⟩ := h
    have I0 : atI [V.int g, V.int y, V.int c] 0 = some (V.int g) := atI_nat (j := 0) rfl
    have I1 : atI [V.int g, V.int y, V.int c] 1 = some (V.int y) := atI_nat (j := 1) rfl
    have I2 : atI [V.int g, V.int y, V.int c] 2 = some (V.int c) := atI_nat (j := 2) rfl
    have I1' : ∀ z : Int, atI [V.int g, V.int y, V.int z] 1 = some (V.int y) := fun z => atI_nat (j := 1) rfl
    have I2' : ∀ z : Int, atI [V.int g, V.int y, V.int z] 2 = some (V.int z) := fun z => atI_nat (j := 2) rfl
    refine ⟨_, pss_cons (ps_if (pt_cmpR op_gt (pe_ix ix_list (pv 0) pe_int (fun _ _ => rfl)) pe_int (nomark _))
        (pss_cons (ps_set (i := 2) scRoll.nd rfl (.inl rfl) (pe_op op_mod (pe_ix ix_list (pv 0) pe_int (fun _ _ => rfl)) (pv 1)))
        (pss_cons (ps_asg (pe_op op_fdiv (pe_ix ix_list (pv 0) pe_int (fun _ _ => rfl)) (pv 1)) (pg_sub (pv 0) pe_int set_list))
        (pss_one (ps_ret (pv 2))))) pss_nil)
      (pss_cons (ps_asg (pe_op op_add (pe_ix ix_list (pv 0) pe_int (fun _ _ => rfl)) pe_int) (pg_sub (pv 0) pe_int set_list))
      (pss_cons (ps_set (i := 3) scRoll.nd rfl (.inl rfl) (pe_op op_mod (pe_op op_pow (pe_op op_add (pe_ix ix_list (pv 0) pe_int (fun _ _ => rfl)) (pe_op op_mul pe_int (pe_ix ix_list (pv 0) pe_int (fun _ _ => rfl)))) pe_int) pe_int))
      (pss_cons (ps_set (i := 4) scRoll.nd rfl (.inl rfl) (pe_op op_mod (pe_op op_pow (pe_op op_add (pe_op op_add (pv 3) (pe_op op_mod (pe_ix ix_list (pv 0) pe_int (fun _ _ => rfl)) pe_int)) (pe_op op_mul pe_int (pe_ix ix_list (pv 0) pe_int (fun _ _ => rfl)))) pe_int) pe_int))
      (pss_one (ps_ret (pe_op op_mod (pe_op op_fdiv (pv 4) pe_int) (pv 1))))))), ?_⟩
    refine ⟨_, rfl, d, _, _, _, rfl, rfl, SqL.of hd, I0, _, _, rfl, rfl, _, rfl, ite2 (fun _ => ?_) (fun _ => ?_)⟩
    · refine ⟨_, rfl, d, _, _, _, rfl, rfl, SqL.of hd, I0, _, rfl, _, _, rfl, rfl, m0, ?_⟩
      refine ⟨_, rfl, d, _, _, _, rfl, rfl, SqL.of hd, I0, _, rfl, _, _, rfl, rfl, ⟨m0, m1⟩, ?_⟩
      refine ⟨_, rfl, d, _, _, 0, rfl, rfl, hd, rfl, ?_⟩
      exact ⟨_, rfl, q _ _ (Int.emod_nonneg _ (by omega)) (Int.emod_lt_of_pos _ m0) ⟨_, y, _, upd_same, Int.ediv_nonneg g0 (by omega), y0, y1, c0, by omega⟩⟩
    · refine ⟨_, rfl, d, _, _, _, rfl, rfl, SqL.of hd, I2, _, _, rfl, rfl, ?_⟩
      refine ⟨_, rfl, d, _, _, 2, rfl, rfl, hd, rfl, ?_⟩
      have hd2 : upd H d (.lst ([V.int g, V.int y, V.int c].set 2 (V.int (c + 1)))) d = some (.lst [V.int g, V.int y, V.int (c + 1)]) := upd_same
      refine ⟨_, rfl, d, _, _, _, rfl, rfl, SqL.of hd2, I1' _, _, rfl, d, _, _, _, rfl, rfl, SqL.of hd2, I2' _, _, _, rfl, rfl, .inl (by decide), _, _, rfl, rfl, _, _, rfl, rfl, ⟨by decide, by decide, by omega⟩, _, _, rfl, rfl, (by show (0 : Int) < 2305843009213693951; decide), ?_⟩
      have a0 := Int.emod_nonneg ((y + 15485867 * (c + 1)) ^ (3 : Int).toNat) (show (2305843009213693951 : Int) ≠ 0 by decide)
      have a1 := Int.emod_lt_of_pos ((y + 15485867 * (c + 1)) ^ (3 : Int).toNat) (show (0 : Int) < 2305843009213693951 by decide)
      have b0 := Int.emod_nonneg y (show (1000081 : Int) ≠ 0 by decide)
      have b1 := Int.emod_lt_of_pos y (show (0 : Int) < 1000081 by decide)
      refine ⟨_, rfl, _, rfl, d, _, _, _, rfl, rfl, SqL.of hd2, I1' _, _, _, rfl, rfl, (by show (0 : Int) < 1000081; decide), _, _, rfl, rfl, _, rfl, d, _, _, _, rfl, rfl, SqL.of hd2, I2' _, _, _, rfl, rfl, .inl (by decide), _, _, rfl, rfl, _, _, rfl, rfl, ⟨by decide, by decide, by omega⟩, _, _, rfl, rfl, (by show (0 : Int) < 2305843009213693907; decide), ?_⟩
      refine ⟨_, rfl, _, _, rfl, rfl, ⟨by decide, by decide⟩, _, rfl, _, _, rfl, rfl, m0, ?_⟩
      exact q _ _ (Int.emod_nonneg _ (by omega)) (Int.emod_lt_of_pos _ m0) ⟨g, y, c + 1, upd_same, g0, y0, y1, by omega, by omega⟩
def spOneOf : Sp := fun vs H Q _ => ∃ (d l : Addr) (n : Nat) (xs : List V), vs = [.ref d, .ref l] ∧ Dice H d n ∧ n ≤ 1000000000 ∧ H l = some (.lst xs) ∧ l ≠ d ∧ 0 < xs.length ∧ xs.length < 1000000 ∧
  ∀ (x : V) (o : HO), x ∈ xs → Dice (upd H d o) d (n + 1) → Q x (upd H d o)
theorem scOneOf : FnScope ["_law_dice_here", "_law_items"] ["_law_dice_here", "_law_items"] (defScope sOneOf) := ⟨rfl, rfl, rfl, by decide +kernel, rfl, by decide +kernel, by decide +kernel⟩
theorem ok_oneOf {f fR : Addr} {fd fdR : FuncData} {k : Nat} (F : Fun K "_law_one_of" "_law_one_of" sOneOf f fd) (FR : Fun K "_law_roll" "_law_roll" sRoll fR fdR) (bR : Binds K fdR ["_law_dice_here", "_law_total"] []) (gR : mg "_law_roll" = some (.ref fR)) (T : TxtD mg) :
    FnOk P w K mg base CX0 (k + 2) f fd ["_law_dice_here", "_law_items"] spOneOf := by
  have GR : FnOk P w K mg base CX0 (k + 1) fR fdR ["_law_dice_here", "_law_total"] spRoll := ok_roll FR
  refine F.ok scOneOf (fun vs H Q E h => ?_) (fun cdv A outer s H vs Q E hr h => ?_)
  · obtain ⟨d, l, n, xs, rfl, _⟩ := h
    rfl
  · obtain ⟨d, l, n, xs, rfl, hd, hn, hl, ne, x0, x1, q⟩ := h
    refine ⟨_, pss_one (ps_ret (pe_ix ix_list (pv 1) (pe_call GR hr (by rfl) gR FR.kp bR .nil pass0 (pa_cons (pv 0) (pa_cons (pe_callB call_len_seq (by rfl) T.len PySem.boot_len (pa_cons (pv 1) pa_nil)) pa_nil))) (fun _ _ => rfl))), ?_⟩
    refine ⟨_, rfl, _, rfl, _, rfl, l, _, rfl, .inl (SqL.of hl), d, _, n, rfl, hd, hn, by omega, by omega, fun r o r0 r1 D => ?_⟩
    obtain ⟨j, rfl⟩ : ∃ j : Nat, r = j := ⟨r.toNat, by omega⟩
    have hj : j < xs.length := by omega
    have hl' : upd H d o l = some (.lst xs) := by rw [upd_ne ne]; exact hl
    exact ⟨l, _, _, _, rfl, rfl, SqL.of hl', atI_nat (List.getElem?_eq_getElem hj), q _ o (List.getElem_mem hj) D⟩
end
end K00
/-! The layer with one thing more: no repr of a container is under way where a def is entered (so repr itself can be told). -/
namespace GL
open PySem PySem.Spec PyProof.Rows L2
/-- a def's promise where no repr is under way -/
structure FnG (P : Program) (w : World) (K : PySem.W.Frag) (mg : Str → Option Value) (base : Heap) (CX : CXT) (k : Nat) (f : Addr) (fd : FuncData) (ps : List Str) (sp : Sp) : Prop where
  len : ∀ vs H Q E, sp vs H Q E → vs.length = ps.length
  run : ∀ (A : Around) (outer : List Env) (s : Shared) (H : Hp) (args : Args) (us : List Value) (vs : List V) (Q : VK) (E : XK),
    A.guards = some [] → Room k A → Env0 P w K mg base A outer s H → BindsTo s fd args (ps.zip us) → Vals vs us → sp vs H Q E → codeAny (model P w) A (.call (.ref f) args) (CR CX outer P w H s Q E) s
section
variable {P : Program} {w : World} {K : PySem.W.Frag} {mg : Str → Option Value} {base : Heap} {CX : CXT} {k : Nat} {f : Addr} {fd : FuncData} {ps : List Str} {sp : Sp}
theorem FnG.ofOk (F : FnOk P w K mg base CX k f fd ps sp) : FnG P w K mg base CX k f fd ps sp := ⟨F.len, fun A outer s H args us vs Q E _ => F.run A outer s H args us vs Q E⟩
theorem FnG.mono {j : Nat} (F : FnG P w K mg base CX j f fd ps sp) (h : j ≤ k) : FnG P w K mg base CX k f fd ps sp := ⟨F.len, fun A outer s H args us vs Q E hg hr => F.run A outer s H args us vs Q E hg (hr.mono h)⟩
/-- a def of the text, by its body's reading; hgd: no repr is under way in the body -/
theorem fnG_of {name qual : Str} {st : Stmt} {N : List Str} (F : Fun K name qual st f fd) (S : FnScope N ps (defScope st)) (len : ∀ vs H Q E, sp vs H Q E → vs.length = ps.length)
    (hbody : ∀ (cdv : Value) (A : Around) (outer : List Env) (s : Shared) (H : Hp) (vs : List V) (Q : VK) (E : XK), (A.deeper (envOfC qual (defScope st) s.heap.objs.size f cdv)).guards = some [] →
      Room k (A.deeper (envOfC qual (defScope st) s.heap.objs.size f cdv)) → sp vs H Q E →
      ∃ t, PSs (cxOf CX P w K mg base N qual (defScope st) f cdv A outer s H E) (defBody st) t ∧ t { nx := fun _ H' => Q .non H', rt := Q } (start N vs) H) : FnG P w K mg base CX (k + 1) f fd ps sp := by
  obtain ⟨oc, od, kV, doc, pm, an, cdv, ct, osl, rfl, lk, hcd⟩ := F.ex
  refine ⟨len, fun A outer s H args us vs Q E hgd hr e0 hb r hsp => ?_⟩
  have hvl : vs.length = ps.length := len _ _ _ _ hsp
  have inS : K.In s.heap := e0.mod.kin.keeps (fun b o e => And.left (e0.bs b o e))
  have noLim : s.heap.NoLimit := e0.mod.nolimit.keeps (fun b o e => And.left (e0.bs b o e))
  have kinds : ∀ y ∈ ps.zip us, (defScope st).names.lookup y.1 = some .local ∨
      ((defScope st).names.lookup y.1 = some .cell ∧ ((cellsFrom (s.heap.objs.size + 1) (defScope st).names []).lookup y.1).isSome = true) := by
    rintro ⟨n, v⟩ hy
    rcases S.par n (List.of_mem_zip hy).1 with q | q
    · exact Or.inl q
    · exact Or.inr (And.intro q (PySem.W.cellsFrom_some _ _ _ (Or.inl q)))
  obtain ⟨t, ht, hq⟩ := hbody cdv A outer s H vs Q E hgd (hr.deeper _) hsp
  refine codeAny_call_function hr.depth (inS _ _ lk) rfl S.co S.gen rfl (PySem.W.codeRec_of inS hcd) (hb _ _ _ _ (wpAny_newFunctionEnv_cells S.kind kinds ?_))
  intro env he s1 x
  subst he
  have J := inv_start (CX := CX) (P := P) (mg := mg) (E := E) S hr.hd e0 hvl r x
  have out : ∀ {σ' : L2.St} {H' : Hp} {v : V} {u : Value} {s' : Shared}, Inv (cxOf CX P w K mg base N qual (defScope st) f cdv A outer s H E) [] σ' H' s' → RelV v u → Q v H' → CE outer P w H s Q u s' := by
    intro σ' H' v u s' Z rv q
    exact ⟨v, H', Z.os, Z.bare, Z.base, Z.hok, rv, q⟩
  refine ⟨noLim.keeps x.toInCall.keep, codeAny_func (wpAny_mono (ht.run [] s1 _ H _ J hq) ?_ (fun e s' hs => hs))⟩
  intro fl s' hs
  cases fl with
  | ret u => obtain ⟨v, σ', H', Z, rv, q⟩ := hs; exact out Z rv q
  | next => obtain ⟨σ', H', Z, q⟩ := hs; exact out (v := V.non) (u := Value.none) Z rfl q
  | brk => obtain ⟨_, _, _, q⟩ := hs; exact q.elim
  | cont => obtain ⟨_, _, _, q⟩ := hs; exact q.elim
end
/-- no exception leaves the def -/
theorem fnG_ok {P : Program} {w : World} {K : PySem.W.Frag} {mg : Str → Option Value} {base : Heap} {k : Nat} {f : Addr} {fd : FuncData} {ps : List Str} {sp : Sp} {name qual : Str} {st : Stmt} {N : List Str} (F : Fun K name qual st f fd) (S : FnScope N ps (defScope st))
    (len : ∀ vs H Q E, sp vs H Q E → vs.length = ps.length)
    (hbody : ∀ (cdv : Value) (A : Around) (outer : List Env) (s : Shared) (H : Hp) (vs : List V) (Q : VK) (E : XK), (A.deeper (envOfC qual (defScope st) s.heap.objs.size f cdv)).guards = some [] →
      Room k (A.deeper (envOfC qual (defScope st) s.heap.objs.size f cdv)) → sp vs H Q E →
      ∃ t, PSs (cxOf CX0 P w K mg base N qual (defScope st) f cdv A outer s H E).nox (defBody st) t ∧ t { nx := fun _ H' => Q .non H', rt := Q } (start N vs) H) : FnG P w K mg base CX0 (k + 1) f fd ps sp :=
  fnG_of F S len fun cdv A outer s H vs Q E hg hr h => let ⟨t, p, q⟩ := hbody cdv A outer s H vs Q E hg hr h; ⟨t, p.nox, q⟩
section
variable {X : Cx} {CX : CXT} {k : Nat} {f : Addr} {fd : FuncData} {ps : List Str} {sp : Sp} {dvs : List V} {ds : List Value} {E : XK} {x : Str} {p pos : Pos} {e : Expr} {es : List Expr} {t : TA}
theorem runG {pins : List (Addr × Obj)} {σ : L2.St} {H : Hp} {s : Shared} {Q : VK} {us : List Value} {vs : List V} (F : FnG X.prog X.w X.K X.mg X.base CX k f fd ps sp) (hgd : X.A.guards = some []) (hr : Room k X.A) (hb : Binds X.K fd ps ds) (hd : Vals dvs ds)
    (hx : Passes CX X E) (I : Inv X pins σ H s) (r : Vals vs us) (h : sp (vs ++ dvs) H Q E) : wpAny (model X.prog X.w) X.A (call (.ref f) us) (EP X pins σ Q) X.xe s := by
  have both : Vals (vs ++ dvs) (us ++ ds) := r.append hd
  have n : (us ++ ds).length = ps.length := both.length.symm.trans (F.len _ _ _ _ h)
  refine wpAny_call (codeAny_mono (F.run X.A X.stack s H ⟨us, []⟩ _ _ Q E hgd hr I.env0 (hb s us I.kIn n) both h) ?_)
  intro res s' hq
  match res, hq with
  | .error e, hq => exact hx pins σ H s e s' I hq
  | .ok (.ret u), hq => exact I.after hq
/-- f(..) of such a def -/
theorem pe_callG (F : FnG X.prog X.w X.K X.mg X.base CX k f fd ps sp) (hgd : X.A.guards = some []) (hr : Room k X.A) (hg : Gl X x) (hm : X.mg x = some (.ref f)) (hk : PySem.W.keepIn X.K (.ref f) = true) (hb : Binds X.K fd ps ds) (hd : Vals dvs ds) (hx : Passes CX X E)
    (ha : PA X (e :: es) t) (hdb : (x == ("__debug__" : Str)) = false := by decide) (he : starEach (e :: es) X.env = (false, eval e X.env) :: starEach es X.env := by rfl)
    (hpl : (backTo pos (starEach es X.env)).any (·.1) = false := by rfl) : PE X (.Call (.Name x p) (e :: es) [] pos) (tCall sp dvs E t) := by
  constructor
  intro pins s σ H Q I h
  refine wpAny_Call_Name_kw (ld_glob I hg hm (PySem.W.callWith_K (h₀ := X.base) I.ok.mod.kin hk (thn (ha.run pos pins s σ H _ I h) ?_) he hpl) hdb)
  rintro us s1 ⟨vs, H1, J, r, q⟩
  exact ⟨J.kIn, runG F hgd hr hb hd hx J r q⟩
theorem pe_callG0 (F : FnG X.prog X.w X.K X.mg X.base CX k f fd ps sp) (hgd : X.A.guards = some []) (hr : Room k X.A) (hg : Gl X x) (hm : X.mg x = some (.ref f)) (hk : PySem.W.keepIn X.K (.ref f) = true) (hb : Binds X.K fd ps ds) (hd : Vals dvs ds) (hx : Passes CX X E)
    (hdb : (x == ("__debug__" : Str)) = false := by decide) : PE X (.Call (.Name x p) [] [] pos) (tCall sp dvs E tNil) := by
  constructor
  intro pins s σ H Q I h
  exact wpAny_Call_Name_kw (ld_glob I hg hm (PySem.W.callWith_K0 I.kIn hk (runG (us := []) F hgd hr hb hd hx I .nil h)) hdb)
/-- repr of data -/
def rRepr (K : PySem.W.Frag) : List V → Hp → VK → Prop := fun xs H Q => ∃ (a : Addr) (d : PyData), xs = [.ref a] ∧ Dp K H (.ref a) d ∧ d.showable = true ∧ d.hasDict = false ∧ d.depth ≤ 60 ∧ d.shown.length ≤ sizeLine ∧ Q (.str d.shown) H
theorem call_repr_data (hgd : X.A.guards = some []) (hu : X.A.units + 64 < cLine) : CallR X (.builtin "repr") (rRepr X.K) := by
  intro pins s σ H xs us Q I r h
  obtain ⟨a, d, rfl, hd, hs, hn, hdp, hz, q⟩ := h
  cases r with
  | cons r1 r2 =>
    cases r2
    cases r1
    obtain ⟨as, rd⟩ := Dp.reads I d (.ref a) (.ref a) hd rfl
    refine repr_of_reads' rd hs (fun z => absurd (hn.symm.trans z) Bool.false_ne_true) hgd (by omega) (fun _ _ z => z) (fun h' u tk keep => ?_) hz
    exact ⟨.str d.shown, H, I.kept (t' := tk) keep, ⟨u, rfl⟩, q⟩
end
end GL
/-! KeyError as the base of own errors. -/
namespace GL
open PySem PySem.F
theorem keyStore : StoreFacts "KeyError" [.type "KeyError", .type "LookupError", .type "Exception", .type "BaseException", .type "object"] "object.__setattr__" "object" := by
  refine { mro := ?_, slot := ?_, entry := F.store_LookupError.entry, kind := F.store_LookupError.kind, split := F.store_LookupError.split, hasOwner := ?_, args := F.store_LookupError.args, passes := ?_ }
  · kernel_rfl
  · refine .of (owner := "object") (n := "__setattr__") ?_ ?_ ?_ ?_ ?_ ?_
    · rw [typeLookup_type, builtinLookup_eq_fast]; kernel_rfl
    · decide +kernel
    · decide +kernel
    · decide +kernel
    · first | exact .inl (by decide +kernel) | exact .inr (by decide +kernel)
    · rw [isSubtype_type]; kernel_rfl
  · decide +kernel
  · intro self; kernel_rfl
end GL
/-! Own errors over any built-in error, each with an __init__ of its own that keeps one value: made as values. -/
namespace GL
open PySem PySem.W PySem.Calls PyProof.Rows PySem.HandSPX
section
variable {M : Model} {A : Around} {E : Value → Shared → Prop} {h : Heap} {g : Array GenState} {d : Drawn} {t : Nat} {os : OsState} {prog : Program} {w : World} {R : Result → Shared → Prop}
variable {nm q : Str} {C N : Addr} {bs bm bmB : List Value} {hdct : Bool} {sn : List Str} {sub : List Value} {ab : Bool} {col : Option Bool} {dd : Option Addr} {k0 k1 k2 k3 k5 : Option Value} {B newId initId : String}
/-- what of the built-in's chain the maker asks -/
structure Over (B : String) (bm : List Value) : Prop where
  b : bm.contains (.type B) = true
  a : bm.contains (.type "AttributeError") = false
  n : bm.contains (.type "NameError") = false
theorem Over.with {c : Value} (o : Over B bm) (hc : ∀ X : String, (Value.type X == c) = false) : Over B (c :: bm) :=
  ⟨by rw [List.contains_cons, o.b, Bool.or_true], by rw [List.contains_cons, o.a, hc]; rfl, by rw [List.contains_cons, o.n, hc]; rfl⟩
theorem over_ref (o : Over B bm) : Over B (.ref C :: bm) := o.with fun _ => rfl
theorem mkCheck (F : ExcBaseFacts B newId initId bmB) (o : Over B bm) {rest : List Value} {Q : Unit → Shared → Prop} (hC : h.get? C = some (excClassObj nm q C N bs bm hdct sn sub ab col dd k0 k1 k2 k3 k5 newId)) (done : Q () ⟨h, g, d, t, os⟩) :
    wpAny M A (checkBuiltinCall newId ⟨.ref C :: rest, []⟩) Q E ⟨h, g, d, t, os⟩ := by
  have inB := (over_ref (C := C) o).b
  have notStar := F.noStar
  simp only [checkBuiltinCall, F.newKind, F.newSplit, F.newRow]
  repeat (first
    | refine wpAny_loadPart_at hC ?_
    | (refine wpAny_isSubtype_exc hC ?_; rw [inB])
    | refine wpAny_staticBase_exc hC ?_
    | refine wpAny_madeBy_exc hC ?_
    | simp only [bne_self_eq_false, Bool.false_eq_true, if_false]
    | wp_step)
  exact done
theorem mkNew (F : ExcBaseFacts B newId initId bmB) (o : Over B bm) {rest : List Value} (hC : h.get? C = some (excClassObj nm q C N bs bm hdct sn sub ab col dd k0 k1 k2 k3 k5 newId)) (small : rest.length ≤ sizeLine)
    (done : R (.ok (.ret (.ref (h.objs.size + 1)))) ⟨(h.push (kdv_tup rest)).push (excO C h.objs.size), g, d, t, os⟩) : codeAny (model prog w) A (.builtin newId ⟨.ref C :: rest, []⟩) R ⟨h, g, d, t, os⟩ := by
  have o' := over_ref (C := C) o
  have inB := o'.b
  have inA := o'.a
  have inN := o'.n
  have ends := F.ends
  refine codeAny_builtinAt F.entry ?_
  unfold Builtin.«BaseException.__new__»
  refine PySem.wpAt_bind ?_
  show PySem.wpAt _ _ _ (stack >>= _) _ _ _
  refine PySem.wpAt_bind (PySem.wpAt_stack fun p below => PySem.wpAt_of_wpAny ?_)
  wp_walk
  refine PySem.wpAt_of_wpAny ?_
  rw [F.owner]
  repeat (first
    | with_reducible refine wpAny_madeHere_exc F.canon hC ?_
    | with_reducible refine wpAny_loadPart_at hC ?_
    | (with_reducible refine wpAny_isSubtype_exc hC ?_; first | rw [inB] | rw [inA] | rw [inN])
    | wp_step)
  show R _ _
  rw [Heap.size_push]
  exact done
theorem mkType (F : ExcBaseFacts B newId initId bmB) (o : Over B bm) {rest : List Value} {fI : Addr} {Q : Fin → Shared → Prop} (hC : h.get? C = some (excClassObj nm q C N bs bm hdct sn sub ab col dd k0 k1 k2 k3 k5 newId))
    (hi : Looks (model prog w) h (typeLookup (.ref C) "__init__") (some (.ref fI))) (hb : ∀ self, Looks (model prog w) h (bindSpecial (.ref fI) self) (.ref fI, [self])) (small : rest.length ≤ sizeLine)
    (run : codeAny (model prog w) A (.call (.ref fI) ⟨.ref (h.objs.size + 1) :: rest, []⟩)
      (fun r s' => match r with | .ok (.ret v) => v = .none ∧ Q (.done (.ret (.ref (h.objs.size + 1)))) s' | .ok _ => False | .error e => E e s') ⟨(h.push (kdv_tup rest)).push (excO C h.objs.size), g, d, t, os⟩) :
    wpAny (model prog w) A (Builtin.«type.__call__» ⟨.ref C :: rest, []⟩) Q E ⟨h, g, d, t, os⟩ := by
  repeat (first
    | with_reducible refine wpAny_loadPart_at hC ?_
    | with_reducible refine wpAny_madeBy_exc hC ?_
    | wp_step)
  refine codeAny_call_builtin_code (Code.quiet_builtin _ F.quiet) (mkCheck F o hC (mkNew F o hC small (?_ : wpAny _ _ _ _ _ _)))
  have keep : ∀ b u, h.get? b = some u → ((h.push (kdv_tup rest)).push (excO C h.objs.size)).get? b = some u := fun b u e => Heap.get?_push_of_some _ (Heap.get?_push_of_some _ e)
  have cls := keep _ _ hC
  have new : ((h.push (kdv_tup rest)).push (excO C h.objs.size)).get? (h.objs.size + 1) = some (excO C h.objs.size) := by heap_get
  have self : (Value.ref C :: bm).contains (.ref C) = true := by simp
  unfold isInstance
  repeat (first
    | with_reducible refine wpAny_loadPart_at new ?_
    | (with_reducible refine wpAny_isSubtype_exc cls ?_; rw [self])
    | wp_step)
  refine (hi.keeps keep).at (?_ : wpAny _ _ _ _ _ _)
  refine wpAny_holding (wpAny_bind (((hb (.ref (h.objs.size + 1))).keeps keep).at ?_))
  refine wpAny_bind (wpAny_call (codeAny_mono run fun r s' z => ?_))
  match r, z with
  | .error e, z => exact z
  | .ok (.ret v), z =>
    obtain ⟨rfl, z⟩ := z
    first
      | exact wpAny_pure (wpAny_pure z)
      | (wp_walk; exact z)
/-- C(..): the object, then the class's own __init__ at fI -/
theorem mkOwn (F : ExcBaseFacts B newId initId bmB) (o : Over B bm) {rest : List Value} {fI : Addr} (hC : h.get? C = some (excClassObj nm q C N bs bm hdct sn sub ab col dd k0 k1 k2 k3 k5 newId))
    (hi : Looks (model prog w) h (typeLookup (.ref C) "__init__") (some (.ref fI))) (hb : ∀ self, Looks (model prog w) h (bindSpecial (.ref fI) self) (.ref fI, [self])) (small : rest.length ≤ sizeLine)
    (run : codeAny (model prog w) (A.under (.builtin "type.__call__" ⟨.ref C :: rest, []⟩)) (.call (.ref fI) ⟨.ref (h.objs.size + 1) :: rest, []⟩) (InitBack (h.objs.size + 1) R) ⟨(h.push (kdv_tup rest)).push (excO C h.objs.size), g, d, t, os⟩) :
    codeAny (model prog w) A (.call (.ref C) ⟨rest, []⟩) R ⟨h, g, d, t, os⟩ := by
  have look := tc_lookup
  have bind := tc_bind (.ref C)
  have isType : (⟨h, g, d, t, os⟩ : Shared).TypeIs (.ref C) "type" := ⟨_, hC, rfl⟩
  refine codeAny_of_tree (?_ : wpAny _ _ (callAny (.ref C) _) _ _ _)
  repeat (any_goals (first
    | assumption
    | with_reducible refine wpAny_loadPart_at hC ?_
    | wp_step))
  refine ⟨rfl, codeAny_call_builtin_at (Code.quiet_builtin _ (by decide +kernel)) entry_typeCall (wpAny_check_type_call_sub hC (mkType F o hC hi hb small (codeAny_mono run fun r s' z => ?_)))⟩
  match r, z with
  | .error e, z => exact z
  | .ok (.ret v), z => exact z
end
end GL
/-! Own errors as values over the layer: made, their field read, isinstance, str. -/
namespace GL
open PySem PySem.Spec PyProof.Rows L2
/-- an error object at a: its class at C, its dict, its args -/
def exT (a C : Addr) (d : Option Addr) (t : Addr) : HO := .ext fun h => h.get? a = some ({ cls := .ref C, dict := d, data := .fields #[.ref t, .none, .none, .none, .bool false, .none] } : Obj)
theorem exT_ok {P : Program} {w : World} {H : Hp} {h : Heap} {a C t : Addr} {d : Option Addr} (e : h.get? a = some ({ cls := .ref C, dict := d, data := .fields #[.ref t, .none, .none, .none, .bool false, .none] } : Obj)) : ObjOk P w H h a (exT a C d t) :=
  ⟨e, ⟨_, e⟩, fun _ _ z k => k _ z⟩
theorem exT_at {P : Program} {w : World} {H : Hp} {h : Heap} {a C t : Addr} {d : Option Addr} (ok : HOk P w H h) (e : H a = some (exT a C d t)) : h.get? a = some ({ cls := .ref C, dict := d, data := .fields #[.ref t, .none, .none, .none, .bool false, .none] } : Obj) :=
  (show ObjOk P w H h a (.ext _) from ok a _ e).1
theorem exT_no {a C t b : Addr} {d : Option Addr} {H : Hp} {u : HO} (e : H a = some (exT a C d t)) (hb : H b = some u) (n : ∀ φ, u ≠ .ext φ) : b ≠ a := fun z => by
  subst z
  rw [e] at hb
  exact n _ (Option.some.inj hb).symm
/-- what the top has written of an own error's class -/
structure ErrC (K : PySem.W.Frag) (C : Addr) (bmB : List Value) (newId : String) : Prop where
  mi : PySem.W.excInitIn K C bmB newId = true
  kC : PySem.W.keepIn K (.ref C) = true
  ga : PySem.W.findIn K (.ref C) "__getattribute__" = some (some (.builtin "BaseException.__getattribute__"))
  gg : PySem.W.findIn K (.ref C) "__getattr__" = some none
  sb : PySem.W.subIn K (.ref C) (.type "BaseException") = some true
  hd : PySem.W.hasDictIn K C = true
  cc : PySem.W.findIn K (.ref C) "__class__" = some (some (.builtin "object.__class__"))
  mo : PySem.W.mroIn K C (.type "object") = some true
/-- one whose __init__ keeps one value as f -/
structure ErrF (K : PySem.W.Frag) (C : Addr) (bmB : List Value) (f : Str) : Prop where
  ov : PySem.W.excOver K C bmB = true
  tk : PySem.W.takerIn K C f = some none
  sa : PySem.W.findIn K (.ref C) "__setattr__" = some (some (.builtin "object.__setattr__"))
  no : PySem.W.findIn K (.ref C) f = some none
/-- two new objects -/
theorem un_two {fs : List Addr} {H : Hp} {h h' : Heap} {a d : Addr} {O D : HO} (k : ∀ b u, h.get? b = some u → h'.get? b = some u) (ha : h.get? a = none) (hd : h.get? d = none) (na : H a = none) (nd : H d = none) : Un fs [] H (upd (upd H d D) a O) h h' := by
  have apart : ∀ {b : Addr} {u : Obj}, h.get? b = some u → b ≠ a ∧ b ≠ d := fun {b u} q => ⟨fun z => (by subst z; rw [ha] at q; cases q), fun z => (by subst z; rw [hd] at q; cases q)⟩
  have old : ∀ {b : Addr} {u : HO}, H b = some u → upd (upd H d D) a O b = some u := fun {b u} q => by rw [upd_ne (ne_of_none q na), upd_ne (ne_of_none q nd)]; exact q
  refine ⟨fun b u q _ _ _ => k b u q, fun b u q _ _ _ => ⟨u.slots, k b u q⟩, fun b u q n _ => ?_, fun b u q _ => ⟨u, k b u q⟩, fun b xs q => old q, fun b u xs q => old q, fun b ps q => ⟨#[], ?_⟩⟩
  · rw [upd_ne (apart q).1, upd_ne (apart q).2]
    exact n
  · rw [old q]
    simp
section
variable {X : Cx} {pins : List (Addr × Obj)} {σ : L2.St} {H : Hp} {s : Shared} {a C t : Addr} {f : Str} {y : V} {u : Value} {Q : Unit → Shared → Prop} {E : Value → Shared → Prop} {A : Around} {B : String} {bmB : List Value}
/-- self.f = y, on an error without a dict -/
theorem est_new (SF : StoreFacts B bmB "object.__setattr__" "object") (T : ErrF X.K C bmB f) (hd : PySem.W.hasDictIn X.K C = true) (I : Inv X pins σ H s) (e : H a = some (exT a C none t)) (ry : RelV y u)
    (h : ∀ dx s', H dx = none → dx ≠ a → Inv X pins σ (upd (upd H dx (.xd [(f, y)])) a (exT a C (some dx) t)) s' → Q () s') : wpAny (model X.prog X.w) A (setAttr (.ref a) f u) Q E s := by
  have ho := exT_at I.hok e
  obtain ⟨cd, hcd, hdd⟩ := PySem.W.any_some hd
  obtain ⟨hp, g, d, tk, os⟩ := s
  refine PySem.W.set_plain I.kIn (od := none) ⟨ho, rfl, rfl, trivial⟩ T.sa ?_
  refine PySem.W.osa_openX SF I.kIn (od := none) ⟨ho, rfl, rfl, trivial⟩ T.ov T.tk fun b => ?_
  have hcls : PySem.W.Looks (model X.prog X.w) hp (classData C) cd := PySem.W.looks_clsIn I.kIn hcd
  obtain ⟨nm, bs, mro, ns, qn, hd', sn, sb, ab, col, del⟩ := cd
  dsimp only at hdd
  subst hdd
  show wpAny _ _ (Builtin.ObjectAttr.storeInOwnDict (.ref a) (.ref C) (.str f tk) f u b) _ _ _
  unfold Builtin.ObjectAttr.storeInOwnDict Builtin.ObjectAttr.ownDictForStores
  have xs : a ≠ hp.objs.size := Nat.ne_of_lt (Heap.lt_size ho)
  repeat (first
    | with_reducible refine PySem.HandSPX.store_in_new ?_ ?_
    | with_reducible refine wpAny_loadPart_at ho ?_
    | with_reducible refine hcls.at ?_
    | wp_step)
  · exact ⟨_, #[], _, (Heap.get?_update_ne _ _ _ _ xs.symm).trans (Heap.get?_push_at rfl rfl), rfl, fun z hz => absurd hz (by simp), fun _ => rfl⟩
  · intro h' tk' hn' hs
    have new : H hp.objs.size = none := I.hok.fresh (Nat.le_refl _)
    have keep : ∀ b o, b ≠ a → hp.get? b = some o → h'.get? b = some o := fun b o hb q =>
      (hs.2 b (Nat.ne_of_lt (Heap.lt_size q))).trans ((Heap.get?_update_ne _ _ _ _ hb).trans (Heap.get?_push_of_some _ q))
    have self : h'.get? a = some ({ cls := .ref C, dict := some hp.objs.size, data := .fields #[.ref t, .none, .none, .none, .bool false, .none] } : Obj) :=
      (hs.2 a xs).trans (Heap.get?_update_self _ (Heap.get?_push_of_some _ ho) rfl)
    have notA : ∀ {b : Addr}, H b = none → b ≠ a := fun {b} n z => by subst z; rw [e] at n; cases n
    have notD : ∀ {b : Addr} {o : Obj}, hp.get? b = some o → b ≠ hp.objs.size := fun {b o} q => Nat.ne_of_lt (Heap.lt_size q)
    have U : Un X.fs [] H (upd (upd H hp.objs.size (.xd [(f, y)])) a (exT a C (some hp.objs.size) t)) hp h' := by
      refine ⟨fun b o q n _ _ => keep b o (notA n) q, fun b o q n _ _ => ⟨o.slots, keep b o (notA n) q⟩, fun b o q n _ => ?_, fun b o q _ => ?_, fun b xs q => ?_, fun b o v q => ?_, fun b ps q => ⟨#[], ?_⟩⟩
      · rw [upd_ne (notA n), upd_ne (notD q)]; exact n
      · by_cases hb : b = a
        · exact ⟨_, by rw [hb]; exact self⟩
        · exact ⟨o, keep b o hb q⟩
      · rw [upd_ne (exT_no e q fun _ z => nomatch z), upd_ne (ne_of_none q new)]; exact q
      · rw [upd_ne (exT_no e q fun _ z => nomatch z), upd_ne (ne_of_none q new)]; exact q
      · rw [upd_ne (exT_no e q fun _ z => nomatch z), upd_ne (ne_of_none q new), q]; simp
    refine h hp.objs.size _ new xs.symm (I.un (t' := tk') U fun b o q => ?_)
    by_cases hb : b = a
    · subst hb
      rw [upd_same] at q
      cases q
      exact exT_ok self
    · rw [upd_ne hb] at q
      by_cases hx : b = hp.objs.size
      · subst hx
        rw [upd_same] at q
        cases q
        refine ⟨_, hn', fun g => ?_⟩
        have z := relO_put (f := f) (fs := []) (mA := fun _ => none) ry (fun _ => True.intro) g
        exact z
      · rw [upd_ne hx] at q
        refine (I.hok b o q).stay (fun c v hc z => keep c v ?_ z) (fun c hc => ?_) fun c xs hc => ?_
        · rcases hc with hc | hc
          · rw [hc]; exact hb
          · exact exT_no e hc fun _ z => nomatch z
        · rw [upd_ne (exT_no e hc fun _ z => nomatch z), upd_ne (ne_of_none hc new)]; exact hc
        · rw [upd_ne (exT_no e hc fun _ z => nomatch z), upd_ne (ne_of_none hc new)]; exact hc
end
section
variable {X : Cx} {o e : Expr} {es : List Expr} {to te : TE} {ta : TA} {f x : Str} {p p' p1 p2 pos : Pos} {B : String} {bmB : List Value}
/-- self.f = e in such an __init__ -/
def tEst (K : PySem.W.Frag) (bmB : List Value) (f : Str) (to te : TE) : TS := fun D σ H => te σ H fun y H1 => to σ H1 fun x H2 => ∃ a C t : Addr, x = .ref a ∧ H2 a = some (exT a C none t) ∧ ErrF K C bmB f ∧ PySem.W.hasDictIn K C = true ∧
  ∀ dx, H2 dx = none → dx ≠ a → D.nx σ (upd (upd H2 dx (.xd [(f, y)])) a (exT a C (some dx) t))
theorem ps_est (SF : StoreFacts B bmB "object.__setattr__" "object") (ho : PE X o to) (he : PE X e te) (hs : swapsWith e (some (.Attribute o f p')) pos.line X.env = pure false := by rfl) : PS X (.Assign [.Attribute o f p'] e pos) (tEst X.K bmB f to te) := by
  constructor
  intro pins s σ H D I h
  refine plainObj_wpAny_Assign_Attribute (thn (he.run pins s σ H _ I h) ?_) hs
  rintro v s1 ⟨y, H1, I1, r1, q1⟩
  refine thn (ho.run pins s1 σ H1 _ I1 q1) ?_
  rintro u s2 ⟨x, H2, I2, r2, a, C, t, rfl, ea, T, hd, q⟩
  cases r2
  exact est_new SF T hd I2 ea r1 fun dx s' n ne J => ⟨σ, _, J, q dx n ne⟩
/-- the promise of such an __init__ -/
def spEinit (K : PySem.W.Frag) (bmB : List Value) (f : Str) : Sp := fun vs H Q _ => ∃ (a C t : Addr) (y : V), vs = [.ref a, y] ∧ H a = some (exT a C none t) ∧ ErrF K C bmB f ∧ PySem.W.hasDictIn K C = true ∧
  ∀ dx, H dx = none → dx ≠ a → Q .non (upd (upd H dx (.xd [(f, y)])) a (exT a C (some dx) t))
/-- C(e) with such an __init__, as a value -/
def tMkE (C : Addr) (f : Str) (te : TE) : TE := fun σ H Q => te σ H fun y H1 => ∀ a t dx, H1 a = none → H1 dx = none → dx ≠ a → Q (.ref a) (upd (upd H1 dx (.xd [(f, y)])) a (exT a C (some dx) t))
def wishE (C : Addr) (f : Str) (Q : VK) : List V → Hp → Prop
  | [y], H1 => ∀ a t dx, H1 a = none → H1 dx = none → dx ≠ a → Q (.ref a) (upd (upd H1 dx (.xd [(f, y)])) a (exT a C (some dx) t))
  | _, _ => False
theorem wishE_one {C : Addr} {f : Str} {Q : VK} : ∀ {vs : List V} {H1 : Hp}, wishE C f Q vs H1 → ∃ y, vs = [y] ∧ ∀ a t dx, H1 a = none → H1 dx = none → dx ≠ a → Q (.ref a) (upd (upd H1 dx (.xd [(f, y)])) a (exT a C (some dx) t))
  | [], _, q => q.elim
  | [y], _, q => ⟨y, rfl, q⟩
  | _ :: _ :: _, _, q => q.elim
theorem pe_mkE {B' newId initId : String} {bmB' ps' : List Value} {ps : List Str} {C fI : Addr} {fd : FuncData} {k : Nat} (F : ExcBaseFacts B' newId initId bmB') (T : ErrC X.K C bmB newId) (TF : ErrF X.K C bmB f) (ov : Over B' bmB)
    (iC : PySem.W.findIn X.K (.ref C) "__init__" = some (some (.ref fI))) (tI : PySem.W.typeIn X.K (.ref fI) = some (.type "function")) (G : FnOk X.prog X.w X.K X.mg X.base CX0 k fI fd ps (spEinit X.K bmB f)) (hr : Room (k + 1) X.A)
    (hb : Binds X.K fd ps []) (hg : Gl X x) (hm : X.mg x = some (.ref C)) (he : PE X e te) (hdb : (x == ("__debug__" : Str)) = false := by decide)
    (hs : starEach [e] X.env = (false, eval e X.env) :: starEach [] X.env := by rfl) (hpl : (backTo pos (starEach [] X.env)).any (·.1) = false := by rfl) : PE X (.Call (.Name x p) [e] [] pos) (tMkE C f te) := by
  constructor
  intro pins s σ H Q I h
  have ha : PA X [e] (tCons te tNil) := pa_cons he pa_nil hs
  refine wpAny_Call_Name_kw (ld_glob I hg hm (PySem.W.callWith_K (h₀ := X.base) I.ok.mod.kin T.kC (thn (ha.run pos pins s σ H (wishE C f Q) I h) ?_) hs hpl) hdb)
  · rintro us s1 ⟨vs, H1, J, r, q⟩
    refine ⟨J.kIn, ?_⟩
    obtain ⟨y, rfl, q⟩ := wishE_one q
    obtain ⟨nm, N, qn, bs, bm, hdct, sn, sub, ab, col, dd, k0, k1, k2, k3, k5, hC, hT⟩ := PySem.W.excInit_of J.kIn T.mi
    show wpAny _ _ (call (.ref C) us) _ _ _
    obtain ⟨hp, g, dr, tk, os⟩ := s1
    have old : ∀ b o, hp.get? b = some o → ((hp.push (PySem.W.kdv_tup us)).push (PySem.HandSPX.excO C hp.objs.size)).get? b = some o := fun b o z => Heap.get?_push_of_some _ (Heap.get?_push_of_some _ z)
    have new : ((hp.push (PySem.W.kdv_tup us)).push (PySem.HandSPX.excO C hp.objs.size)).get? (hp.objs.size + 1) = some (PySem.HandSPX.excO C hp.objs.size) := by heap_get
    have le : hp.objs.size ≤ hp.objs.size + 1 := Nat.le_succ _
    have free : H1 (hp.objs.size + 1) = none := J.hok.fresh le
    have J2 : Inv X pins σ (upd H1 (hp.objs.size + 1) (exT (hp.objs.size + 1) C none hp.objs.size)) ⟨(hp.push (PySem.W.kdv_tup us)).push (PySem.HandSPX.excO C hp.objs.size), g, dr, tk, os⟩ :=
      J.laid (t' := tk) (a := hp.objs.size + 1) (h' := (hp.push (PySem.W.kdv_tup us)).push (PySem.HandSPX.excO C hp.objs.size)) old le (exT_ok new)
    have want : spEinit X.K bmB f [.ref (hp.objs.size + 1), y] (upd H1 (hp.objs.size + 1) (exT (hp.objs.size + 1) C none hp.objs.size)) (fun v H2 => v = .non ∧ Q (.ref (hp.objs.size + 1)) H2) (fun _ _ _ => False) := by
      refine ⟨_, C, _, y, rfl, upd_same, TF, T.hd, fun dx nd ne => ⟨rfl, ?_⟩⟩
      have nd' : H1 dx = none := by rw [upd_ne ne] at nd; exact nd
      have e : upd (upd (upd H1 (hp.objs.size + 1) (exT (hp.objs.size + 1) C none hp.objs.size)) dx (.xd [(f, y)])) (hp.objs.size + 1) (exT (hp.objs.size + 1) C (some dx) hp.objs.size) =
          upd (upd H1 dx (.xd [(f, y)])) (hp.objs.size + 1) (exT (hp.objs.size + 1) C (some dx) hp.objs.size) := by
        funext b
        by_cases b1 : b = hp.objs.size + 1
        · rw [b1, upd_same, upd_same]
        · rw [upd_ne b1, upd_ne b1]
          by_cases b2 : b = dx
          · rw [b2, upd_same, upd_same]
          · rw [upd_ne b2, upd_ne b2, upd_ne b1]
      rw [e]
      exact q _ _ dx free nd' ne
    have vals : Vals [V.ref (hp.objs.size + 1), y] (Value.ref (hp.objs.size + 1) :: us) := .cons rfl r
    have n : (Value.ref (hp.objs.size + 1) :: us ++ []).length = ps.length := by
      rw [List.append_nil, ← vals.length]
      exact G.len _ _ _ _ want
    have bind := hb _ (Value.ref (hp.objs.size + 1) :: us) J2.kIn n
    rw [List.append_nil] at bind
    have small : us.length ≤ sizeLine := by
      rw [← r.length, sizeLine_eq]
      exact (by decide : 1 ≤ 16777216)
    have oBm : Over B' bm := ⟨(hT _).trans ov.b, (hT _).trans ov.a, (hT _).trans ov.n⟩
    refine wpAny_call (mkOwn F oBm hC (PySem.W.looks_findIn J.kIn iC) (fun self => PySem.W.bind_fn J.kIn self tI) small
      (codeAny_mono (G.run _ X.stack _ _ ⟨Value.ref (hp.objs.size + 1) :: us, []⟩ _ _ _ _ (hr.make C us []) (J2.env0.make C us []) bind vals want) ?_))
    intro res s' z
    match res, z with
    | .error e, z => exact z.elim
    | .ok (.ret u), z =>
      obtain ⟨v, H', J3, rv, ev, q3⟩ := J2.after z
      subst ev
      exact ⟨rv, V.ref (hp.objs.size + 1), H', J3, rfl, q3⟩
end
section
variable {X : Cx} {o e : Expr} {to te : TE} {f x : Str} {p pos : Pos} {bmB : List Value} {newId : String}
/-- e.f of such an error -/
def tFldE (K : PySem.W.Frag) (bmB : List Value) (newId : String) (f : Str) (te : TE) : TE := fun σ H Q => te σ H fun x H1 => ∃ (a C d t : Addr) (fs : List (Str × V)) (v : V), x = .ref a ∧ H1 a = some (exT a C (some d) t) ∧ H1 d = some (.xd fs) ∧ ErrC K C bmB newId ∧
  PySem.W.findIn K (.ref C) f = some none ∧ fs.lookup f = some v ∧ Q v H1
theorem pe_fldE (he : PE X e te) (hb : attributeBase e f X.env (eval e X.env) = eval e X.env := by rfl) : PE X (.Attribute e f pos) (tFldE X.K bmB newId f te) := by
  constructor
  intro pins s σ H Q I h
  refine attr_of hb (thn (he.run pins s σ H _ I h) ?_)
  rintro u s1 ⟨x, H1, J, rx, a, C, d, t, fs, v, rfl, ea, ed, T, no, lk, q⟩
  cases rx
  have ho := exT_at J.hok ea
  obtain ⟨mA, hns, rel⟩ := (show ObjOk X.prog X.w H1 s1.heap d (.xd fs) from J.hok d _ ed)
  obtain ⟨od, hd, hl⟩ := lookIn_ns hns
  obtain ⟨u, hu, ru⟩ := RelO.some_of (v := v) (o := mA f) (lk ▸ rel f)
  exact HandSPX.exc_get J.kIn (od := some od) ⟨ho, rfl, rfl, hd⟩ T.ga T.gg T.sb (PySem.W.findObj_own T.hd no rfl (by rw [hl, hu])) (handed_of ru) ⟨v, H1, J.tok _, ru, q⟩
/-- what isinstance asks of the written part at large -/
structure IsK (K : PySem.W.Frag) : Prop where
  gn : PySem.W.specialIn K (.builtin "object.__class__") "__get__" = some (some (.builtin "getset_descriptor.__get__"))
  gt : PySem.W.takesIn K (.builtin "object.__class__") = some true
/-- isinstance(e, c) of an own error: with a dict, or without one -/
def rIsX (K : PySem.W.Frag) : List V → Hp → VK → Prop := fun xs H Q => ∃ (a C t : Addr) (d : Option Addr) (c : V) (cv : Value) (b : Bool) (bmB : List Value) (newId : String), xs = [.ref a, c] ∧ H a = some (exT a C d t) ∧ (∀ dx, d = some dx → ∃ fs, H dx = some (.xd fs)) ∧
  ErrC K C bmB newId ∧ ClsV c cv ∧ PySem.W.kitOne K (.ref C) cv = some b ∧ Q (.bl b) H
theorem call_isX (Z : IsK X.K) : CallR X (.builtin "isinstance") (rIsX X.K) := by
  intro pins s σ H xs us Q I r h
  obtain ⟨a, C, t, d, c, cv, b, bmB, newId, rfl, ea, hd, T, hc, e, q⟩ := h
  obtain ⟨u1, u2, rfl, r1, r2⟩ := vals2 r
  cases r1
  have e2 := hc.eq r2
  subst e2
  have ho := exT_at I.hok ea
  have hcl : (PySem.W.clsIn X.K C).isSome = true := by
    obtain ⟨cd, hcd, _⟩ := PySem.W.any_some T.hd
    rw [hcd]; rfl
  have fin : ∀ od, PySem.W.InstAt s.heap a ({ cls := .ref C, dict := d, data := .fields #[.ref t, .none, .none, .none, .bool false, .none] } : Obj) C od → wpAny (model X.prog X.w) X.A (call (.builtin "isinstance") [.ref a, u2]) (EP X pins σ Q) X.xe s := fun od J =>
    PySem.W.kia_one (PySem.W.kitx_exc hcl T.ga T.gg T.sb T.cc Z.gn Z.gt T.mo) I.kIn J e (fun z => nomatch z) fun tk => ⟨.bl b, H, I.kept (t' := tk) fun _ _ z => z, rfl, q⟩
  cases d with
  | none => exact fin none ⟨ho, rfl, rfl, trivial⟩
  | some dx =>
    obtain ⟨fs, ed⟩ := hd dx rfl
    obtain ⟨mA, ⟨od, es, ep, hod, _⟩, _⟩ := (show ObjOk X.prog X.w H s.heap dx (.xd fs) from I.hok dx _ ed)
    exact fin (some od) ⟨ho, rfl, rfl, hod⟩
/-- C(m) of an error class without an __init__ of its own -/
def tMkA (C : Addr) (te : TE) : TE := fun σ H Q => te σ H fun y H1 => ∀ a t, H1 a = none → H1 t = none → t ≠ a → Q (.ref a) (upd (upd H1 t (.tup [y])) a (exT a C none t))
theorem pe_mkA {B initId : String} {C : Addr} (F : ExcBaseFacts B newId initId bmB) (T : ErrC X.K C bmB newId) (iC : PySem.W.findIn X.K (.ref C) "__init__" = some (some (.builtin initId))) (hg : Gl X x) (hm : X.mg x = some (.ref C)) (he : PE X e te)
    (hdb : (x == ("__debug__" : Str)) = false := by decide) (hs : starEach [e] X.env = (false, eval e X.env) :: starEach [] X.env := by rfl) : PE X (.Call (.Name x p) [e] [] pos) (tMkA C te) := by
  constructor
  intro pins s σ H Q I h
  refine wpAny_Call_Name_kw (ld_glob I hg hm (PySem.W.callWith_K (h₀ := X.base) I.ok.mod.kin T.kC ?_ hs (by rfl)) hdb)
  rw [hs]
  show wpAny _ _ (spliced ((false, eval e X.env) :: backTo pos (starEach [] X.env))) _ _ s
  refine Calls.spliced_cons (thn (he.run pins s σ H _ I h) ?_)
  rintro u s1 ⟨y, H1, J, r1, q⟩
  refine Calls.spliced_nil ⟨J.kIn, ?_⟩
  show wpAny _ _ (call (.ref C) [u]) _ _ _
  obtain ⟨nm, N, qn, bs, bm, hdct, sn, sub, ab, col, dd, k0, k1, k2, k3, k5, hC, hT⟩ := PySem.W.excInit_of J.kIn T.mi
  obtain ⟨hp, g, dr, tk, os⟩ := s1
  have free : ∀ n, hp.get? (hp.objs.size + n) = none := fun n => Heap.get?_none_of_le (Nat.le_add_right _ _)
  have fr : ∀ n, H1 (hp.objs.size + n) = none := fun n => J.hok.fresh (Nat.le_add_right _ _)
  refine PySem.W.call_B F hT hC (PySem.W.looks_findIn J.kIn iC) (by rw [sizeLine_eq]; exact (by decide : 1 ≤ 16777216)) fun h' keep e1 e2 => ?_
  have ne : hp.objs.size + 2 ≠ hp.objs.size + 1 := by omega
  refine ⟨.ref (hp.objs.size + 1), _, J.un (t' := tk) (un_two (a := hp.objs.size + 1) (d := hp.objs.size + 2) (O := exT (hp.objs.size + 1) C none (hp.objs.size + 2)) (D := .tup [y]) keep (free 1) (free 2) (fr 1) (fr 2)) fun b o z => ?_, rfl, q _ _ (fr 1) (fr 2) ne⟩
  by_cases b1 : b = hp.objs.size + 1
  · subst b1
    rw [upd_same] at z
    cases z
    exact exT_ok e1
  · rw [upd_ne b1] at z
    by_cases b2 : b = hp.objs.size + 2
    · subst b2
      rw [upd_same] at z
      cases z
      exact ⟨by rw [sizeLine_eq]; exact (by decide : 1 ≤ 16777216), [u], .cons r1 .nil, _, e2, rfl, 0, rfl⟩
    · rw [upd_ne b2] at z
      exact (J.hok b o z).stay (fun c v _ k => keep c v k) (fun c hc => by rw [upd_ne (ne_of_none hc (fr 1)), upd_ne (ne_of_none hc (fr 2))]; exact hc) fun c xs hc => by rw [upd_ne (ne_of_none hc (fr 1)), upd_ne (ne_of_none hc (fr 2))]; exact hc
/-- str(e) of an error made with one text -/
def rStrX (K : PySem.W.Frag) : List V → Hp → VK → Prop := fun xs H Q => ∃ (a C t : Addr) (m : Str), xs = [.ref a] ∧ H a = some (exT a C none t) ∧ H t = some (.tup [.str m]) ∧ PySem.W.findIn K (.ref C) "__str__" = some (some (.builtin "BaseException.__str__")) ∧
  PySem.W.subIn K (.ref C) (.type "BaseException") = some true ∧ Q (.str m) H
theorem call_strX (hu : X.A.units + 2 < cLine) : CallR X (.type "str") (rStrX X.K) := by
  intro pins s σ H xs us Q I r h
  obtain ⟨a, C, t, m, rfl, ea, et, hs, hB, q⟩ := h
  cases r with
  | cons r1 r2 =>
    cases r2
    cases r1
    have ho := exT_at I.hok ea
    obtain ⟨_, its, rv, ot, hot, hcls, n, hdat⟩ := (show ObjOk X.prog X.w H s.heap t (.tup [.str m]) from I.hok t _ et)
    cases rv with
    | cons rm rn =>
      cases rn
      obtain ⟨tk, rfl⟩ := rm
      exact PySem.P.str_of_C_one hu ⟨I.kIn, _, _, ho, rfl, rfl, rfl⟩ ⟨ot, n, hot, hcls, hdat⟩ hs hB ⟨.str m, H, I, ⟨tk, rfl⟩, q⟩
end
end GL
/-! Data that may hold an empty dict, its repr; a list display that stands behind what the start has laid. -/
namespace GL
open PySem PySem.Spec PyProof.Rows L2
mutual
/-- data, all of it new -/
inductive Dz (H : Hp) : V → PyData → Prop
  | non : Dz H .non .none
  | bl (b : Bool) : Dz H (.bl b) (.bool b)
  | int (i : Int) : Dz H (.int i) (.int i)
  | str (x : Str) : Dz H (.str x) (.str x)
  | lst {a : Addr} {xs : List V} {ds : List PyData} : 4 ≤ a → H a = some (.lst xs) → DzAll H xs ds → Dz H (.ref a) (.list ds)
  | tup {a : Addr} {xs : List V} {ds : List PyData} : H a = some (.tup xs) → DzAll H xs ds → Dz H (.ref a) (.tuple ds)
  | emp {a : Addr} : H a = some (.dK []) → Dz H (.ref a) (.dict [])
inductive DzAll (H : Hp) : List V → List PyData → Prop
  | nil : DzAll H [] []
  | cons {v : V} {vs : List V} {d : PyData} {ds : List PyData} : Dz H v d → DzAll H vs ds → DzAll H (v :: vs) (d :: ds)
end
mutual
theorem Dz.same {H H' : Hp} (s : Same H H') : ∀ (d : PyData) (v : V), Dz H v d → Dz H' v d
  | .none, _, h => by cases h; exact .non
  | .bool b, _, h => by cases h; exact .bl b
  | .int i, _, h => by cases h; exact .int i
  | .str x, _, h => by cases h; exact .str x
  | .list ds, _, h => by cases h with | lst h4 e h => exact .lst h4 (s _ _ e) (DzAll.same s ds _ h)
  | .tuple ds, _, h => by cases h with | tup e h => exact .tup (s _ _ e) (DzAll.same s ds _ h)
  | .dict kvs, _, h => by cases h with | emp e => exact .emp (s _ _ e)
theorem DzAll.same {H H' : Hp} (s : Same H H') : ∀ (ds : List PyData) (vs : List V), DzAll H vs ds → DzAll H' vs ds
  | [], _, h => by cases h; exact .nil
  | d :: ds, _, h => by cases h with | cons h1 h2 => exact .cons (Dz.same s d _ h1) (DzAll.same s ds _ h2)
end
section
variable {X : Cx} {pins : List (Addr × Obj)} {σ : L2.St} {H : Hp} {s : Shared}
mutual
theorem Dz.reads (I : Inv X pins σ H s) : ∀ (d : PyData) (v : V) (u : Value), Dz H v d → RelV v u → ∃ as, Reads s.heap u d as ∧ sysModules ∉ as
  | .none, _, _, h, r => by cases h; cases r; exact ⟨_, .none, by simp⟩
  | .bool b, _, _, h, r => by cases h; cases r; exact ⟨_, .bool b, by simp⟩
  | .int i, _, _, h, r => by cases h; obtain ⟨t, rfl⟩ := r; exact ⟨_, .int i t, by simp⟩
  | .str x, _, _, h, r => by cases h; obtain ⟨t, rfl⟩ := r; exact ⟨_, .str x t, by simp⟩
  | .list ds, _, _, h, r => by
    cases h with
    | @lst a0 xs0 _ h4 e h =>
      cases r
      obtain ⟨_, its, n, rv, ho⟩ := (show ObjOk X.prog X.w H s.heap _ (.lst _) from I.hok _ _ e)
      obtain ⟨as, q, nas⟩ := DzAll.reads I ds _ its h rv
      refine ⟨_, .list ho rfl rfl (by simpa using q), ?_⟩
      intro z
      rcases List.mem_cons.mp z with z | z
      · have z1 : (1 : Nat) = a0 := z
        rw [← z1] at h4
        exact absurd h4 (by decide)
      · exact nas z
  | .tuple ds, _, _, h, r => by
    cases h with
    | tup e h =>
      cases r
      obtain ⟨_, its, rv, o, ho, hc, n, hd⟩ := (show ObjOk X.prog X.w H s.heap _ (.tup _) from I.hok _ _ e)
      obtain ⟨as, q, nas⟩ := DzAll.reads I ds _ its h rv
      exact ⟨_, .tuple ho hc hd (by simpa using q), nas⟩
  | .dict kvs, _, _, h, r => by
    cases h with
    | @emp a e =>
      cases r
      obtain ⟨_, ns, vs, kv, o, es, ep, ho, hx, hd, _, hes, _⟩ := (show ObjOk X.prog X.w H s.heap _ (.dK []) from I.hok _ _ e)
      cases kv
      have e0 : es.toList = [] := List.length_eq_zero_iff.mp (PySem.Pairs.length hes)
      refine ⟨[a] ++ [], .dict (as := []) (bs := []) ho hx.1 hd (by rw [e0]; exact .nil) (by rw [e0]; exact .nil), ?_⟩
      intro z
      have z' : sysModules = a := by simpa using z
      rw [← z'] at ns
      simp at ns
theorem DzAll.reads (I : Inv X pins σ H s) : ∀ (ds : List PyData) (vs : List V) (us : List Value), DzAll H vs ds → Vals vs us → ∃ as, ReadsAll s.heap us ds as ∧ sysModules ∉ as
  | [], _, _, h, r => by cases h; cases r; exact ⟨_, .nil, by simp⟩
  | d :: ds, _, _, h, r => by
    cases h with
    | cons h1 h2 =>
      cases r with
      | cons r1 r2 =>
        obtain ⟨as, q1, n1⟩ := Dz.reads I d _ _ h1 r1
        obtain ⟨bs, q2, n2⟩ := DzAll.reads I ds _ _ h2 r2
        refine ⟨_, .cons q1 q2, fun z => ?_⟩
        rcases List.mem_append.mp z with z | z
        · exact n1 z
        · exact n2 z
end
end
section
variable {X : Cx} {es : List Expr} {t : TA} {pos : Pos}
/-- what may be shown: little, and not deep -/
def small (d : PyData) : Bool := d.showable && decide (d.depth ≤ 60) && decide (d.shown.length ≤ 16777216)
def rReprZ : List V → Hp → VK → Prop := fun xs H Q => ∃ (a : Addr) (d : PyData), xs = [.ref a] ∧ Dz H (.ref a) d ∧ small d = true ∧ Q (.str d.shown) H
theorem call_repr_z (hgd : X.A.guards = some []) (hu : X.A.units + 64 < cLine) : CallR X (.builtin "repr") rReprZ := by
  intro pins s σ H xs us Q I r h
  obtain ⟨a, d, rfl, hd, hs, q⟩ := h
  unfold small at hs
  rw [Bool.and_eq_true, Bool.and_eq_true, decide_eq_true_eq, decide_eq_true_eq] at hs
  obtain ⟨⟨hs, hdp⟩, hz⟩ := hs
  cases r with
  | cons r1 r2 =>
    cases r2
    cases r1
    obtain ⟨as, rd, ns⟩ := Dz.reads I d (.ref a) (.ref a) hd rfl
    refine repr_of_reads' rd hs (fun _ => ns) hgd (by omega) (fun _ _ z => z) (fun h' u tk keep => ?_) (by rw [sizeLine_eq]; exact hz)
    exact ⟨.str d.shown, H, I.kept (t' := tk) keep, ⟨u, rfl⟩, q⟩
/-- [a, b, ..]: it lies behind what every start lays -/
def tLst4 (t : TA) : TE := fun σ H Q => t σ H fun xs H1 => xs.length ≤ sizeLine ∧ ∀ p, H1 p = none → 4 ≤ p → Q (.ref p) (upd H1 p (.lst xs))
theorem pe_lst4 (h : PA X es t) : PE X (.List es pos) (tLst4 t) := by
  constructor
  intro pins s σ H Q I hq
  refine wpAny_List_spliced (thn (h.run pos pins s σ H _ I hq) ?_)
  rintro us s1 ⟨xs, H1, J, r, z, q⟩
  refine ⟨r.length ▸ z, ?_⟩
  have four : 4 ≤ s1.heap.objs.size := by
    obtain ⟨o, es, ep, ho, _⟩ := J.ok.mod.glob
    have lt : (3 : Nat) < s1.heap.objs.size := Heap.lt_size (J.bk _ _ ho)
    exact lt
  refine ⟨.ref s1.heap.objs.size, upd H1 s1.heap.objs.size (.lst xs), J.laid (t' := s1.toks) (fun b u e => Heap.get?_push_of_some _ e) (Nat.le_refl _) ⟨z, us, 0, r, Heap.get?_push_size _ rfl⟩, rfl, q _ (J.hok.fresh (Nat.le_refl _)) four⟩
end
end GL
/-! The end of a law whose def keeps its promise where no repr is under way. -/
namespace GL
open PySem PySem.Spec PyProof.Rows L2
section
variable {P : Program} {w : World} {K : PySem.W.Frag} {mg mb : Str → Option Value} {k : Nat} {fa a : Addr} {fd : FuncData} {x : Str} {sp : Sp} {s₁ : Shared} {vs : List Value} {ns : List Int}
/-- the law's call from one abstract heap, in which nothing but the script may be tracked -/
theorem law_core (KX : K.In s₁.heap) (hns : s₁.heap.Ns mainGlobals mg) (hb : s₁.heap.Ns builtinsNs mb) (hbb : ∀ x : Str, x ≠ "__name__" → mb x = bootBuiltins x) (hlim : s₁.heap.NoLimit) (hg : s₁.gens = #[])
    (ha : s₁.heap.get? a = some { cls := .type "list", data := .seq vs.toArray }) (hr : Room k callerA) (F : ∀ base : Heap, K.In base → base.Ns mainGlobals mg → FnG P w K mg base CX0 k fa fd [x] sp)
    (hbind : ∀ (s : Shared) (u : Value), BindsTo s fd ⟨[u], []⟩ [(x, u)]) {H : Hp} (only : Only H) (want : sp [.ref a] H (fun v _ => v = .bl true) fun _ _ _ => False) (hok : HOk P w H s₁.heap) (hA : ∀ b, H b ≠ none → b = a) (hK : H a ≠ none → K.lookup a = none) :
    codeAny (model P w) callerA (.call (.ref fa) ⟨[.ref a], []⟩) (fun r s' => r = .ok (.ret (.bool true)) ∧ OldK s₁.heap s'.heap ∧ s'.os = s₁.os ∧ AllBare s'.gens) s₁ := by
  have lay : ∀ {b : Addr} {o : Obj}, s₁.heap.get? b = some o → H b = none → (hidT s₁.heap H).get? b = some o := fun e n => hidT_get e n
  have away : ∀ {b : Addr} {o : Obj}, s₁.heap.get? b = some o → (b = a → False) → H b = none := fun {b o} _ na => by
    cases q : H b with
    | none => rfl
    | some u => exact (na (hA b (by rw [q]; exact fun z => nomatch z))).elim
  have names : ∀ {b : Addr} {m : Str → Option Value}, s₁.heap.Ns b m → (hidT s₁.heap H).Ns b m := by
    rintro b m ⟨o, es, ep, e, d, r⟩
    refine ⟨o, es, ep, lay e (away e fun z => ?_), d, r⟩
    subst z
    rw [ha] at e
    cases e
    exact nomatch d
  have part : K.In (hidT s₁.heap H) := fun b o e => lay (KX b o e) (by
    cases q : H b with
    | none => rfl
    | some u =>
      have z := hA b (by rw [q]; exact fun z => nomatch z)
      subst z
      have y := hK (by rw [q]; exact fun z => nomatch z)
      rw [y] at e
      cases e)
  have M : Mod K mg (hidT s₁.heap H) := ⟨part, names hns, ⟨mb, names hb, hbb⟩, let ⟨mc, h1, h2⟩ := hlim; ⟨mc, names h1, h2⟩⟩
  have env : Env0 P w K mg (hidT s₁.heap H) callerA [] s₁ H := ⟨rfl, M, fun b o e => of_hidT e, Nat.le_of_eq (hidT_size _ _), True.intro, fun b z => absurd (show b ∈ ([] : List Addr) from z) List.not_mem_nil, hok, .of_eq hg⟩
  refine codeAny_mono ((F _ part (names hns)).run callerA [] s₁ H ⟨[.ref a], []⟩ [.ref a] [.ref a] _ _ rfl hr env (hbind s₁ (.ref a)) (.cons rfl .nil) want) ?_
  intro r s' h
  match r, h with
  | .error e, h => exact h.elim
  | .ok (.ret u), h =>
    obtain ⟨v, H', os, bare, un, hok', rv, q⟩ := h
    have q' : v = .bl true := q
    subst q'
    cases rv
    refine ⟨rfl, OldK.of_keep fun b o e => ?_, os, bare⟩
    cases q : H b with
    | none => exact un.keep b o e q (fun z => absurd (show b ∈ ([] : List Addr) from z) List.not_mem_nil) List.not_mem_nil
    | some u =>
      rcases only b with z | ⟨ob, xs, z⟩
      · rw [q] at z; exact nomatch z
      · have c1 := (show ObjOk P w H s₁.heap b (.frz ob (.lst xs)) from hok b _ z).1
        have c2 := (show ObjOk P w H' s'.heap b (.frz ob (.lst xs)) from hok' b _ (un.frzs b ob _ z)).1
        rw [e] at c1
        cases c1
        exact c2
theorem law_callG (KX : K.In s₁.heap) (hns : s₁.heap.Ns mainGlobals mg) (hb : s₁.heap.Ns builtinsNs mb) (hbb : ∀ x : Str, x ≠ "__name__" → mb x = bootBuiltins x) (hlim : s₁.heap.NoLimit) (hg : s₁.gens = #[])
    (ha : s₁.heap.get? a = some { cls := .type "list", data := .seq vs.toArray }) (hi : IntsAre vs ns) (hl : ns.length ≤ sizeLine) (hr : Room k callerA) (F : ∀ base : Heap, K.In base → base.Ns mainGlobals mg → FnG P w K mg base CX0 k fa fd [x] sp)
    (hbind : ∀ (s : Shared) (u : Value), BindsTo s fd ⟨[u], []⟩ [(x, u)]) (hsp : ∀ H : Hp, Only H → SqL K H a (ns.map V.int) → sp [.ref a] H (fun v _ => v = .bl true) fun _ _ _ => False) :
    codeAny (model P w) callerA (.call (.ref fa) ⟨[.ref a], []⟩) (fun r s' => r = .ok (.ret (.bool true)) ∧ OldK s₁.heap s'.heap ∧ s'.os = s₁.os ∧ AllBare s'.gens) s₁ := by
  have go := fun (H : Hp) (o : Only H) (q : SqL K H a (ns.map V.int)) => law_core KX hns hb hbb hlim hg ha hr F hbind o (hsp H o q)
  cases hk : K.lookup a with
  | some o =>
    have e := KX a o hk
    rw [ha] at e
    cases e
    have lenV : vs.toArray.size = ns.length := by rw [List.size_toArray]; exact hi.length
    refine go (fun _ => none) (fun _ => Or.inl rfl) (Or.inr ⟨_, vs.toArray, _, hk, rfl, rfl, rfl, lenV ▸ hl, by simpa using vals_ints hi⟩) (fun b u z => nomatch z) (fun b z => (z rfl).elim) fun z => (z rfl).elim
  | none =>
    let G : Hp := fun b => if b = a then some (.frz { cls := .type "list", data := .seq vs.toArray } (.lst (ns.map V.int))) else none
    have Ga : G a = some (.frz { cls := .type "list", data := .seq vs.toArray } (.lst (ns.map V.int))) := if_pos rfl
    have Gn : ∀ {b : Addr}, b ≠ a → G b = none := fun h => if_neg h
    refine go G (fun b => ?_) (Or.inl (Or.inr ⟨_, Ga⟩)) (fun b u z => ?_) (fun b z => ?_) fun _ => hk
    · by_cases h : b = a
      · subst h; exact Or.inr ⟨_, _, Ga⟩
      · exact Or.inl (Gn h)
    · by_cases h : b = a
      · subst h
        rw [Ga] at z
        cases z
        exact ⟨ha, by rw [List.length_map]; exact hl, vs, _, vals_ints hi, ha⟩
      · rw [Gn h] at z
        exact nomatch z
    · by_cases h : b = a
      · exact h
      · exact (z (Gn h)).elim
end
/-- the goal behind the head, from the law's promise -/
theorem walk_ofG {l : PySem.W.OpenLaw} {n k : Nat} {q : Program} {loose : List Str} {XP : (Str → Option Value) → Heap → Prop} {YP : World → Heap → Prop} {d : DefRec} {K : Params → PySem.W.Frag} {sp : PySem.W.Frag → Sp} {x : Str}
    (hn : l.most = some n) (hn2 : n ≤ sizeLine) (hdf : d.params.defaults = []) (hr : Room k callerA) (hY : ∀ (w : World) (h : Heap), YP w h → (K w.params).In h)
    (F : ∀ (w : World) (mg : Str → Option Value) (fa : Addr) (h : Heap), (K w.params).In h → h.Ns mainGlobals mg → mg d.name = some (.ref fa) → ∃ fd : FuncData, (∀ (s : Shared) (u : Value), BindsTo s fd ⟨[u], []⟩ [(x, u)]) ∧
      ∀ base : Heap, (K w.params).In base → base.Ns mainGlobals mg → FnG l.prog w (K w.params) mg base CX0 k fa fd [x] (sp (K w.params)))
    (hsp : ∀ (K : PySem.W.Frag) (H : Hp) (a : Addr) (ns : List Int), ns.length ≤ n → SqL K H a (ns.map V.int) → sp K [.ref a] H (fun v _ => v = .bl true) fun _ _ _ => False) :
    PySem.W.WalkO q loose XP YP l.row.toRowW d [] (fun f vs => PySem.call f vs) := by
  refine Att.attach_call hn hdf ?_
  intro w s₀ s₁ mg mb fa o pm cd doc a vs ns G Y ho hd hcd hmg hobj hints hlen hg
  obtain ⟨fd, hbind, hF⟩ := F w mg fa _ (hY w _ Y) G.T.g hmg
  exact law_callG (hY w _ Y) G.T.g G.T.b G.T.builtins G.T.nolimit hg hobj hints (Nat.le_trans hlen hn2) hr hF hbind fun H _ hS => hsp (K w.params) H a ns hlen hS
end GL
namespace K00
open PySem PySem.Spec PyProof.Rows L2 GL
open C8 (pss_cut tCut)
abbrev sKinds : Stmt := topS 22
abbrev sBases : Stmt := topS 23
abbrev sOthers : Stmt := topS 24
abbrev sMess : Stmt := topS 25
abbrev sVals : Stmt := topS 26
abbrev sLaw : Stmt := topS 27
/-- isinstance of an instance of the class at C, class by class -/
abbrev Rows (K : PySem.W.Frag) (C : Addr) (us : List Value) (bs : List Bool) : Prop := Paired (fun u b => PySem.W.kitOne K (.ref C) u = some b) us bs
/-- an error object that isinstance can be asked of -/
structure Err (K : PySem.W.Frag) (H : Hp) (a C : Addr) : Prop where
  ob : ∃ d t bmB newId, H a = some (exT a C d t) ∧ (∀ dx, d = some dx → ∃ fs, H dx = some (.xd fs)) ∧ ErrC K C bmB newId
theorem Err.same {K : PySem.W.Frag} {H H' : Hp} {a C : Addr} (e : Err K H a C) (s : Same H H') : Err K H' a C := by
  obtain ⟨d, t, bmB, newId, h1, h2, h3⟩ := e.ob
  exact ⟨d, t, bmB, newId, s _ _ h1, fun dx hd => let ⟨fs, q⟩ := h2 dx hd; ⟨fs, s _ _ q⟩, h3⟩
/-- what the top has written of names: the nine kinds, the others, the law's defs, the built-ins -/
structure TxtE (K : PySem.W.Frag) (mg : Str → Option Value) (k o : Nat → Addr) : Prop where
  isi : mg "isinstance" = none
  k0 : mg "InvalidMachine" = some (.ref (k 0))
  k1 : mg "InvalidNetwork" = some (.ref (k 1))
  k2 : mg "InvalidLogs" = some (.ref (k 2))
  k3 : mg "InvalidConfiguration" = some (.ref (k 3))
  k4 : mg "InvalidView" = some (.ref (k 4))
  k5 : mg "InvalidWord" = some (.ref (k 5))
  k6 : mg "InvalidOperation" = some (.ref (k 6))
  k7 : mg "ParseError" = some (.ref (k 7))
  k8 : mg "InvalidCommand" = some (.ref (k 8))
  o0 : mg "UnknownName" = some (.ref (o 0))
  o1 : mg "InvalidNumber" = some (.ref (o 1))
  o2 : mg "InvalidRun" = some (.ref (o 2))
  o3 : mg "InvalidPath" = some (.ref (o 3))
  o4 : mg "TooMany" = some (.ref (o 4))
  o5 : mg "Crossed" = some (.ref (o 5))
  o6 : mg "NothingToUndo" = some (.ref (o 6))
  b0 : mg "ValueError" = none
  b1 : mg "KeyError" = none
  b2 : mg "IndexError" = none
  b3 : mg "LookupError" = none
  b4 : mg "OverflowError" = none
  b5 : mg "RuntimeError" = none
  b6 : mg "ArithmeticError" = none
  isK : IsK K
abbrev usK (k : Nat → Addr) : List Value := [.ref (k 0), .ref (k 1), .ref (k 2), .ref (k 3), .ref (k 4), .ref (k 5), .ref (k 6), .ref (k 7), .ref (k 8)]
abbrev usB : List Value := [.type "ValueError", .type "KeyError", .type "IndexError", .type "LookupError", .type "OverflowError", .type "RuntimeError", .type "ArithmeticError"]
abbrev usO (o : Nat → Addr) : List Value := [.ref (o 0), .ref (o 1), .ref (o 2), .ref (o 3), .ref (o 4), .ref (o 5), .ref (o 6)]
/-- the promise of the three: the row of answers, in a new list -/
def spRow (K : PySem.W.Frag) (us : List Value) : Sp := fun vs H Q _ => ∃ (a C : Addr) (bs : List Bool), vs = [.ref a] ∧ Err K H a C ∧ Rows K C us bs ∧ ∀ H' p, Same H H' → H p = none → H' p = some (.lst (bs.map V.bl)) → Q (.ref p) H'
theorem catL {H : Hp} {l b : Addr} {xs zs : List V} {Q : VK} (h1 : H l = some (.lst xs)) (h2 : H b = some (.lst zs)) (hz : xs.length + zs.length ≤ 1000) (q : ∀ p, H p = none → Q (.ref p) (upd H p (.lst (xs ++ zs)))) : rCat (.ref l) (.ref b) H Q :=
  ⟨l, b, xs, zs, rfl, rfl, h1, h2, Nat.le_of_lt (small1000 (by omega)), q⟩
section
variable {P : Program} {w : World} {K : PySem.W.Frag} {mg : Str → Option Value} {base : Heap} {k o : Nat → Addr}
theorem scKinds : FnScope ["_law_error", "_law_found"] ["_law_error"] (defScope sKinds) := ⟨rfl, rfl, rfl, by decide +kernel, rfl, by decide +kernel, by decide +kernel⟩
theorem ok_Kinds {f : Addr} {fd : FuncData} {j : Nat} (F : Fun K "_law_kinds" "_law_kinds" sKinds f fd) (T : TxtE K mg k o) : FnOk P w K mg base CX0 (j + 1) f fd ["_law_error"] (spRow K (usK k)) := by
  refine F.ok scKinds (fun vs H Q E h => ?_) (fun cdv A outer s H vs Q E hr h => ?_)
  · obtain ⟨a, C, bs, rfl, _⟩ := h
    rfl
  · obtain ⟨a, C, bs, rfl, e, R, q⟩ := h
    obtain ⟨d, t, bmB, newId, hea, hed, hec⟩ := e.ob
    cases R with
    | cons r0 R =>
    rename_i b0 _
    cases R with
    | cons r1 R =>
    rename_i b1 _
    cases R with
    | cons r2 R =>
    rename_i b2 _
    cases R with
    | cons r3 R =>
    rename_i b3 _
    cases R with
    | cons r4 R =>
    rename_i b4 _
    cases R with
    | cons r5 R =>
    rename_i b5 _
    cases R with
    | cons r6 R =>
    rename_i b6 _
    cases R with
    | cons r7 R =>
    rename_i b7 _
    cases R with
    | cons r8 R =>
    rename_i b8 _
    cases R
    refine ⟨_, pss_cut (ps_set (i := 1) scKinds.nd rfl (.inl rfl) (pe_lst (pa_cons (pe_callB (call_isX T.isK) (by rfl) T.isi (by decide +kernel) (pa_cons (pv 0) (pa_cons (pe_glob (v := .ref (k 0)) (by rfl) T.k0 rfl) pa_nil))) (pa_cons (pe_callB (call_isX T.isK) (by rfl) T.isi (by decide +kernel) (pa_cons (pv 0) (pa_cons (pe_glob (v := .ref (k 1)) (by rfl) T.k1 rfl) pa_nil))) (pa_cons (pe_callB (call_isX T.isK) (by rfl) T.isi (by decide +kernel) (pa_cons (pv 0) (pa_cons (pe_glob (v := .ref (k 2)) (by rfl) T.k2 rfl) pa_nil))) pa_nil))))) (
      pss_cut (ps_set (i := 1) scKinds.nd rfl (.inl rfl) (pe_op op_cat (pv 1) (pe_lst (pa_cons (pe_callB (call_isX T.isK) (by rfl) T.isi (by decide +kernel) (pa_cons (pv 0) (pa_cons (pe_glob (v := .ref (k 3)) (by rfl) T.k3 rfl) pa_nil))) (pa_cons (pe_callB (call_isX T.isK) (by rfl) T.isi (by decide +kernel) (pa_cons (pv 0) (pa_cons (pe_glob (v := .ref (k 4)) (by rfl) T.k4 rfl) pa_nil))) pa_nil))))) (
      pss_cut (ps_set (i := 1) scKinds.nd rfl (.inl rfl) (pe_op op_cat (pv 1) (pe_lst (pa_cons (pe_callB (call_isX T.isK) (by rfl) T.isi (by decide +kernel) (pa_cons (pv 0) (pa_cons (pe_glob (v := .ref (k 5)) (by rfl) T.k5 rfl) pa_nil))) (pa_cons (pe_callB (call_isX T.isK) (by rfl) T.isi (by decide +kernel) (pa_cons (pv 0) (pa_cons (pe_glob (v := .ref (k 6)) (by rfl) T.k6 rfl) pa_nil))) pa_nil))))) (
      pss_one (ps_ret (pe_op op_cat (pv 1) (pe_lst (pa_cons (pe_callB (call_isX T.isK) (by rfl) T.isi (by decide +kernel) (pa_cons (pv 0) (pa_cons (pe_glob (v := .ref (k 7)) (by rfl) T.k7 rfl) pa_nil))) (pa_cons (pe_callB (call_isX T.isK) (by rfl) T.isi (by decide +kernel) (pa_cons (pv 0) (pa_cons (pe_glob (v := .ref (k 8)) (by rfl) T.k8 rfl) pa_nil))) pa_nil)))))))), ?_⟩
    have Z : Same H H := fun _ _ z => z
    have Zd := hed
    refine ⟨fun σ' H' => ∃ p, σ' = [some (.ref a), some (.ref p)] ∧ Same H H' ∧ H p = none ∧ H' p = some (.lst ([b0, b1, b2].map V.bl)), ?_, ?_⟩
    · exact ⟨_, rfl, a, C, t, d, _, _, b0, bmB, newId, rfl, (Z _ _ hea), (Zd), hec, .own _, r0, _, rfl, a, C, t, d, _, _, b1, bmB, newId, rfl, (Z _ _ hea), (Zd), hec, .own _, r1, _, rfl, a, C, t, d, _, _, b2, bmB, newId, rfl, (Z _ _ hea), (Zd), hec, .own _, r2, (by show 3 ≤ sizeLine; decide), fun p hp => ⟨p, rfl, same_upd hp, hp, upd_same⟩⟩
    rintro σ1 H1 ⟨p1, rfl, s1, n1, e1⟩
    have Z := s1
    have Zd : ∀ dx, d = some dx → ∃ fs, H1 dx = some (.xd fs) := fun dx hd => let ⟨fs, z⟩ := hed dx hd; ⟨fs, s1 _ _ z⟩
    refine ⟨fun σ' H' => ∃ p, σ' = [some (.ref a), some (.ref p)] ∧ Same H H' ∧ H p = none ∧ H' p = some (.lst ([b0, b1, b2, b3, b4].map V.bl)), ?_, ?_⟩
    · refine ⟨_, rfl, _, rfl, a, C, t, d, _, _, b3, bmB, newId, rfl, (Z _ _ hea), (Zd), hec, .own _, r3, _, rfl, a, C, t, d, _, _, b4, bmB, newId, rfl, (Z _ _ hea), (Zd), hec, .own _, r4, (by show 2 ≤ sizeLine; decide), fun p hp => catL (by rw [upd_ne (ne_of_none e1 hp)]; exact e1) upd_same (by simp) fun p2 hp2 => ?_⟩
      have np : H1 p2 = none := by
        by_cases z : p2 = p
        · rw [z, upd_same] at hp2; cases hp2
        · rw [upd_ne z] at hp2; exact hp2
      exact ⟨p2, rfl, (s1.trans (same_upd hp)).trans (same_upd hp2), s1.free np, upd_same⟩
    rintro σ2 H2 ⟨p2, rfl, s2, n2, e2⟩
    have Z := s2
    have Zd : ∀ dx, d = some dx → ∃ fs, H2 dx = some (.xd fs) := fun dx hd => let ⟨fs, z⟩ := hed dx hd; ⟨fs, s2 _ _ z⟩
    refine ⟨fun σ' H' => ∃ p, σ' = [some (.ref a), some (.ref p)] ∧ Same H H' ∧ H p = none ∧ H' p = some (.lst ([b0, b1, b2, b3, b4, b5, b6].map V.bl)), ?_, ?_⟩
    · refine ⟨_, rfl, _, rfl, a, C, t, d, _, _, b5, bmB, newId, rfl, (Z _ _ hea), (Zd), hec, .own _, r5, _, rfl, a, C, t, d, _, _, b6, bmB, newId, rfl, (Z _ _ hea), (Zd), hec, .own _, r6, (by show 2 ≤ sizeLine; decide), fun p hp => catL (by rw [upd_ne (ne_of_none e2 hp)]; exact e2) upd_same (by simp) fun p2 hp2 => ?_⟩
      have np : H2 p2 = none := by
        by_cases z : p2 = p
        · rw [z, upd_same] at hp2; cases hp2
        · rw [upd_ne z] at hp2; exact hp2
      exact ⟨p2, rfl, (s2.trans (same_upd hp)).trans (same_upd hp2), s2.free np, upd_same⟩
    rintro σ3 H3 ⟨p3, rfl, s3, n3, e3⟩
    have Z := s3
    have Zd : ∀ dx, d = some dx → ∃ fs, H3 dx = some (.xd fs) := fun dx hd => let ⟨fs, z⟩ := hed dx hd; ⟨fs, s3 _ _ z⟩
    refine ⟨_, rfl, _, rfl, a, C, t, d, _, _, b7, bmB, newId, rfl, (Z _ _ hea), (Zd), hec, .own _, r7, _, rfl, a, C, t, d, _, _, b8, bmB, newId, rfl, (Z _ _ hea), (Zd), hec, .own _, r8, (by show 2 ≤ sizeLine; decide), fun p hp => catL (by rw [upd_ne (ne_of_none e3 hp)]; exact e3) upd_same (by simp) fun p2 hp2 => ?_⟩
    have np : H3 p2 = none := by
      by_cases z : p2 = p
      · rw [z, upd_same] at hp2; cases hp2
      · rw [upd_ne z] at hp2; exact hp2
    exact q _ p2 ((s3.trans (same_upd hp)).trans (same_upd hp2)) (s3.free np) upd_same
theorem scBases : FnScope ["_law_error", "_law_found"] ["_law_error"] (defScope sBases) := ⟨rfl, rfl, rfl, by decide +kernel, rfl, by decide +kernel, by decide +kernel⟩
theorem ok_Bases {f : Addr} {fd : FuncData} {j : Nat} (F : Fun K "_law_bases" "_law_bases" sBases f fd) (T : TxtE K mg k o) : FnOk P w K mg base CX0 (j + 1) f fd ["_law_error"] (spRow K (usB)) := by
  refine F.ok scBases (fun vs H Q E h => ?_) (fun cdv A outer s H vs Q E hr h => ?_)
  · obtain ⟨a, C, bs, rfl, _⟩ := h
    rfl
  · obtain ⟨a, C, bs, rfl, e, R, q⟩ := h
    obtain ⟨d, t, bmB, newId, hea, hed, hec⟩ := e.ob
    cases R with
    | cons r0 R =>
    rename_i b0 _
    cases R with
    | cons r1 R =>
    rename_i b1 _
    cases R with
    | cons r2 R =>
    rename_i b2 _
    cases R with
    | cons r3 R =>
    rename_i b3 _
    cases R with
    | cons r4 R =>
    rename_i b4 _
    cases R with
    | cons r5 R =>
    rename_i b5 _
    cases R with
    | cons r6 R =>
    rename_i b6 _
    cases R
    refine ⟨_, pss_cut (ps_set (i := 1) scBases.nd rfl (.inl rfl) (pe_lst (pa_cons (pe_callB (call_isX T.isK) (by rfl) T.isi (by decide +kernel) (pa_cons (pv 0) (pa_cons (pe_bltn (by rfl) T.b0 (by decide +kernel) (v := .ty "ValueError") rfl) pa_nil))) (pa_cons (pe_callB (call_isX T.isK) (by rfl) T.isi (by decide +kernel) (pa_cons (pv 0) (pa_cons (pe_bltn (by rfl) T.b1 (by decide +kernel) (v := .ty "KeyError") rfl) pa_nil))) (pa_cons (pe_callB (call_isX T.isK) (by rfl) T.isi (by decide +kernel) (pa_cons (pv 0) (pa_cons (pe_bltn (by rfl) T.b2 (by decide +kernel) (v := .ty "IndexError") rfl) pa_nil))) pa_nil))))) (
      pss_cut (ps_set (i := 1) scBases.nd rfl (.inl rfl) (pe_op op_cat (pv 1) (pe_lst (pa_cons (pe_callB (call_isX T.isK) (by rfl) T.isi (by decide +kernel) (pa_cons (pv 0) (pa_cons (pe_bltn (by rfl) T.b3 (by decide +kernel) (v := .ty "LookupError") rfl) pa_nil))) (pa_cons (pe_callB (call_isX T.isK) (by rfl) T.isi (by decide +kernel) (pa_cons (pv 0) (pa_cons (pe_bltn (by rfl) T.b4 (by decide +kernel) (v := .ty "OverflowError") rfl) pa_nil))) pa_nil))))) (
      pss_one (ps_ret (pe_op op_cat (pv 1) (pe_lst (pa_cons (pe_callB (call_isX T.isK) (by rfl) T.isi (by decide +kernel) (pa_cons (pv 0) (pa_cons (pe_bltn (by rfl) T.b5 (by decide +kernel) (v := .ty "RuntimeError") rfl) pa_nil))) (pa_cons (pe_callB (call_isX T.isK) (by rfl) T.isi (by decide +kernel) (pa_cons (pv 0) (pa_cons (pe_bltn (by rfl) T.b6 (by decide +kernel) (v := .ty "ArithmeticError") rfl) pa_nil))) pa_nil))))))), ?_⟩
    have Z : Same H H := fun _ _ z => z
    have Zd := hed
    refine ⟨fun σ' H' => ∃ p, σ' = [some (.ref a), some (.ref p)] ∧ Same H H' ∧ H p = none ∧ H' p = some (.lst ([b0, b1, b2].map V.bl)), ?_, ?_⟩
    · exact ⟨_, rfl, a, C, t, d, _, _, b0, bmB, newId, rfl, (Z _ _ hea), (Zd), hec, .ty _, r0, _, rfl, a, C, t, d, _, _, b1, bmB, newId, rfl, (Z _ _ hea), (Zd), hec, .ty _, r1, _, rfl, a, C, t, d, _, _, b2, bmB, newId, rfl, (Z _ _ hea), (Zd), hec, .ty _, r2, (by show 3 ≤ sizeLine; decide), fun p hp => ⟨p, rfl, same_upd hp, hp, upd_same⟩⟩
    rintro σ1 H1 ⟨p1, rfl, s1, n1, e1⟩
    have Z := s1
    have Zd : ∀ dx, d = some dx → ∃ fs, H1 dx = some (.xd fs) := fun dx hd => let ⟨fs, z⟩ := hed dx hd; ⟨fs, s1 _ _ z⟩
    refine ⟨fun σ' H' => ∃ p, σ' = [some (.ref a), some (.ref p)] ∧ Same H H' ∧ H p = none ∧ H' p = some (.lst ([b0, b1, b2, b3, b4].map V.bl)), ?_, ?_⟩
    · refine ⟨_, rfl, _, rfl, a, C, t, d, _, _, b3, bmB, newId, rfl, (Z _ _ hea), (Zd), hec, .ty _, r3, _, rfl, a, C, t, d, _, _, b4, bmB, newId, rfl, (Z _ _ hea), (Zd), hec, .ty _, r4, (by show 2 ≤ sizeLine; decide), fun p hp => catL (by rw [upd_ne (ne_of_none e1 hp)]; exact e1) upd_same (by simp) fun p2 hp2 => ?_⟩
      have np : H1 p2 = none := by
        by_cases z : p2 = p
        · rw [z, upd_same] at hp2; cases hp2
        · rw [upd_ne z] at hp2; exact hp2
      exact ⟨p2, rfl, (s1.trans (same_upd hp)).trans (same_upd hp2), s1.free np, upd_same⟩
    rintro σ2 H2 ⟨p2, rfl, s2, n2, e2⟩
    have Z := s2
    have Zd : ∀ dx, d = some dx → ∃ fs, H2 dx = some (.xd fs) := fun dx hd => let ⟨fs, z⟩ := hed dx hd; ⟨fs, s2 _ _ z⟩
    refine ⟨_, rfl, _, rfl, a, C, t, d, _, _, b5, bmB, newId, rfl, (Z _ _ hea), (Zd), hec, .ty _, r5, _, rfl, a, C, t, d, _, _, b6, bmB, newId, rfl, (Z _ _ hea), (Zd), hec, .ty _, r6, (by show 2 ≤ sizeLine; decide), fun p hp => catL (by rw [upd_ne (ne_of_none e2 hp)]; exact e2) upd_same (by simp) fun p2 hp2 => ?_⟩
    have np : H2 p2 = none := by
      by_cases z : p2 = p
      · rw [z, upd_same] at hp2; cases hp2
      · rw [upd_ne z] at hp2; exact hp2
    exact q _ p2 ((s2.trans (same_upd hp)).trans (same_upd hp2)) (s2.free np) upd_same
theorem scOthers : FnScope ["_law_error", "_law_found"] ["_law_error"] (defScope sOthers) := ⟨rfl, rfl, rfl, by decide +kernel, rfl, by decide +kernel, by decide +kernel⟩
theorem ok_Others {f : Addr} {fd : FuncData} {j : Nat} (F : Fun K "_law_others" "_law_others" sOthers f fd) (T : TxtE K mg k o) : FnOk P w K mg base CX0 (j + 1) f fd ["_law_error"] (spRow K (usO o)) := by
  refine F.ok scOthers (fun vs H Q E h => ?_) (fun cdv A outer s H vs Q E hr h => ?_)
  · obtain ⟨a, C, bs, rfl, _⟩ := h
    rfl
  · obtain ⟨a, C, bs, rfl, e, R, q⟩ := h
    obtain ⟨d, t, bmB, newId, hea, hed, hec⟩ := e.ob
    cases R with
    | cons r0 R =>
    rename_i b0 _
    cases R with
    | cons r1 R =>
    rename_i b1 _
    cases R with
    | cons r2 R =>
    rename_i b2 _
    cases R with
    | cons r3 R =>
    rename_i b3 _
    cases R with
    | cons r4 R =>
    rename_i b4 _
    cases R with
    | cons r5 R =>
    rename_i b5 _
    cases R with
    | cons r6 R =>
    rename_i b6 _
    cases R
    refine ⟨_, pss_cut (ps_set (i := 1) scOthers.nd rfl (.inl rfl) (pe_lst (pa_cons (pe_callB (call_isX T.isK) (by rfl) T.isi (by decide +kernel) (pa_cons (pv 0) (pa_cons (pe_glob (v := .ref (o 0)) (by rfl) T.o0 rfl) pa_nil))) (pa_cons (pe_callB (call_isX T.isK) (by rfl) T.isi (by decide +kernel) (pa_cons (pv 0) (pa_cons (pe_glob (v := .ref (o 1)) (by rfl) T.o1 rfl) pa_nil))) (pa_cons (pe_callB (call_isX T.isK) (by rfl) T.isi (by decide +kernel) (pa_cons (pv 0) (pa_cons (pe_glob (v := .ref (o 2)) (by rfl) T.o2 rfl) pa_nil))) pa_nil))))) (
      pss_cut (ps_set (i := 1) scOthers.nd rfl (.inl rfl) (pe_op op_cat (pv 1) (pe_lst (pa_cons (pe_callB (call_isX T.isK) (by rfl) T.isi (by decide +kernel) (pa_cons (pv 0) (pa_cons (pe_glob (v := .ref (o 3)) (by rfl) T.o3 rfl) pa_nil))) (pa_cons (pe_callB (call_isX T.isK) (by rfl) T.isi (by decide +kernel) (pa_cons (pv 0) (pa_cons (pe_glob (v := .ref (o 4)) (by rfl) T.o4 rfl) pa_nil))) (pa_cons (pe_callB (call_isX T.isK) (by rfl) T.isi (by decide +kernel) (pa_cons (pv 0) (pa_cons (pe_glob (v := .ref (o 5)) (by rfl) T.o5 rfl) pa_nil))) pa_nil)))))) (
      pss_one (ps_ret (pe_op op_cat (pv 1) (pe_lst (pa_cons (pe_callB (call_isX T.isK) (by rfl) T.isi (by decide +kernel) (pa_cons (pv 0) (pa_cons (pe_glob (v := .ref (o 6)) (by rfl) T.o6 rfl) pa_nil))) pa_nil)))))), ?_⟩
    have Z : Same H H := fun _ _ z => z
    have Zd := hed
    refine ⟨fun σ' H' => ∃ p, σ' = [some (.ref a), some (.ref p)] ∧ Same H H' ∧ H p = none ∧ H' p = some (.lst ([b0, b1, b2].map V.bl)), ?_, ?_⟩
    · exact ⟨_, rfl, a, C, t, d, _, _, b0, bmB, newId, rfl, (Z _ _ hea), (Zd), hec, .own _, r0, _, rfl, a, C, t, d, _, _, b1, bmB, newId, rfl, (Z _ _ hea), (Zd), hec, .own _, r1, _, rfl, a, C, t, d, _, _, b2, bmB, newId, rfl, (Z _ _ hea), (Zd), hec, .own _, r2, (by show 3 ≤ sizeLine; decide), fun p hp => ⟨p, rfl, same_upd hp, hp, upd_same⟩⟩
    rintro σ1 H1 ⟨p1, rfl, s1, n1, e1⟩
    have Z := s1
    have Zd : ∀ dx, d = some dx → ∃ fs, H1 dx = some (.xd fs) := fun dx hd => let ⟨fs, z⟩ := hed dx hd; ⟨fs, s1 _ _ z⟩
    refine ⟨fun σ' H' => ∃ p, σ' = [some (.ref a), some (.ref p)] ∧ Same H H' ∧ H p = none ∧ H' p = some (.lst ([b0, b1, b2, b3, b4, b5].map V.bl)), ?_, ?_⟩
    · refine ⟨_, rfl, _, rfl, a, C, t, d, _, _, b3, bmB, newId, rfl, (Z _ _ hea), (Zd), hec, .own _, r3, _, rfl, a, C, t, d, _, _, b4, bmB, newId, rfl, (Z _ _ hea), (Zd), hec, .own _, r4, _, rfl, a, C, t, d, _, _, b5, bmB, newId, rfl, (Z _ _ hea), (Zd), hec, .own _, r5, (by show 3 ≤ sizeLine; decide), fun p hp => catL (by rw [upd_ne (ne_of_none e1 hp)]; exact e1) upd_same (by simp) fun p2 hp2 => ?_⟩
      have np : H1 p2 = none := by
        by_cases z : p2 = p
        · rw [z, upd_same] at hp2; cases hp2
        · rw [upd_ne z] at hp2; exact hp2
      exact ⟨p2, rfl, (s1.trans (same_upd hp)).trans (same_upd hp2), s1.free np, upd_same⟩
    rintro σ2 H2 ⟨p2, rfl, s2, n2, e2⟩
    have Z := s2
    have Zd : ∀ dx, d = some dx → ∃ fs, H2 dx = some (.xd fs) := fun dx hd => let ⟨fs, z⟩ := hed dx hd; ⟨fs, s2 _ _ z⟩
    refine ⟨_, rfl, _, rfl, a, C, t, d, _, _, b6, bmB, newId, rfl, (Z _ _ hea), (Zd), hec, .own _, r6, (by show 1 ≤ sizeLine; decide), fun p hp => catL (by rw [upd_ne (ne_of_none e2 hp)]; exact e2) upd_same (by simp) fun p2 hp2 => ?_⟩
    have np : H2 p2 = none := by
      by_cases z : p2 = p
      · rw [z, upd_same] at hp2; cases hp2
      · rw [upd_ne z] at hp2; exact hp2
    exact q _ p2 ((s2.trans (same_upd hp)).trans (same_upd hp2)) (s2.free np) upd_same
end
end K00
namespace K00
open PySem PySem.Spec PyProof.Rows L2 GL
open C8 (pss_cut tCut)
theorem ifF {c : Bool} {A B : Prop} (hc : c = false) (h : B) : if c = true then A else B := by
  subst hc
  exact iteF h
theorem ifT {c : Bool} {A B : Prop} (hc : c = true) (h : A) : if c = true then A else B := by
  subst hc
  exact iteT h
theorem tYes_ite {σ : L2.St} {H : Hp} {A B : Hp → Prop} (h : A H) : tYes σ H (fun b H3 => if b = true then A H3 else B H3) := by
  show (if true = true then A H else B H)
  exact iteT h
/-- an error made with the text m -/
def MsgAt (H : Hp) (C a : Addr) (m : Str) : Prop := ∃ t, H a = some (exT a C none t) ∧ H t = some (.tup [.str m])
theorem MsgAt.same {H H' : Hp} {C a : Addr} {m : Str} (e : MsgAt H C a m) (s : Same H H') : MsgAt H' C a m := let ⟨t, h1, h2⟩ := e; ⟨t, s _ _ h1, s _ _ h2⟩
theorem msg_made {H : Hp} {C a t : Addr} {m : Str} (na : H a = none) (nt : H t = none) (ne : t ≠ a) : Same H (upd (upd H t (.tup [.str m])) a (exT a C none t)) ∧ MsgAt (upd (upd H t (.tup [.str m])) a (exT a C none t)) C a m := by
  have n2 : upd H t (.tup [.str m]) a = none := by rw [upd_ne ne.symm]; exact na
  refine ⟨(same_upd nt).trans (same_upd n2), t, upd_same, ?_⟩
  rw [upd_ne ne, upd_same]
abbrev Msgs (H : Hp) (m : Str) : List Addr → List Addr → Prop := Paired fun C a => MsgAt H C a m
theorem Msgs.same {H H' : Hp} {m : Str} {Cs es : List Addr} (e : Msgs H m Cs es) (s : Same H H') : Msgs H' m Cs es := Paired.mapP e fun _ _ q => q.same s
theorem paired_app {α β : Type} {F : α → β → Prop} : ∀ {a : List α} {b : List β} {c : List α} {d : List β}, Paired F a b → Paired F c d → Paired F (a ++ c) (b ++ d)
  | _, _, _, _, .nil, q => q
  | _, _, _, _, .cons r t, q => .cons r (paired_app t q)
theorem paired_get {α β : Type} {F : α → β → Prop} : ∀ {a : List α} {b : List β} {i : Nat} {y : β}, Paired F a b → b[i]? = some y → ∃ x, a[i]? = some x ∧ F x y
  | _, _, i, y, .nil, h => by simp at h
  | _, _, 0, y, .cons r t, h => ⟨_, rfl, by have e := Option.some.inj h; subst e; exact r⟩
  | _, _, i + 1, y, .cons r t, h => paired_get (i := i) t h
theorem paired_len {α β : Type} {F : α → β → Prop} : ∀ {a : List α} {b : List β}, Paired F a b → a.length = b.length
  | _, _, .nil => rfl
  | _, _, .cons _ t => congrArg (· + 1) (paired_len t)
/-- the row of nine (of seven) in which just the i-th is true -/
def unit (n i : Nat) : List Bool := (List.range n).map fun (j : Nat) => decide (V.int (0 + (j : Int)) = V.int (i : Int))
abbrev one7 : List Bool := [true, false, false, false, false, false, false]
abbrev ve : List Value := [.type "ValueError", .type "Exception", .type "BaseException", .type "object"]
abbrev rowD (bs : List Bool) : PyData := .list (bs.map PyData.bool)
theorem dp_bools {K : PySem.W.Frag} {H : Hp} : ∀ bs : List Bool, DpAll K H (bs.map V.bl) (bs.map PyData.bool)
  | [] => .nil
  | b :: bs => .cons (.bl b) (dp_bools bs)
theorem dp_list {K : PySem.W.Frag} {H : Hp} {p : Addr} {bs : List Bool} (h : H p = some (.lst (bs.map V.bl))) : Dp K H (.ref p) (rowD bs) := .lst (SqL.of h) (dp_bools bs)
theorem unit9 : ∀ i < 9, SeqAt.shaped (rowD (unit 9 i)) = true ∧ PyData.eqv (rowD (unit 9 i)) (rowD (unit 9 i)) = true := by decide +kernel
theorem unit7 : ∀ i < 7, SeqAt.shaped (rowD (unit 7 i)) = true ∧ PyData.eqv (rowD (unit 7 i)) (rowD (unit 7 i)) = true := by decide +kernel
theorem one7_ok : SeqAt.shaped (rowD one7) = true ∧ PyData.eqv (rowD one7) (rowD one7) = true := by decide +kernel
theorem no9_ok : SeqAt.shaped (rowD (List.replicate 9 false)) = true ∧ PyData.eqv (rowD (List.replicate 9 false)) (rowD (List.replicate 9 false)) = true := by decide +kernel
theorem no7_in : inV (.bl true) ((List.replicate 7 false).map V.bl) = false ∧ ((List.replicate 7 false).map V.bl).all flatV = true := by decide +kernel
theorem no9_in : inV (.bl true) ((List.replicate 9 false).map V.bl) = false ∧ ((List.replicate 9 false).map V.bl).all flatV = true := by decide +kernel
/-- what the top has written of the message errors -/
structure TxtM (K : PySem.W.Frag) (mg : Str → Option Value) (k o : Nat → Addr) (lk : Addr) : Prop where
  gl : mg "LinkError" = some (.ref lk)
  c : ∀ i, i < 9 → ErrC K (k i) ve "ValueError.__new__"
  ini : ∀ i, i < 9 → PySem.W.findIn K (.ref (k i)) "__init__" = some (some (.builtin "ValueError.__init__"))
  st : ∀ i, i < 9 → PySem.W.findIn K (.ref (k i)) "__str__" = some (some (.builtin "BaseException.__str__"))
  rk : ∀ i, i < 9 → Rows K (k i) (usK k) (unit 9 i)
  rb : ∀ i, i < 9 → Rows K (k i) usB one7
  ro : ∀ i, i < 9 → Rows K (k i) (usO o) (List.replicate 7 false)
  rl : ∀ i, i < 9 → PySem.W.kitOne K (.ref (k i)) (.ref lk) = some true
  cL : ErrC K lk ve "ValueError.__new__"
  iL : PySem.W.findIn K (.ref lk) "__init__" = some (some (.builtin "ValueError.__init__"))
  sL : PySem.W.findIn K (.ref lk) "__str__" = some (some (.builtin "BaseException.__str__"))
  kL : Rows K lk (usK k) (List.replicate 9 false)
  bL : Rows K lk usB one7
  range : mg "range" = none
  enumerate : mg "enumerate" = none
  str : mg "str" = none
/-- the law's three small defs -/
structure TxtF (K : PySem.W.Frag) (mg : Str → Option Value) (fK fB fO : Addr) (dK dB dO : FuncData) : Prop where
  kk : Fun K "_law_kinds" "_law_kinds" sKinds fK dK
  kb : Fun K "_law_bases" "_law_bases" sBases fB dB
  ko : Fun K "_law_others" "_law_others" sOthers fO dO
  bK : L2.Binds K dK ["_law_error"] []
  bB : L2.Binds K dB ["_law_error"] []
  bO : L2.Binds K dO ["_law_error"] []
  gK : mg "_law_kinds" = some (.ref fK)
  gB : mg "_law_bases" = some (.ref fB)
  gO : mg "_law_others" = some (.ref fO)
theorem err_of {K : PySem.W.Frag} {H : Hp} {C a : Addr} {m : Str} {bmB : List Value} {newId : String} (e : MsgAt H C a m) (c : ErrC K C bmB newId) : Err K H a C := by
  obtain ⟨t, h1, _⟩ := e
  exact ⟨none, t, bmB, newId, h1, fun dx z => (nomatch z), c⟩
theorem rep_read {n : Nat} {σ : L2.St} {H : Hp} {Q : VK} (hn : n ≤ 100) (q : ∀ H' p, Same H H' → H' p = some (.lst ((List.replicate n false).map V.bl)) → Q (.ref p) H') : tOp rRep (tLst (tCons (tC (.bl false)) tNil)) (tC (.int n)) σ H Q := by
  refine ⟨(by show 1 ≤ sizeLine; decide), fun p hp => ⟨p, n, [.bl false], rfl, rfl, upd_same, by omega, by omega, ?_, fun p2 hp2 => ?_⟩⟩
  · exact Nat.le_of_lt (small1000 (by simp; omega))
  · refine q _ p2 ((same_upd hp).trans (same_upd hp2)) ?_
    rw [upd_same]
    have e : (List.replicate (n : Int).toNat [V.bl false]).flatten = (List.replicate n false).map V.bl := by simp
    rw [e]
theorem row7_read {σ : L2.St} {H : Hp} {Q : VK} (q : ∀ H' p, Same H H' → H' p = some (.lst (one7.map V.bl)) → Q (.ref p) H') : tOp rCat (tLst (tCons (tC (.bl true)) tNil)) (tOp rRep (tLst (tCons (tC (.bl false)) tNil)) (tC (.int 6))) σ H Q := by
  refine ⟨(by show 1 ≤ sizeLine; decide), fun p hp => rep_read (n := 6) (by decide) fun H' p2 s e => catL (s _ _ upd_same) e (by simp) fun p3 hp3 => ?_⟩
  exact q _ p3 (((same_upd hp).trans s).trans (same_upd hp3)) upd_same
theorem unit_next (j i : Nat) : (unit j i).map V.bl ++ [V.bl (decide (V.int (0 + (j : Int)) = V.int (i : Int)))] = (unit (j + 1) i).map V.bl := by
  unfold unit
  rw [List.range_succ, List.map_append, List.map_append]
  rfl
theorem unit_len (j i : Nat) : (unit j i).length = j := by
  unfold unit
  rw [List.length_map, List.length_range]
section
variable {P : Program} {w : World} {K : PySem.W.Frag} {mg : Str → Option Value} {base : Heap} {k o : Nat → Addr} {lk fK fB fO : Addr} {dK dB dO : FuncData}
def spMess : Sp := fun vs H Q _ => ∃ m : Str, vs = [.str m] ∧ ∀ H', Same H H' → Q (.bl true) H'
abbrev nM : List Str := ["_law_text", "_law_some", "_law_at", "_law_error", "_law_whole", "_law_other"]
theorem scMess : FnScope nM ["_law_text"] (defScope sMess) := ⟨rfl, rfl, rfl, by decide +kernel, rfl, by decide +kernel, by decide +kernel⟩
theorem ok_Mess {f : Addr} {fd : FuncData} (F : Fun K "_law_messages_right" "_law_messages_right" sMess f fd) (T : TxtE K mg k o) (M : TxtM K mg k o lk) (L : TxtF K mg fK fB fO dK dB dO) : FnOk P w K mg base CX0 2 f fd ["_law_text"] spMess := by
  have GK : FnOk P w K mg base CX0 1 fK dK ["_law_error"] (spRow K (usK k)) := ok_Kinds L.kk T
  have GB : FnOk P w K mg base CX0 1 fB dB ["_law_error"] (spRow K usB) := ok_Bases L.kb T
  have GO : FnOk P w K mg base CX0 1 fO dO ["_law_error"] (spRow K (usO o)) := ok_Others L.ko T
  refine F.ok scMess (fun vs H Q E h => ?_) (fun cdv A outer s H vs Q E hr h => ?_)
  · obtain ⟨m, rfl, _⟩ := h
    rfl
  · obtain ⟨m, rfl, q⟩ := h
    have hu := hr.units
    have hu2 : (A.deeper (envOfC "_law_messages_right" (defScope sMess) s.heap.objs.size f cdv)).units + 2 < cLine := by omega
    refine ⟨_, pss_cut (ps_set (i := 1) scMess.nd rfl (.inl rfl) (pe_lst (pa_cons (pe_mkA PySem.F.excBase_ValueError (M.c 0 (by decide)) (M.ini 0 (by decide)) (by rfl) T.k0 (pv 0)) (pa_cons (pe_mkA PySem.F.excBase_ValueError (M.c 1 (by decide)) (M.ini 1 (by decide)) (by rfl) T.k1 (pv 0)) (pa_cons (pe_mkA PySem.F.excBase_ValueError (M.c 2 (by decide)) (M.ini 2 (by decide)) (by rfl) T.k2 (pv 0)) (pa_cons (pe_mkA PySem.F.excBase_ValueError (M.c 3 (by decide)) (M.ini 3 (by decide)) (by rfl) T.k3 (pv 0)) pa_nil))))))
      (pss_cut (ps_set (i := 1) scMess.nd rfl (.inl rfl) (pe_op op_cat (pv 1) (pe_lst (pa_cons (pe_mkA PySem.F.excBase_ValueError (M.c 4 (by decide)) (M.ini 4 (by decide)) (by rfl) T.k4 (pv 0)) (pa_cons (pe_mkA PySem.F.excBase_ValueError (M.c 5 (by decide)) (M.ini 5 (by decide)) (by rfl) T.k5 (pv 0)) (pa_cons (pe_mkA PySem.F.excBase_ValueError (M.c 6 (by decide)) (M.ini 6 (by decide)) (by rfl) T.k6 (pv 0)) (pa_cons (pe_mkA PySem.F.excBase_ValueError (M.c 7 (by decide)) (M.ini 7 (by decide)) (by rfl) T.k7 (pv 0)) (pa_cons (pe_mkA PySem.F.excBase_ValueError (M.c 8 (by decide)) (M.ini 8 (by decide)) (by rfl) T.k8 (pv 0)) pa_nil))))))))
      (pss_cut (ps_for PassesOwn.never rfl (pi_enum (by rfl) M.enumerate (pa_cons (pv 1) pa_nil)) (pg_tup rfl (pgs_cons (pg_name (i := 2) scMess.nd rfl (.inr rfl)) (pgs_cons (pg_name (i := 3) scMess.nd rfl (.inl rfl)) pgs_nil)))
        (pss_cons (ps_if (PW.pt (pw_or (pt_cmpR (op_neD hu) (pe_call GK hr (by rfl) L.gK L.kk.kp L.bK .nil pass0 (pa_cons (pv 3) pa_nil)) (pe_lc (own := [("_law_other", 5)]) (g := gName 5) (tt := tYes) rfl scMess.nd (pi_range1 rfl M.range (pa_cons pe_int pa_nil)) (blkOk_by (own := [("_law_other", 5)]) (N := nM) (sc := defScope sMess) (by decide +kernel)) (fun _ _ _ _ _ => pg_name (i := 5) scMess.nd rfl (Or.inl rfl)) (fun _ _ _ _ _ => pts_nil) (fun _ _ _ _ _ => pe_cmpR op_eq (pv 5) (pv 2) (nomark _))) (nomark _)) (pw_or1 (pt_not (pt_val (pe_callB (call_isX T.isK) (by rfl) T.isi (by decide +kernel) (pa_cons (pv 3) (pa_cons (pe_glob (v := .ref lk) (by rfl) M.gl rfl) pa_nil)))))))) (pss_one (ps_ret pe_bl)) pss_nil)
        (pss_one (ps_if (PW.pt (pw_or (pt_cmpR (op_neD hu) (pe_call GB hr (by rfl) L.gB L.kb.kp L.bB .nil pass0 (pa_cons (pv 3) pa_nil)) (pe_op op_cat (pe_lst (pa_cons pe_bl pa_nil)) (pe_op op_rep (pe_lst (pa_cons pe_bl pa_nil)) pe_int)) (nomark _)) (pw_or (pt_cmpR op_in_seq pe_bl (pe_call GO hr (by rfl) L.gO L.ko.kp L.bO .nil pass0 (pa_cons (pv 3) pa_nil)) (by rfl)) (pw_or1 (pt_cmpR op_ne (pe_callTy (call_strX hu2) (by rfl) M.str (by decide +kernel) (pa_cons (pv 3) pa_nil)) (pv 0) (nomark _)))))) (pss_one (ps_ret pe_bl)) pss_nil))))
      (pss_cut (ps_set (i := 4) scMess.nd rfl (.inl rfl) (pe_mkA PySem.F.excBase_ValueError M.cL M.iL (by rfl) M.gl (pv 0)))
      (pss_one (ps_ret (pe_and (pe_cmpR op_eq (pe_callTy (call_strX hu2) (by rfl) M.str (by decide +kernel) (pa_cons (pv 4) pa_nil)) (pv 0) (nomark _)) (pe_and (pe_cmpR (op_eqD hu) (pe_call GK hr (by rfl) L.gK L.kk.kp L.bK .nil pass0 (pa_cons (pv 4) pa_nil)) (pe_op op_rep (pe_lst (pa_cons pe_bl pa_nil)) pe_int) (nomark _)) (pe_one (pe_cmpR (op_eqD hu) (pe_call GB hr (by rfl) L.gB L.kb.kp L.bB .nil pass0 (pa_cons (pv 4) pa_nil)) (pe_op op_cat (pe_lst (pa_cons pe_bl pa_nil)) (pe_op op_rep (pe_lst (pa_cons pe_bl pa_nil)) pe_int)) (nomark _)))))))))), ?_⟩
    -- the first four
    refine ⟨fun σ' H' => ∃ (p : Addr) (es : List Addr), σ' = [some (.str m), some (.ref p), none, none, none, none] ∧ Same H H' ∧ H' p = some (.lst (es.map V.ref)) ∧ Msgs H' m [k 0, k 1, k 2, k 3] es, ?_, ?_⟩
    · refine ⟨_, rfl, fun a0 t0 na0 nt0 ne0 => ⟨_, rfl, fun a1 t1 na1 nt1 ne1 => ⟨_, rfl, fun a2 t2 na2 nt2 ne2 => ⟨_, rfl, fun a3 t3 na3 nt3 ne3 => ⟨(by show 4 ≤ sizeLine; decide), fun p hp => ?_⟩⟩⟩⟩⟩
      have m0 := msg_made (C := k 0) (m := m) na0 nt0 ne0
      have m1 := msg_made (C := k 1) (m := m) na1 nt1 ne1
      have m2 := msg_made (C := k 2) (m := m) na2 nt2 ne2
      have m3 := msg_made (C := k 3) (m := m) na3 nt3 ne3
      have mp := same_upd (o := .lst [V.ref a0, V.ref a1, V.ref a2, V.ref a3]) hp
      exact ⟨p, [a0, a1, a2, a3], rfl, m0.1.trans (m1.1.trans (m2.1.trans (m3.1.trans mp))), upd_same,
        .cons (m0.2.same (m1.1.trans (m2.1.trans (m3.1.trans mp)))) (.cons (m1.2.same (m2.1.trans (m3.1.trans mp))) (.cons (m2.2.same (m3.1.trans mp)) (.cons (m3.2.same mp) .nil)))⟩
    rintro σ1 H1 ⟨p, es, rfl, s1, e1, M1⟩
    -- the other five
    refine ⟨fun σ' H' => ∃ (p : Addr) (es : List Addr), σ' = [some (.str m), some (.ref p), none, none, none, none] ∧ Same H H' ∧ H' p = some (.lst (es.map V.ref)) ∧ Msgs H' m [k 0, k 1, k 2, k 3, k 4, k 5, k 6, k 7, k 8] es, ?_, ?_⟩
    · refine ⟨_, rfl, _, rfl, fun a0 t0 na0 nt0 ne0 => ⟨_, rfl, fun a1 t1 na1 nt1 ne1 => ⟨_, rfl, fun a2 t2 na2 nt2 ne2 => ⟨_, rfl, fun a3 t3 na3 nt3 ne3 => ⟨_, rfl, fun a4 t4 na4 nt4 ne4 => ⟨(by show 5 ≤ sizeLine; decide), fun p2 hp2 => ?_⟩⟩⟩⟩⟩⟩
      have m0 := msg_made (C := k 4) (m := m) na0 nt0 ne0
      have m1 := msg_made (C := k 5) (m := m) na1 nt1 ne1
      have m2 := msg_made (C := k 6) (m := m) na2 nt2 ne2
      have m3 := msg_made (C := k 7) (m := m) na3 nt3 ne3
      have m4 := msg_made (C := k 8) (m := m) na4 nt4 ne4
      have mp := same_upd (o := .lst [V.ref a0, V.ref a1, V.ref a2, V.ref a3, V.ref a4]) hp2
      have s2 := m0.1.trans (m1.1.trans (m2.1.trans (m3.1.trans (m4.1.trans mp))))
      have l4 : es.length = 4 := (paired_len M1).symm
      refine catL (s2 _ _ e1) upd_same (by rw [List.length_map, l4]; simp) fun p3 hp3 => ?_
      have m5 := same_upd (o := .lst (es.map V.ref ++ [V.ref a0, V.ref a1, V.ref a2, V.ref a3, V.ref a4])) hp3
      have all : Msgs _ m [k 4, k 5, k 6, k 7, k 8] [a0, a1, a2, a3, a4] :=
        .cons ((m0.2.same (m1.1.trans (m2.1.trans (m3.1.trans (m4.1.trans mp))))).same m5) (.cons ((m1.2.same (m2.1.trans (m3.1.trans (m4.1.trans mp)))).same m5)
          (.cons ((m2.2.same (m3.1.trans (m4.1.trans mp))).same m5) (.cons ((m3.2.same (m4.1.trans mp)).same m5) (.cons ((m4.2.same mp).same m5) .nil))))
      exact ⟨p3, es ++ [a0, a1, a2, a3, a4], rfl, (s1.trans s2).trans m5, by rw [upd_same, List.map_append]; rfl, paired_app ((M1.same s2).same m5) all⟩
    clear e1 M1 p es
    rintro σ2 H2 ⟨p, es, rfl, s2, e2, M2⟩
    have l9 : es.length = 9 := (paired_len M2).symm
    -- the loop
    refine ⟨fun σ' H' => ∃ (u v : Option V), σ' = [some (.str m), some (.ref p), u, v, none, none] ∧ Same H2 H', ?_, ?_⟩
    · refine ⟨_, rfl, p, _, rfl, SqL.of e2, ?_⟩
      refine for_it (walk_enum (xs := es.map V.ref)) (fun i σ H' => ∃ (u v : Option V), σ = [some (.str m), some (.ref p), u, v, none, none] ∧ Same H2 H') ⟨none, none, rfl, fun _ _ z => z⟩ (fun i σ H' _ ⟨_, _, _, z⟩ => SqL.of (z _ _ e2)) ?_ (fun σ H' z => z)
      rintro i x σ H3 H4 hi ⟨u, v, rfl, s3⟩ ⟨T0, x1, x2, rfl, nT, rfl, z1, z2⟩
      rw [List.length_map, l9] at hi
      have x1e : x1 = .int (i : Nat) := (Option.some.inj z1).symm
      obtain ⟨e, he, rfl⟩ : ∃ e, es[i]? = some e ∧ x2 = .ref e := by
        have z : (es.map V.ref)[i]? = some x2 := z2
        rw [List.getElem?_map, List.getElem?_eq_getElem (show i < es.length by omega)] at z
        exact ⟨_, List.getElem?_eq_getElem (show i < es.length by omega), (Option.some.inj z).symm⟩
      subst x1e
      have s4 : Same H2 (upd H3 T0 (.tup [.int (i : Nat), .ref e])) := s3.trans (same_upd nT)
      obtain ⟨C, hC, me⟩ := paired_get (M2.same s4) he
      obtain rfl : C = k i := by
        have h : i = 0 ∨ i = 1 ∨ i = 2 ∨ i = 3 ∨ i = 4 ∨ i = 5 ∨ i = 6 ∨ i = 7 ∨ i = 8 := by omega
        rcases h with h | h | h | h | h | h | h | h | h <;> subst h <;> exact (Option.some.inj hC).symm
      have er := err_of me (M.c i hi)
      refine ⟨T0, _, rfl, .inl (.inl upd_same), rfl, _, _, rfl, _, _, rfl, rfl, ?_⟩
      generalize upd H3 T0 (.tup [V.int (i : Nat), V.ref e]) = H4 at s4 me er
      -- kinds(error) != [..]
      refine ⟨_, rfl, e, k i, unit 9 i, rfl, er, M.rk i hi, fun H5 p5 s5 n5 e5 => ?_⟩
      refine ⟨9, rfl, by decide, by decide, fun D hD => ?_⟩
      have ne5 : p5 ≠ D := ne_of_none e5 hD
      refine lc_range (lo := 0) (n := 9) (fun j H' => Same H5 H' ∧ H' D = some (.lst ((unit j i).map V.bl))) ⟨same_upd hD, upd_same⟩ (fun j H' hj z => ?_) (fun H6 z => ?_)
      · refine ⟨rfl, tYes_ite ⟨_, rfl, _, rfl, rfl, _, z.2, ?_, ?_, ?_⟩⟩
        · rw [List.length_map, unit_len]
          exact small1000 (by omega)
        · intro b y hb
          rw [upd_ne (ne_of_none hb hD)]
          exact z.1 b y hb
        · rw [upd_same, unit_next]
      · obtain ⟨z1, z2⟩ := z
        have s6 : Same H4 H6 := s5.trans z1
        refine ⟨_, _, dp_list (z1 _ _ e5), dp_list z2, (unit9 i hi).1, (unit9 i hi).1, _, rfl, ifF (by rw [(unit9 i hi).2]; rfl) ?_⟩
        obtain ⟨d, t, bmB, newId, h1, h2, h3⟩ := (er.same s6).ob
        refine ⟨_, rfl, e, k i, t, d, _, _, true, bmB, newId, rfl, h1, h2, h3, .own _, M.rl i hi, _, rfl, ifF rfl ?_⟩
        -- bases(error) != [True] + [False] * 6
        refine ⟨_, rfl, e, k i, one7, rfl, er.same s6, M.rb i hi, fun H7 p7 s7 n7 e7 => row7_read fun H8 p8 s8 e8 => ?_⟩
        refine ⟨_, _, dp_list (s8 _ _ e7), dp_list e8, one7_ok.1, one7_ok.1, _, rfl, ifF (by rw [one7_ok.2]; rfl) ?_⟩
        have s9 : Same H4 H8 := s6.trans (s7.trans s8)
        -- True in others(error)
        refine ⟨_, rfl, e, k i, List.replicate 7 false, rfl, er.same s9, M.ro i hi, fun H10 p10 s10 n10 e10 => ?_⟩
        refine ⟨p10, _, rfl, .inl (SqL.of e10), rfl, no7_in.2, _, rfl, ifF (by exact no7_in.1) ?_⟩
        -- str(error) != text
        obtain ⟨t2, g1, g2⟩ := me.same (s9.trans s10)
        refine ⟨_, rfl, e, k i, t2, m, rfl, g1, g2, M.st i hi, (M.c i hi).sb, _, rfl, rfl, _, rfl, ifF (by simp) ?_⟩
        exact ⟨_, _, rfl, s4.trans (s9.trans s10)⟩
    rintro σ3 H3 ⟨u, v, rfl, s3⟩
    refine ⟨fun σ' H' => ∃ e, σ' = [some (.str m), some (.ref p), u, v, some (.ref e), none] ∧ Same H3 H' ∧ MsgAt H' lk e m, ?_, ?_⟩
    · refine ⟨_, rfl, fun a t na nt ne => ?_⟩
      have mm := msg_made (C := lk) (m := m) na nt ne
      exact ⟨a, rfl, mm.1, mm.2⟩
    rintro σ4 H4 ⟨e, rfl, s4, me⟩
    have er := err_of me M.cL
    obtain ⟨t2, g1, g2⟩ := id me
    refine ⟨_, rfl, e, lk, t2, m, rfl, g1, g2, M.sL, M.cL.sb, _, rfl, rfl, true, by simp, ?_⟩
    refine iteT ⟨_, rfl, e, lk, List.replicate 9 false, rfl, er, M.kL, fun H5 p5 s5 n5 e5 => rep_read (n := 9) (by decide) fun H6 p6 s6 e6 => ?_⟩
    refine ⟨_, _, dp_list (s6 _ _ e5), dp_list e6, no9_ok.1, no9_ok.1, _, rfl, ifT no9_ok.2 ?_⟩
    have s7 : Same H4 H6 := s5.trans s6
    refine ⟨_, rfl, e, lk, one7, rfl, er.same s7, M.bL, fun H8 p8 s8 n8 e8 => row7_read fun H9 p9 s9 e9 => ?_⟩
    refine ⟨_, _, dp_list (s9 _ _ e8), dp_list e9, one7_ok.1, one7_ok.1, ?_⟩
    rw [one7_ok.2]
    exact q _ (s2.trans (s3.trans (s4.trans (s7.trans (s8.trans s9)))))
end
end K00
namespace K00
open PySem PySem.Spec PyProof.Rows L2 GL
open C8 (pss_cut tCut)
abbrev chKeyError : List Value := [.type "KeyError", .type "LookupError", .type "Exception", .type "BaseException", .type "object"]
abbrev chIndexError : List Value := [.type "IndexError", .type "LookupError", .type "Exception", .type "BaseException", .type "object"]
abbrev chLookupError : List Value := [.type "LookupError", .type "Exception", .type "BaseException", .type "object"]
abbrev chOverflowError : List Value := [.type "OverflowError", .type "ArithmeticError", .type "Exception", .type "BaseException", .type "object"]
abbrev chRuntimeError : List Value := [.type "RuntimeError", .type "Exception", .type "BaseException", .type "object"]
abbrev chArithmeticError : List Value := [.type "ArithmeticError", .type "Exception", .type "BaseException", .type "object"]
abbrev sI0 : Stmt := inClass (topS 11) 0
abbrev sI1 : Stmt := inClass (topS 12) 0
abbrev sI2 : Stmt := inClass (topS 13) 0
abbrev sI3 : Stmt := inClass (topS 14) 0
abbrev sI4 : Stmt := inClass (topS 15) 0
abbrev sI5 : Stmt := inClass (topS 16) 0
abbrev sI6 : Stmt := inClass (topS 17) 0
/-- one error class with a field: its facts, its __init__ -/
structure OneO (K : PySem.W.Frag) (C fI : Addr) (fd : FuncData) (chain : List Value) (newId : String) (f qual : Str) (st : Stmt) : Prop where
  c : ErrC K C chain newId
  e : ErrF K C chain f
  iC : PySem.W.findIn K (.ref C) "__init__" = some (some (.ref fI))
  tI : PySem.W.typeIn K (.ref fI) = some (.type "function")
  F : Fun K "__init__" qual st fI fd
  b : L2.Binds K fd ["self", f] []
def row (l : List Int) : List Bool := (List.range 7).map fun (j : Nat) => inV (V.int (0 + (j : Int))) (l.map V.int)
abbrev bh : List (List Int) := [[1, 3], [2, 3], [3], [3], [4, 6], [5], [6]]
structure TxtO (K : PySem.W.Frag) (mg : Str → Option Value) (k o fI : Nat → Addr) (dI : Nat → FuncData) (lk : Addr) : Prop where
  x0 : OneO K (o 0) (fI 0) (dI 0) chKeyError "LookupError.__new__" "name" "UnknownName.__init__" sI0
  x1 : OneO K (o 1) (fI 1) (dI 1) chIndexError "IndexError.__new__" "value" "InvalidNumber.__init__" sI1
  x2 : OneO K (o 2) (fI 2) (dI 2) chLookupError "LookupError.__new__" "at" "InvalidRun.__init__" sI2
  x3 : OneO K (o 3) (fI 3) (dI 3) chLookupError "LookupError.__new__" "at" "InvalidPath.__init__" sI3
  x4 : OneO K (o 4) (fI 4) (dI 4) chOverflowError "OverflowError.__new__" "limit" "TooMany.__init__" sI4
  x5 : OneO K (o 5) (fI 5) (dI 5) chRuntimeError "RuntimeError.__new__" "run" "Crossed.__init__" sI5
  x6 : OneO K (o 6) (fI 6) (dI 6) chArithmeticError "ArithmeticError.__new__" "many" "NothingToUndo.__init__" sI6
  ro : ∀ i, i < 7 → Rows K (o i) (usO o) (unit 7 i)
  rk : ∀ i, i < 7 → Rows K (o i) (usK k) (List.replicate 9 false)
  rb : ∀ i l, bh[i]? = some l → Rows K (o i) usB (row l)
  rl : ∀ i, i < 7 → PySem.W.kitOne K (.ref (o i)) (.ref lk) = some false
  repr : mg "repr" = none
section
variable {P : Program} {w : World} {K : PySem.W.Frag} {mg : Str → Option Value} {base : Heap} {k o fI : Nat → Addr} {dI : Nat → FuncData} {lk fK fB fO : Addr} {dK dB dO : FuncData}
theorem scI0 : FnScope ["self", "name"] ["self", "name"] (defScope sI0) := ⟨rfl, rfl, rfl, by decide +kernel, rfl, by decide +kernel, by decide +kernel⟩
theorem ok_I0 {f : Addr} {fd : FuncData} (F : Fun K "__init__" "UnknownName.__init__" sI0 f fd) : FnOk P w K mg base CX0 1 f fd ["self", "name"] (spEinit K chKeyError "name") := by
  refine F.ok scI0 (fun vs H Q E h => ?_) (fun cdv A outer s H vs Q E hr h => ?_)
  · obtain ⟨a, C, t, y, rfl, _⟩ := h
    rfl
  · obtain ⟨a, C, t, y, rfl, ea, T, hd, q⟩ := h
    exact ⟨_, pss_one (ps_est keyStore (pv 0) (pv 1)), _, rfl, _, rfl, a, C, t, rfl, ea, T, hd, q⟩
theorem scI1 : FnScope ["self", "value"] ["self", "value"] (defScope sI1) := ⟨rfl, rfl, rfl, by decide +kernel, rfl, by decide +kernel, by decide +kernel⟩
theorem ok_I1 {f : Addr} {fd : FuncData} (F : Fun K "__init__" "InvalidNumber.__init__" sI1 f fd) : FnOk P w K mg base CX0 1 f fd ["self", "value"] (spEinit K chIndexError "value") := by
  refine F.ok scI1 (fun vs H Q E h => ?_) (fun cdv A outer s H vs Q E hr h => ?_)
  · obtain ⟨a, C, t, y, rfl, _⟩ := h
    rfl
  · obtain ⟨a, C, t, y, rfl, ea, T, hd, q⟩ := h
    exact ⟨_, pss_one (ps_est PySem.F.store_IndexError (pv 0) (pv 1)), _, rfl, _, rfl, a, C, t, rfl, ea, T, hd, q⟩
theorem scI2 : FnScope ["self", "at"] ["self", "at"] (defScope sI2) := ⟨rfl, rfl, rfl, by decide +kernel, rfl, by decide +kernel, by decide +kernel⟩
theorem ok_I2 {f : Addr} {fd : FuncData} (F : Fun K "__init__" "InvalidRun.__init__" sI2 f fd) : FnOk P w K mg base CX0 1 f fd ["self", "at"] (spEinit K chLookupError "at") := by
  refine F.ok scI2 (fun vs H Q E h => ?_) (fun cdv A outer s H vs Q E hr h => ?_)
  · obtain ⟨a, C, t, y, rfl, _⟩ := h
    rfl
  · obtain ⟨a, C, t, y, rfl, ea, T, hd, q⟩ := h
    exact ⟨_, pss_one (ps_est PySem.F.store_LookupError (pv 0) (pv 1)), _, rfl, _, rfl, a, C, t, rfl, ea, T, hd, q⟩
theorem scI3 : FnScope ["self", "at"] ["self", "at"] (defScope sI3) := ⟨rfl, rfl, rfl, by decide +kernel, rfl, by decide +kernel, by decide +kernel⟩
theorem ok_I3 {f : Addr} {fd : FuncData} (F : Fun K "__init__" "InvalidPath.__init__" sI3 f fd) : FnOk P w K mg base CX0 1 f fd ["self", "at"] (spEinit K chLookupError "at") := by
  refine F.ok scI3 (fun vs H Q E h => ?_) (fun cdv A outer s H vs Q E hr h => ?_)
  · obtain ⟨a, C, t, y, rfl, _⟩ := h
    rfl
  · obtain ⟨a, C, t, y, rfl, ea, T, hd, q⟩ := h
    exact ⟨_, pss_one (ps_est PySem.F.store_LookupError (pv 0) (pv 1)), _, rfl, _, rfl, a, C, t, rfl, ea, T, hd, q⟩
theorem scI4 : FnScope ["self", "limit"] ["self", "limit"] (defScope sI4) := ⟨rfl, rfl, rfl, by decide +kernel, rfl, by decide +kernel, by decide +kernel⟩
theorem ok_I4 {f : Addr} {fd : FuncData} (F : Fun K "__init__" "TooMany.__init__" sI4 f fd) : FnOk P w K mg base CX0 1 f fd ["self", "limit"] (spEinit K chOverflowError "limit") := by
  refine F.ok scI4 (fun vs H Q E h => ?_) (fun cdv A outer s H vs Q E hr h => ?_)
  · obtain ⟨a, C, t, y, rfl, _⟩ := h
    rfl
  · obtain ⟨a, C, t, y, rfl, ea, T, hd, q⟩ := h
    exact ⟨_, pss_one (ps_est PySem.F.store_OverflowError (pv 0) (pv 1)), _, rfl, _, rfl, a, C, t, rfl, ea, T, hd, q⟩
theorem scI5 : FnScope ["self", "run"] ["self", "run"] (defScope sI5) := ⟨rfl, rfl, rfl, by decide +kernel, rfl, by decide +kernel, by decide +kernel⟩
theorem ok_I5 {f : Addr} {fd : FuncData} (F : Fun K "__init__" "Crossed.__init__" sI5 f fd) : FnOk P w K mg base CX0 1 f fd ["self", "run"] (spEinit K chRuntimeError "run") := by
  refine F.ok scI5 (fun vs H Q E h => ?_) (fun cdv A outer s H vs Q E hr h => ?_)
  · obtain ⟨a, C, t, y, rfl, _⟩ := h
    rfl
  · obtain ⟨a, C, t, y, rfl, ea, T, hd, q⟩ := h
    exact ⟨_, pss_one (ps_est PySem.F.store_RuntimeError (pv 0) (pv 1)), _, rfl, _, rfl, a, C, t, rfl, ea, T, hd, q⟩
theorem scI6 : FnScope ["self", "many"] ["self", "many"] (defScope sI6) := ⟨rfl, rfl, rfl, by decide +kernel, rfl, by decide +kernel, by decide +kernel⟩
theorem ok_I6 {f : Addr} {fd : FuncData} (F : Fun K "__init__" "NothingToUndo.__init__" sI6 f fd) : FnOk P w K mg base CX0 1 f fd ["self", "many"] (spEinit K chArithmeticError "many") := by
  refine F.ok scI6 (fun vs H Q E h => ?_) (fun cdv A outer s H vs Q E hr h => ?_)
  · obtain ⟨a, C, t, y, rfl, _⟩ := h
    rfl
  · obtain ⟨a, C, t, y, rfl, ea, T, hd, q⟩ := h
    exact ⟨_, pss_one (ps_est PySem.F.store_ArithmeticError (pv 0) (pv 1)), _, rfl, _, rfl, a, C, t, rfl, ea, T, hd, q⟩
/-- an error that keeps v as f -/
def FldAt (H : Hp) (C a : Addr) (f : Str) (v : V) : Prop := ∃ d t, H a = some (exT a C (some d) t) ∧ H d = some (.xd [(f, v)])
theorem FldAt.same {H H' : Hp} {C a : Addr} {f : Str} {v : V} (e : FldAt H C a f v) (s : Same H H') : FldAt H' C a f v := let ⟨d, t, h1, h2⟩ := e; ⟨d, t, s _ _ h1, s _ _ h2⟩
theorem fld_made {H : Hp} {C a d t : Addr} {f : Str} {v : V} (na : H a = none) (nd : H d = none) (ne : d ≠ a) : Same H (upd (upd H d (.xd [(f, v)])) a (exT a C (some d) t)) ∧ FldAt (upd (upd H d (.xd [(f, v)])) a (exT a C (some d) t)) C a f v := by
  have n2 : upd H d (.xd [(f, v)]) a = none := by rw [upd_ne ne.symm]; exact na
  refine ⟨(same_upd nd).trans (same_upd n2), d, t, upd_same, ?_⟩
  rw [upd_ne ne, upd_same]
theorem err_fld {H : Hp} {C a : Addr} {f : Str} {v : V} {bmB : List Value} {newId : String} (e : FldAt H C a f v) (c : ErrC K C bmB newId) : Err K H a C := by
  obtain ⟨d, t, h1, h2⟩ := e
  exact ⟨some d, t, bmB, newId, h1, fun dx z => by cases z; exact ⟨_, h2⟩, c⟩
theorem lk1 {f : Str} {v : V} : List.lookup f [(f, v)] = some v := by simp
abbrev kept (dx : PyData) (n : Int) (dy : PyData) : PyData := .list [dx, dx, .int n, .int n, .int n, dy, .int n]
def spVals : Sp := fun vs H Q _ => ∃ (x y : V) (n : Int) (dx dy : PyData), vs = [x, .int n, y] ∧ Dz H x dx ∧ Dz H y dy ∧ small (kept dx n dy) = true ∧ ∀ H', Same H H' → Q (.bl true) H'
abbrev nV : List Str := ["_law_thing", "_law_number", "_law_run", "_law_some", "_law_kept", "_law_bases_here", "_law_at", "_law_error", "_law_other"]
theorem scVals : FnScope nV ["_law_thing", "_law_number", "_law_run"] (defScope sVals) := ⟨rfl, rfl, rfl, by decide +kernel, rfl, by decide +kernel, by decide +kernel⟩
theorem unit7' : ∀ i < 7, SeqAt.shaped (rowD (unit 7 i)) = true ∧ PyData.eqv (rowD (unit 7 i)) (rowD (unit 7 i)) = true := by decide +kernel
theorem row_ok : ∀ l ∈ bh, SeqAt.shaped (rowD (row l)) = true ∧ PyData.eqv (rowD (row l)) (rowD (row l)) = true ∧ (l.map V.int).all flatV = true := by decide +kernel
def rowN (n : Nat) (l : List Int) : List Bool := (List.range n).map fun (j : Nat) => inV (V.int (0 + (j : Int))) (l.map V.int)
theorem rowN_next (j : Nat) (l : List Int) : (rowN j l).map V.bl ++ [V.bl (inV (V.int (0 + (j : Int))) (l.map V.int))] = (rowN (j + 1) l).map V.bl := by
  unfold rowN
  rw [List.range_succ, List.map_append, List.map_append]
  rfl
theorem rowN_len (j : Nat) (l : List Int) : (rowN j l).length = j := by
  unfold rowN
  rw [List.length_map, List.length_range]
theorem ok_Vals {f : Addr} {fd : FuncData} (F : Fun K "_law_values_right" "_law_values_right" sVals f fd) (T : TxtE K mg k o) (M : TxtM K mg k o lk) (L : TxtF K mg fK fB fO dK dB dO) (Z : TxtO K mg k o fI dI lk) : FnG P w K mg base CX0 3 f fd ["_law_thing", "_law_number", "_law_run"] spVals := by
  have GK : FnOk P w K mg base CX0 1 fK dK ["_law_error"] (spRow K (usK k)) := ok_Kinds L.kk T
  have GB : FnOk P w K mg base CX0 1 fB dB ["_law_error"] (spRow K usB) := ok_Bases L.kb T
  have GO : FnOk P w K mg base CX0 1 fO dO ["_law_error"] (spRow K (usO o)) := ok_Others L.ko T
  have G0 : FnOk P w K mg base CX0 1 (fI 0) (dI 0) ["self", "name"] (spEinit K chKeyError "name") := ok_I0 Z.x0.F
  have G1 : FnOk P w K mg base CX0 1 (fI 1) (dI 1) ["self", "value"] (spEinit K chIndexError "value") := ok_I1 Z.x1.F
  have G2 : FnOk P w K mg base CX0 1 (fI 2) (dI 2) ["self", "at"] (spEinit K chLookupError "at") := ok_I2 Z.x2.F
  have G3 : FnOk P w K mg base CX0 1 (fI 3) (dI 3) ["self", "at"] (spEinit K chLookupError "at") := ok_I3 Z.x3.F
  have G4 : FnOk P w K mg base CX0 1 (fI 4) (dI 4) ["self", "limit"] (spEinit K chOverflowError "limit") := ok_I4 Z.x4.F
  have G5 : FnOk P w K mg base CX0 1 (fI 5) (dI 5) ["self", "run"] (spEinit K chRuntimeError "run") := ok_I5 Z.x5.F
  have G6 : FnOk P w K mg base CX0 1 (fI 6) (dI 6) ["self", "many"] (spEinit K chArithmeticError "many") := ok_I6 Z.x6.F
  refine fnG_ok F scVals (fun vs H Q E h => ?_) (fun cdv A outer s H vs Q E hgd hr h => ?_)
  · obtain ⟨x, y, n, dx, dy, rfl, _⟩ := h
    rfl
  · obtain ⟨x, y, n, dx, dy, rfl, hx, hy, hsm, q⟩ := h
    have hu := hr.units
    have hr1 : Room 1 _ := hr.mono (by decide)
    refine ⟨_, pss_cut (ps_set (i := 3) scVals.nd rfl (.inl rfl) (pe_lst (pa_cons (pe_mkE (ps' := []) PySem.F.excBase_LookupError Z.x0.c Z.x0.e ⟨by decide, by decide, by decide⟩ Z.x0.iC Z.x0.tI G0 hr Z.x0.b (by rfl) T.o0 (pv 0)) (pa_cons (pe_mkE (ps' := []) PySem.F.excBase_IndexError Z.x1.c Z.x1.e ⟨by decide, by decide, by decide⟩ Z.x1.iC Z.x1.tI G1 hr Z.x1.b (by rfl) T.o1 (pv 0)) (pa_cons (pe_mkE (ps' := []) PySem.F.excBase_LookupError Z.x2.c Z.x2.e ⟨by decide, by decide, by decide⟩ Z.x2.iC Z.x2.tI G2 hr Z.x2.b (by rfl) T.o2 (pv 1)) (pa_cons (pe_mkE (ps' := []) PySem.F.excBase_LookupError Z.x3.c Z.x3.e ⟨by decide, by decide, by decide⟩ Z.x3.iC Z.x3.tI G3 hr Z.x3.b (by rfl) T.o3 (pv 1)) (pa_cons (pe_mkE (ps' := []) PySem.F.excBase_OverflowError Z.x4.c Z.x4.e ⟨by decide, by decide, by decide⟩ Z.x4.iC Z.x4.tI G4 hr Z.x4.b (by rfl) T.o4 (pv 1)) pa_nil)))))))
      (pss_cut (ps_set (i := 3) scVals.nd rfl (.inl rfl) (pe_op op_cat (pv 3) (pe_lst (pa_cons (pe_mkE (ps' := []) PySem.F.excBase_RuntimeError Z.x5.c Z.x5.e ⟨by decide, by decide, by decide⟩ Z.x5.iC Z.x5.tI G5 hr Z.x5.b (by rfl) T.o5 (pv 2)) (pa_cons (pe_mkE (ps' := []) PySem.F.excBase_ArithmeticError Z.x6.c Z.x6.e ⟨by decide, by decide, by decide⟩ Z.x6.iC Z.x6.tI G6 hr Z.x6.b (by rfl) T.o6 (pv 1)) pa_nil)))))
      (pss_cut (ps_set (i := 4) scVals.nd rfl (.inl rfl) (pe_lst4 (pa_cons (pe_fldE (bmB := chKeyError) (newId := "LookupError.__new__") (pe_ix ix_list (pv 3) pe_int (fun _ _ => rfl))) (pa_cons (pe_fldE (bmB := chIndexError) (newId := "IndexError.__new__") (pe_ix ix_list (pv 3) pe_int (fun _ _ => rfl))) (pa_cons (pe_fldE (bmB := chLookupError) (newId := "LookupError.__new__") (pe_ix ix_list (pv 3) pe_int (fun _ _ => rfl))) (pa_cons (pe_fldE (bmB := chLookupError) (newId := "LookupError.__new__") (pe_ix ix_list (pv 3) pe_int (fun _ _ => rfl))) (pa_cons (pe_fldE (bmB := chOverflowError) (newId := "OverflowError.__new__") (pe_ix ix_list (pv 3) pe_int (fun _ _ => rfl))) (pa_cons (pe_fldE (bmB := chRuntimeError) (newId := "RuntimeError.__new__") (pe_ix ix_list (pv 3) pe_int (fun _ _ => rfl))) (pa_cons (pe_fldE (bmB := chArithmeticError) (newId := "ArithmeticError.__new__") (pe_ix ix_list (pv 3) pe_int (fun _ _ => rfl))) pa_nil)))))))))
      (pss_cut (ps_if (pt_cmpR op_ne (pe_callB (call_repr_z hgd hu) (by rfl) Z.repr (by decide +kernel) (pa_cons (pv 4) pa_nil)) (pe_callB (call_repr_z hgd hu) (by rfl) Z.repr (by decide +kernel) (pa_cons (pe_lst4 (pa_cons (pv 0) (pa_cons (pv 0) (pa_cons (pv 1) (pa_cons (pv 1) (pa_cons (pv 1) (pa_cons (pv 2) (pa_cons (pv 1) pa_nil)))))))) pa_nil)) (nomark _)) (pss_one (ps_ret pe_bl)) pss_nil)
      (pss_cut (ps_set (i := 5) scVals.nd rfl (.inr rfl) (pe_lst (pa_cons (pe_lst (pa_cons pe_int (pa_cons pe_int pa_nil))) (pa_cons (pe_lst (pa_cons pe_int (pa_cons pe_int pa_nil))) (pa_cons (pe_lst (pa_cons pe_int pa_nil)) (pa_cons (pe_lst (pa_cons pe_int pa_nil)) (pa_cons (pe_lst (pa_cons pe_int (pa_cons pe_int pa_nil))) (pa_cons (pe_lst (pa_cons pe_int pa_nil)) (pa_cons (pe_lst (pa_cons pe_int pa_nil)) pa_nil)))))))))
      (pss_cut (ps_for PassesOwn.never rfl (pi_enum (by rfl) M.enumerate (pa_cons (pv 3) pa_nil)) (pg_tup rfl (pgs_cons (pg_name (i := 6) scVals.nd rfl (.inr rfl)) (pgs_cons (pg_name (i := 7) scVals.nd rfl (.inl rfl)) pgs_nil)))
        (pss_cons (ps_if (PW.pt (pw_or (pt_cmpR (op_neD hu) (pe_call GO hr1 (by rfl) L.gO L.ko.kp L.bO .nil pass0 (pa_cons (pv 7) pa_nil)) (pe_lc (own := [("_law_other", 8)]) (g := gName 8) (tt := tYes) rfl scVals.nd (pi_range1 rfl M.range (pa_cons pe_int pa_nil)) (blkOk_by (own := [("_law_other", 8)]) (N := nV) (sc := defScope sVals) (by decide +kernel)) (fun _ _ _ _ _ => pg_name (i := 8) scVals.nd rfl (Or.inl rfl)) (fun _ _ _ _ _ => pts_nil) (fun _ _ _ _ _ => pe_cmpR op_eq (pv 8) (pv 6) (nomark _))) (nomark _)) (pw_or1 (pt_cmpR op_in_seq pe_bl (pe_call GK hr1 (by rfl) L.gK L.kk.kp L.bK .nil pass0 (pa_cons (pv 7) pa_nil)) (by rfl))))) (pss_one (ps_ret pe_bl)) pss_nil)
        (pss_one (ps_if (PW.pt (pw_or (pt_val (pe_callB (call_isX T.isK) (by rfl) T.isi (by decide +kernel) (pa_cons (pv 7) (pa_cons (pe_glob (v := .ref lk) (by rfl) M.gl rfl) pa_nil)))) (pw_or1 (pt_cmpR (op_neD hu) (pe_call GB hr1 (by rfl) L.gB L.kb.kp L.bB .nil pass0 (pa_cons (pv 7) pa_nil)) (pe_lc (own := [("_law_other", 8)]) (g := gName 8) (tt := tYes) rfl scVals.nd (pi_range1 rfl M.range (pa_cons pe_int pa_nil)) (blkOk_by (own := [("_law_other", 8)]) (N := nV) (sc := defScope sVals) (by decide +kernel)) (fun _ _ _ _ _ => pg_name (i := 8) scVals.nd rfl (Or.inl rfl)) (fun _ _ _ _ _ => pts_nil) (fun _ _ _ _ _ => pe_cmpR (show OpR _ (compareOp .In) (rIn K false) from op_in_seq) (pv 8) (pe_ix (show IxR _ (rIxL K) from ix_list) (pv 5) (pv 6) (fun _ _ => rfl)) (by rfl))) (nomark _))))) (pss_one (ps_ret pe_bl)) pss_nil))))
      (pss_one (ps_ret pe_bl))))))), ?_⟩
    -- the first five
    refine ⟨fun σ' H' => ∃ (p e0 e1 e2 e3 e4 : Addr), σ' = [some x, some (.int n), some y, some (.ref p), none, none, none, none, none] ∧ Same H H' ∧ H' p = some (.lst [.ref e0, .ref e1, .ref e2, .ref e3, .ref e4]) ∧ FldAt H' (o 0) e0 "name" (x) ∧ FldAt H' (o 1) e1 "value" (x) ∧ FldAt H' (o 2) e2 "at" (.int n) ∧ FldAt H' (o 3) e3 "at" (.int n) ∧ FldAt H' (o 4) e4 "limit" (.int n), ?_, ?_⟩
    · refine ⟨_, rfl, fun e0 t0 d0 na0 nd0 ne0 => ⟨_, rfl, fun e1 t1 d1 na1 nd1 ne1 => ⟨_, rfl, fun e2 t2 d2 na2 nd2 ne2 => ⟨_, rfl, fun e3 t3 d3 na3 nd3 ne3 => ⟨_, rfl, fun e4 t4 d4 na4 nd4 ne4 => ⟨(by show 5 ≤ sizeLine; decide), fun p hp => ?_⟩⟩⟩⟩⟩⟩
      have m0 := fld_made (C := o 0) (t := t0) (f := "name") (v := x) na0 nd0 ne0
      have m1 := fld_made (C := o 1) (t := t1) (f := "value") (v := x) na1 nd1 ne1
      have m2 := fld_made (C := o 2) (t := t2) (f := "at") (v := .int n) na2 nd2 ne2
      have m3 := fld_made (C := o 3) (t := t3) (f := "at") (v := .int n) na3 nd3 ne3
      have m4 := fld_made (C := o 4) (t := t4) (f := "limit") (v := .int n) na4 nd4 ne4
      have mp := same_upd (o := .lst [V.ref e0, V.ref e1, V.ref e2, V.ref e3, V.ref e4]) hp
      exact ⟨p, e0, e1, e2, e3, e4, rfl, (m0.1.trans (m1.1.trans (m2.1.trans (m3.1.trans (m4.1.trans mp))))), upd_same, m0.2.same (m1.1.trans (m2.1.trans (m3.1.trans (m4.1.trans mp)))), m1.2.same (m2.1.trans (m3.1.trans (m4.1.trans mp))), m2.2.same (m3.1.trans (m4.1.trans mp)), m3.2.same (m4.1.trans mp), m4.2.same mp⟩
    rintro σ1 H1 ⟨p1, e0, e1, e2, e3, e4, rfl, s1, ep1, f0, f1, f2, f3, f4⟩
    -- the other two
    refine ⟨fun σ' H' => ∃ (p e5 e6 : Addr), σ' = [some x, some (.int n), some y, some (.ref p), none, none, none, none, none] ∧ Same H1 H' ∧ H' p = some (.lst [.ref e0, .ref e1, .ref e2, .ref e3, .ref e4, .ref e5, .ref e6]) ∧ FldAt H' (o 5) e5 "run" (y) ∧ FldAt H' (o 6) e6 "many" (.int n), ?_, ?_⟩
    · refine ⟨_, rfl, _, rfl, fun e5 t5 d5 na5 nd5 ne5 => ⟨_, rfl, fun e6 t6 d6 na6 nd6 ne6 => ⟨(by show 2 ≤ sizeLine; decide), fun p hp => ?_⟩⟩⟩
      have m5 := fld_made (C := o 5) (t := t5) (f := "run") (v := y) na5 nd5 ne5
      have m6 := fld_made (C := o 6) (t := t6) (f := "many") (v := .int n) na6 nd6 ne6
      have mp := same_upd (o := .lst [V.ref e5, V.ref e6]) hp
      have sq := m5.1.trans (m6.1.trans mp)
      refine catL (sq _ _ ep1) upd_same (by simp) fun p2 hp2 => ?_
      have mq := same_upd (o := .lst ([V.ref e0, V.ref e1, V.ref e2, V.ref e3, V.ref e4] ++ [V.ref e5, V.ref e6])) hp2
      exact ⟨p2, e5, e6, rfl, sq.trans mq, upd_same, (m5.2.same (m6.1.trans mp)).same mq, (m6.2.same mp).same mq⟩
    rintro σ2 H2 ⟨p, e5, e6, rfl, s2, ep, f5, f6⟩
    replace f0 := f0.same s2
    replace f1 := f1.same s2
    replace f2 := f2.same s2
    replace f3 := f3.same s2
    replace f4 := f4.same s2
    have hErr : ∀ i e, [e0, e1, e2, e3, e4, e5, e6][i]? = some e → Err K H2 e (o i) := by
      intro i e he
      match i, he with
      | 0, he => have z := Option.some.inj he; subst z; exact err_fld f0 Z.x0.c
      | 1, he => have z := Option.some.inj he; subst z; exact err_fld f1 Z.x1.c
      | 2, he => have z := Option.some.inj he; subst z; exact err_fld f2 Z.x2.c
      | 3, he => have z := Option.some.inj he; subst z; exact err_fld f3 Z.x3.c
      | 4, he => have z := Option.some.inj he; subst z; exact err_fld f4 Z.x4.c
      | 5, he => have z := Option.some.inj he; subst z; exact err_fld f5 Z.x5.c
      | 6, he => have z := Option.some.inj he; subst z; exact err_fld f6 Z.x6.c
      | _ + 7, he => simp at he
    have A0 : atI [V.ref e0, V.ref e1, V.ref e2, V.ref e3, V.ref e4, V.ref e5, V.ref e6] 0 = some (.ref e0) := atI_nat (j := 0) rfl
    have A1 : atI [V.ref e0, V.ref e1, V.ref e2, V.ref e3, V.ref e4, V.ref e5, V.ref e6] 1 = some (.ref e1) := atI_nat (j := 1) rfl
    have A2 : atI [V.ref e0, V.ref e1, V.ref e2, V.ref e3, V.ref e4, V.ref e5, V.ref e6] 2 = some (.ref e2) := atI_nat (j := 2) rfl
    have A3 : atI [V.ref e0, V.ref e1, V.ref e2, V.ref e3, V.ref e4, V.ref e5, V.ref e6] 3 = some (.ref e3) := atI_nat (j := 3) rfl
    have A4 : atI [V.ref e0, V.ref e1, V.ref e2, V.ref e3, V.ref e4, V.ref e5, V.ref e6] 4 = some (.ref e4) := atI_nat (j := 4) rfl
    have A5 : atI [V.ref e0, V.ref e1, V.ref e2, V.ref e3, V.ref e4, V.ref e5, V.ref e6] 5 = some (.ref e5) := atI_nat (j := 5) rfl
    have A6 : atI [V.ref e0, V.ref e1, V.ref e2, V.ref e3, V.ref e4, V.ref e5, V.ref e6] 6 = some (.ref e6) := atI_nat (j := 6) rfl
    obtain ⟨d0, t0, h0, g0⟩ := f0
    obtain ⟨d1, t1, h1, g1⟩ := f1
    obtain ⟨d2, t2, h2, g2⟩ := f2
    obtain ⟨d3, t3, h3, g3⟩ := f3
    obtain ⟨d4, t4, h4, g4⟩ := f4
    obtain ⟨d5, t5, h5, g5⟩ := f5
    obtain ⟨d6, t6, h6, g6⟩ := f6
    -- what they keep
    refine ⟨fun σ' H' => ∃ (p4 : Addr), σ' = [some x, some (.int n), some y, some (.ref p), some (.ref p4), none, none, none, none] ∧ Same H2 H' ∧ 4 ≤ p4 ∧ H' p4 = some (.lst [x, x, .int n, .int n, .int n, y, .int n]), ?_, ?_⟩
    · refine ⟨_, rfl, p, _, _, _, rfl, rfl, SqL.of ep, A0, e0, o 0, d0, t0, _, _, rfl, h0, g0, Z.x0.c, Z.x0.e.no, lk1, _, rfl, p, _, _, _, rfl, rfl, SqL.of ep, A1, e1, o 1, d1, t1, _, _, rfl, h1, g1, Z.x1.c, Z.x1.e.no, lk1, _, rfl, p, _, _, _, rfl, rfl, SqL.of ep, A2, e2, o 2, d2, t2, _, _, rfl, h2, g2, Z.x2.c, Z.x2.e.no, lk1, _, rfl, p, _, _, _, rfl, rfl, SqL.of ep, A3, e3, o 3, d3, t3, _, _, rfl, h3, g3, Z.x3.c, Z.x3.e.no, lk1, _, rfl, p, _, _, _, rfl, rfl, SqL.of ep, A4, e4, o 4, d4, t4, _, _, rfl, h4, g4, Z.x4.c, Z.x4.e.no, lk1, _, rfl, p, _, _, _, rfl, rfl, SqL.of ep, A5, e5, o 5, d5, t5, _, _, rfl, h5, g5, Z.x5.c, Z.x5.e.no, lk1, _, rfl, p, _, _, _, rfl, rfl, SqL.of ep, A6, e6, o 6, d6, t6, _, _, rfl, h6, g6, Z.x6.c, Z.x6.e.no, lk1, (by show 7 ≤ sizeLine; decide), fun p4 hp4 h4 => ?_⟩
      exact ⟨p4, rfl, same_upd hp4, h4, upd_same⟩
    rintro σ3 H3 ⟨p4, rfl, s3, hp4, ep4⟩
    have s03 : Same H H3 := s1.trans (s2.trans s3)
    have all7 : ∀ {H' : Hp}, Same H H' → DzAll H' [x, x, .int n, .int n, .int n, y, .int n] [dx, dx, .int n, .int n, .int n, dy, .int n] := fun s => .cons (Dz.same s _ _ hx) (.cons (Dz.same s _ _ hx) (.cons (.int n) (.cons (.int n) (.cons (.int n) (.cons (Dz.same s _ _ hy) (.cons (.int n) .nil))))))
    -- if repr(kept) != repr([..])
    refine ⟨fun σ' H' => σ' = [some x, some (.int n), some y, some (.ref p), some (.ref p4), none, none, none, none] ∧ Same H3 H', ?_, ?_⟩
    · refine ⟨_, rfl, p4, kept dx n dy, rfl, .lst hp4 ep4 (all7 s03), hsm, _, rfl, _, rfl, _, rfl, _, rfl, _, rfl, _, rfl, _, rfl, (by show 7 ≤ sizeLine; decide), fun p5 hp5 h5 => ?_⟩
      have s5 := same_upd (o := .lst [x, x, .int n, .int n, .int n, y, .int n]) hp5
      exact ⟨p5, kept dx n dy, rfl, .lst h5 upd_same (all7 (s03.trans s5)), hsm, rfl, _, rfl, ifF (by simp) ⟨rfl, s5⟩⟩
    rintro σ4 H4 ⟨rfl, s4⟩
    -- bases_here
    refine ⟨fun σ' H' => ∃ (p6 : Addr) (bs : List Addr), σ' = [some x, some (.int n), some y, some (.ref p), some (.ref p4), some (.ref p6), none, none, none] ∧ Same H4 H' ∧ H' p6 = some (.lst (bs.map V.ref)) ∧ Paired (fun l b => H' b = some (.lst (l.map V.int))) bh bs, ?_, ?_⟩
    · refine ⟨(by show 2 ≤ sizeLine; decide), fun b0 hb0 => ⟨(by show 2 ≤ sizeLine; decide), fun b1 hb1 => ⟨(by show 1 ≤ sizeLine; decide), fun b2 hb2 => ⟨(by show 1 ≤ sizeLine; decide), fun b3 hb3 => ⟨(by show 2 ≤ sizeLine; decide), fun b4 hb4 => ⟨(by show 1 ≤ sizeLine; decide), fun b5 hb5 => ⟨(by show 1 ≤ sizeLine; decide), fun b6 hb6 => ⟨(by show 7 ≤ sizeLine; decide), fun p6 hp6 => ?_⟩⟩⟩⟩⟩⟩⟩⟩
      have q0 := same_upd (o := .lst [V.int 1, V.int 3]) hb0
      have q1 := same_upd (o := .lst [V.int 2, V.int 3]) hb1
      have q2 := same_upd (o := .lst [V.int 3]) hb2
      have q3 := same_upd (o := .lst [V.int 3]) hb3
      have q4 := same_upd (o := .lst [V.int 4, V.int 6]) hb4
      have q5 := same_upd (o := .lst [V.int 5]) hb5
      have q6 := same_upd (o := .lst [V.int 6]) hb6
      have q7 := same_upd (o := .lst [V.ref b0, V.ref b1, V.ref b2, V.ref b3, V.ref b4, V.ref b5, V.ref b6]) hp6
      exact ⟨p6, [b0, b1, b2, b3, b4, b5, b6], rfl, (q0.trans (q1.trans (q2.trans (q3.trans (q4.trans (q5.trans (q6.trans q7))))))), upd_same, .cons ((q1.trans (q2.trans (q3.trans (q4.trans (q5.trans (q6.trans q7)))))) _ _ upd_same) (.cons ((q2.trans (q3.trans (q4.trans (q5.trans (q6.trans q7))))) _ _ upd_same) (.cons ((q3.trans (q4.trans (q5.trans (q6.trans q7)))) _ _ upd_same) (.cons ((q4.trans (q5.trans (q6.trans q7))) _ _ upd_same) (.cons ((q5.trans (q6.trans q7)) _ _ upd_same) (.cons ((q6.trans q7) _ _ upd_same) (.cons (q7 _ _ upd_same) (.nil)))))))⟩
    rintro σ5 H5 ⟨p6, bs, rfl, s5, e6', hbs⟩
    have lbs : bs.length = 7 := (paired_len hbs).symm
    have s25 : Same H2 H5 := s3.trans (s4.trans s5)
    -- the loop
    refine ⟨fun σ' H' => ∃ (u v : Option V), σ' = [some x, some (.int n), some y, some (.ref p), some (.ref p4), some (.ref p6), u, v, none] ∧ Same H5 H', ?_, ?_⟩
    · refine ⟨_, rfl, p, _, rfl, SqL.of (s25 _ _ ep), ?_⟩
      refine for_it (walk_enum (xs := [V.ref e0, V.ref e1, V.ref e2, V.ref e3, V.ref e4, V.ref e5, V.ref e6])) (fun i σ H' => ∃ (u v : Option V), σ = [some x, some (.int n), some y, some (.ref p), some (.ref p4), some (.ref p6), u, v, none] ∧ Same H5 H') ⟨none, none, rfl, fun _ _ z => z⟩ (fun i σ H' _ ⟨_, _, _, z⟩ => SqL.of (z _ _ (s25 _ _ ep))) ?_ (fun σ H' z => z)
      rintro i x0 σ H6 H7 hi ⟨u, v, rfl, s6⟩ ⟨T0, x1, x2, rfl, nT, rfl, z1, z2⟩
      replace hi : i < 7 := hi
      have x1e : x1 = .int (i : Nat) := (Option.some.inj z1).symm
      obtain ⟨e, he, rfl⟩ : ∃ e, [e0, e1, e2, e3, e4, e5, e6][i]? = some e ∧ x2 = .ref e := by
        have z : ([e0, e1, e2, e3, e4, e5, e6].map V.ref)[i]? = some x2 := z2
        rw [List.getElem?_map, List.getElem?_eq_getElem (show i < [e0, e1, e2, e3, e4, e5, e6].length from hi)] at z
        exact ⟨_, List.getElem?_eq_getElem (show i < [e0, e1, e2, e3, e4, e5, e6].length from hi), (Option.some.inj z).symm⟩
      subst x1e
      have s7 : Same H5 (upd H6 T0 (.tup [.int (i : Nat), .ref e])) := s6.trans (same_upd nT)
      have er := (hErr i e he).same (s25.trans s7)
      obtain ⟨l, hl⟩ : ∃ l, bh[i]? = some l := ⟨_, List.getElem?_eq_getElem (show i < bh.length from hi)⟩
      obtain ⟨b, hb⟩ : ∃ b, bs[i]? = some b := ⟨_, List.getElem?_eq_getElem (show i < bs.length by omega)⟩
      obtain ⟨l', hl', eb⟩ := paired_get hbs hb
      obtain rfl : l = l' := Option.some.inj (hl.symm.trans hl')
      have okl := row_ok l (List.mem_of_getElem? hl)
      refine ⟨T0, _, rfl, .inl (.inl upd_same), rfl, _, _, rfl, _, _, rfl, rfl, ?_⟩
      generalize upd H6 T0 (.tup [V.int (i : Nat), V.ref e]) = H7 at s7 er
      -- others(error) != [..]
      refine ⟨_, rfl, e, o i, unit 7 i, rfl, er, Z.ro i hi, fun H8 p8 s8 n8 e8 => ?_⟩
      refine ⟨7, rfl, by decide, by decide, fun D hD => ?_⟩
      refine lc_range (lo := 0) (n := 7) (fun j H' => Same H8 H' ∧ H' D = some (.lst ((unit j i).map V.bl))) ⟨same_upd hD, upd_same⟩ (fun j H' hj z => ?_) (fun H9 z => ?_)
      · refine ⟨rfl, tYes_ite ⟨_, rfl, _, rfl, rfl, _, z.2, ?_, ?_, ?_⟩⟩
        · rw [List.length_map, unit_len]
          exact small1000 (by omega)
        · intro b y hb
          rw [upd_ne (ne_of_none hb hD)]
          exact z.1 b y hb
        · rw [upd_same, unit_next]
      obtain ⟨z1, z2⟩ := z
      have s9 : Same H7 H9 := s8.trans z1
      refine ⟨_, _, dp_list (z1 _ _ e8), dp_list z2, (unit7 i hi).1, (unit7 i hi).1, _, rfl, ifF (by rw [(unit7 i hi).2]; rfl) ?_⟩
      -- True in kinds(error)
      refine ⟨_, rfl, e, o i, List.replicate 9 false, rfl, er.same s9, Z.rk i hi, fun H10 p10 s10 n10 e10 => ?_⟩
      refine ⟨p10, _, rfl, .inl (SqL.of e10), rfl, no9_in.2, _, rfl, ifF (by exact no9_in.1) ?_⟩
      have s11 : Same H7 H10 := s9.trans s10
      -- isinstance(error, LinkError)
      obtain ⟨d, t, bmB, newId, k1, k2, k3⟩ := (er.same s11).ob
      refine ⟨_, rfl, e, o i, t, d, _, _, false, bmB, newId, rfl, k1, k2, k3, .own _, Z.rl i hi, _, rfl, ifF rfl ?_⟩
      -- bases(error) != [..]
      refine ⟨_, rfl, e, o i, row l, rfl, er.same s11, Z.rb i l hl, fun H12 p12 s12 n12 e12 => ?_⟩
      refine ⟨7, rfl, by decide, by decide, fun D2 hD2 => ?_⟩
      have s13 : Same H5 H12 := s7.trans (s11.trans s12)
      refine lc_range (lo := 0) (n := 7) (fun j H' => Same H12 H' ∧ H' D2 = some (.lst ((rowN j l).map V.bl))) ⟨same_upd hD2, upd_same⟩ (fun j H' hj z => ?_) (fun H14 z => ?_)
      · have e6'' := z.1 _ _ (s13 _ _ e6')
        have eb'' := z.1 _ _ (s13 _ _ eb)
        have at6 : atI (bs.map V.ref) (i : Int) = some (.ref b) := atI_nat (by rw [List.getElem?_map, hb]; rfl)
        refine ⟨rfl, tYes_ite ⟨_, rfl, _, rfl, _, rfl, p6, _, _, _, rfl, rfl, SqL.of e6'', at6, b, _, rfl, .inl (SqL.of eb''), rfl, okl.2.2, _, z.2, ?_, ?_, ?_⟩⟩
        · rw [List.length_map, rowN_len]
          exact small1000 (by omega)
        · intro b y hb
          rw [upd_ne (ne_of_none hb hD2)]
          exact z.1 b y hb
        · rw [upd_same]
          exact congrArg (fun q => some (HO.lst q)) (rowN_next j l)
      obtain ⟨z3, z4⟩ := z
      refine ⟨_, _, dp_list (z3 _ _ e12), dp_list (bs := row l) z4, okl.1, okl.1, _, rfl, ifF (by rw [okl.2.1]; rfl) ?_⟩
      exact ⟨_, _, rfl, s13.trans z3⟩
    rintro σ6 H6 ⟨u, v, rfl, s6⟩
    exact q _ (s1.trans (s2.trans (s25.trans s6)))
end
end K00
namespace K00
open PySem PySem.Spec PyProof.Rows L2 GL
open C8 (pss_cut tCut)
/-- the abstract heap without what stands at d -/
def hide (d : Addr) (H : Hp) : Hp := fun b => if b = d then none else H b
theorem hide_ne {d b : Addr} {H : Hp} (h : b ≠ d) : hide d H b = H b := if_neg h
theorem hide_sub {d : Addr} {H : Hp} : Same (hide d H) H := fun b o e => by
  by_cases h : b = d
  · have z : hide d H b = none := if_pos h
    rw [z] at e
    cases e
  · rw [hide_ne h] at e
    exact e
theorem hide_same {d : Addr} {H H' : Hp} (s : ∀ b o, b ≠ d → H b = some o → H' b = some o) : Same (hide d H) (hide d H') := fun b o e => by
  have h : b ≠ d := fun z => by
    have z2 : hide d H b = none := if_pos z
    rw [z2] at e
    cases e
  rw [hide_ne h] at e ⊢
  exact s b o h e
abbrev things : List PyData := [.none, .int 0, .int (-1), .str "a", .tuple [], .tuple [.str "a", .int 0], .list [.int 1], .dict [], .int (10 ^ 39), .tuple [.tuple [.str "a", .int 0], .tuple [.str "b", .int 1]], .bool true]
abbrev nums : List Int := [0, 1, 7, 20, 2000, 10 ^ 39]
abbrev rns : List PyData := [.tuple [], .tuple [.tuple [.str "a", .int 0]], .tuple [.tuple [.str "a", .int 0], .tuple [.str "b", .int 1]]]
theorem all_small : (things.all fun d => nums.all fun n => rns.all fun r => small (kept d n r)) = true := by decide +kernel
theorem one_small {d : PyData} {n : Int} {r : PyData} (hd : d ∈ things) (hn : n ∈ nums) (hr : r ∈ rns) : small (kept d n r) = true :=
  List.all_eq_true.mp (List.all_eq_true.mp (List.all_eq_true.mp all_small d hd) n hn) r hr
structure TxtL (K : PySem.W.Frag) (mg : Str → Option Value) (fD fR fO fM fV : Addr) (dD dR dO dM dV : FuncData) : Prop where
  D : Fun K "_law_dice" "_law_dice" sDice fD dD
  R : Fun K "_law_roll" "_law_roll" sRoll fR dR
  O : Fun K "_law_one_of" "_law_one_of" sOneOf fO dO
  M : Fun K "_law_messages_right" "_law_messages_right" sMess fM dM
  V : Fun K "_law_values_right" "_law_values_right" sVals fV dV
  bD : L2.Binds K dD ["_law_script", "_law_at"] []
  bR : L2.Binds K dR ["_law_dice_here", "_law_total"] []
  bO : L2.Binds K dO ["_law_dice_here", "_law_items"] []
  bM : L2.Binds K dM ["_law_text"] []
  bV : L2.Binds K dV ["_law_thing", "_law_number", "_law_run"] []
  gD : mg "_law_dice" = some (.ref fD)
  gR : mg "_law_roll" = some (.ref fR)
  gO : mg "_law_one_of" = some (.ref fO)
  gM : mg "_law_messages_right" = some (.ref fM)
  gV : mg "_law_values_right" = some (.ref fV)
  max : mg "max" = none
  min : mg "min" = none
abbrev nL : List Str := ["_law_script", "_law_at", "_law_dice_here", "_law_thing", "_law_text", "_law_number", "_law_run"]
theorem scLaw : FnScope nL ["_law_script"] (defScope sLaw) := ⟨rfl, rfl, rfl, by decide +kernel, rfl, by decide +kernel, by decide +kernel⟩
def spLaw (K : PySem.W.Frag) : Sp := fun vs H Q _ => ∃ (a : Addr) (ns : List Int), vs = [.ref a] ∧ SqL K H a (ns.map V.int) ∧ ns.length ≤ 63 ∧ ∀ H', Q (.bl true) H'
/-- a turn's dice: new in the turn, n times asked -/
def Turn (H0 : Hp) (d : Addr) (n : Nat) (H : Hp) : Prop := H0 d = none ∧ Same H0 H ∧ Dice H d n
theorem turn_upd {H0 H : Hp} {d : Addr} {n m : Nat} {o : HO} (t : Turn H0 d n H) (D : Dice (upd H d o) d m) : Turn H0 d m (upd H d o) := by
  refine ⟨t.1, fun b x e => ?_, D⟩
  have h : b ≠ d := fun z => by
    rw [z, t.1] at e
    cases e
  rw [upd_ne h]
  exact t.2.1 b x e
theorem hide_upd {H : Hp} {d : Addr} {o : HO} : Same (hide d H) (hide d (upd H d o)) := hide_same fun b x h e => by
  rw [upd_ne h]
  exact e
theorem turn_hide {H0 H : Hp} {d : Addr} {n : Nat} (o : HO) (_ : Turn H0 d n H) : Same (hide d H) (hide d (upd H d o)) := hide_upd
/-- something new beside the dice -/
theorem turn_new {H0 H : Hp} {d p : Addr} {n : Nat} {o : HO} (t : Turn H0 d n H) (h : H p = none) : Turn H0 d n (upd H p o) ∧ Same (hide d H) (hide d (upd H p o)) ∧ hide d (upd H p o) p = some o ∧ p ≠ d := by
  have ne : p ≠ d := fun z => by
    obtain ⟨g, s, c, e, _⟩ := t.2.2
    rw [z, e] at h
    cases h
  refine ⟨⟨t.1, t.2.1.trans (same_upd h), Dice.same t.2.2 (upd_ne ne.symm)⟩, hide_same fun b x _ e => same_upd h b x e, ?_, ne⟩
  rw [hide_ne ne, upd_same]
section
variable {P : Program} {w : World} {K : PySem.W.Frag} {mg : Str → Option Value} {base : Heap} {k o fI : Nat → Addr} {dI : Nat → FuncData} {lk fK fB fO fD fR fOne fM fV : Addr} {dK dB dO dD dR dOne dM dV : FuncData}
theorem ok_Law {f : Addr} {fd : FuncData} (F : Fun K "law" "law" sLaw f fd) (TD : TxtD mg) (T : TxtE K mg k o) (M : TxtM K mg k o lk) (L : TxtF K mg fK fB fO dK dB dO) (Z : TxtO K mg k o fI dI lk) (W : TxtL K mg fD fR fOne fM fV dD dR dOne dM dV) :
    FnG P w K mg base CX0 4 f fd ["_law_script"] (spLaw K) := by
  have GD : FnOk P w K mg base CX0 1 fD dD ["_law_script", "_law_at"] (spDice K) := ok_dice W.D TD
  have GO : FnOk P w K mg base CX0 2 fOne dOne ["_law_dice_here", "_law_items"] spOneOf := ok_oneOf W.O W.R W.bR W.gR TD
  have GM : FnOk P w K mg base CX0 2 fM dM ["_law_text"] spMess := ok_Mess W.M T M L
  have GV : FnG P w K mg base CX0 3 fV dV ["_law_thing", "_law_number", "_law_run"] spVals := ok_Vals W.V T M L Z
  refine fnG_ok F scLaw (fun vs H Q E h => ?_) (fun cdv A outer s H vs Q E hgd hr h => ?_)
  · obtain ⟨a, ns, rfl, _⟩ := h
    rfl
  · obtain ⟨a, ns, rfl, hS, hlen, q⟩ := h
    have hr1 : Room 1 _ := hr.mono (by decide)
    have hr2 : Room 2 _ := hr.mono (by decide)
    refine ⟨_, pss_cut (ps_for PassesOwn.never rfl (pi_range1 rfl M.range (pa_cons (pe_callB (call_max2 rfl) (by rfl) W.max (by decide +kernel) (pa_cons pe_int (pa_cons (pe_callB (call_min2 rfl) (by rfl) W.min (by decide +kernel) (pa_cons pe_int (pa_cons (pe_callB call_len_seq (by rfl) TD.len PySem.boot_len (pa_cons (pv 0) pa_nil)) pa_nil))) pa_nil))) pa_nil)) (pg_name (i := 1) scLaw.nd rfl (.inl rfl))
        (pss_cut (ps_set (i := 2) scLaw.nd rfl (.inl rfl) (pe_call GD hr1 (by rfl) W.gD W.D.kp W.bD .nil pass0 (pa_cons (pv 0) (pa_cons (pv 1) pa_nil))))
        (pss_cut (ps_set (i := 3) scLaw.nd rfl (.inl rfl) (pe_call GO hr2 (by rfl) W.gO W.O.kp W.bO .nil pass0 (pa_cons (pv 2) (pa_cons (pe_lst (pa_cons pe_non (pa_cons pe_int (pa_cons (pe_un un_neg pe_int) (pa_cons pe_str (pa_cons (pe_tup pa_nil) (pa_cons (pe_tup (pa_cons pe_str (pa_cons pe_int pa_nil))) (pa_cons (pe_lst4 (pa_cons pe_int pa_nil)) (pa_cons pe_dnewK (pa_cons (pe_op op_pow pe_int pe_int)
            (pa_cons (pe_tup (pa_cons (pe_tup (pa_cons pe_str (pa_cons pe_int pa_nil))) (pa_cons (pe_tup (pa_cons pe_str (pa_cons pe_int pa_nil))) pa_nil))) (pa_cons pe_bl pa_nil)))))))))))) pa_nil))))
        (pss_cut (ps_set (i := 4) scLaw.nd rfl (.inl rfl) (pe_call GO hr2 (by rfl) W.gO W.O.kp W.bO .nil pass0 (pa_cons (pv 2) (pa_cons (pe_lst (pa_cons pe_str (pa_cons pe_str (pa_cons pe_str (pa_cons pe_str pa_nil))))) pa_nil))))
        (pss_cut (ps_set (i := 5) scLaw.nd rfl (.inl rfl) (pe_call GO hr2 (by rfl) W.gO W.O.kp W.bO .nil pass0 (pa_cons (pv 2) (pa_cons (pe_lst (pa_cons pe_int (pa_cons pe_int (pa_cons pe_int (pa_cons pe_int (pa_cons pe_int (pa_cons (pe_op op_pow pe_int pe_int) pa_nil))))))) pa_nil))))
        (pss_cut (ps_set (i := 6) scLaw.nd rfl (.inl rfl) (pe_call GO hr2 (by rfl) W.gO W.O.kp W.bO .nil pass0 (pa_cons (pv 2) (pa_cons (pe_lst (pa_cons (pe_tup pa_nil) (pa_cons (pe_tup (pa_cons (pe_tup (pa_cons pe_str (pa_cons pe_int pa_nil))) pa_nil)) (pa_cons (pe_tup (pa_cons (pe_tup (pa_cons pe_str (pa_cons pe_int pa_nil))) (pa_cons (pe_tup (pa_cons pe_str (pa_cons pe_int pa_nil))) pa_nil))) pa_nil)))) pa_nil))))
        (pss_one (ps_if (PW.pt (pw_or (pt_not (pt_val (pe_call GM hr2 (by rfl) W.gM W.M.kp W.bM .nil pass0 (pa_cons (pv 4) pa_nil)))) (pw_or1 (pt_not (pt_val (pe_callG GV hgd hr (by rfl) W.gV W.V.kp W.bV .nil pass0 (pa_cons (pv 3) (pa_cons (pv 5) (pa_cons (pv 6) pa_nil))))))))) (pss_one (ps_ret pe_bl)) pss_nil))))))))
      (pss_one (ps_ret pe_bl)), ?_⟩
    refine ⟨fun σ' H' => True, ?_, fun σ' H' _ => q _⟩
    have hlt : (ns.map V.int).length ≤ 63 := by rw [List.length_map]; exact hlen
    refine ⟨_, rfl, a, _, rfl, .inl hS, _, _, rfl, _, _, rfl, ?_⟩
    obtain ⟨n, hn, hn6⟩ : ∃ n : Nat, (let m : Int := (if ((ns.map V.int).length : Int) < 6 then ((ns.map V.int).length : Int) else 6); if m > 1 then m else 1) = (n : Int) ∧ n ≤ 6 := by
      dsimp only
      by_cases c : ((ns.map V.int).length : Int) < 6
      · rw [if_pos c]
        by_cases c2 : ((ns.map V.int).length : Int) > 1
        · rw [if_pos c2]; exact ⟨_, rfl, by omega⟩
        · rw [if_neg c2]; exact ⟨1, rfl, by omega⟩
      · rw [if_neg c]; exact ⟨6, rfl, by omega⟩
    refine ⟨(n : Int), congrArg (fun z => [V.int z]) hn, by omega, by omega, ?_⟩
    rw [Int.toNat_natCast]
    refine for_range (lo := 0) (n := n) (fun i σ' H' => ∃ u1 u2 u3 u4 u5 u6 : Option V, σ' = [some (.ref a), u1, u2, u3, u4, u5, u6] ∧ Same H H') ⟨none, none, none, none, none, none, rfl, fun _ _ e => e⟩ ?_ (fun _ _ _ => True.intro)
    rintro i σ0 H0 hi ⟨u1, u2, u3, u4, u5, u6, rfl, s0⟩
    rw [Int.zero_add]
    -- dice
    refine ⟨fun σ' H' => ∃ d : Addr, σ' = [some (.ref a), some (.int i), some (.ref d), u3, u4, u5, u6] ∧ Turn H0 d 0 H', ?_, ?_⟩
    · exact ⟨_, rfl, _, rfl, a, ns, i, rfl, s0.seq hS, hlen, by omega, fun H1 d s1 hd D => ⟨d, rfl, hd, s1, D⟩⟩
    rintro σ1 H1 ⟨d, rfl, t1⟩
    have e39 : (10 : Int) ^ (39 : Int).toNat = 10 ^ 39 := by decide +kernel
    -- thing
    refine ⟨fun σ' H' => ∃ (x : V) (dx : PyData), σ' = [some (.ref a), some (.int i), some (.ref d), some x, u4, u5, u6] ∧ Turn H0 d 1 H' ∧ dx ∈ things ∧ Dz (hide d H') x dx, ?_, ?_⟩
    · refine ⟨_, rfl, _, rfl, (by show 0 ≤ sizeLine; decide), fun p1 h1 => ⟨(by show 2 ≤ sizeLine; decide), fun p2 h2 => ⟨(by show 1 ≤ sizeLine; decide), fun p3 h3 q3 p4 h4 => ⟨_, _, rfl, rfl, ⟨by decide, by decide, by decide⟩, (by show 2 ≤ sizeLine; decide), fun p5 h5 => ⟨(by show 2 ≤ sizeLine; decide), fun p6 h6 => ⟨(by show 2 ≤ sizeLine; decide), fun p7 h7 => ⟨(by show 11 ≤ sizeLine; decide), fun p8 h8 => ?_⟩⟩⟩⟩⟩⟩⟩
      obtain ⟨w1, c1, g1, n1⟩ := turn_new (o := .tup []) t1 h1
      obtain ⟨w2, c2, g2, n2⟩ := turn_new (o := .tup [.str "a", .int 0]) w1 h2
      obtain ⟨w3, c3, g3, n3⟩ := turn_new (o := .lst [.int 1]) w2 h3
      obtain ⟨w4, c4, g4, n4⟩ := turn_new (o := .dK []) w3 h4
      obtain ⟨w5, c5, g5, n5⟩ := turn_new (o := .tup [.str "a", .int 0]) w4 h5
      obtain ⟨w6, c6, g6, n6⟩ := turn_new (o := .tup [.str "b", .int 1]) w5 h6
      obtain ⟨w7, c7, g7, n7⟩ := turn_new (o := .tup [.ref p5, .ref p6]) w6 h7
      obtain ⟨w8, c8, g8, n8⟩ := turn_new (o := .lst [.non, .int 0, .int (-1), .str "a", .ref p1, .ref p2, .ref p3, .ref p4, .int (10 ^ (39 : Int).toNat), .ref p7, .bl true]) w7 h8
      refine ⟨d, p8, 0, _, rfl, w8.2.2, by decide, upd_same, n8, Nat.zero_lt_succ _, (by show 11 < 1000000; decide), fun x o hx D => ?_⟩
      have hc := turn_hide o w8
      have tu := turn_upd w8 D
      simp only [List.mem_cons, List.not_mem_nil, or_false] at hx
      rcases hx with rfl | rfl | rfl | rfl | rfl | rfl | rfl | rfl | rfl | rfl | rfl
      · exact ⟨_, .none, rfl, tu, by simp [things], .non⟩
      · exact ⟨_, .int 0, rfl, tu, by simp [things], .int 0⟩
      · exact ⟨_, .int (-1), rfl, tu, by simp [things], .int (-1)⟩
      · exact ⟨_, .str "a", rfl, tu, by simp [things], .str "a"⟩
      · exact ⟨_, .tuple [], rfl, tu, by simp [things], .tup ((c2.trans (c3.trans (c4.trans (c5.trans (c6.trans (c7.trans (c8.trans hc))))))) _ _ g1) .nil⟩
      · exact ⟨_, .tuple [.str "a", .int 0], rfl, tu, by simp [things], .tup ((c3.trans (c4.trans (c5.trans (c6.trans (c7.trans (c8.trans hc)))))) _ _ g2) (.cons (.str "a") (.cons (.int 0) .nil))⟩
      · exact ⟨_, .list [.int 1], rfl, tu, by simp [things], .lst q3 ((c4.trans (c5.trans (c6.trans (c7.trans (c8.trans hc))))) _ _ g3) (.cons (.int 1) .nil)⟩
      · exact ⟨_, .dict [], rfl, tu, by simp [things], .emp ((c5.trans (c6.trans (c7.trans (c8.trans hc)))) _ _ g4)⟩
      · exact ⟨_, .int (10 ^ 39), rfl, tu, by simp [things], by rw [e39]; exact .int _⟩
      · exact ⟨_, .tuple [.tuple [.str "a", .int 0], .tuple [.str "b", .int 1]], rfl, tu, by simp [things], .tup ((c8.trans hc) _ _ g7) (.cons (.tup ((c6.trans (c7.trans (c8.trans hc))) _ _ g5) (.cons (.str "a") (.cons (.int 0) .nil))) (.cons (.tup ((c7.trans (c8.trans hc)) _ _ g6) (.cons (.str "b") (.cons (.int 1) .nil))) .nil))⟩
      · exact ⟨_, .bool true, rfl, tu, by simp [things], .bl true⟩
    rintro σ2 H2 ⟨x, dx, rfl, t2, hdx, zx⟩
    refine ⟨fun σ' H' => ∃ m : Str, σ' = [some (.ref a), some (.int i), some (.ref d), some x, some (.str m), u5, u6] ∧ Turn H0 d 2 H' ∧ Dz (hide d H') x dx, ?_, ?_⟩
    · refine ⟨_, rfl, (by show 4 ≤ sizeLine; decide), fun p1 h1 => ?_⟩
      obtain ⟨w1, c1, g1, n1⟩ := turn_new (o := .lst [.str "a machine is expected", .str "", .str "x", .str "two words"]) t2 h1
      refine ⟨d, p1, 1, _, rfl, w1.2.2, by decide, upd_same, n1, by decide, by decide, fun y o hy D => ?_⟩
      have zx' := Dz.same (c1.trans (turn_hide o w1)) _ _ zx
      have tu := turn_upd w1 D
      simp only [List.mem_cons, List.not_mem_nil, or_false] at hy
      rcases hy with rfl | rfl | rfl | rfl <;> exact ⟨_, rfl, tu, zx'⟩
    rintro σ3 H3 ⟨m, rfl, t3, zx⟩
    refine ⟨fun σ' H' => ∃ n : Int, σ' = [some (.ref a), some (.int i), some (.ref d), some x, some (.str m), some (.int n), u6] ∧ Turn H0 d 3 H' ∧ n ∈ nums ∧ Dz (hide d H') x dx, ?_, ?_⟩
    · refine ⟨_, rfl, _, _, rfl, rfl, ⟨by decide, by decide, by decide⟩, (by show 6 ≤ sizeLine; decide), fun p1 h1 => ?_⟩
      obtain ⟨w1, c1, g1, n1⟩ := turn_new (o := .lst [.int 0, .int 1, .int 7, .int 20, .int 2000, .int (10 ^ (39 : Int).toNat)]) t3 h1
      refine ⟨d, p1, 2, _, rfl, w1.2.2, by decide, upd_same, n1, by decide, by decide, fun y o hy D => ?_⟩
      have zx' := Dz.same (c1.trans (turn_hide o w1)) _ _ zx
      have tu := turn_upd w1 D
      simp only [List.mem_cons, List.not_mem_nil, or_false] at hy
      rcases hy with rfl | rfl | rfl | rfl | rfl | rfl <;> exact ⟨_, rfl, tu, by simp [nums], zx'⟩
    rintro σ4 H4 ⟨n, rfl, t4, hn4, zx⟩
    refine ⟨fun σ' H' => ∃ (y : V) (dy : PyData), σ' = [some (.ref a), some (.int i), some (.ref d), some x, some (.str m), some (.int n), some y] ∧ Turn H0 d 4 H' ∧ dy ∈ rns ∧ Dz (hide d H') x dx ∧ Dz (hide d H') y dy, ?_, ?_⟩
    · refine ⟨_, rfl, (by show 0 ≤ sizeLine; decide), fun p1 h1 => ⟨(by show 2 ≤ sizeLine; decide), fun p2 h2 => ⟨(by show 1 ≤ sizeLine; decide), fun p3 h3 => ⟨(by show 2 ≤ sizeLine; decide), fun p4 h4 => ⟨(by show 2 ≤ sizeLine; decide), fun p5 h5 => ⟨(by show 2 ≤ sizeLine; decide), fun p6 h6 => ⟨(by show 3 ≤ sizeLine; decide), fun p7 h7 => ?_⟩⟩⟩⟩⟩⟩⟩
      obtain ⟨w1, c1, g1, n1⟩ := turn_new (o := .tup []) t4 h1
      obtain ⟨w2, c2, g2, n2⟩ := turn_new (o := .tup [.str "a", .int 0]) w1 h2
      obtain ⟨w3, c3, g3, n3⟩ := turn_new (o := .tup [.ref p2]) w2 h3
      obtain ⟨w4, c4, g4, n4⟩ := turn_new (o := .tup [.str "a", .int 0]) w3 h4
      obtain ⟨w5, c5, g5, n5⟩ := turn_new (o := .tup [.str "b", .int 1]) w4 h5
      obtain ⟨w6, c6, g6, n6⟩ := turn_new (o := .tup [.ref p4, .ref p5]) w5 h6
      obtain ⟨w7, c7, g7, n7⟩ := turn_new (o := .lst [.ref p1, .ref p3, .ref p6]) w6 h7
      refine ⟨d, p7, 3, _, rfl, w7.2.2, by decide, upd_same, n7, Nat.zero_lt_succ _, (by show 3 < 1000000; decide), fun y o hy D => ?_⟩
      have hc := turn_hide o w7
      have zx' := Dz.same ((c1.trans (c2.trans (c3.trans (c4.trans (c5.trans (c6.trans (c7.trans hc)))))))) _ _ zx
      have tu := turn_upd w7 D
      simp only [List.mem_cons, List.not_mem_nil, or_false] at hy
      rcases hy with rfl | rfl | rfl
      · exact ⟨_, .tuple [], rfl, tu, by simp [rns], zx', .tup ((c2.trans (c3.trans (c4.trans (c5.trans (c6.trans (c7.trans hc)))))) _ _ g1) .nil⟩
      · exact ⟨_, .tuple [.tuple [.str "a", .int 0]], rfl, tu, by simp [rns], zx', .tup ((c4.trans (c5.trans (c6.trans (c7.trans hc)))) _ _ g3) (.cons (.tup ((c3.trans (c4.trans (c5.trans (c6.trans (c7.trans hc))))) _ _ g2) (.cons (.str "a") (.cons (.int 0) .nil))) .nil)⟩
      · exact ⟨_, .tuple [.tuple [.str "a", .int 0], .tuple [.str "b", .int 1]], rfl, tu, by simp [rns], zx', .tup ((c7.trans hc) _ _ g6) (.cons (.tup ((c5.trans (c6.trans (c7.trans hc))) _ _ g4) (.cons (.str "a") (.cons (.int 0) .nil))) (.cons (.tup ((c6.trans (c7.trans hc)) _ _ g5) (.cons (.str "b") (.cons (.int 1) .nil))) .nil))⟩
    rintro σ5 H5 ⟨y, dy, rfl, t5, hdy, zx, zy⟩
    have s5 : Same H H5 := s0.trans t5.2.1
    refine ⟨_, rfl, m, rfl, fun H6 s6 => ⟨_, rfl, ifF rfl ?_⟩⟩
    have zs : Same (hide d H5) H6 := hide_sub.trans s6
    refine ⟨_, rfl, _, rfl, _, rfl, x, y, n, dx, dy, rfl, Dz.same zs _ _ zx, Dz.same zs _ _ zy, one_small hdx hn4 hdy, fun H7 s7 => ⟨_, rfl, ifF rfl ?_⟩⟩
    exact ⟨_, _, _, _, _, _, rfl, s5.trans (s6.trans s7)⟩
end
end K00
namespace K00
open PySem PySem.Spec PyProof.Rows L2 GL
theorem rows7 {K : PySem.W.Frag} {C : Addr} {u0 u1 u2 u3 u4 u5 u6 : Value} {b0 b1 b2 b3 b4 b5 b6 : Bool} (h0 : PySem.W.kitOne K (.ref C) u0 = some b0) (h1 : PySem.W.kitOne K (.ref C) u1 = some b1) (h2 : PySem.W.kitOne K (.ref C) u2 = some b2) (h3 : PySem.W.kitOne K (.ref C) u3 = some b3) (h4 : PySem.W.kitOne K (.ref C) u4 = some b4) (h5 : PySem.W.kitOne K (.ref C) u5 = some b5) (h6 : PySem.W.kitOne K (.ref C) u6 = some b6) : Rows K C [u0, u1, u2, u3, u4, u5, u6] [b0, b1, b2, b3, b4, b5, b6] := .cons h0 (.cons h1 (.cons h2 (.cons h3 (.cons h4 (.cons h5 (.cons h6 (.nil)))))))
theorem rows9 {K : PySem.W.Frag} {C : Addr} {u0 u1 u2 u3 u4 u5 u6 u7 u8 : Value} {b0 b1 b2 b3 b4 b5 b6 b7 b8 : Bool} (h0 : PySem.W.kitOne K (.ref C) u0 = some b0) (h1 : PySem.W.kitOne K (.ref C) u1 = some b1) (h2 : PySem.W.kitOne K (.ref C) u2 = some b2) (h3 : PySem.W.kitOne K (.ref C) u3 = some b3) (h4 : PySem.W.kitOne K (.ref C) u4 = some b4) (h5 : PySem.W.kitOne K (.ref C) u5 = some b5) (h6 : PySem.W.kitOne K (.ref C) u6 = some b6) (h7 : PySem.W.kitOne K (.ref C) u7 = some b7) (h8 : PySem.W.kitOne K (.ref C) u8 = some b8) : Rows K C [u0, u1, u2, u3, u4, u5, u6, u7, u8] [b0, b1, b2, b3, b4, b5, b6, b7, b8] := .cons h0 (.cons h1 (.cons h2 (.cons h3 (.cons h4 (.cons h5 (.cons h6 (.cons h7 (.cons h8 (.nil)))))))))
/-- one of the nine kinds -/
structure KindC (K : PySem.W.Frag) (C lk : Addr) : Prop where
  c : ErrC K C ve "ValueError.__new__"
  ini : PySem.W.findIn K (.ref C) "__init__" = some (some (.builtin "ValueError.__init__"))
  st : PySem.W.findIn K (.ref C) "__str__" = some (some (.builtin "BaseException.__str__"))
  rl : PySem.W.kitOne K (.ref C) (.ref lk) = some true
theorem all_mk {l : PySem.W.OpenLaw} {w : World} {K : PySem.W.Frag} {h : Heap} {mg : Str → Option Value} {fa lk k0 k1 k2 k3 k4 k5 k6 k7 k8 o0 o1 o2 o3 o4 o5 o6 fD fR fO fK fB fT fM fV fL i0 i1 i2 i3 i4 i5 i6 : Addr} {dD dR dO dK dB dT dM dV dL e0 e1 e2 e3 e4 e5 e6 : FuncData} (X : K.In h) (G : h.Ns mainGlobals mg) (hfa : mg "law" = some (.ref fa))
    (ak0 : PySem.W.nsIn K mainGlobals "InvalidMachine" = some (some (.ref k0)))
    (ak1 : PySem.W.nsIn K mainGlobals "InvalidNetwork" = some (some (.ref k1)))
    (ak2 : PySem.W.nsIn K mainGlobals "InvalidLogs" = some (some (.ref k2)))
    (ak3 : PySem.W.nsIn K mainGlobals "InvalidConfiguration" = some (some (.ref k3)))
    (ak4 : PySem.W.nsIn K mainGlobals "InvalidView" = some (some (.ref k4)))
    (ak5 : PySem.W.nsIn K mainGlobals "InvalidWord" = some (some (.ref k5)))
    (ak6 : PySem.W.nsIn K mainGlobals "InvalidOperation" = some (some (.ref k6)))
    (ak7 : PySem.W.nsIn K mainGlobals "ParseError" = some (some (.ref k7)))
    (ak8 : PySem.W.nsIn K mainGlobals "InvalidCommand" = some (some (.ref k8)))
    (ao0 : PySem.W.nsIn K mainGlobals "UnknownName" = some (some (.ref o0)))
    (ao1 : PySem.W.nsIn K mainGlobals "InvalidNumber" = some (some (.ref o1)))
    (ao2 : PySem.W.nsIn K mainGlobals "InvalidRun" = some (some (.ref o2)))
    (ao3 : PySem.W.nsIn K mainGlobals "InvalidPath" = some (some (.ref o3)))
    (ao4 : PySem.W.nsIn K mainGlobals "TooMany" = some (some (.ref o4)))
    (ao5 : PySem.W.nsIn K mainGlobals "Crossed" = some (some (.ref o5)))
    (ao6 : PySem.W.nsIn K mainGlobals "NothingToUndo" = some (some (.ref o6)))
    (al : PySem.W.nsIn K mainGlobals "LinkError" = some (some (.ref lk)))
    (afD : PySem.W.nsIn K mainGlobals "_law_dice" = some (some (.ref fD)))
    (afR : PySem.W.nsIn K mainGlobals "_law_roll" = some (some (.ref fR)))
    (afO : PySem.W.nsIn K mainGlobals "_law_one_of" = some (some (.ref fO)))
    (afK : PySem.W.nsIn K mainGlobals "_law_kinds" = some (some (.ref fK)))
    (afB : PySem.W.nsIn K mainGlobals "_law_bases" = some (some (.ref fB)))
    (afT : PySem.W.nsIn K mainGlobals "_law_others" = some (some (.ref fT)))
    (afM : PySem.W.nsIn K mainGlobals "_law_messages_right" = some (some (.ref fM)))
    (afV : PySem.W.nsIn K mainGlobals "_law_values_right" = some (some (.ref fV)))
    (afL : PySem.W.nsIn K mainGlobals "law" = some (some (.ref fL)))
    (zValueError : PySem.W.nsIn K mainGlobals "ValueError" = some none)
    (zKeyError : PySem.W.nsIn K mainGlobals "KeyError" = some none)
    (zIndexError : PySem.W.nsIn K mainGlobals "IndexError" = some none)
    (zLookupError : PySem.W.nsIn K mainGlobals "LookupError" = some none)
    (zOverflowError : PySem.W.nsIn K mainGlobals "OverflowError" = some none)
    (zRuntimeError : PySem.W.nsIn K mainGlobals "RuntimeError" = some none)
    (zArithmeticError : PySem.W.nsIn K mainGlobals "ArithmeticError" = some none)
    (zisinstance : PySem.W.nsIn K mainGlobals "isinstance" = some none)
    (zlen : PySem.W.nsIn K mainGlobals "len" = some none)
    (zabs : PySem.W.nsIn K mainGlobals "abs" = some none)
    (zint : PySem.W.nsIn K mainGlobals "int" = some none)
    (zenumerate : PySem.W.nsIn K mainGlobals "enumerate" = some none)
    (zrange : PySem.W.nsIn K mainGlobals "range" = some none)
    (zstr : PySem.W.nsIn K mainGlobals "str" = some none)
    (zrepr : PySem.W.nsIn K mainGlobals "repr" = some none)
    (zmax : PySem.W.nsIn K mainGlobals "max" = some none)
    (zmin : PySem.W.nsIn K mainGlobals "min" = some none)
    (ii0 : PySem.W.findIn K (.ref o0) "__init__" = some (some (.ref i0)))
    (ii1 : PySem.W.findIn K (.ref o1) "__init__" = some (some (.ref i1)))
    (ii2 : PySem.W.findIn K (.ref o2) "__init__" = some (some (.ref i2)))
    (ii3 : PySem.W.findIn K (.ref o3) "__init__" = some (some (.ref i3)))
    (ii4 : PySem.W.findIn K (.ref o4) "__init__" = some (some (.ref i4)))
    (ii5 : PySem.W.findIn K (.ref o5) "__init__" = some (some (.ref i5)))
    (ii6 : PySem.W.findIn K (.ref o6) "__init__" = some (some (.ref i6)))
    (it0 : PySem.W.typeIn K (.ref i0) = some (.type "function"))
    (it1 : PySem.W.typeIn K (.ref i1) = some (.type "function"))
    (it2 : PySem.W.typeIn K (.ref i2) = some (.type "function"))
    (it3 : PySem.W.typeIn K (.ref i3) = some (.type "function"))
    (it4 : PySem.W.typeIn K (.ref i4) = some (.type "function"))
    (it5 : PySem.W.typeIn K (.ref i5) = some (.type "function"))
    (it6 : PySem.W.typeIn K (.ref i6) = some (.type "function"))
    (g1 : PySem.W.specialIn K (.builtin "object.__class__") "__get__" = some (some (.builtin "getset_descriptor.__get__")))
    (g2 : PySem.W.takesIn K (.builtin "object.__class__") = some true)
    (FD : Fun K "_law_dice" "_law_dice" sDice fD dD)
    (FR : Fun K "_law_roll" "_law_roll" sRoll fR dR)
    (FO : Fun K "_law_one_of" "_law_one_of" sOneOf fO dO)
    (FK : Fun K "_law_kinds" "_law_kinds" sKinds fK dK)
    (FB : Fun K "_law_bases" "_law_bases" sBases fB dB)
    (FT : Fun K "_law_others" "_law_others" sOthers fT dT)
    (FM : Fun K "_law_messages_right" "_law_messages_right" sMess fM dM)
    (FV : Fun K "_law_values_right" "_law_values_right" sVals fV dV)
    (FL : Fun K "law" "law" sLaw fL dL)
    (FI0 : Fun K "__init__" "UnknownName.__init__" sI0 i0 e0)
    (FI1 : Fun K "__init__" "InvalidNumber.__init__" sI1 i1 e1)
    (FI2 : Fun K "__init__" "InvalidRun.__init__" sI2 i2 e2)
    (FI3 : Fun K "__init__" "InvalidPath.__init__" sI3 i3 e3)
    (FI4 : Fun K "__init__" "TooMany.__init__" sI4 i4 e4)
    (FI5 : Fun K "__init__" "Crossed.__init__" sI5 i5 e5)
    (FI6 : Fun K "__init__" "NothingToUndo.__init__" sI6 i6 e6)
    (ck0 : KindC K k0 lk)
    (ck1 : KindC K k1 lk)
    (ck2 : KindC K k2 lk)
    (ck3 : KindC K k3 lk)
    (ck4 : KindC K k4 lk)
    (ck5 : KindC K k5 lk)
    (ck6 : KindC K k6 lk)
    (ck7 : KindC K k7 lk)
    (ck8 : KindC K k8 lk)
    (cl : ErrC K lk ve "ValueError.__new__")
    (il : PySem.W.findIn K (.ref lk) "__init__" = some (some (.builtin "ValueError.__init__")))
    (sl : PySem.W.findIn K (.ref lk) "__str__" = some (some (.builtin "BaseException.__str__")))
    (co0 : ErrC K o0 chKeyError "LookupError.__new__")
    (co1 : ErrC K o1 chIndexError "IndexError.__new__")
    (co2 : ErrC K o2 chLookupError "LookupError.__new__")
    (co3 : ErrC K o3 chLookupError "LookupError.__new__")
    (co4 : ErrC K o4 chOverflowError "OverflowError.__new__")
    (co5 : ErrC K o5 chRuntimeError "RuntimeError.__new__")
    (co6 : ErrC K o6 chArithmeticError "ArithmeticError.__new__")
    (cf0 : ErrF K o0 chKeyError "name")
    (cf1 : ErrF K o1 chIndexError "value")
    (cf2 : ErrF K o2 chLookupError "at")
    (cf3 : ErrF K o3 chLookupError "at")
    (cf4 : ErrF K o4 chOverflowError "limit")
    (cf5 : ErrF K o5 chRuntimeError "run")
    (cf6 : ErrF K o6 chArithmeticError "many")
    (rl0 : PySem.W.kitOne K (.ref o0) (.ref lk) = some false)
    (rl1 : PySem.W.kitOne K (.ref o1) (.ref lk) = some false)
    (rl2 : PySem.W.kitOne K (.ref o2) (.ref lk) = some false)
    (rl3 : PySem.W.kitOne K (.ref o3) (.ref lk) = some false)
    (rl4 : PySem.W.kitOne K (.ref o4) (.ref lk) = some false)
    (rl5 : PySem.W.kitOne K (.ref o5) (.ref lk) = some false)
    (rl6 : PySem.W.kitOne K (.ref o6) (.ref lk) = some false)
    (rkk0 : Rows K k0 [.ref k0, .ref k1, .ref k2, .ref k3, .ref k4, .ref k5, .ref k6, .ref k7, .ref k8] [true, false, false, false, false, false, false, false, false])
    (rkk1 : Rows K k1 [.ref k0, .ref k1, .ref k2, .ref k3, .ref k4, .ref k5, .ref k6, .ref k7, .ref k8] [false, true, false, false, false, false, false, false, false])
    (rkk2 : Rows K k2 [.ref k0, .ref k1, .ref k2, .ref k3, .ref k4, .ref k5, .ref k6, .ref k7, .ref k8] [false, false, true, false, false, false, false, false, false])
    (rkk3 : Rows K k3 [.ref k0, .ref k1, .ref k2, .ref k3, .ref k4, .ref k5, .ref k6, .ref k7, .ref k8] [false, false, false, true, false, false, false, false, false])
    (rkk4 : Rows K k4 [.ref k0, .ref k1, .ref k2, .ref k3, .ref k4, .ref k5, .ref k6, .ref k7, .ref k8] [false, false, false, false, true, false, false, false, false])
    (rkk5 : Rows K k5 [.ref k0, .ref k1, .ref k2, .ref k3, .ref k4, .ref k5, .ref k6, .ref k7, .ref k8] [false, false, false, false, false, true, false, false, false])
    (rkk6 : Rows K k6 [.ref k0, .ref k1, .ref k2, .ref k3, .ref k4, .ref k5, .ref k6, .ref k7, .ref k8] [false, false, false, false, false, false, true, false, false])
    (rkk7 : Rows K k7 [.ref k0, .ref k1, .ref k2, .ref k3, .ref k4, .ref k5, .ref k6, .ref k7, .ref k8] [false, false, false, false, false, false, false, true, false])
    (rkk8 : Rows K k8 [.ref k0, .ref k1, .ref k2, .ref k3, .ref k4, .ref k5, .ref k6, .ref k7, .ref k8] [false, false, false, false, false, false, false, false, true])
    (rlk : Rows K lk [.ref k0, .ref k1, .ref k2, .ref k3, .ref k4, .ref k5, .ref k6, .ref k7, .ref k8] [false, false, false, false, false, false, false, false, false])
    (rok0 : Rows K o0 [.ref k0, .ref k1, .ref k2, .ref k3, .ref k4, .ref k5, .ref k6, .ref k7, .ref k8] [false, false, false, false, false, false, false, false, false])
    (rok1 : Rows K o1 [.ref k0, .ref k1, .ref k2, .ref k3, .ref k4, .ref k5, .ref k6, .ref k7, .ref k8] [false, false, false, false, false, false, false, false, false])
    (rok2 : Rows K o2 [.ref k0, .ref k1, .ref k2, .ref k3, .ref k4, .ref k5, .ref k6, .ref k7, .ref k8] [false, false, false, false, false, false, false, false, false])
    (rok3 : Rows K o3 [.ref k0, .ref k1, .ref k2, .ref k3, .ref k4, .ref k5, .ref k6, .ref k7, .ref k8] [false, false, false, false, false, false, false, false, false])
    (rok4 : Rows K o4 [.ref k0, .ref k1, .ref k2, .ref k3, .ref k4, .ref k5, .ref k6, .ref k7, .ref k8] [false, false, false, false, false, false, false, false, false])
    (rok5 : Rows K o5 [.ref k0, .ref k1, .ref k2, .ref k3, .ref k4, .ref k5, .ref k6, .ref k7, .ref k8] [false, false, false, false, false, false, false, false, false])
    (rok6 : Rows K o6 [.ref k0, .ref k1, .ref k2, .ref k3, .ref k4, .ref k5, .ref k6, .ref k7, .ref k8] [false, false, false, false, false, false, false, false, false])
    (rkb0 : Rows K k0 [.type "ValueError", .type "KeyError", .type "IndexError", .type "LookupError", .type "OverflowError", .type "RuntimeError", .type "ArithmeticError"] [true, false, false, false, false, false, false])
    (rko0 : Rows K k0 [.ref o0, .ref o1, .ref o2, .ref o3, .ref o4, .ref o5, .ref o6] [false, false, false, false, false, false, false])
    (rkb1 : Rows K k1 [.type "ValueError", .type "KeyError", .type "IndexError", .type "LookupError", .type "OverflowError", .type "RuntimeError", .type "ArithmeticError"] [true, false, false, false, false, false, false])
    (rko1 : Rows K k1 [.ref o0, .ref o1, .ref o2, .ref o3, .ref o4, .ref o5, .ref o6] [false, false, false, false, false, false, false])
    (rkb2 : Rows K k2 [.type "ValueError", .type "KeyError", .type "IndexError", .type "LookupError", .type "OverflowError", .type "RuntimeError", .type "ArithmeticError"] [true, false, false, false, false, false, false])
    (rko2 : Rows K k2 [.ref o0, .ref o1, .ref o2, .ref o3, .ref o4, .ref o5, .ref o6] [false, false, false, false, false, false, false])
    (rkb3 : Rows K k3 [.type "ValueError", .type "KeyError", .type "IndexError", .type "LookupError", .type "OverflowError", .type "RuntimeError", .type "ArithmeticError"] [true, false, false, false, false, false, false])
    (rko3 : Rows K k3 [.ref o0, .ref o1, .ref o2, .ref o3, .ref o4, .ref o5, .ref o6] [false, false, false, false, false, false, false])
    (rkb4 : Rows K k4 [.type "ValueError", .type "KeyError", .type "IndexError", .type "LookupError", .type "OverflowError", .type "RuntimeError", .type "ArithmeticError"] [true, false, false, false, false, false, false])
    (rko4 : Rows K k4 [.ref o0, .ref o1, .ref o2, .ref o3, .ref o4, .ref o5, .ref o6] [false, false, false, false, false, false, false])
    (rkb5 : Rows K k5 [.type "ValueError", .type "KeyError", .type "IndexError", .type "LookupError", .type "OverflowError", .type "RuntimeError", .type "ArithmeticError"] [true, false, false, false, false, false, false])
    (rko5 : Rows K k5 [.ref o0, .ref o1, .ref o2, .ref o3, .ref o4, .ref o5, .ref o6] [false, false, false, false, false, false, false])
    (rkb6 : Rows K k6 [.type "ValueError", .type "KeyError", .type "IndexError", .type "LookupError", .type "OverflowError", .type "RuntimeError", .type "ArithmeticError"] [true, false, false, false, false, false, false])
    (rko6 : Rows K k6 [.ref o0, .ref o1, .ref o2, .ref o3, .ref o4, .ref o5, .ref o6] [false, false, false, false, false, false, false])
    (rkb7 : Rows K k7 [.type "ValueError", .type "KeyError", .type "IndexError", .type "LookupError", .type "OverflowError", .type "RuntimeError", .type "ArithmeticError"] [true, false, false, false, false, false, false])
    (rko7 : Rows K k7 [.ref o0, .ref o1, .ref o2, .ref o3, .ref o4, .ref o5, .ref o6] [false, false, false, false, false, false, false])
    (rkb8 : Rows K k8 [.type "ValueError", .type "KeyError", .type "IndexError", .type "LookupError", .type "OverflowError", .type "RuntimeError", .type "ArithmeticError"] [true, false, false, false, false, false, false])
    (rko8 : Rows K k8 [.ref o0, .ref o1, .ref o2, .ref o3, .ref o4, .ref o5, .ref o6] [false, false, false, false, false, false, false])
    (rlb : Rows K lk [.type "ValueError", .type "KeyError", .type "IndexError", .type "LookupError", .type "OverflowError", .type "RuntimeError", .type "ArithmeticError"] [true, false, false, false, false, false, false])
    (roo0 : Rows K o0 [.ref o0, .ref o1, .ref o2, .ref o3, .ref o4, .ref o5, .ref o6] [true, false, false, false, false, false, false])
    (rob0 : Rows K o0 [.type "ValueError", .type "KeyError", .type "IndexError", .type "LookupError", .type "OverflowError", .type "RuntimeError", .type "ArithmeticError"] [false, true, false, true, false, false, false])
    (roo1 : Rows K o1 [.ref o0, .ref o1, .ref o2, .ref o3, .ref o4, .ref o5, .ref o6] [false, true, false, false, false, false, false])
    (rob1 : Rows K o1 [.type "ValueError", .type "KeyError", .type "IndexError", .type "LookupError", .type "OverflowError", .type "RuntimeError", .type "ArithmeticError"] [false, false, true, true, false, false, false])
    (roo2 : Rows K o2 [.ref o0, .ref o1, .ref o2, .ref o3, .ref o4, .ref o5, .ref o6] [false, false, true, false, false, false, false])
    (rob2 : Rows K o2 [.type "ValueError", .type "KeyError", .type "IndexError", .type "LookupError", .type "OverflowError", .type "RuntimeError", .type "ArithmeticError"] [false, false, false, true, false, false, false])
    (roo3 : Rows K o3 [.ref o0, .ref o1, .ref o2, .ref o3, .ref o4, .ref o5, .ref o6] [false, false, false, true, false, false, false])
    (rob3 : Rows K o3 [.type "ValueError", .type "KeyError", .type "IndexError", .type "LookupError", .type "OverflowError", .type "RuntimeError", .type "ArithmeticError"] [false, false, false, true, false, false, false])
    (roo4 : Rows K o4 [.ref o0, .ref o1, .ref o2, .ref o3, .ref o4, .ref o5, .ref o6] [false, false, false, false, true, false, false])
    (rob4 : Rows K o4 [.type "ValueError", .type "KeyError", .type "IndexError", .type "LookupError", .type "OverflowError", .type "RuntimeError", .type "ArithmeticError"] [false, false, false, false, true, false, true])
    (roo5 : Rows K o5 [.ref o0, .ref o1, .ref o2, .ref o3, .ref o4, .ref o5, .ref o6] [false, false, false, false, false, true, false])
    (rob5 : Rows K o5 [.type "ValueError", .type "KeyError", .type "IndexError", .type "LookupError", .type "OverflowError", .type "RuntimeError", .type "ArithmeticError"] [false, false, false, false, false, true, false])
    (roo6 : Rows K o6 [.ref o0, .ref o1, .ref o2, .ref o3, .ref o4, .ref o5, .ref o6] [false, false, false, false, false, false, true])
    (rob6 : Rows K o6 [.type "ValueError", .type "KeyError", .type "IndexError", .type "LookupError", .type "OverflowError", .type "RuntimeError", .type "ArithmeticError"] [false, false, false, false, false, false, true])
    : ∃ fd : FuncData, (∀ (s : Shared) (v : Value), BindsTo s fd ⟨[v], []⟩ [("_law_script", v)]) ∧ ∀ base : Heap, K.In base → base.Ns mainGlobals mg → FnG l.prog w K mg base CX0 4 fa fd ["_law_script"] (spLaw K) := by
  have e := hfa.symm.trans (PySem.W.mg_of X G afL)
  cases e
  have bD := FD.binds (ps := ["_law_script", "_law_at"]) fun _ _ _ _ _ _ us hl => match us, hl with | [_, _], _ => rfl
  have bR := FR.binds (ps := ["_law_dice_here", "_law_total"]) fun _ _ _ _ _ _ us hl => match us, hl with | [_, _], _ => rfl
  have bO := FO.binds (ps := ["_law_dice_here", "_law_items"]) fun _ _ _ _ _ _ us hl => match us, hl with | [_, _], _ => rfl
  have bK := FK.binds (ps := ["_law_error"]) fun _ _ _ _ _ _ us hl => match us, hl with | [_], _ => rfl
  have bB := FB.binds (ps := ["_law_error"]) fun _ _ _ _ _ _ us hl => match us, hl with | [_], _ => rfl
  have bT := FT.binds (ps := ["_law_error"]) fun _ _ _ _ _ _ us hl => match us, hl with | [_], _ => rfl
  have bM := FM.binds (ps := ["_law_text"]) fun _ _ _ _ _ _ us hl => match us, hl with | [_], _ => rfl
  have bV := FV.binds (ps := ["_law_thing", "_law_number", "_law_run"]) fun _ _ _ _ _ _ us hl => match us, hl with | [_, _, _], _ => rfl
  have c0 := FI0.binds (ps := ["self", "name"]) fun _ _ _ _ _ _ us hl => match us, hl with | [_, _], _ => rfl
  have c1 := FI1.binds (ps := ["self", "value"]) fun _ _ _ _ _ _ us hl => match us, hl with | [_, _], _ => rfl
  have c2 := FI2.binds (ps := ["self", "at"]) fun _ _ _ _ _ _ us hl => match us, hl with | [_, _], _ => rfl
  have c3 := FI3.binds (ps := ["self", "at"]) fun _ _ _ _ _ _ us hl => match us, hl with | [_, _], _ => rfl
  have c4 := FI4.binds (ps := ["self", "limit"]) fun _ _ _ _ _ _ us hl => match us, hl with | [_, _], _ => rfl
  have c5 := FI5.binds (ps := ["self", "run"]) fun _ _ _ _ _ _ us hl => match us, hl with | [_, _], _ => rfl
  have c6 := FI6.binds (ps := ["self", "many"]) fun _ _ _ _ _ _ us hl => match us, hl with | [_, _], _ => rfl
  have T : TxtE K mg (fun i => [k0, k1, k2, k3, k4, k5, k6, k7, k8].getD i lk) (fun i => [o0, o1, o2, o3, o4, o5, o6].getD i lk) := ⟨(PySem.W.mg_none_of X G zisinstance), (PySem.W.mg_of X G ak0), (PySem.W.mg_of X G ak1), (PySem.W.mg_of X G ak2), (PySem.W.mg_of X G ak3), (PySem.W.mg_of X G ak4), (PySem.W.mg_of X G ak5), (PySem.W.mg_of X G ak6), (PySem.W.mg_of X G ak7), (PySem.W.mg_of X G ak8), (PySem.W.mg_of X G ao0), (PySem.W.mg_of X G ao1), (PySem.W.mg_of X G ao2), (PySem.W.mg_of X G ao3), (PySem.W.mg_of X G ao4), (PySem.W.mg_of X G ao5), (PySem.W.mg_of X G ao6), (PySem.W.mg_none_of X G zValueError), (PySem.W.mg_none_of X G zKeyError), (PySem.W.mg_none_of X G zIndexError), (PySem.W.mg_none_of X G zLookupError), (PySem.W.mg_none_of X G zOverflowError), (PySem.W.mg_none_of X G zRuntimeError), (PySem.W.mg_none_of X G zArithmeticError), ⟨g1, g2⟩⟩
  have TD : TxtD mg := ⟨(PySem.W.mg_none_of X G zlen), (PySem.W.mg_none_of X G zabs), (PySem.W.mg_none_of X G zint), (PySem.W.mg_none_of X G zenumerate)⟩
  have L : TxtF K mg fK fB fT dK dB dT := ⟨FK, FB, FT, bK, bB, bT, (PySem.W.mg_of X G afK), (PySem.W.mg_of X G afB), (PySem.W.mg_of X G afT)⟩
  have W : TxtL K mg fD fR fO fM fV dD dR dO dM dV := ⟨FD, FR, FO, FM, FV, bD, bR, bO, bM, bV, (PySem.W.mg_of X G afD), (PySem.W.mg_of X G afR), (PySem.W.mg_of X G afO), (PySem.W.mg_of X G afM), (PySem.W.mg_of X G afV), (PySem.W.mg_none_of X G zmax), (PySem.W.mg_none_of X G zmin)⟩
  have u9 : ∀ i, i < 9 → Rows K ((fun i => [k0, k1, k2, k3, k4, k5, k6, k7, k8].getD i lk) i) (usK (fun i => [k0, k1, k2, k3, k4, k5, k6, k7, k8].getD i lk)) (unit 9 i) := by
    intro i hi
    match i, hi with
    | 0, _ => exact (show Rows K k0 [.ref k0, .ref k1, .ref k2, .ref k3, .ref k4, .ref k5, .ref k6, .ref k7, .ref k8] (unit 9 0) from (by decide +kernel : [true, false, false, false, false, false, false, false, false] = unit 9 0) ▸ rkk0)
    | 1, _ => exact (show Rows K k1 [.ref k0, .ref k1, .ref k2, .ref k3, .ref k4, .ref k5, .ref k6, .ref k7, .ref k8] (unit 9 1) from (by decide +kernel : [false, true, false, false, false, false, false, false, false] = unit 9 1) ▸ rkk1)
    | 2, _ => exact (show Rows K k2 [.ref k0, .ref k1, .ref k2, .ref k3, .ref k4, .ref k5, .ref k6, .ref k7, .ref k8] (unit 9 2) from (by decide +kernel : [false, false, true, false, false, false, false, false, false] = unit 9 2) ▸ rkk2)
    | 3, _ => exact (show Rows K k3 [.ref k0, .ref k1, .ref k2, .ref k3, .ref k4, .ref k5, .ref k6, .ref k7, .ref k8] (unit 9 3) from (by decide +kernel : [false, false, false, true, false, false, false, false, false] = unit 9 3) ▸ rkk3)
    | 4, _ => exact (show Rows K k4 [.ref k0, .ref k1, .ref k2, .ref k3, .ref k4, .ref k5, .ref k6, .ref k7, .ref k8] (unit 9 4) from (by decide +kernel : [false, false, false, false, true, false, false, false, false] = unit 9 4) ▸ rkk4)
    | 5, _ => exact (show Rows K k5 [.ref k0, .ref k1, .ref k2, .ref k3, .ref k4, .ref k5, .ref k6, .ref k7, .ref k8] (unit 9 5) from (by decide +kernel : [false, false, false, false, false, true, false, false, false] = unit 9 5) ▸ rkk5)
    | 6, _ => exact (show Rows K k6 [.ref k0, .ref k1, .ref k2, .ref k3, .ref k4, .ref k5, .ref k6, .ref k7, .ref k8] (unit 9 6) from (by decide +kernel : [false, false, false, false, false, false, true, false, false] = unit 9 6) ▸ rkk6)
    | 7, _ => exact (show Rows K k7 [.ref k0, .ref k1, .ref k2, .ref k3, .ref k4, .ref k5, .ref k6, .ref k7, .ref k8] (unit 9 7) from (by decide +kernel : [false, false, false, false, false, false, false, true, false] = unit 9 7) ▸ rkk7)
    | 8, _ => exact (show Rows K k8 [.ref k0, .ref k1, .ref k2, .ref k3, .ref k4, .ref k5, .ref k6, .ref k7, .ref k8] (unit 9 8) from (by decide +kernel : [false, false, false, false, false, false, false, false, true] = unit 9 8) ▸ rkk8)
    | _ + 9, hi => exact absurd hi (by omega)
  have u7 : ∀ i, i < 7 → Rows K ((fun i => [o0, o1, o2, o3, o4, o5, o6].getD i lk) i) (usO (fun i => [o0, o1, o2, o3, o4, o5, o6].getD i lk)) (unit 7 i) := by
    intro i hi
    match i, hi with
    | 0, _ => exact (show Rows K o0 [.ref o0, .ref o1, .ref o2, .ref o3, .ref o4, .ref o5, .ref o6] (unit 7 0) from (by decide +kernel : [true, false, false, false, false, false, false] = unit 7 0) ▸ roo0)
    | 1, _ => exact (show Rows K o1 [.ref o0, .ref o1, .ref o2, .ref o3, .ref o4, .ref o5, .ref o6] (unit 7 1) from (by decide +kernel : [false, true, false, false, false, false, false] = unit 7 1) ▸ roo1)
    | 2, _ => exact (show Rows K o2 [.ref o0, .ref o1, .ref o2, .ref o3, .ref o4, .ref o5, .ref o6] (unit 7 2) from (by decide +kernel : [false, false, true, false, false, false, false] = unit 7 2) ▸ roo2)
    | 3, _ => exact (show Rows K o3 [.ref o0, .ref o1, .ref o2, .ref o3, .ref o4, .ref o5, .ref o6] (unit 7 3) from (by decide +kernel : [false, false, false, true, false, false, false] = unit 7 3) ▸ roo3)
    | 4, _ => exact (show Rows K o4 [.ref o0, .ref o1, .ref o2, .ref o3, .ref o4, .ref o5, .ref o6] (unit 7 4) from (by decide +kernel : [false, false, false, false, true, false, false] = unit 7 4) ▸ roo4)
    | 5, _ => exact (show Rows K o5 [.ref o0, .ref o1, .ref o2, .ref o3, .ref o4, .ref o5, .ref o6] (unit 7 5) from (by decide +kernel : [false, false, false, false, false, true, false] = unit 7 5) ▸ roo5)
    | 6, _ => exact (show Rows K o6 [.ref o0, .ref o1, .ref o2, .ref o3, .ref o4, .ref o5, .ref o6] (unit 7 6) from (by decide +kernel : [false, false, false, false, false, false, true] = unit 7 6) ▸ roo6)
    | _ + 7, hi => exact absurd hi (by omega)
  have u1 : ∀ i, i < 9 → Rows K ((fun i => [k0, k1, k2, k3, k4, k5, k6, k7, k8].getD i lk) i) usB one7 := by
    intro i hi
    match i, hi with
    | 0, _ => exact (show Rows K k0 [.type "ValueError", .type "KeyError", .type "IndexError", .type "LookupError", .type "OverflowError", .type "RuntimeError", .type "ArithmeticError"] one7 from (by decide +kernel : [true, false, false, false, false, false, false] = one7) ▸ rkb0)
    | 1, _ => exact (show Rows K k1 [.type "ValueError", .type "KeyError", .type "IndexError", .type "LookupError", .type "OverflowError", .type "RuntimeError", .type "ArithmeticError"] one7 from (by decide +kernel : [true, false, false, false, false, false, false] = one7) ▸ rkb1)
    | 2, _ => exact (show Rows K k2 [.type "ValueError", .type "KeyError", .type "IndexError", .type "LookupError", .type "OverflowError", .type "RuntimeError", .type "ArithmeticError"] one7 from (by decide +kernel : [true, false, false, false, false, false, false] = one7) ▸ rkb2)
    | 3, _ => exact (show Rows K k3 [.type "ValueError", .type "KeyError", .type "IndexError", .type "LookupError", .type "OverflowError", .type "RuntimeError", .type "ArithmeticError"] one7 from (by decide +kernel : [true, false, false, false, false, false, false] = one7) ▸ rkb3)
    | 4, _ => exact (show Rows K k4 [.type "ValueError", .type "KeyError", .type "IndexError", .type "LookupError", .type "OverflowError", .type "RuntimeError", .type "ArithmeticError"] one7 from (by decide +kernel : [true, false, false, false, false, false, false] = one7) ▸ rkb4)
    | 5, _ => exact (show Rows K k5 [.type "ValueError", .type "KeyError", .type "IndexError", .type "LookupError", .type "OverflowError", .type "RuntimeError", .type "ArithmeticError"] one7 from (by decide +kernel : [true, false, false, false, false, false, false] = one7) ▸ rkb5)
    | 6, _ => exact (show Rows K k6 [.type "ValueError", .type "KeyError", .type "IndexError", .type "LookupError", .type "OverflowError", .type "RuntimeError", .type "ArithmeticError"] one7 from (by decide +kernel : [true, false, false, false, false, false, false] = one7) ▸ rkb6)
    | 7, _ => exact (show Rows K k7 [.type "ValueError", .type "KeyError", .type "IndexError", .type "LookupError", .type "OverflowError", .type "RuntimeError", .type "ArithmeticError"] one7 from (by decide +kernel : [true, false, false, false, false, false, false] = one7) ▸ rkb7)
    | 8, _ => exact (show Rows K k8 [.type "ValueError", .type "KeyError", .type "IndexError", .type "LookupError", .type "OverflowError", .type "RuntimeError", .type "ArithmeticError"] one7 from (by decide +kernel : [true, false, false, false, false, false, false] = one7) ▸ rkb8)
    | _ + 9, hi => exact absurd hi (by omega)
  have uo : ∀ i, i < 9 → Rows K ((fun i => [k0, k1, k2, k3, k4, k5, k6, k7, k8].getD i lk) i) (usO (fun i => [o0, o1, o2, o3, o4, o5, o6].getD i lk)) (List.replicate 7 false) := by
    intro i hi
    match i, hi with
    | 0, _ => exact (show Rows K k0 [.ref o0, .ref o1, .ref o2, .ref o3, .ref o4, .ref o5, .ref o6] (List.replicate 7 false) from rko0)
    | 1, _ => exact (show Rows K k1 [.ref o0, .ref o1, .ref o2, .ref o3, .ref o4, .ref o5, .ref o6] (List.replicate 7 false) from rko1)
    | 2, _ => exact (show Rows K k2 [.ref o0, .ref o1, .ref o2, .ref o3, .ref o4, .ref o5, .ref o6] (List.replicate 7 false) from rko2)
    | 3, _ => exact (show Rows K k3 [.ref o0, .ref o1, .ref o2, .ref o3, .ref o4, .ref o5, .ref o6] (List.replicate 7 false) from rko3)
    | 4, _ => exact (show Rows K k4 [.ref o0, .ref o1, .ref o2, .ref o3, .ref o4, .ref o5, .ref o6] (List.replicate 7 false) from rko4)
    | 5, _ => exact (show Rows K k5 [.ref o0, .ref o1, .ref o2, .ref o3, .ref o4, .ref o5, .ref o6] (List.replicate 7 false) from rko5)
    | 6, _ => exact (show Rows K k6 [.ref o0, .ref o1, .ref o2, .ref o3, .ref o4, .ref o5, .ref o6] (List.replicate 7 false) from rko6)
    | 7, _ => exact (show Rows K k7 [.ref o0, .ref o1, .ref o2, .ref o3, .ref o4, .ref o5, .ref o6] (List.replicate 7 false) from rko7)
    | 8, _ => exact (show Rows K k8 [.ref o0, .ref o1, .ref o2, .ref o3, .ref o4, .ref o5, .ref o6] (List.replicate 7 false) from rko8)
    | _ + 9, hi => exact absurd hi (by omega)
  have uk : ∀ i, i < 7 → Rows K ((fun i => [o0, o1, o2, o3, o4, o5, o6].getD i lk) i) (usK (fun i => [k0, k1, k2, k3, k4, k5, k6, k7, k8].getD i lk)) (List.replicate 9 false) := by
    intro i hi
    match i, hi with
    | 0, _ => exact (show Rows K o0 [.ref k0, .ref k1, .ref k2, .ref k3, .ref k4, .ref k5, .ref k6, .ref k7, .ref k8] (List.replicate 9 false) from rok0)
    | 1, _ => exact (show Rows K o1 [.ref k0, .ref k1, .ref k2, .ref k3, .ref k4, .ref k5, .ref k6, .ref k7, .ref k8] (List.replicate 9 false) from rok1)
    | 2, _ => exact (show Rows K o2 [.ref k0, .ref k1, .ref k2, .ref k3, .ref k4, .ref k5, .ref k6, .ref k7, .ref k8] (List.replicate 9 false) from rok2)
    | 3, _ => exact (show Rows K o3 [.ref k0, .ref k1, .ref k2, .ref k3, .ref k4, .ref k5, .ref k6, .ref k7, .ref k8] (List.replicate 9 false) from rok3)
    | 4, _ => exact (show Rows K o4 [.ref k0, .ref k1, .ref k2, .ref k3, .ref k4, .ref k5, .ref k6, .ref k7, .ref k8] (List.replicate 9 false) from rok4)
    | 5, _ => exact (show Rows K o5 [.ref k0, .ref k1, .ref k2, .ref k3, .ref k4, .ref k5, .ref k6, .ref k7, .ref k8] (List.replicate 9 false) from rok5)
    | 6, _ => exact (show Rows K o6 [.ref k0, .ref k1, .ref k2, .ref k3, .ref k4, .ref k5, .ref k6, .ref k7, .ref k8] (List.replicate 9 false) from rok6)
    | _ + 7, hi => exact absurd hi (by omega)
  have ub : ∀ i l, bh[i]? = some l → Rows K ((fun i => [o0, o1, o2, o3, o4, o5, o6].getD i lk) i) usB (row l) := by
    intro i l hi
    match i, hi with
    | 0, hi => cases hi; exact (show Rows K o0 [.type "ValueError", .type "KeyError", .type "IndexError", .type "LookupError", .type "OverflowError", .type "RuntimeError", .type "ArithmeticError"] (row [1, 3]) from (by decide +kernel : [false, true, false, true, false, false, false] = row [1, 3]) ▸ rob0)
    | 1, hi => cases hi; exact (show Rows K o1 [.type "ValueError", .type "KeyError", .type "IndexError", .type "LookupError", .type "OverflowError", .type "RuntimeError", .type "ArithmeticError"] (row [2, 3]) from (by decide +kernel : [false, false, true, true, false, false, false] = row [2, 3]) ▸ rob1)
    | 2, hi => cases hi; exact (show Rows K o2 [.type "ValueError", .type "KeyError", .type "IndexError", .type "LookupError", .type "OverflowError", .type "RuntimeError", .type "ArithmeticError"] (row [3]) from (by decide +kernel : [false, false, false, true, false, false, false] = row [3]) ▸ rob2)
    | 3, hi => cases hi; exact (show Rows K o3 [.type "ValueError", .type "KeyError", .type "IndexError", .type "LookupError", .type "OverflowError", .type "RuntimeError", .type "ArithmeticError"] (row [3]) from (by decide +kernel : [false, false, false, true, false, false, false] = row [3]) ▸ rob3)
    | 4, hi => cases hi; exact (show Rows K o4 [.type "ValueError", .type "KeyError", .type "IndexError", .type "LookupError", .type "OverflowError", .type "RuntimeError", .type "ArithmeticError"] (row [4, 6]) from (by decide +kernel : [false, false, false, false, true, false, true] = row [4, 6]) ▸ rob4)
    | 5, hi => cases hi; exact (show Rows K o5 [.type "ValueError", .type "KeyError", .type "IndexError", .type "LookupError", .type "OverflowError", .type "RuntimeError", .type "ArithmeticError"] (row [5]) from (by decide +kernel : [false, false, false, false, false, true, false] = row [5]) ▸ rob5)
    | 6, hi => cases hi; exact (show Rows K o6 [.type "ValueError", .type "KeyError", .type "IndexError", .type "LookupError", .type "OverflowError", .type "RuntimeError", .type "ArithmeticError"] (row [6]) from (by decide +kernel : [false, false, false, false, false, false, true] = row [6]) ▸ rob6)
    | _ + 7, hi => exact nomatch hi
  have kc : ∀ i, i < 9 → KindC K ((fun i => [k0, k1, k2, k3, k4, k5, k6, k7, k8].getD i lk) i) lk := by
    intro i hi
    match i, hi with
    | 0, _ => exact ck0
    | 1, _ => exact ck1
    | 2, _ => exact ck2
    | 3, _ => exact ck3
    | 4, _ => exact ck4
    | 5, _ => exact ck5
    | 6, _ => exact ck6
    | 7, _ => exact ck7
    | 8, _ => exact ck8
    | _ + 9, hi => exact absurd hi (by omega)
  have ul : ∀ i, i < 7 → PySem.W.kitOne K (.ref ((fun i => [o0, o1, o2, o3, o4, o5, o6].getD i lk) i)) (.ref lk) = some false := by
    intro i hi
    match i, hi with
    | 0, _ => exact rl0
    | 1, _ => exact rl1
    | 2, _ => exact rl2
    | 3, _ => exact rl3
    | 4, _ => exact rl4
    | 5, _ => exact rl5
    | 6, _ => exact rl6
    | _ + 7, hi => exact absurd hi (by omega)
  have Mm : TxtM K mg (fun i => [k0, k1, k2, k3, k4, k5, k6, k7, k8].getD i lk) (fun i => [o0, o1, o2, o3, o4, o5, o6].getD i lk) lk := ⟨(PySem.W.mg_of X G al), fun i hi => (kc i hi).c, fun i hi => (kc i hi).ini, fun i hi => (kc i hi).st, u9, u1, uo, fun i hi => (kc i hi).rl, cl, il, sl, rlk, (by decide +kernel : [true, false, false, false, false, false, false] = one7) ▸ rlb, (PySem.W.mg_none_of X G zrange), (PySem.W.mg_none_of X G zenumerate), (PySem.W.mg_none_of X G zstr)⟩
  have Z : TxtO K mg (fun i => [k0, k1, k2, k3, k4, k5, k6, k7, k8].getD i lk) (fun i => [o0, o1, o2, o3, o4, o5, o6].getD i lk) (fun i => [i0, i1, i2, i3, i4, i5, i6].getD i lk) (fun i => [e0, e1, e2, e3, e4, e5, e6].getD i e0) lk := ⟨⟨co0, cf0, ii0, it0, FI0, c0⟩, ⟨co1, cf1, ii1, it1, FI1, c1⟩, ⟨co2, cf2, ii2, it2, FI2, c2⟩, ⟨co3, cf3, ii3, it3, FI3, c3⟩, ⟨co4, cf4, ii4, it4, FI4, c4⟩, ⟨co5, cf5, ii5, it5, FI5, c5⟩, ⟨co6, cf6, ii6, it6, FI6, c6⟩, u7, uk, ub, ul, (PySem.W.mg_none_of X G zrepr)⟩
  refine ⟨dL, ?_, fun base _ _ => ok_Law FL TD T Mm L Z W⟩
  obtain ⟨oc, od, kV, doc, pm, an, cdv, ct, osl, rfl, _, _⟩ := FL.ex
  exact fun s v => .of_eq rfl
end K00
open PySem PySem.W PyProof.Rows
set_option maxHeartbeats 0 in
theorem PySem.Challenge.cw_halflink_k00_errors_and_their_fields_holds : PySem.Challenge.rw_halflink_k00_errors_and_their_fields.Holds := by
  w_on; o_law; k_head; (case hw => w_witness2)
  k_fill
  refine GL.walk_ofG (l := PySem.Challenge.rw_halflink_k00_errors_and_their_fields) (n := 63) (k := 4) (x := "_law_script") (sp := K00.spLaw) rfl (by decide) rfl ⟨rfl, by decide, by decide⟩ (fun w h Y => PySem.W.kIn_of Y) ?F (fun K H a ns hl hS => ⟨a, ns, rfl, hS, hl, fun _ => rfl⟩)
  case F =>
    intro w mg fa h KX G hmg
    refine' K00.all_mk KX G hmg ?ak0 ?ak1 ?ak2 ?ak3 ?ak4 ?ak5 ?ak6 ?ak7 ?ak8 ?ao0 ?ao1 ?ao2 ?ao3 ?ao4 ?ao5 ?ao6 ?al ?afD ?afR ?afO ?afK ?afB ?afT ?afM ?afV ?afL ?zValueError ?zKeyError ?zIndexError ?zLookupError ?zOverflowError ?zRuntimeError ?zArithmeticError ?zisinstance ?zlen ?zabs ?zint ?zenumerate ?zrange ?zstr ?zrepr ?zmax ?zmin ?ii0 ?ii1 ?ii2 ?ii3 ?ii4 ?ii5 ?ii6 ?it0 ?it1 ?it2 ?it3 ?it4 ?it5 ?it6 ?g1 ?g2 ?FD ?FR ?FO ?FK ?FB ?FT ?FM ?FV ?FL ?FI0 ?FI1 ?FI2 ?FI3 ?FI4 ?FI5 ?FI6 ?ck0 ?ck1 ?ck2 ?ck3 ?ck4 ?ck5 ?ck6 ?ck7 ?ck8 ?cl ?il ?sl ?co0 ?co1 ?co2 ?co3 ?co4 ?co5 ?co6 ?cf0 ?cf1 ?cf2 ?cf3 ?cf4 ?cf5 ?cf6 ?rl0 ?rl1 ?rl2 ?rl3 ?rl4 ?rl5 ?rl6 ?rkk0 ?rkk1 ?rkk2 ?rkk3 ?rkk4 ?rkk5 ?rkk6 ?rkk7 ?rkk8 ?rlk ?rok0 ?rok1 ?rok2 ?rok3 ?rok4 ?rok5 ?rok6 ?rkb0 ?rko0 ?rkb1 ?rko1 ?rkb2 ?rko2 ?rkb3 ?rko3 ?rkb4 ?rko4 ?rkb5 ?rko5 ?rkb6 ?rko6 ?rkb7 ?rko7 ?rkb8 ?rko8 ?rlb ?roo0 ?rob0 ?roo1 ?rob1 ?roo2 ?rob2 ?roo3 ?rob3 ?roo4 ?rob4 ?roo5 ?rob5 ?roo6 ?rob6
    (case ak0 => k_is)
    (case ak1 => k_is)
    (case ak2 => k_is)
    (case ak3 => k_is)
    (case ak4 => k_is)
    (case ak5 => k_is)
    (case ak6 => k_is)
    (case ak7 => k_is)
    (case ak8 => k_is)
    (case ao0 => k_is)
    (case ao1 => k_is)
    (case ao2 => k_is)
    (case ao3 => k_is)
    (case ao4 => k_is)
    (case ao5 => k_is)
    (case ao6 => k_is)
    (case al => k_is)
    (case afD => k_is)
    (case afR => k_is)
    (case afO => k_is)
    (case afK => k_is)
    (case afB => k_is)
    (case afT => k_is)
    (case afM => k_is)
    (case afV => k_is)
    (case afL => k_is)
    (case zValueError => k_is)
    (case zKeyError => k_is)
    (case zIndexError => k_is)
    (case zLookupError => k_is)
    (case zOverflowError => k_is)
    (case zRuntimeError => k_is)
    (case zArithmeticError => k_is)
    (case zisinstance => k_is)
    (case zlen => k_is)
    (case zabs => k_is)
    (case zint => k_is)
    (case zenumerate => k_is)
    (case zrange => k_is)
    (case zstr => k_is)
    (case zrepr => k_is)
    (case zmax => k_is)
    (case zmin => k_is)
    (case ii0 => k_is)
    (case ii1 => k_is)
    (case ii2 => k_is)
    (case ii3 => k_is)
    (case ii4 => k_is)
    (case ii5 => k_is)
    (case ii6 => k_is)
    (case it0 => k_is)
    (case it1 => k_is)
    (case it2 => k_is)
    (case it3 => k_is)
    (case it4 => k_is)
    (case it5 => k_is)
    (case it6 => k_is)
    (case g1 => k_is)
    (case g2 => k_is)
    (case FD => refine' L2.fun_mk ?l ?c ?k; (case l => k_is); (case c => k_is); (case k => k_is))
    (case FR => refine' L2.fun_mk ?l ?c ?k; (case l => k_is); (case c => k_is); (case k => k_is))
    (case FO => refine' L2.fun_mk ?l ?c ?k; (case l => k_is); (case c => k_is); (case k => k_is))
    (case FK => refine' L2.fun_mk ?l ?c ?k; (case l => k_is); (case c => k_is); (case k => k_is))
    (case FB => refine' L2.fun_mk ?l ?c ?k; (case l => k_is); (case c => k_is); (case k => k_is))
    (case FT => refine' L2.fun_mk ?l ?c ?k; (case l => k_is); (case c => k_is); (case k => k_is))
    (case FM => refine' L2.fun_mk ?l ?c ?k; (case l => k_is); (case c => k_is); (case k => k_is))
    (case FV => refine' L2.fun_mk ?l ?c ?k; (case l => k_is); (case c => k_is); (case k => k_is))
    (case FL => refine' L2.fun_mk ?l ?c ?k; (case l => k_is); (case c => k_is); (case k => k_is))
    (case FI0 => refine' L2.fun_mk ?l ?c ?k; (case l => k_is); (case c => k_is); (case k => k_is))
    (case FI1 => refine' L2.fun_mk ?l ?c ?k; (case l => k_is); (case c => k_is); (case k => k_is))
    (case FI2 => refine' L2.fun_mk ?l ?c ?k; (case l => k_is); (case c => k_is); (case k => k_is))
    (case FI3 => refine' L2.fun_mk ?l ?c ?k; (case l => k_is); (case c => k_is); (case k => k_is))
    (case FI4 => refine' L2.fun_mk ?l ?c ?k; (case l => k_is); (case c => k_is); (case k => k_is))
    (case FI5 => refine' L2.fun_mk ?l ?c ?k; (case l => k_is); (case c => k_is); (case k => k_is))
    (case FI6 => refine' L2.fun_mk ?l ?c ?k; (case l => k_is); (case c => k_is); (case k => k_is))
    (case il => k_is)
    (case sl => k_is)
    (case cl => refine' ⟨?m1, ?m2, ?m3, ?m4, ?m5, ?m6, ?m7, ?m8⟩; (case m1 => kx_is); (case m2 => k_is); (case m3 => k_is); (case m4 => k_is); (case m5 => k_is); (case m6 => k_is); (case m7 => k_is); (case m8 => k_is))
    (case co0 => refine' ⟨?m1, ?m2, ?m3, ?m4, ?m5, ?m6, ?m7, ?m8⟩; (case m1 => kx_is); (case m2 => k_is); (case m3 => k_is); (case m4 => k_is); (case m5 => k_is); (case m6 => k_is); (case m7 => k_is); (case m8 => k_is))
    (case co1 => refine' ⟨?m1, ?m2, ?m3, ?m4, ?m5, ?m6, ?m7, ?m8⟩; (case m1 => kx_is); (case m2 => k_is); (case m3 => k_is); (case m4 => k_is); (case m5 => k_is); (case m6 => k_is); (case m7 => k_is); (case m8 => k_is))
    (case co2 => refine' ⟨?m1, ?m2, ?m3, ?m4, ?m5, ?m6, ?m7, ?m8⟩; (case m1 => kx_is); (case m2 => k_is); (case m3 => k_is); (case m4 => k_is); (case m5 => k_is); (case m6 => k_is); (case m7 => k_is); (case m8 => k_is))
    (case co3 => refine' ⟨?m1, ?m2, ?m3, ?m4, ?m5, ?m6, ?m7, ?m8⟩; (case m1 => kx_is); (case m2 => k_is); (case m3 => k_is); (case m4 => k_is); (case m5 => k_is); (case m6 => k_is); (case m7 => k_is); (case m8 => k_is))
    (case co4 => refine' ⟨?m1, ?m2, ?m3, ?m4, ?m5, ?m6, ?m7, ?m8⟩; (case m1 => kx_is); (case m2 => k_is); (case m3 => k_is); (case m4 => k_is); (case m5 => k_is); (case m6 => k_is); (case m7 => k_is); (case m8 => k_is))
    (case co5 => refine' ⟨?m1, ?m2, ?m3, ?m4, ?m5, ?m6, ?m7, ?m8⟩; (case m1 => kx_is); (case m2 => k_is); (case m3 => k_is); (case m4 => k_is); (case m5 => k_is); (case m6 => k_is); (case m7 => k_is); (case m8 => k_is))
    (case co6 => refine' ⟨?m1, ?m2, ?m3, ?m4, ?m5, ?m6, ?m7, ?m8⟩; (case m1 => kx_is); (case m2 => k_is); (case m3 => k_is); (case m4 => k_is); (case m5 => k_is); (case m6 => k_is); (case m7 => k_is); (case m8 => k_is))
    (case ck0 => refine' ⟨⟨?m1, ?m2, ?m3, ?m4, ?m5, ?m6, ?m7, ?m8⟩, ?n1, ?n2, ?n3⟩; (case m1 => kx_is); (case m2 => k_is); (case m3 => k_is); (case m4 => k_is); (case m5 => k_is); (case m6 => k_is); (case m7 => k_is); (case m8 => k_is); (case n1 => k_is); (case n2 => k_is); (case n3 => kit_is))
    (case ck1 => refine' ⟨⟨?m1, ?m2, ?m3, ?m4, ?m5, ?m6, ?m7, ?m8⟩, ?n1, ?n2, ?n3⟩; (case m1 => kx_is); (case m2 => k_is); (case m3 => k_is); (case m4 => k_is); (case m5 => k_is); (case m6 => k_is); (case m7 => k_is); (case m8 => k_is); (case n1 => k_is); (case n2 => k_is); (case n3 => kit_is))
    (case ck2 => refine' ⟨⟨?m1, ?m2, ?m3, ?m4, ?m5, ?m6, ?m7, ?m8⟩, ?n1, ?n2, ?n3⟩; (case m1 => kx_is); (case m2 => k_is); (case m3 => k_is); (case m4 => k_is); (case m5 => k_is); (case m6 => k_is); (case m7 => k_is); (case m8 => k_is); (case n1 => k_is); (case n2 => k_is); (case n3 => kit_is))
    (case ck3 => refine' ⟨⟨?m1, ?m2, ?m3, ?m4, ?m5, ?m6, ?m7, ?m8⟩, ?n1, ?n2, ?n3⟩; (case m1 => kx_is); (case m2 => k_is); (case m3 => k_is); (case m4 => k_is); (case m5 => k_is); (case m6 => k_is); (case m7 => k_is); (case m8 => k_is); (case n1 => k_is); (case n2 => k_is); (case n3 => kit_is))
    (case ck4 => refine' ⟨⟨?m1, ?m2, ?m3, ?m4, ?m5, ?m6, ?m7, ?m8⟩, ?n1, ?n2, ?n3⟩; (case m1 => kx_is); (case m2 => k_is); (case m3 => k_is); (case m4 => k_is); (case m5 => k_is); (case m6 => k_is); (case m7 => k_is); (case m8 => k_is); (case n1 => k_is); (case n2 => k_is); (case n3 => kit_is))
    (case ck5 => refine' ⟨⟨?m1, ?m2, ?m3, ?m4, ?m5, ?m6, ?m7, ?m8⟩, ?n1, ?n2, ?n3⟩; (case m1 => kx_is); (case m2 => k_is); (case m3 => k_is); (case m4 => k_is); (case m5 => k_is); (case m6 => k_is); (case m7 => k_is); (case m8 => k_is); (case n1 => k_is); (case n2 => k_is); (case n3 => kit_is))
    (case ck6 => refine' ⟨⟨?m1, ?m2, ?m3, ?m4, ?m5, ?m6, ?m7, ?m8⟩, ?n1, ?n2, ?n3⟩; (case m1 => kx_is); (case m2 => k_is); (case m3 => k_is); (case m4 => k_is); (case m5 => k_is); (case m6 => k_is); (case m7 => k_is); (case m8 => k_is); (case n1 => k_is); (case n2 => k_is); (case n3 => kit_is))
    (case ck7 => refine' ⟨⟨?m1, ?m2, ?m3, ?m4, ?m5, ?m6, ?m7, ?m8⟩, ?n1, ?n2, ?n3⟩; (case m1 => kx_is); (case m2 => k_is); (case m3 => k_is); (case m4 => k_is); (case m5 => k_is); (case m6 => k_is); (case m7 => k_is); (case m8 => k_is); (case n1 => k_is); (case n2 => k_is); (case n3 => kit_is))
    (case ck8 => refine' ⟨⟨?m1, ?m2, ?m3, ?m4, ?m5, ?m6, ?m7, ?m8⟩, ?n1, ?n2, ?n3⟩; (case m1 => kx_is); (case m2 => k_is); (case m3 => k_is); (case m4 => k_is); (case m5 => k_is); (case m6 => k_is); (case m7 => k_is); (case m8 => k_is); (case n1 => k_is); (case n2 => k_is); (case n3 => kit_is))
    (case cf0 => refine' ⟨?m1, ?m2, ?m3, ?m4⟩; (case m1 => kx_is); (case m2 => k_is); (case m3 => k_is); (case m4 => k_is))
    (case cf1 => refine' ⟨?m1, ?m2, ?m3, ?m4⟩; (case m1 => kx_is); (case m2 => k_is); (case m3 => k_is); (case m4 => k_is))
    (case cf2 => refine' ⟨?m1, ?m2, ?m3, ?m4⟩; (case m1 => kx_is); (case m2 => k_is); (case m3 => k_is); (case m4 => k_is))
    (case cf3 => refine' ⟨?m1, ?m2, ?m3, ?m4⟩; (case m1 => kx_is); (case m2 => k_is); (case m3 => k_is); (case m4 => k_is))
    (case cf4 => refine' ⟨?m1, ?m2, ?m3, ?m4⟩; (case m1 => kx_is); (case m2 => k_is); (case m3 => k_is); (case m4 => k_is))
    (case cf5 => refine' ⟨?m1, ?m2, ?m3, ?m4⟩; (case m1 => kx_is); (case m2 => k_is); (case m3 => k_is); (case m4 => k_is))
    (case cf6 => refine' ⟨?m1, ?m2, ?m3, ?m4⟩; (case m1 => kx_is); (case m2 => k_is); (case m3 => k_is); (case m4 => k_is))
    (case rl0 => kit_is)
    (case rl1 => kit_is)
    (case rl2 => kit_is)
    (case rl3 => kit_is)
    (case rl4 => kit_is)
    (case rl5 => kit_is)
    (case rl6 => kit_is)
    (case rkk0 => refine' K00.rows9 ?_ ?_ ?_ ?_ ?_ ?_ ?_ ?_ ?_ <;> kit_is)
    (case rkk1 => refine' K00.rows9 ?_ ?_ ?_ ?_ ?_ ?_ ?_ ?_ ?_ <;> kit_is)
    (case rkk2 => refine' K00.rows9 ?_ ?_ ?_ ?_ ?_ ?_ ?_ ?_ ?_ <;> kit_is)
    (case rkk3 => refine' K00.rows9 ?_ ?_ ?_ ?_ ?_ ?_ ?_ ?_ ?_ <;> kit_is)
    (case rkk4 => refine' K00.rows9 ?_ ?_ ?_ ?_ ?_ ?_ ?_ ?_ ?_ <;> kit_is)
    (case rkk5 => refine' K00.rows9 ?_ ?_ ?_ ?_ ?_ ?_ ?_ ?_ ?_ <;> kit_is)
    (case rkk6 => refine' K00.rows9 ?_ ?_ ?_ ?_ ?_ ?_ ?_ ?_ ?_ <;> kit_is)
    (case rkk7 => refine' K00.rows9 ?_ ?_ ?_ ?_ ?_ ?_ ?_ ?_ ?_ <;> kit_is)
    (case rkk8 => refine' K00.rows9 ?_ ?_ ?_ ?_ ?_ ?_ ?_ ?_ ?_ <;> kit_is)
    (case rlk => refine' K00.rows9 ?_ ?_ ?_ ?_ ?_ ?_ ?_ ?_ ?_ <;> kit_is)
    (case rok0 => refine' K00.rows9 ?_ ?_ ?_ ?_ ?_ ?_ ?_ ?_ ?_ <;> kit_is)
    (case rok1 => refine' K00.rows9 ?_ ?_ ?_ ?_ ?_ ?_ ?_ ?_ ?_ <;> kit_is)
    (case rok2 => refine' K00.rows9 ?_ ?_ ?_ ?_ ?_ ?_ ?_ ?_ ?_ <;> kit_is)
    (case rok3 => refine' K00.rows9 ?_ ?_ ?_ ?_ ?_ ?_ ?_ ?_ ?_ <;> kit_is)
    (case rok4 => refine' K00.rows9 ?_ ?_ ?_ ?_ ?_ ?_ ?_ ?_ ?_ <;> kit_is)
    (case rok5 => refine' K00.rows9 ?_ ?_ ?_ ?_ ?_ ?_ ?_ ?_ ?_ <;> kit_is)
    (case rok6 => refine' K00.rows9 ?_ ?_ ?_ ?_ ?_ ?_ ?_ ?_ ?_ <;> kit_is)
    (case rkb0 => refine' K00.rows7 ?_ ?_ ?_ ?_ ?_ ?_ ?_ <;> kit_is)
    (case rko0 => refine' K00.rows7 ?_ ?_ ?_ ?_ ?_ ?_ ?_ <;> kit_is)
    (case rkb1 => refine' K00.rows7 ?_ ?_ ?_ ?_ ?_ ?_ ?_ <;> kit_is)
    (case rko1 => refine' K00.rows7 ?_ ?_ ?_ ?_ ?_ ?_ ?_ <;> kit_is)
    (case rkb2 => refine' K00.rows7 ?_ ?_ ?_ ?_ ?_ ?_ ?_ <;> kit_is)
    (case rko2 => refine' K00.rows7 ?_ ?_ ?_ ?_ ?_ ?_ ?_ <;> kit_is)
    (case rkb3 => refine' K00.rows7 ?_ ?_ ?_ ?_ ?_ ?_ ?_ <;> kit_is)
    (case rko3 => refine' K00.rows7 ?_ ?_ ?_ ?_ ?_ ?_ ?_ <;> kit_is)
    (case rkb4 => refine' K00.rows7 ?_ ?_ ?_ ?_ ?_ ?_ ?_ <;> kit_is)
    (case rko4 => refine' K00.rows7 ?_ ?_ ?_ ?_ ?_ ?_ ?_ <;> kit_is)
    (case rkb5 => refine' K00.rows7 ?_ ?_ ?_ ?_ ?_ ?_ ?_ <;> kit_is)
    (case rko5 => refine' K00.rows7 ?_ ?_ ?_ ?_ ?_ ?_ ?_ <;> kit_is)
    (case rkb6 => refine' K00.rows7 ?_ ?_ ?_ ?_ ?_ ?_ ?_ <;> kit_is)
    (case rko6 => refine' K00.rows7 ?_ ?_ ?_ ?_ ?_ ?_ ?_ <;> kit_is)
    (case rkb7 => refine' K00.rows7 ?_ ?_ ?_ ?_ ?_ ?_ ?_ <;> kit_is)
    (case rko7 => refine' K00.rows7 ?_ ?_ ?_ ?_ ?_ ?_ ?_ <;> kit_is)
    (case rkb8 => refine' K00.rows7 ?_ ?_ ?_ ?_ ?_ ?_ ?_ <;> kit_is)
    (case rko8 => refine' K00.rows7 ?_ ?_ ?_ ?_ ?_ ?_ ?_ <;> kit_is)
    (case rlb => refine' K00.rows7 ?_ ?_ ?_ ?_ ?_ ?_ ?_ <;> kit_is)
    (case roo0 => refine' K00.rows7 ?_ ?_ ?_ ?_ ?_ ?_ ?_ <;> kit_is)
    (case rob0 => refine' K00.rows7 ?_ ?_ ?_ ?_ ?_ ?_ ?_ <;> kit_is)
    (case roo1 => refine' K00.rows7 ?_ ?_ ?_ ?_ ?_ ?_ ?_ <;> kit_is)
    (case rob1 => refine' K00.rows7 ?_ ?_ ?_ ?_ ?_ ?_ ?_ <;> kit_is)
    (case roo2 => refine' K00.rows7 ?_ ?_ ?_ ?_ ?_ ?_ ?_ <;> kit_is)
    (case rob2 => refine' K00.rows7 ?_ ?_ ?_ ?_ ?_ ?_ ?_ <;> kit_is)
    (case roo3 => refine' K00.rows7 ?_ ?_ ?_ ?_ ?_ ?_ ?_ <;> kit_is)
    (case rob3 => refine' K00.rows7 ?_ ?_ ?_ ?_ ?_ ?_ ?_ <;> kit_is)
    (case roo4 => refine' K00.rows7 ?_ ?_ ?_ ?_ ?_ ?_ ?_ <;> kit_is)
    (case rob4 => refine' K00.rows7 ?_ ?_ ?_ ?_ ?_ ?_ ?_ <;> kit_is)
    (case roo5 => refine' K00.rows7 ?_ ?_ ?_ ?_ ?_ ?_ ?_ <;> kit_is)
    (case rob5 => refine' K00.rows7 ?_ ?_ ?_ ?_ ?_ ?_ ?_ <;> kit_is)
    (case roo6 => refine' K00.rows7 ?_ ?_ ?_ ?_ ?_ ?_ ?_ <;> kit_is)
    (case rob6 => refine' K00.rows7 ?_ ?_ ?_ ?_ ?_ ?_ ?_ <;> kit_is)
