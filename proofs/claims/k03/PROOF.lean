import PyProof.Rows.All
import Wide.All
import OpenK.AllK
import Wide.FinOn
import HandS.Base
import HandS.Call
import HandS.Codes
import HandS.Comp
import HandS.Conv
import HandS.Dict
import HandS.DictComp
import HandS.EndTab
import HandS.Ends
import HandS.Exc
import HandS.ExcField
import HandS.ExcInit
import HandS.ExcOwn
import HandS.ExcValue
import HandS.ForMost
import HandS.IsInst
import HandS.Iter
import HandS.Lambda
import HandS.List
import HandS.SetBool
import HandS.SetFor
import HandS.Star
import HandS.StrMore
import HandS.Strs
import HandS.Text
import HandS.TryMany
import HandS.TupAny
import HandS.TupLe
import HandS.TupSets
import HandS.Walk
import HandS.Wide
import HandS.Words
import HandS.WordsExc
import HandS.WordsList
import HandS.Zip0
import KE.GoesMore
import KE.KDictKeyed
import KE.KEqNest
import KE.KExcInit
import KE.KExcIs
import KE.KExcLine
import KE.KExcStr
import KE.KIsAll
import KE.KNestM
import KE.KeyNested
import KE.LtData
import KE.RegKIsAll
import KE.RegKTryMore
import KE.SortData
import PyProof.DictRoadsH
import PyProof.ExcClass
import PyProof.FactsTree
import PyProof.NeKinds
import PyProof.ReprLen
import PyProof.ReprRoads
import PyProof.Rows.RuleB_pow
import PyProof.RulesRaise
import PySem.Challenge.RW_halflink_k03_whole_reached_and_renamed_m
set_option Elab.async false
set_option linter.all false
set_option maxRecDepth 100000
set_option maxHeartbeats 8000000
namespace K03
open PySem PySem.Spec PyProof.Rows L2
open C8 (pss_cut tCut)
def topS (i : Nat) : Stmt := PySem.Challenge.pw_halflink_k03_whole_reached_and_renamed_m.main.body.getD i (.Pass ⟨0, 0, 0, 0⟩)
abbrev sDice : Stmt := topS 28
abbrev sRoll : Stmt := topS 29
abbrev sOneOf : Stmt := topS 30
theorem same_upd {H : Hp} {p : Addr} {o : HO} (h : H p = none) : Same H (upd H p o) := fun b x e => by
  rw [upd_ne (ne_of_none e h)]
  exact e
section
variable {X : Cx}
theorem op_powW : OpR X (binaryOp .Pow) (rI (fun i j => 0 ≤ j ∧ (Builtin.Int.intBits i : Int) * j ≤ 2 ^ 27) fun i j => .int (i ^ j.toNat)) := opI fun _ _ _ _ _ _ _ hc q => pow_int hc.1 hc.2 q
end
/-- the source of draws at d: at most n times asked without great digits -/
def Dice (H : Hp) (d : Addr) (n : Nat) : Prop := ∃ g s c : Int, H d = some (.lst [.int g, .int s, .int c]) ∧ 0 ≤ g ∧ 0 ≤ s ∧ s < 4611686018427387904 ∧ 0 ≤ c ∧ c ≤ n
theorem Dice.same {H H' : Hp} {d : Addr} {n : Nat} (h : Dice H d n) (s : H' d = H d) : Dice H' d n := by
  obtain ⟨g, s', c, e, r⟩ := h
  exact ⟨g, s', c, s.trans e, r⟩
theorem Dice.mono {H : Hp} {d : Addr} {n m : Nat} (h : Dice H d n) (s : n ≤ m) : Dice H d m := by
  obtain ⟨g, s', c, e, h1, h2, h3, h4, h5⟩ := h
  exact ⟨g, s', c, e, h1, h2, h3, h4, by omega⟩
structure TxtD (mg : Str → Option Value) : Prop where
  len : mg "len" = none
  abs : mg "abs" = none
  int : mg "int" = none
  enumerate : mg "enumerate" = none
section
variable {P : Program} {w : World} {K : PySem.W.Frag} {mg : Str → Option Value} {base : Heap}
def spDice (K : PySem.W.Frag) : Sp := fun vs H Q _ => ∃ (a : Addr) (ns : List Int) (k : Nat), vs = [.ref a, .int k] ∧ SqL K H a (ns.map V.int) ∧ ns.length ≤ 63 ∧ k ≤ 1000 ∧
  ∀ H' p, Same H H' → H p = none → Dice H' p 0 → Q (.ref p) H'
theorem scDice : FnScope ["_law_script", "_law_at", "_law_cell", "_law_great", "_law_seed", "_law_place", "_law_other"] ["_law_script", "_law_at"] (defScope sDice) := ⟨rfl, rfl, rfl, by decide +kernel, rfl, by decide +kernel, by decide +kernel⟩
theorem ok_dice {f : Addr} {fd : FuncData} {k : Nat} (F : Fun K "_law_dice" "_law_dice" sDice f fd) (T : TxtD mg) : FnOk P w K mg base CX0 (k + 1) f fd ["_law_script", "_law_at"] (spDice K) := by
  refine F.ok scDice (fun vs H Q E h => ?_) (fun cdv A outer s H vs Q E hr h => ?_)
  · obtain ⟨a, ns, k, rfl, _⟩ := h
    rfl
  · obtain ⟨a, ns, k, rfl, hS, hlen, hk, q⟩ := h
    refine ⟨_, pss_cut (ps_set (i := 2) scDice.nd rfl (.inl rfl) (pe_ifExp (pt_cmpR op_lt (pv 1) (pe_callB call_len_seq (by rfl) T.len PySem.boot_len (pa_cons (pv 0) pa_nil)) (nomark _)) (pe_ix ix_list (pv 0) (pv 1) (fun _ _ => rfl)) (pe_op op_add (pe_op op_mul pe_int (pv 1)) pe_int)))
      (pss_cut (ps_set (i := 3) scDice.nd rfl (.inl rfl) (pe_op op_mod (pe_callB call_abs (by rfl) T.abs (by decide +kernel) (pa_cons (pv 2) pa_nil)) (pe_op op_powW (pe_op op_pow pe_int pe_int) pe_int)))
      (pss_cut (ps_set (i := 4) scDice.nd rfl (.inl rfl) (pe_op op_add (pe_op op_add (pe_op op_add (pe_op op_mod (pv 3) pe_int) (pe_op op_mul pe_int (pv 1))) (pe_op op_mul pe_int (pe_callTy call_int1 (by rfl) T.int (by decide +kernel) (pa_cons (pe_cmpR op_lt (pv 2) pe_int (nomark _)) pa_nil)))) pe_int))
      (pss_cut (ps_for PassesOwn.never rfl (pi_enum (by rfl) T.enumerate (pa_cons (pv 0) pa_nil)) (pg_tup rfl (pgs_cons (pg_name (i := 5) scDice.nd rfl (.inl rfl)) (pgs_cons (pg_name (i := 6) scDice.nd rfl (.inl rfl)) pgs_nil)))
        (pss_one (ps_if (pt_cmpR op_ne (pv 5) (pv 1) (nomark _)) (pss_one (ps_set (i := 4) scDice.nd rfl (.inl rfl) (pe_op op_mod (pe_op op_add (pe_op op_add (pe_op op_mul pe_int (pv 4)) (pv 6)) (pv 5)) pe_int))) pss_nil)))
      (pss_cut (ps_set (i := 4) scDice.nd rfl (.inl rfl) (pe_op op_mod (pe_op op_pow (pv 4) pe_int) pe_int))
      (pss_one (ps_ret (pe_lst (pa_cons (pe_op op_mul (pe_op op_fdivW (pv 3) (pe_op op_pow pe_int pe_int)) (pe_callTy call_int1 (by rfl) T.int (by decide +kernel) (pa_cons (pe_cmpR op_ge (pv 3) (pe_op op_pow pe_int pe_int) (nomark _)) pa_nil))) (pa_cons (pv 4) (pa_cons pe_int pa_nil))))))))))
      , ?_⟩
    -- the cell
    refine ⟨fun σ' H' => ∃ z : Int, σ' = [some (.ref a), some (.int k), some (.int z), none, none, none, none] ∧ H' = H, ?_, ?_⟩
    · refine ⟨_, rfl, _, rfl, a, _, rfl, .inl hS, _, _, rfl, rfl, _, rfl, ite2 (fun c => ?_) (fun c => ?_)⟩
      · have c1 : (k : Int) < ((ns.map V.int).length : Nat) := of_decide_eq_true c
        rw [List.length_map] at c1
        have c2 : k < ns.length := by omega
        have hz : (ns.map V.int)[k]? = some (.int ns[k]) := by
          rw [List.getElem?_map, List.getElem?_eq_getElem c2]
          rfl
        exact ⟨_, rfl, _, rfl, a, _, _, _, rfl, rfl, hS, atI_nat hz, _, rfl, rfl⟩
      · exact ⟨_, rfl, _, _, rfl, rfl, .inl (by omega), _, _, rfl, rfl, _, rfl, rfl⟩
    rintro σ1 H1 ⟨z, rfl, rfl⟩
    -- great
    refine ⟨fun σ' H' => ∃ g : Int, 0 ≤ g ∧ g < 10 ^ 780 ∧ σ' = [some (.ref a), some (.int k), some (.int z), some (.int g), none, none, none] ∧ H' = H1, ?_, ?_⟩
    · have hp : (0 : Int) < 10 ^ 780 := by decide +kernel
      have e60 : ((10 : Int) ^ (60 : Int).toNat) ^ (13 : Int).toNat = 10 ^ 780 := by decide +kernel
      refine ⟨_, rfl, _, rfl, _, _, rfl, rfl, ⟨by decide, by decide, by decide⟩, _, _, rfl, rfl, ⟨by decide, by decide +kernel⟩, _, _, rfl, rfl, ?_, _, Int.emod_nonneg _ ?_, ?_, rfl, rfl⟩
      · rw [e60]; exact hp
      · rw [e60]; omega
      · rw [e60]; exact Int.emod_lt_of_pos _ hp
    rintro σ1 H2 ⟨g, g0, g1, rfl, rfl⟩
    -- seed
    refine ⟨fun σ' H' => ∃ y : Int, 0 ≤ y ∧ y < 4611686018427387904 ∧ σ' = [some (.ref a), some (.int k), some (.int z), some (.int g), some (.int y), none, none] ∧ H' = H2, ?_, ?_⟩
    · refine ⟨_, rfl, _, _, rfl, rfl, (by show (0 : Int) < 2305843009213693907; decide), _, rfl, _, _, rfl, rfl, .inl (by decide), _, _, rfl, rfl, _, rfl, _, _, rfl, rfl, .inr ⟨_, rfl, _, _, rfl, rfl, .inl (by decide), _, _, rfl, rfl, _, _, rfl, rfl, _, ?_, ?_, rfl, rfl⟩⟩
      · have h1 := Int.emod_nonneg g (show (2305843009213693907 : Int) ≠ 0 by decide)
        split <;> omega
      · have h1 := Int.emod_lt_of_pos g (show (0 : Int) < 2305843009213693907 by decide)
        split <;> omega
    rintro σ1 H3 ⟨y, y0, y1, rfl, rfl⟩
    -- for place, other in enumerate(script)
    refine ⟨fun σ' H' => ∃ (y : Int) (u v : Option V), 0 ≤ y ∧ y < 4611686018427387904 ∧ σ' = [some (.ref a), some (.int k), some (.int z), some (.int g), some (.int y), u, v] ∧ Same H3 H', ?_, ?_⟩
    · refine ⟨_, rfl, a, _, rfl, hS, ?_⟩
      refine for_it (walk_enum (xs := ns.map V.int)) (fun i σ H' => ∃ (y : Int) (u v : Option V), 0 ≤ y ∧ y < 4611686018427387904 ∧ σ = [some (.ref a), some (.int k), some (.int z), some (.int g), some (.int y), u, v] ∧ Same H3 H') ⟨y, none, none, y0, y1, rfl, fun _ _ e => e⟩ (fun i σ H' _ ⟨_, _, _, _, _, _, s5⟩ => s5.seq hS) ?_ ?_
      · rintro i x σ H4 H5 hi ⟨y, u, v, y0, y1, rfl, s5⟩ ⟨T, x1, x2, rfl, nT, rfl, e1, e2⟩
        have x1e : x1 = .int (i : Nat) := (Option.some.inj e1).symm
        obtain ⟨m, hm⟩ : ∃ m : Int, x2 = .int m := by
          have e2' : (ns.map V.int)[i]? = some x2 := e2
          rw [List.getElem?_map] at e2'
          cases e : ns[i]? with
          | none => rw [e] at e2'; cases e2'
          | some m => rw [e] at e2'; exact ⟨m, (Option.some.inj e2').symm⟩
        subst x1e hm
        have s6 : Same H3 (upd H4 T (.tup [.int (i : Nat), .int m])) := s5.trans (same_upd nT)
        refine ⟨T, _, rfl, .inl (.inl upd_same), rfl, _, _, rfl, _, _, rfl, rfl, ?_⟩
        refine ⟨_, rfl, _, rfl, rfl, _, rfl, ite2 (fun c => ?_) (fun c => ?_)⟩
        · refine ⟨_, rfl, _, _, rfl, rfl, .inl (by decide), _, rfl, _, _, rfl, rfl, _, rfl, _, _, rfl, rfl, _, _, rfl, rfl, (by show (0 : Int) < 2305843009213693907; decide), _, _, _, ?_, ?_, rfl, s6⟩
          · exact Int.emod_nonneg _ (by decide)
          · exact Int.lt_trans (Int.emod_lt_of_pos _ (by decide)) (by decide)
        · exact ⟨y, _, _, y0, y1, rfl, s6⟩
      · rintro σ H' ⟨y, u, v, y0, y1, rfl, s5⟩
        exact ⟨y, u, v, y0, y1, rfl, s5⟩
    rintro σ1 H4 ⟨y, u, v, y0, y1, rfl, s5⟩
    -- seed ** 3 % ..
    refine ⟨fun σ' H' => ∃ (y : Int), 0 ≤ y ∧ y < 2305843009213693921 ∧ σ' = [some (.ref a), some (.int k), some (.int z), some (.int g), some (.int y), u, v] ∧ H' = H4, ?_, ?_⟩
    · refine ⟨_, rfl, _, _, rfl, rfl, ⟨by decide, by decide, by omega⟩, _, _, rfl, rfl, (by show (0 : Int) < 2305843009213693921; decide), _, Int.emod_nonneg _ (by decide), Int.emod_lt_of_pos _ (by decide), rfl, rfl⟩
    rintro σ1 H5 ⟨y, y0, y1, rfl, rfl⟩
    -- the list
    have e18 : (10 : Int) ^ (18 : Int).toNat = 1000000000000000000 := by decide +kernel
    refine ⟨_, rfl, _, _, rfl, rfl, ⟨by decide, by decide, by decide⟩, _, _, rfl, rfl, (by rw [e18]; exact wide_div (b := 60) (by decide) (by decide +kernel) (by decide) (by decide)), _, rfl, _, _, rfl, rfl, ⟨by decide, by decide, by decide⟩, _, _, rfl, rfl, .inr ⟨_, rfl, _, _, rfl, rfl, .inr ?_, _, rfl, (by show 3 ≤ sizeLine; decide), fun p hp => ?_⟩⟩
    · split <;> decide
    · refine q _ p (s5.trans (same_upd hp)) (s5.free hp) ⟨_, _, _, upd_same, ?_, y0, ?_, Int.le_refl _, Int.le_refl _⟩
      · have h1 : 0 ≤ g / (10 : Int) ^ (18 : Int).toNat := Int.ediv_nonneg g0 (by decide)
        split
        · rw [Int.mul_one]; exact h1
        · rw [Int.mul_zero]; exact Int.le_refl _
      · omega
def spRoll : Sp := fun vs H Q _ => ∃ (d : Addr) (m : Int) (n : Nat), vs = [.ref d, .int m] ∧ Dice H d n ∧ n ≤ 1000000000 ∧ 0 < m ∧ m < 1073741824 ∧
  ∀ (r : Int) (o : HO), 0 ≤ r → r < m → Dice (upd H d o) d (n + 1) → Q (.int r) (upd H d o)
theorem scRoll : FnScope ["_law_dice_here", "_law_total", "_law_found", "_law_one", "_law_two"] ["_law_dice_here", "_law_total"] (defScope sRoll) := ⟨rfl, rfl, rfl, by decide +kernel, rfl, by decide +kernel, by decide +kernel⟩
theorem ok_roll {f : Addr} {fd : FuncData} {k : Nat} (F : Fun K "_law_roll" "_law_roll" sRoll f fd) : FnOk P w K mg base CX0 (k + 1) f fd ["_law_dice_here", "_law_total"] spRoll := by
  refine F.ok scRoll (fun vs H Q E h => ?_) (fun cdv A outer s H vs Q E hr h => ?_)
  · obtain ⟨d, m, n, rfl, _⟩ := h
    rfl
  · obtain ⟨d, m, n, rfl, ⟨g, y, c, hd, g0, y0, y1, c0, c1⟩, hn, m0, m1, q⟩ := h
    have I0 : atI [V.int g, V.int y, V.int c] 0 = some (V.int g) := atI_nat (j := 0) rfl
    have I1 : atI [V.int g, V.int y, V.int c] 1 = some (V.int y) := atI_nat (j := 1) rfl
    have I2 : atI [V.int g, V.int y, V.int c] 2 = some (V.int c) := atI_nat (j := 2) rfl
    have I1' : ∀ z : Int, atI [V.int g, V.int y, V.int z] 1 = some (V.int y) := fun z => atI_nat (j := 1) rfl
    have I2' : ∀ z : Int, atI [V.int g, V.int y, V.int z] 2 = some (V.int z) := fun z => atI_nat (j := 2) rfl
    refine ⟨_, pss_cons (ps_if (pt_cmpR op_gt (pe_ix ix_list (pv 0) pe_int (fun _ _ => rfl)) pe_int (nomark _))
        (pss_cons (ps_set (i := 2) scRoll.nd rfl (.inl rfl) (pe_op op_mod (pe_ix ix_list (pv 0) pe_int (fun _ _ => rfl)) (pv 1)))
        (pss_cons (ps_asg (pe_op op_fdiv (pe_ix ix_list (pv 0) pe_int (fun _ _ => rfl)) (pv 1)) (pg_sub (pv 0) pe_int set_list))
        (pss_one (ps_ret (pv 2))))) pss_nil)
      (pss_cons (ps_asg (pe_op op_add (pe_ix ix_list (pv 0) pe_int (fun _ _ => rfl)) pe_int) (pg_sub (pv 0) pe_int set_list))
      (pss_cons (ps_set (i := 3) scRoll.nd rfl (.inl rfl) (pe_op op_mod (pe_op op_pow (pe_op op_add (pe_ix ix_list (pv 0) pe_int (fun _ _ => rfl)) (pe_op op_mul pe_int (pe_ix ix_list (pv 0) pe_int (fun _ _ => rfl)))) pe_int) pe_int))
      (pss_cons (ps_set (i := 4) scRoll.nd rfl (.inl rfl) (pe_op op_mod (pe_op op_pow (pe_op op_add (pe_op op_add (pv 3) (pe_op op_mod (pe_ix ix_list (pv 0) pe_int (fun _ _ => rfl)) pe_int)) (pe_op op_mul pe_int (pe_ix ix_list (pv 0) pe_int (fun _ _ => rfl)))) pe_int) pe_int))
      (pss_one (ps_ret (pe_op op_mod (pe_op op_fdiv (pv 4) pe_int) (pv 1))))))), ?_⟩
    refine ⟨_, rfl, d, _, _, _, rfl, rfl, SqL.of hd, I0, _, _, rfl, rfl, _, rfl, ite2 (fun _ => ?_) (fun _ => ?_)⟩
    · refine ⟨_, rfl, d, _, _, _, rfl, rfl, SqL.of hd, I0, _, rfl, _, _, rfl, rfl, m0, ?_⟩
      refine ⟨_, rfl, d, _, _, _, rfl, rfl, SqL.of hd, I0, _, rfl, _, _, rfl, rfl, ⟨m0, m1⟩, ?_⟩
      refine ⟨_, rfl, d, _, _, 0, rfl, rfl, hd, rfl, ?_⟩
      exact ⟨_, rfl, q _ _ (Int.emod_nonneg _ (by omega)) (Int.emod_lt_of_pos _ m0) ⟨_, y, _, upd_same, Int.ediv_nonneg g0 (by omega), y0, y1, c0, by omega⟩⟩
    · refine ⟨_, rfl, d, _, _, _, rfl, rfl, SqL.of hd, I2, _, _, rfl, rfl, ?_⟩
      refine ⟨_, rfl, d, _, _, 2, rfl, rfl, hd, rfl, ?_⟩
      have hd2 : upd H d (.lst ([V.int g, V.int y, V.int c].set 2 (V.int (c + 1)))) d = some (.lst [V.int g, V.int y, V.int (c + 1)]) := upd_same
      refine ⟨_, rfl, d, _, _, _, rfl, rfl, SqL.of hd2, I1' _, _, rfl, d, _, _, _, rfl, rfl, SqL.of hd2, I2' _, _, _, rfl, rfl, .inl (by decide), _, _, rfl, rfl, _, _, rfl, rfl, ⟨by decide, by decide, by omega⟩, _, _, rfl, rfl, (by show (0 : Int) < 2305843009213693951; decide), ?_⟩
      have a0 := Int.emod_nonneg ((y + 15485867 * (c + 1)) ^ (3 : Int).toNat) (show (2305843009213693951 : Int) ≠ 0 by decide)
      have a1 := Int.emod_lt_of_pos ((y + 15485867 * (c + 1)) ^ (3 : Int).toNat) (show (0 : Int) < 2305843009213693951 by decide)
      have b0 := Int.emod_nonneg y (show (1000081 : Int) ≠ 0 by decide)
      have b1 := Int.emod_lt_of_pos y (show (0 : Int) < 1000081 by decide)
      refine ⟨_, rfl, _, rfl, d, _, _, _, rfl, rfl, SqL.of hd2, I1' _, _, _, rfl, rfl, (by show (0 : Int) < 1000081; decide), _, _, rfl, rfl, _, rfl, d, _, _, _, rfl, rfl, SqL.of hd2, I2' _, _, _, rfl, rfl, .inl (by decide), _, _, rfl, rfl, _, _, rfl, rfl, ⟨by decide, by decide, by omega⟩, _, _, rfl, rfl, (by show (0 : Int) < 2305843009213693907; decide), ?_⟩
      refine ⟨_, rfl, _, _, rfl, rfl, ⟨by decide, by decide⟩, _, rfl, _, _, rfl, rfl, m0, ?_⟩
      exact q _ _ (Int.emod_nonneg _ (by omega)) (Int.emod_lt_of_pos _ m0) ⟨g, y, c + 1, upd_same, g0, y0, y1, by omega, by omega⟩
def spOneOf : Sp := fun vs H Q _ => ∃ (d l : Addr) (n : Nat) (xs : List V), vs = [.ref d, .ref l] ∧ Dice H d n ∧ n ≤ 1000000000 ∧ H l = some (.lst xs) ∧ l ≠ d ∧ 0 < xs.length ∧ xs.length < 1000000 ∧
  ∀ (x : V) (o : HO), x ∈ xs → Dice (upd H d o) d (n + 1) → Q x (upd H d o)
theorem scOneOf : FnScope ["_law_dice_here", "_law_items"] ["_law_dice_here", "_law_items"] (defScope sOneOf) := ⟨rfl, rfl, rfl, by decide +kernel, rfl, by decide +kernel, by decide +kernel⟩
theorem ok_oneOf {f fR : Addr} {fd fdR : FuncData} {k : Nat} (F : Fun K "_law_one_of" "_law_one_of" sOneOf f fd) (FR : Fun K "_law_roll" "_law_roll" sRoll fR fdR) (bR : Binds K fdR ["_law_dice_here", "_law_total"] []) (gR : mg "_law_roll" = some (.ref fR)) (T : TxtD mg) :
    FnOk P w K mg base CX0 (k + 2) f fd ["_law_dice_here", "_law_items"] spOneOf := by
  have GR : FnOk P w K mg base CX0 (k + 1) fR fdR ["_law_dice_here", "_law_total"] spRoll := ok_roll FR
  refine F.ok scOneOf (fun vs H Q E h => ?_) (fun cdv A outer s H vs Q E hr h => ?_)
  · obtain ⟨d, l, n, xs, rfl, _⟩ := h
    rfl
  · obtain ⟨d, l, n, xs, rfl, hd, hn, hl, ne, x0, x1, q⟩ := h
    refine ⟨_, pss_one (ps_ret (pe_ix ix_list (pv 1) (pe_call GR hr (by rfl) gR FR.kp bR .nil pass0 (pa_cons (pv 0) (pa_cons (pe_callB call_len_seq (by rfl) T.len PySem.boot_len (pa_cons (pv 1) pa_nil)) pa_nil))) (fun _ _ => rfl))), ?_⟩
    refine ⟨_, rfl, _, rfl, _, rfl, l, _, rfl, .inl (SqL.of hl), d, _, n, rfl, hd, hn, by omega, by omega, fun r o r0 r1 D => ?_⟩
    obtain ⟨j, rfl⟩ : ∃ j : Nat, r = j := ⟨r.toNat, by omega⟩
    have hj : j < xs.length := by omega
    have hl' : upd H d o l = some (.lst xs) := by rw [upd_ne ne]; exact hl
    exact ⟨l, _, _, _, rfl, rfl, SqL.of hl', atI_nat (List.getElem?_eq_getElem hj), q _ o (List.getElem_mem hj) D⟩
end
end K03
/-! The words that laws draw: one to eight signs from a to z. -/
namespace WD
open PySem PySem.Spec PyProof.Rows L2
/-- signs a to z alone -/
def Low (x : Str) : Prop := ∀ c ∈ x.cps.toList, 97 ≤ c ∧ c ≤ 122
structure Wd (x : Str) : Prop where
  low : Low x
  pos : 0 < x.length
  le : x.length ≤ 8
abbrev abc : Str := "abcdefghijklmnopqrstuvwxyz"
theorem abc_len : abc.length = 26 := by decide +kernel
theorem abc_all : ∀ i < 26, abc.cps.toList[i]? = some (97 + i) := by decide +kernel
theorem len_list {x : Str} : x.cps.toList.length = x.length := by rw [Array.length_toList]; rfl
theorem low_nil : Low "" := fun c h => by
  have e : (("" : Str).cps.toList : List Nat) = [] := by decide +kernel
  rw [e] at h
  cases h
theorem low_one {c : Nat} (h1 : 97 ≤ c) (h2 : c ≤ 122) : Low ⟨#[c]⟩ := fun d h => by
  have e : d = c := by simpa using h
  rw [e]
  exact ⟨h1, h2⟩
theorem app_list {x y : Str} : (x ++ y).cps.toList = x.cps.toList ++ y.cps.toList := by
  show (x.cps ++ y.cps).toList = _
  exact Array.toList_append
theorem app_len {x y : Str} : (x ++ y).length = x.length + y.length := by
  rw [← len_list, app_list, List.length_append, len_list, len_list]
theorem low_app {x y : Str} (a : Low x) (b : Low y) : Low (x ++ y) := fun c h => by
  rw [app_list] at h
  exact (List.mem_append.mp h).elim (a c) (b c)
theorem cut_list (x : Str) (lo hi : Option Int) : (cutS x lo hi).cps.toList = (x.cps.toList.drop (HT.sIx x.length 0 lo)).take (HT.sIx x.length x.length hi - HT.sIx x.length 0 lo) := by
  rw [cutS]
theorem low_cut {x : Str} (a : Low x) (lo hi : Option Int) : Low (cutS x lo hi) := fun c h => by
  rw [cut_list] at h
  exact a c (List.mem_of_mem_drop (List.mem_of_mem_take h))
theorem cut8_len {x : Str} : (cutS x none (some 8)).length = min 8 x.length := by
  rw [← len_list, cut_list, List.length_take, List.length_drop, len_list]
  show min (HT.sIx x.length x.length (some ((8 : Nat) : Int)) - 0) (x.length - 0) = _
  rw [HT.sIx_nat]
  omega
theorem cut1_len {x : Str} (h : 0 < x.length) : (cutS x (some 1) none).length = x.length - 1 := by
  rw [← len_list, cut_list, List.length_take, List.length_drop, len_list]
  show min (x.length - HT.sIx x.length 0 (some ((1 : Nat) : Int))) (x.length - HT.sIx x.length 0 (some ((1 : Nat) : Int))) = _
  rw [HT.sIx_nat]
  omega
/-- the first sign of a word, found again among the letters -/
theorem at_first {x : Str} (h : Wd x) : ∃ c, atI x.cps.toList 0 = some c ∧ 97 ≤ c ∧ c ≤ 122 := by
  have p := h.pos
  rw [← len_list] at p
  obtain ⟨c, l, e⟩ : ∃ c l, x.cps.toList = c :: l := by
    cases z : x.cps.toList with
    | nil => rw [z] at p; exact absurd p (by decide)
    | cons c l => exact ⟨c, l, rfl⟩
  refine ⟨c, ?_, h.low c (by rw [e]; exact List.mem_cons_self)⟩
  rw [e]
  exact atI_nat (j := 0) rfl
theorem found_all : ∀ c, 97 ≤ c ∧ c ≤ 122 → Txt.index0 abc ⟨#[c]⟩ = some (c - 97) := by
  intro c h
  have all : ∀ i < 26, Txt.index0 abc ⟨#[97 + i]⟩ = some i := by decide +kernel
  have z := all (c - 97) (by omega)
  rw [show 97 + (c - 97) = c by omega] at z
  exact z
theorem takes_none {X : Cx} : Takes X fun _ _ _ _ => False := fun _ _ ⟨_, _, _, _, _, _, _, _, _, _, _, _, _, _, _, _, w⟩ => w.elim
/-- all but d stays -/
def DS (d : Addr) (H H' : Hp) : Prop := ∀ b o, b ≠ d → H b = some o → H' b = some o
theorem DS.rfl {d : Addr} {H : Hp} : DS d H H := fun _ _ _ e => e
theorem DS.trans {d : Addr} {H H1 H2 : Hp} (a : DS d H H1) (b : DS d H1 H2) : DS d H H2 := fun c o n e => b c o n (a c o n e)
theorem Same.ds {d : Addr} {H H' : Hp} (s : Same H H') : DS d H H' := fun b o _ e => s b o e
end WD
namespace K03
open PySem PySem.Spec PyProof.Rows L2 WD
open C8 (pss_cut tCut)
abbrev sWords : Stmt := topS 31
structure TxtW (K : PySem.W.Frag) (mg : Str → Option Value) (fR : Addr) (dR : FuncData) : Prop where
  R : Fun K "_law_roll" "_law_roll" sRoll fR dR
  bR : L2.Binds K dR ["_law_dice_here", "_law_total"] []
  gR : mg "_law_roll" = some (.ref fR)
  range : mg "range" = none
theorem ifF {c : Bool} {A B : Prop} (hc : c = false) (h : B) : if c = true then A else B := by
  subst hc
  exact iteF h
theorem ifT {c : Bool} {A B : Prop} (hc : c = true) (h : A) : if c = true then A else B := by
  subst hc
  exact iteT h
theorem ifB {c : Bool} {A B : Prop} (ht : c = true → A) (hf : c = false → B) : if c = true then A else B := by
  cases c
  · exact ifF rfl (hf rfl)
  · exact ifT rfl (ht rfl)
theorem dp_strs {K : PySem.W.Frag} {H : Hp} : ∀ ws : List Str, DpAll K H (ws.map V.str) (ws.map PyData.str)
  | [] => .nil
  | x :: ws => .cons (.str x) (dp_strs ws)
theorem low_ok {x : Str} (h : Low x) : PyData.canLay0 (.str x) = true := by
  show x.cps.all (fun c => decide (c < 0x110000)) = true
  rw [← Array.all_toList, List.all_eq_true]
  exact fun c m => decide_eq_true (Nat.lt_of_le_of_lt (h c m).2 (by decide))
theorem can_strs : ∀ ws : List Str, (∀ x ∈ ws, Wd x) → PyData.canLayAll0 (ws.map PyData.str) = true
  | [], _ => rfl
  | x :: ws, h => by rw [List.map_cons, PyData.canLayAll0, low_ok (h x List.mem_cons_self).low, can_strs ws fun y hy => h y (List.mem_cons_of_mem _ hy)]; rfl
theorem depth_strs : ∀ ws : List Str, PyData.depthAll (ws.map PyData.str) = 0
  | [] => rfl
  | x :: ws => by rw [List.map_cons, PyData.depthAll, depth_strs ws]; rfl
theorem shaped_strs (ws : List Str) (h : ∀ x ∈ ws, Wd x) : SeqAt.shaped (.list (ws.map PyData.str)) = true := by
  rw [SeqAt.shaped, PyData.canLay0, can_strs ws h, PyData.depth, depth_strs]
  rfl
theorem flat_strs : ∀ ws : List Str, (ws.map V.str).all flatV = true
  | [] => rfl
  | x :: ws => by rw [List.map_cons, List.all_cons, flat_strs ws]; rfl
/-- what a law's def that fills a list at p has kept: all but the dice and the list -/
structure Kept (H : Hp) (d p : Addr) (c : Nat) (xs : List V) (H' : Hp) : Prop where
  ds : DS d H H'
  dice : Dice H' d c
  lst : H' p = some (.lst xs)
theorem Kept.roll {H H' : Hp} {d p : Addr} {c c' : Nat} {xs : List V} {o : HO} (k : Kept H d p c xs H') (ne : p ≠ d) (D : Dice (upd H' d o) d c') : Kept H d p c' xs (upd H' d o) := by
  refine ⟨fun b u n e => ?_, D, ?_⟩
  · rw [upd_ne n]; exact k.ds b u n e
  · rw [upd_ne ne]; exact k.lst
theorem Kept.new {H H' : Hp} {d p l : Addr} {c : Nat} {xs : List V} {o : HO} (k : Kept H d p c xs H') (n : H' l = none) : Kept H d p c xs (upd H' l o) ∧ l ≠ d ∧ l ≠ p := by
  have nd : l ≠ d := fun z => by
    obtain ⟨g, s, i, e, _⟩ := k.dice
    rw [z, e] at n
    cases n
  have np : l ≠ p := fun z => by
    rw [z, k.lst] at n
    cases n
  refine ⟨⟨fun b u m e => same_upd n b u (k.ds b u m e), k.dice.same (upd_ne nd.symm), same_upd n p _ k.lst⟩, nd, np⟩
theorem Kept.put {H H' : Hp} {d p : Addr} {c : Nat} {xs ys : List V} (k : Kept H d p c xs H') (ne : p ≠ d) (n : H p = none) : Kept H d p c ys (upd H' p (.lst ys)) := by
  refine ⟨fun b u m e => ?_, k.dice.same (upd_ne ne.symm), upd_same⟩
  rw [upd_ne (ne_of_none e n)]
  exact k.ds b u m e
theorem Kept.more {H H' : Hp} {d p : Addr} {c c' : Nat} {xs : List V} (k : Kept H d p c xs H') (h : c ≤ c') : Kept H d p c' xs H' := ⟨k.ds, k.dice.mono h, k.lst⟩
theorem turns_cases {r : Int} (h0 : 0 ≤ r) (h1 : r < 4) : ∃ k : Nat, 1 ≤ k ∧ k ≤ 8 ∧ atI [V.int 1, V.int 1, V.int 2, V.int 8] r = some (.int k) := by
  have z : r = 0 ∨ r = 1 ∨ r = 2 ∨ r = 3 := by omega
  rcases z with rfl | rfl | rfl | rfl
  · exact ⟨1, by decide, by decide, atI_nat (j := 0) rfl⟩
  · exact ⟨1, by decide, by decide, atI_nat (j := 1) rfl⟩
  · exact ⟨2, by decide, by decide, atI_nat (j := 2) rfl⟩
  · exact ⟨8, by decide, by decide, atI_nat (j := 3) rfl⟩
theorem abc_at {r : Int} (h0 : 0 ≤ r) (h1 : r < 26) : ∃ c, atI abc.cps.toList r = some c ∧ 97 ≤ c ∧ c ≤ 122 := by
  obtain ⟨j, rfl⟩ : ∃ j : Nat, r = j := ⟨r.toNat, by omega⟩
  exact ⟨97 + j, atI_nat (abc_all j (by omega)), by omega, by omega⟩
theorem abc_fits : abc.length ≤ sizeLine := by rw [abc_len, sizeLine_eq]; decide
abbrev nW : List Str := ["_law_dice_here", "_law_total", "_law_letters", "_law_found", "_law_at", "_law_word", "_law_turn"]
theorem scWords : FnScope nW ["_law_dice_here", "_law_total"] (defScope sWords) := ⟨rfl, rfl, rfl, by decide +kernel, rfl, by decide +kernel, by decide +kernel⟩
/-- m words, the dice asked at most twelve times for each -/
def spWords : Sp := fun vs H Q _ => ∃ (d : Addr) (m n : Nat), vs = [.ref d, .int m] ∧ Dice H d n ∧ n ≤ 1000000 ∧ m ≤ 10 ∧
  ∀ H' p (ws : List Str), DS d H H' → H p = none → Dice H' d (n + 12 * m) → H' p = some (.lst (ws.map V.str)) → ws.length = m → (∀ x ∈ ws, Wd x) → Q (.ref p) H'
section
variable {P : Program} {w : World} {K : PySem.W.Frag} {mg : Str → Option Value} {base : Heap} {fR : Addr} {dR : FuncData}
theorem ok_Words {f : Addr} {fd : FuncData} (F : Fun K "_law_words" "_law_words" sWords f fd) (W : TxtW K mg fR dR) : FnOk P w K mg base CX0 2 f fd ["_law_dice_here", "_law_total"] spWords := by
  have GR : FnOk P w K mg base CX0 1 fR dR ["_law_dice_here", "_law_total"] spRoll := ok_roll W.R
  refine F.ok scWords (fun vs H Q E h => ?_) (fun cdv A outer s H vs Q E hr h => ?_)
  · obtain ⟨d, m, n, rfl, _⟩ := h
    rfl
  · obtain ⟨d, m, n, rfl, D, hn, hm, q⟩ := h
    have hu := hr.units
    refine ⟨_, pss_cut (ps_par (i := 2) (j := 3) (by rfl) scWords.nd rfl rfl (by decide) rfl rfl (pa_cons pe_str (pa_cons (pe_lst pa_nil) pa_nil)) (by rfl))
      (pss_cut (ps_for PassesOwn.never rfl (pi_range1 rfl W.range (pa_cons (pv 1) pa_nil)) (pg_name (i := 4) scWords.nd rfl (.inl rfl))
        (pss_cut (ps_set (i := 5) scWords.nd rfl (.inl rfl) pe_str)
        (pss_cut (ps_for PassesOwn.never rfl (pi_range1 rfl W.range (pa_cons (pe_ix ix_list (pe_lst (pa_cons pe_int (pa_cons pe_int (pa_cons pe_int (pa_cons pe_int pa_nil))))) (pe_call GR hr (by rfl) W.gR W.R.kp W.bR .nil pass0 (pa_cons (pv 0) (pa_cons pe_int pa_nil))) (fun _ _ => rfl)) pa_nil)) (pg_name (i := 6) scWords.nd rfl (.inl rfl))
          (pss_one (ps_set (i := 5) scWords.nd rfl (.inl rfl) (pe_op op_add_str (pv 5) (pe_ix ix_str (pv 2) (pe_call GR hr (by rfl) W.gR W.R.kp W.bR .nil pass0 (pa_cons (pv 0) (pa_cons pe_int pa_nil))) (fun _ _ => rfl))))))
        (pss_cut (ps_if (PW.pt (pw_and (pt_cmpR (op_neD hu) (pv 3) (pe_lst pa_nil) (nomark _)) (pw_and1 (pt_cmpR op_eq (pe_call GR hr (by rfl) W.gR W.R.kp W.bR .nil pass0 (pa_cons (pv 0) (pa_cons pe_int pa_nil))) pe_int (nomark _)))))
            (pss_one (ps_set (i := 5) scWords.nd rfl (.inl rfl) (pe_slice sl_str (pe_op op_add_str (pe_ix ix_list (pv 3) (pe_un un_neg pe_int) (fun _ _ => rfl)) pe_str) po_none (po_some pe_int)))) pss_nil)
        (pss_cut (ps_for PassesOwn.never rfl (pi_range1 rfl W.range (pa_cons (pv 1) pa_nil)) (pg_name (i := 6) scWords.nd rfl (.inl rfl))
          (pss_one (ps_if (pt_cmpR op_in_seq (pv 5) (pv 3) (by rfl))
            (pss_one (ps_set (i := 5) scWords.nd rfl (.inl rfl) (pe_op op_add_str (pe_ix ix_str (pv 2) (pe_op op_mod (pe_op op_add (pe_bmS PySem.F.plainAttrs_str PySem.F.slot_str_index PySem.F.type_str_index (mt_indexX rfl takes_none) (pv 2) (pa_cons (pe_ix ix_str (pv 5) pe_int (fun _ _ => rfl)) pa_nil)) pe_int) pe_int) (fun _ _ => rfl)) (pe_slice sl_str (pv 5) (po_some pe_int) po_none)))) pss_nil)))
        (pss_one (ps_expr (pe_bm PySem.F.plainAttrs_list PySem.F.slot_list_append PySem.F.type_list_append mt_append (pv 3) (pa_cons (pv 5) pa_nil)))))))))
      (pss_one (ps_ret (pv 3)))), ?_⟩
    refine ⟨fun σ' H' => ∃ p, σ' = [some (.ref d), some (.int m), some (.str abc), some (.ref p), none, none, none] ∧ H p = none ∧ p ≠ d ∧ Kept H d p n [] H', ?_, ?_⟩
    · refine ⟨(by show 0 ≤ sizeLine; decide), fun p hp => ⟨_, _, rfl, p, rfl, hp, ?_, ⟨fun b o _ e => same_upd hp b o e, ?_, upd_same⟩⟩⟩
      · intro z
        obtain ⟨g, s, i, e, _⟩ := D
        rw [z, e] at hp
        cases hp
      · refine D.same (upd_ne ?_)
        intro z
        obtain ⟨g, s, i, e, _⟩ := D
        rw [← z, e] at hp
        cases hp
    rintro σ1 H1 ⟨p, rfl, np, nd, k1⟩
    refine ⟨fun σ' H' => ∃ (ws : List Str) (u4 u5 u6 : Option V), σ' = [some (.ref d), some (.int m), some (.str abc), some (.ref p), u4, u5, u6] ∧ Kept H d p (n + 12 * m) (ws.map V.str) H' ∧ ws.length = m ∧ ∀ x ∈ ws, Wd x, ?_, ?_⟩
    rotate_left
    · rintro σ2 H2 ⟨ws, u4, u5, u6, rfl, k2, l2, w2⟩
      exact ⟨_, rfl, q H2 p ws k2.ds np k2.dice k2.lst l2 w2⟩
    refine ⟨_, rfl, (m : Int), rfl, by omega, by omega, ?_⟩
    rw [Int.toNat_natCast]
    refine for_range (lo := 0) (n := m) (fun i σ' H' => ∃ (ws : List Str) (u4 u5 u6 : Option V), σ' = [some (.ref d), some (.int m), some (.str abc), some (.ref p), u4, u5, u6] ∧ Kept H d p (n + 12 * i) (ws.map V.str) H' ∧ ws.length = i ∧ ∀ x ∈ ws, Wd x)
      ⟨[], none, none, none, rfl, k1, rfl, fun _ z => (nomatch z)⟩ ?_ (fun σ' H' z => z)
    rintro i σ2 H2 hi ⟨ws, u4, u5, u6, rfl, k2, l2, w2⟩
    rw [Int.zero_add]
    -- word = ''
    refine ⟨fun σ' H' => σ' = [some (.ref d), some (.int m), some (.str abc), some (.ref p), some (.int i), some (.str ""), u6] ∧ H' = H2, ⟨rfl, rfl⟩, ?_⟩
    rintro σ3 H3 ⟨rfl, rfl⟩
    -- its signs
    refine ⟨fun σ' H' => ∃ (x : Str) (u6 : Option V), σ' = [some (.ref d), some (.int m), some (.str abc), some (.ref p), some (.int i), some (.str x), u6] ∧ Wd x ∧ Kept H d p (n + 12 * i + 9) (ws.map V.str) H', ?_, ?_⟩
    · refine ⟨(by show 4 ≤ sizeLine; decide), fun l nl => ?_⟩
      obtain ⟨k3, ld, lp⟩ := k2.new (o := .lst [.int 1, .int 1, .int 2, .int 8]) nl
      refine ⟨_, rfl, d, 4, _, rfl, k3.dice, by omega, by decide, by decide, fun r o r0 r1 D4 => ?_⟩
      have k4 := k3.roll nd D4
      obtain ⟨t, t1, t8, et⟩ := turns_cases r0 r1
      refine ⟨l, _, r, _, rfl, rfl, SqL.of (xs := [.int 1, .int 1, .int 2, .int 8]) (by rw [upd_ne ld]; exact upd_same), et, (t : Int), rfl, by omega, by omega, ?_⟩
      rw [Int.toNat_natCast]
      refine for_range (lo := 0) (n := t) (fun j σ' H' => ∃ (x : Str) (u6 : Option V), σ' = [some (.ref d), some (.int m), some (.str abc), some (.ref p), some (.int i), some (.str x), u6] ∧ Low x ∧ x.length = j ∧ Kept H d p (n + 12 * i + 1 + j) (ws.map V.str) H')
        ⟨"", u6, rfl, low_nil, by decide +kernel, k4⟩ ?_ ?_
      · rintro j σ5 H5 hj ⟨x, v6, rfl, lx, ex, k5⟩
        refine ⟨_, rfl, _, rfl, _, rfl, d, 26, _, rfl, k5.dice, by omega, by decide, by decide, fun r o r0 r1 D6 => ?_⟩
        obtain ⟨c, ec, c1, c2⟩ := abc_at r0 r1
        refine ⟨abc, r, c, rfl, rfl, abc_fits, ec, x, _, rfl, rfl, ?_, x ++ ⟨#[c]⟩, some (.int (0 + (j : Int))), rfl, low_app lx (low_one c1 c2), ?_, k5.roll nd D6⟩
        · rw [ex, sizeLine_eq]
          show j + 1 ≤ _
          omega
        · rw [app_len, ex]
          rfl
      · rintro σ5 H5 ⟨x, v6, rfl, lx, ex, k5⟩
        exact ⟨x, v6, rfl, ⟨lx, by omega, by omega⟩, k5.more (by omega)⟩
    rintro σ3 H4 ⟨x, v6, rfl, wx, k4⟩
    -- a sign behind the word before
    refine ⟨fun σ' H' => ∃ (x : Str), σ' = [some (.ref d), some (.int m), some (.str abc), some (.ref p), some (.int i), some (.str x), v6] ∧ Wd x ∧ Kept H d p (n + 12 * i + 10) (ws.map V.str) H', ?_, ?_⟩
    · refine ⟨_, rfl, (by show 0 ≤ sizeLine; decide), fun l nl => ?_⟩
      obtain ⟨k5, ld, lp⟩ := k4.new (o := .lst []) nl
      refine ⟨_, _, .lst (SqL.of k5.lst) (dp_strs ws), .lst (SqL.of upd_same) .nil, shaped_strs ws w2, rfl, _, rfl, ifB (fun e => ?_) fun _ => ?_⟩
      · refine ⟨_, rfl, d, 4, _, rfl, k5.dice, by omega, by decide, by decide, fun r o r0 r1 D6 => ?_⟩
        have k6 := k5.roll nd D6
        refine ⟨rfl, _, rfl, ifB (fun _ => ?_) fun _ => ?_⟩
        · obtain ⟨w0, y, rfl⟩ : ∃ w0 y, ws = w0 ++ [y] := by
            rcases List.eq_nil_or_concat ws with z | ⟨w0, y, z⟩
            · rw [z] at e
              exact absurd e (by decide)
            · exact ⟨w0, y, by rw [z, List.concat_eq_append]⟩
          have wy : Wd y := w2 y (by simp)
          refine ⟨_, rfl, 1, rfl, p, _, -1, .str y, rfl, rfl, SqL.of k6.lst, ?_, y, "a", rfl, rfl, ?_, 8, rfl, y ++ "a", rfl, ?_, ?_⟩
          · rw [List.map_append]
            exact atI_last _ _
          · have := wy.le
            rw [sizeLine_eq]
            show y.length + 1 ≤ _
            omega
          · have := wy.le
            rw [app_len, sizeLine_eq]
            show y.length + 1 ≤ _
            omega
          · have ya : (y ++ "a").length = y.length + 1 := app_len
            have la : Low "a" := by
              have z : ("a" : Str) = ⟨#[97]⟩ := by decide +kernel
              rw [z]
              exact low_one (by decide) (by decide)
            exact ⟨cutS (y ++ "a") none (some 8), rfl, ⟨low_cut (low_app wy.low la) _ _, by rw [cut8_len, ya]; omega, by rw [cut8_len]; omega⟩, k6⟩
        · exact ⟨x, rfl, wx, k6⟩
      · exact ⟨x, rfl, wx, k5.more (by omega)⟩
    rintro σ4 H5 ⟨x, rfl, wx, k5⟩
    -- another first sign while the word is there
    refine ⟨fun σ' H' => ∃ (x : Str) (u6 : Option V), σ' = [some (.ref d), some (.int m), some (.str abc), some (.ref p), some (.int i), some (.str x), u6] ∧ Wd x ∧ H' = H5, ?_, ?_⟩
    · refine ⟨_, rfl, (m : Int), rfl, by omega, by omega, ?_⟩
      rw [Int.toNat_natCast]
      refine for_range (lo := 0) (n := m) (fun j σ' H' => ∃ (x : Str) (u6 : Option V), σ' = [some (.ref d), some (.int m), some (.str abc), some (.ref p), some (.int i), some (.str x), u6] ∧ Wd x ∧ H' = H5) ⟨x, v6, rfl, wx, rfl⟩ ?_ (fun σ' H' z => z)
      rintro j σ6 H6 hj ⟨x, u6, rfl, wx, rfl⟩
      refine ⟨_, rfl, _, rfl, p, _, rfl, .inl (SqL.of k5.lst), rfl, flat_strs ws, _, rfl, ifB (fun _ => ?_) fun _ => ?_⟩
      · obtain ⟨c, ec, c1, c2⟩ := at_first wx
        refine ⟨_, rfl, _, rfl, rfl, _, rfl, x, 0, c, rfl, rfl, ?_, ec, abc, _, rfl, rfl, fun k ek => ?_, fun en => ?_⟩
        · have := wx.le
          rw [sizeLine_eq]
          omega
        · have kc : k < 26 := by
            rw [found_all c ⟨c1, c2⟩] at ek
            cases ek
            omega
          obtain ⟨c', ec', d1, d2⟩ := abc_at (r := ((k : Int) + 1) % 26) (by omega) (by omega)
          have cl := cut1_len wx.pos
          have xl := wx.le
          refine ⟨_, _, rfl, rfl, _, _, rfl, rfl, (by show (0 : Int) < 26; decide), abc, _, c', rfl, rfl, abc_fits, ec', _, rfl, 1, rfl, x, rfl, by rw [sizeLine_eq]; omega, _, _, rfl, rfl, ?_, _, _, rfl, ⟨low_app (low_one d1 d2) (low_cut wx.low _ _), ?_, ?_⟩, rfl⟩
          · rw [cl, sizeLine_eq]
            show 1 + (x.length - 1) ≤ _
            omega
          · rw [app_len, cl]
            show 0 < 1 + (x.length - 1)
            omega
          · rw [app_len, cl]
            show 1 + (x.length - 1) ≤ 8
            omega
        · rw [found_all c ⟨c1, c2⟩] at en
          exact nomatch en
      · exact ⟨x, _, rfl, wx, rfl⟩
    rintro σ5 H6 ⟨x, u6, rfl, wx, rfl⟩
    refine ⟨_, rfl, .inl ⟨rfl, _, SqL.of k5.lst⟩, _, rfl, p, _, _, rfl, rfl, k5.lst, ?_, ?_⟩
    · rw [List.length_map, l2, sizeLine_eq]
      omega
    · refine ⟨ws ++ [x], _, _, _, rfl, ?_, by rw [List.length_append, l2]; rfl, fun y hy => ?_⟩
      · rw [List.map_append]
        exact (k5.put nd np).more (by omega)
      · rcases List.mem_append.mp hy with z | z
        · exact w2 y z
        · rw [List.mem_singleton.mp z]; exact wx
end
end K03
/-! Sets of nested keys (tuples of numbers, texts, tuples ..): what a table asks of its items. -/
namespace NS
open PySem PySem.Spec PyProof.Rows L2
section
variable {P : Program} {w : World}
/-- hashByValue answers, one way or the other -/
def AnyHash (P : Program) (w : World) (n : Nat) (s : Shared) (v : Value) : Prop := ∀ (A : Around) (E : Value → Shared → Prop) (Q : Bool → Shared → Prop), (∀ b, Q b s) → wpAny (model P w) A (hashByValue n v) Q E s
def NoClass (P : Program) (w : World) (n : Nat) (s : Shared) (v : Value) : Prop := ∀ (A : Around) (E : Value → Shared → Prop) (Q : Bool → Shared → Prop), Q false s → wpAny (model P w) A (ofAClassStatement n v) Q E s
theorem AnyHash.of_eq {n : Nat} {s : Shared} {v : Value} {b : Bool} (e : hashByValue n v = pure b) : AnyHash P w n s v := fun A E Q q => by
  rw [e]
  exact wpAny_pure (q b)
theorem NoClass.of_eq {n : Nat} {s : Shared} {v : Value} (e : ofAClassStatement n v = pure false) : NoClass P w n s v := fun A E Q q => by
  rw [e]
  exact wpAny_pure q
theorem AnyHash.tup {n : Nat} {s : Shared} {a : Addr} {o : Obj} {vs : Array Value} {m : Nat} (ho : s.heap.get? a = some o) (hc : o.cls = .type "tuple") (hd : o.data = .seq vs m) (all : ∀ v ∈ vs.toList, AnyHash P w n s v) : AnyHash P w (n + 1) s (.ref a) := fun A E Q q => by
  have ty : s.TypeIs (.ref a) "tuple" := ⟨o, ho, hc⟩
  rw [hashByValue]
  refine wpAny_bind (wpAny_specialOf ty F.slot_tuple_hash.lookup (show wpAny _ _ (seqItems? (.ref a) >>= _) _ _ s from wpAny_bind (wpAny_seqItems ho hd (wpAny_bind ?_))))
  show wpAny _ _ (forIn vs _ _) _ _ s
  rw [← Array.forIn_toList]
  refine wpAny_forIn_list _ (fun l r s1 => s1 = s ∧ r.1 = none ∧ ∀ v ∈ l, AnyHash P w n s v) _ (fun v l r s1 i => ?_) (fun r s1 i => ?_) _ _ ⟨rfl, rfl, all⟩
  · obtain ⟨rfl, e, al⟩ := i
    refine wpAny_bind (al v List.mem_cons_self _ _ _ fun b => ?_)
    cases b
    · exact wpAny_pure (wpAny_pure (q false))
    · exact wpAny_pure ⟨rfl, rfl, fun u hu => al u (List.mem_cons_of_mem _ hu)⟩
  · obtain ⟨r1, r2⟩ := r
    obtain ⟨rfl, e, _⟩ := i
    cases e
    exact wpAny_pure (q true)
theorem NoClass.tup {n : Nat} {s : Shared} {a : Addr} {o : Obj} {vs : Array Value} {m : Nat} (ho : s.heap.get? a = some o) (hc : o.cls = .type "tuple") (hd : o.data = .seq vs m) (all : ∀ v ∈ vs.toList, NoClass P w n s v) : NoClass P w (n + 1) s (.ref a) := fun A E Q q => by
  have ty : s.TypeIs (.ref a) "tuple" := ⟨o, ho, hc⟩
  rw [ofAClassStatement]
  refine wpAny_bind (wpAny_typeOf ty ?_)
  dsimp only
  rw [show (("tuple" : String) == "tuple") = true from rfl]
  simp only [if_true, Bool.not_true, Bool.false_eq_true, if_false]
  try refine wpAny_bind (wpAny_pure ?_)
  try simp only [Bool.not_true, Bool.false_eq_true, if_false]
  refine (show wpAny _ _ (seqItems? (.ref a) >>= _) _ _ s from wpAny_bind (wpAny_seqItems ho hd (wpAny_bind ?_)))
  show wpAny _ _ (forIn vs _ _) _ _ s
  rw [← Array.forIn_toList]
  refine wpAny_forIn_list _ (fun l r s1 => s1 = s ∧ r.1 = none ∧ ∀ v ∈ l, NoClass P w n s v) _ (fun v l r s1 i => ?_) (fun r s1 i => ?_) _ _ ⟨rfl, rfl, all⟩
  · obtain ⟨rfl, e, al⟩ := i
    exact wpAny_bind (al v List.mem_cons_self _ _ _ (wpAny_pure ⟨rfl, rfl, fun u hu => al u (List.mem_cons_of_mem _ hu)⟩))
  · obtain ⟨r1, r2⟩ := r
    obtain ⟨rfl, e, _⟩ := i
    cases e
    exact wpAny_pure q
mutual
theorem hash_key : ∀ (k : NestedKey) (v : Value) (n : Nat) (s : Shared), NestedIs s.heap k v → AnyHash P w n s v
  | .none, _, n, s, x => by cases x; cases n <;> exact .of_eq (b := true) rfl
  | .num i, _, n, s, x => by cases x <;> cases n <;> exact .of_eq (b := true) rfl
  | .text y, _, n, s, x => by cases x; cases n <;> exact .of_eq (b := false) rfl
  | .tup ks, _, n, s, x => by
    cases x with
    | tup a1 a2 a3 a4 =>
      cases n with
      | zero => exact .of_eq (b := false) rfl
      | succ n => exact .tup a1 a2 a3 (hash_keys ks _ n s a4)
theorem hash_keys : ∀ (ks : List NestedKey) (vs : List Value) (n : Nat) (s : Shared), NestedAll s.heap ks vs → ∀ v ∈ vs, AnyHash P w n s v
  | [], _, n, s, x, v, m => by cases x; exact nomatch m
  | k :: ks, _, n, s, x, v, m => by
    cases x with
    | cons x1 x2 => exact (List.mem_cons.mp m).elim (fun e => e ▸ hash_key k _ n s x1) (hash_keys ks _ n s x2 v)
end
mutual
theorem class_key : ∀ (k : NestedKey) (v : Value) (n : Nat) (s : Shared), NestedIs s.heap k v → k.depth ≤ n → NoClass P w n s v
  | .none, _, n, s, x, _ => by cases x; cases n <;> exact .of_eq rfl
  | .num i, _, n, s, x, _ => by cases x <;> cases n <;> exact .of_eq rfl
  | .text y, _, n, s, x, _ => by cases x; cases n <;> exact .of_eq rfl
  | .tup ks, _, n, s, x, d => by
    cases x with
    | tup a1 a2 a3 a4 =>
      rw [NestedKey.depth] at d
      cases n with
      | zero => exact absurd d (Nat.not_succ_le_zero _)
      | succ n => exact .tup a1 a2 a3 (class_keys ks _ n s a4 (Nat.le_of_succ_le_succ d))
theorem class_keys : ∀ (ks : List NestedKey) (vs : List Value) (n : Nat) (s : Shared), NestedAll s.heap ks vs → NestedKey.depthAll ks ≤ n → ∀ v ∈ vs, NoClass P w n s v
  | [], _, n, s, x, _, v, m => by cases x; exact nomatch m
  | k :: ks, _, n, s, x, d, v, m => by
    cases x with
    | cons x1 x2 =>
      rw [NestedKey.depthAll] at d
      exact (List.mem_cons.mp m).elim (fun e => e ▸ class_key k _ n s x1 (by omega)) (class_keys ks _ n s x2 (by omega) v)
end
/-- what a set may hold here: the tuple at a is the key k, at most eight deep -/
structure Nk (h : Heap) (k : NestedKey) (a : Addr) : Prop where
  is : NestedIs h k (.ref a)
  dp : k.depth ≤ 8
theorem Nk.inj {h : Heap} {x y : NestedKey} {a : Addr} (p : Nk h x a) (q : Nk h y a) : x = y := NestedIs.inj x y _ p.is q.is
theorem Nk.keep {h h' : Heap} {k : NestedKey} {a : Addr} (p : Nk h k a) (f : ∀ b o, h.get? b = some o → h'.get? b = some o) : Nk h' k a := ⟨NestedIs.at (fun b o _ _ e _ => f b o e) k _ p.is, p.dp⟩
theorem Nk.but {h h' : Heap} {k : NestedKey} {a b : Addr} {o : Obj} {es : Array (Int × Value)} {ep : Nat} {t : SetTable} (p : Nk h k b) (ho : h.get? a = some o) (hd : o.data = .set es ep t) (sb : Heap.SameBut a h h') : Nk h' k b := by
  refine ⟨NestedIs.at (fun c oc vs n e ec => (sb.2 c fun z => ?_).trans e) k _ p.is, p.dp⟩
  subst z
  rw [ho] at e
  cases e
  rw [hd] at ec
  cases ec
variable {A : Around} {E : Value → Shared → Prop} {s : Shared}
/-- a search among keys shows nothing -/
theorem hidden {k : NestedKey} {a : Addr} {Q : Bool → Shared → Prop} (x : Nk s.heap k a) {ys : List Value} (hy : ∀ y ∈ ys, ∃ j b, y = Value.ref b ∧ Nk s.heap j b) (q : Q false s) : wpAny (model P w) A (searchCouldBeSeen (.ref a) ys) Q E s := by
  rw [searchCouldBeSeen]
  refine wpAny_bind (wpAny_forIn_list _ (fun l r s1 => s1 = s ∧ r.1 = none ∧ ∀ y ∈ l, ∃ j b, y = Value.ref b ∧ Nk s.heap j b) _ (fun v l r s1 i => ?_) (fun r s1 i => ?_) _ _ ⟨rfl, rfl, hy⟩)
  · obtain ⟨rfl, e, al⟩ := i
    obtain ⟨j, b, rfl, xb⟩ := al v List.mem_cons_self
    have nx : s1 = s1 ∧ (none : Option Bool) = none ∧ ∀ y ∈ l, ∃ j b, y = Value.ref b ∧ Nk s1.heap j b := ⟨rfl, rfl, fun u hu => al u (List.mem_cons_of_mem _ hu)⟩
    by_cases c : (a == b || (carriedByValue (.ref a) && carriedByValue (.ref b))) = true
    · exact wp_if_pos c (wpAny_pure nx)
    · refine wp_if_neg c (wpAny_bind (quiet_key k _ 8 s1 x.is x.dp _ _ _ ?_))
      refine wpAny_bind (quiet_key j _ 8 s1 xb.is xb.dp _ _ _ ?_)
      refine wpAny_bind (class_key k _ 8 s1 x.is x.dp _ _ _ ?_)
      refine wpAny_bind (class_key j _ 8 s1 xb.is xb.dp _ _ _ ?_)
      exact wpAny_pure nx
  · obtain ⟨r1, r2⟩ := r
    obtain ⟨rfl, e, _⟩ := i
    cases e
    exact wpAny_pure q
end
end NS
/-! Sets of nested keys: the set at an address, looking for a key in it, putting one in. -/
namespace NS
open PySem PySem.Spec PyProof.Rows L2
abbrev Row := Addr × NestedKey
/-- what the set keeps of its rows -/
def kept (w : World) (L : List Row) : List (Int × Value) := L.map fun p => (p.2.hash w, Value.ref p.1)
theorem kept_len {w : World} {L : List Row} : (kept w L).length = L.length := List.length_map _
theorem kept_get {w : World} {L : List Row} {i : Nat} {p : Row} (e : L[i]? = some p) : (kept w L)[i]? = some (p.2.hash w, Value.ref p.1) := by
  rw [kept, List.getElem?_map, e]
  rfl
/-- the keys of the rows -/
abbrev keysOf (L : List Row) : List NestedKey := L.map Prod.snd
abbrev hashesOf (w : World) (L : List Row) : List Int := L.map fun p => p.2.hash w
structure NSet (P : Program) (w : World) (h : Heap) (a : Addr) (L : List Row) (es : Array (Int × Value)) (ep : Nat) (t : SetTable) : Prop where
  here : ∃ o, h.get? a = some o ∧ o.ExactSet ∧ o.data = .set es ep t
  es : es.toList = kept w L
  tab : TabOk t (hashesOf w L)
  once : (keysOf L).Nodup
  keys : ∀ p ∈ L, Nk h p.2 p.1
  led : w.params.followText "set-order" = true ∨ t.led = true
  space : L.length * 5 < t.mask * 3
  few : L.length < 64
/-- the c-th stand of the search for the hash g -/
abbrev stand (t : SetTable) (g : Int) (c : Nat) : SetTable.Probe := nth t.mask (runAt t.mask (SetTable.bits g % (t.mask + 1)) (SetTable.bits g)) c
theorem stand_on (t : SetTable) (g : Int) (c q : Nat) : nth t.mask (stand t g c) q = stand t g (c + q) := (nth_add t.mask c _ q).symm
theorem adv_dummy {m : Nat} {p : SetTable.Probe} (e : p.dummy = none) : (adv m p).dummy = none := by
  unfold adv
  split
  · exact e
  · exact e
theorem nth_dummy {m : Nat} : ∀ (n : Nat) {p : SetTable.Probe}, p.dummy = none → (nth m p n).dummy = none
  | 0, _, e => e
  | n + 1, _, e => nth_dummy n (adv_dummy e)
theorem stand_dummy (t : SetTable) (g : Int) (c : Nat) : (stand t g c).dummy = none := nth_dummy c rfl
section
variable {P : Program} {w : World} {A : Around} {E : Value → Shared → Prop} {s : Shared} {a : Addr} {L : List Row} {es : Array (Int × Value)} {ep : Nat} {t : SetTable}
theorem NSet.size (R : NSet P w s.heap a L es ep t) : es.size = L.length := by
  rw [← Array.length_toList, R.es, kept_len]
theorem NSet.places (R : NSet P w s.heap a L es ep t) : t.place.size = L.length := R.tab.sz.trans (List.length_map _)
theorem NSet.fits (R : NSet P w s.heap a L es ep t) : t.fits es.size = true := by
  have n1 := R.places
  have n2 := R.size
  have n3 := R.space
  have n4 : t.fill = L.length := by
    show t.place.size + t.dummies.size = L.length
    rw [R.tab.dm, n1]
    rfl
  rw [SetTable.fits, n4, n1, n2, beq_self_eq_true, Bool.true_and, decide_eq_true_eq]
  omega
theorem NSet.at (R : NSet P w s.heap a L es ep t) {i : Nat} {p : Row} (e : L[i]? = some p) : es[i]? = some (p.2.hash w, Value.ref p.1) := by
  rw [← Array.getElem?_toList, R.es, kept_get e]
theorem NSet.keptHash (R : NSet P w s.heap a L es ep t) {i : Nat} {p : Row} (e : L[i]? = some p) : (es[i]?.map (·.1)).getD 0 = p.2.hash w := by
  rw [R.at e]
  rfl
theorem NSet.still (R : NSet P w s.heap a L es ep t) : ¬ t.gaveWay = true := by
  rw [SetTable.gaveWay, mask_odd R.tab.mok]
  decide
/-- the search for k, from its c-th stand on; N is the first stand at an empty slot -/
theorem look (R : NSet P w s.heap a L es ep t) {x : Addr} {k : NestedKey} (hx : Nk s.heap k x) (hu : A.units + 8 < cLine) {N : Nat} (bound : N < 10 * SetTable.turns t.mask)
    (free : way t.mask (k.hash w) N ∉ t.place.toList) (full : ∀ c, c < N → way t.mask (k.hash w) c ∈ t.place.toList) {Q : SetFound → Shared → Prop}
    (yes : k ∈ keysOf L → Q (.there none) s) (no : k ∉ keysOf L → Q (.free (way t.mask (k.hash w) N) false) s) (fuel : Nat) :
    ∀ (c : Nat) (from? : Option SetTable.Probe), from?.getD (t.probeStart (k.hash w)) = stand t (k.hash w) c → c ≤ N → N < fuel + c →
      (∀ (i : Nat) (p : Row), L[i]? = some p → p.2 = k → ∃ d, c ≤ d ∧ d < N ∧ t.place.toList[i]? = some (way t.mask (k.hash w) d)) →
      wpAny (model P w) A (setSearchFrom a (.ref x) (k.hash w) true fuel from?) Q E s := by
  induction fuel with
  | zero => intro c _ _ h1 h2; omega
  | succ fuel ih =>
    intro c from? hfrom hc hfuel ahead
    obtain ⟨o, ho, hex, hd⟩ := R.here
    generalize hg : k.hash w = g at *
    have onj : ∀ q, (nth t.mask (stand t g c) q).j = way t.mask g (c + q) := fun q => congrArg SetTable.Probe.j (stand_on t g c q)
    have eN : c + (N - c) = N := by omega
    have found := go_spec t R.tab.ris R.tab.dm (fun i => (es[i]?.map (·.1)).getD 0) g (10 * SetTable.turns t.mask) (N - c) (stand t g c) (stand_dummy t g c) (by omega)
      (fun q hq => by rw [onj]; exact full _ (by omega)) (by rw [onj, eN]; exact free)
    rw [setSearchFrom_succ]
    refine wpAny_bind (wpAny_setState_of ho hd R.fits (wp_if_neg R.still ?_))
    try refine wpAny_bind (wpAny_pure ?_)
    rcases found with ⟨q, i, hq, hi, hh, early, ans⟩ | ⟨none, ans⟩
    · -- an entry of the same hash
      have ans2 : t.probe (fun i => (es[i]?.map (·.1)).getD 0) g (from?.getD (t.probeStart g)) = some (.candidate (way t.mask g (c + q)) i (stand t g (c + (q + 1)))) := by
        rw [hfrom, ← onj, ← stand_on]
        exact ans
      rw [onj] at hi
      have hil : i < L.length := by
        have z := (List.getElem?_eq_some_iff.mp hi).1
        rw [Array.length_toList, R.places] at z
        exact z
      obtain ⟨p, hp⟩ : ∃ p, L[i]? = some p := ⟨_, List.getElem?_eq_getElem hil⟩
      have mp : p ∈ L := List.mem_of_getElem? hp
      have here : t.slot (way t.mask g (c + q)) = .live i := slot_live R.tab.ris hi
      have go : wpAny (model P w) A (searchRest a (.ref x) g true fuel es t (way t.mask g (c + q)) i (stand t g (c + (q + 1)))) Q E s := by
        rw [searchRest, R.at hp]
        refine wpAny_bind (wpAny_holding (eqAt_key p.2 k A s _ _ (R.keys p mp).is hx.is (by have := hx.dp; omega) _ _ _ _ ?_))
        refine wpAny_bind (wpAny_setState_of ho hd R.fits ?_)
        by_cases same : p.2 = k
        · have eb : NestedKey.beq p.2 k = true := by rw [same]; exact NestedKey.beq_self k
          rw [eb]
          exact wpAny_pure (yes (List.mem_map.mpr ⟨p, mp, same⟩))
        · have eb : NestedKey.beq p.2 k = false := by rw [← NestedKey.decide_eq]; exact decide_eq_false same
          rw [eb]
          simp only [Bool.and_false, Bool.false_eq_true, if_false]
          try refine wpAny_bind (wpAny_pure ?_)
          rw [sameMem]
          simp only [if_true, here, R.at hp]
          refine wpAny_bind (wpAny_isSame_ref_self (wpAny_bind (wpAny_pure ?_)))
          simp only [if_true, Bool.false_eq_true, if_false]
          refine ih (c + (q + 1)) _ rfl (by omega) (by omega) fun i2 p2 h2 e2 => ?_
          obtain ⟨d, d1, d2, d3⟩ := ahead i2 p2 h2 e2
          refine ⟨d, ?_, d2, d3⟩
          rcases Nat.lt_trichotomy d (c + q) with z | z | z
          · refine absurd ((R.keptHash h2).trans (by rw [e2]; exact hg)) (early (d - c) i2 (by omega) ?_)
            rw [onj, show c + (d - c) = d by omega]
            exact d3
          · rw [z] at d3
            have l2 := slot_live R.tab.ris d3
            rw [here] at l2
            injection l2 with l2
            rw [← l2, hp] at h2
            cases h2
            exact absurd e2 same
          · omega
      rw [ans2]
      by_cases hl : t.led = true
      · refine wp_if_neg (by rw [hl]; decide) ?_
        try refine wpAny_bind (wpAny_pure ?_)
        exact go
      · refine wp_if_pos (by cases z : t.led with | true => exact absurd z hl | false => rfl) ?_
        refine wpAny_bind (hidden hx (fun y hy => ?_) ?_)
        · obtain ⟨e, he, ee⟩ := List.mem_map.mp hy
          have he1 : e ∈ es.toList := by
            have z : e ∈ es ∧ e.1 = g := by simpa using he
            simpa using z.1
          rw [R.es] at he1
          obtain ⟨p2, m2, e2⟩ := List.mem_map.mp he1
          exact ⟨p2.2, p2.1, by rw [← ee, ← e2], R.keys p2 m2⟩
        · simp only [Bool.false_eq_true, if_false]
          try refine wpAny_bind (wpAny_pure ?_)
          exact go
    · -- the empty slot
      have ans2 : t.probe (fun i => (es[i]?.map (·.1)).getD 0) g (from?.getD (t.probeStart g)) = some (.empty (way t.mask g N) Option.none) := by
        rw [hfrom, show way t.mask g N = (nth t.mask (stand t g c) (N - c)).j by rw [onj, eN]]
        exact ans
      rw [ans2]
      refine wpAny_pure (no fun m => ?_)
      obtain ⟨p, mp, e⟩ := List.mem_map.mp m
      obtain ⟨i, hi, ei⟩ := List.getElem_of_mem mp
      have hp : L[i]? = some p := by rw [List.getElem?_eq_getElem hi, ei]
      obtain ⟨d, d1, d2, d3⟩ := ahead i p hp e
      refine none (d - c) i (by omega) ?_ ((R.keptHash hp).trans (by rw [e]; exact hg))
      rw [onj, show c + (d - c) = d by omega]
      exact d3
theorem lookup (R : NSet P w s.heap a L es ep t) {x : Addr} {k : NestedKey} (hx : Nk s.heap k x) (hu : A.units + 8 < cLine) {Q : SetFound → Shared → Prop} (yes : k ∈ keysOf L → Q (.there none) s)
    (no : ∀ N, k ∉ keysOf L → way t.mask (k.hash w) N ∉ t.place.toList → (∀ c, c < N → way t.mask (k.hash w) c ∈ t.place.toList) → Q (.free (way t.mask (k.hash w) N) false) s) :
    wpAny (model P w) A (setSearch a (.ref x) (k.hash w) true) Q E s := by
  have sp := R.space
  obtain ⟨N, n1, n2, n3⟩ := R.tab.first (by rw [List.length_map]; omega) (k.hash w)
  have small : N < 100000 := by
    have z : 10 * SetTable.turns t.mask ≤ 1420 := by
      unfold SetTable.turns
      rcases R.tab.mok with e | e | e <;> omega
    omega
  refine look R hx hu n1 n2 n3 yes (fun m => no N m n2 n3) 100000 0 none rfl (Nat.zero_le _) (by omega) fun i p hp e => ?_
  have hi : (hashesOf w L)[i]? = some (k.hash w) := by
    rw [List.getElem?_map, hp, ← e]
    rfl
  have il : i < t.place.toList.length := by
    rw [Array.length_toList, R.places]
    exact (List.getElem?_eq_some_iff.mp hp).1
  obtain ⟨d, d1, d2⟩ := R.tab.before n2 hi (List.getElem?_eq_getElem il)
  exact ⟨d, Nat.zero_le _, d1, by rw [List.getElem?_eq_getElem il, d2]⟩
end
end NS
/-! Sets of nested keys: laying the table anew, adding. -/
namespace NS
open PySem PySem.Spec PyProof.Rows L2
theorem range_get {α : Type} : ∀ l : List α, (List.range l.length).filterMap (fun i => l[i]?) = l
  | [] => rfl
  | x :: l => by
    rw [List.length_cons, List.range_succ_eq_map, List.filterMap_cons, List.filterMap_map]
    have e : (List.range l.length).filterMap ((fun i => (x :: l)[i]?) ∘ Nat.succ) = (List.range l.length).filterMap fun i => l[i]? := by
      congr 1
    rw [e, range_get l]
    rfl
section
variable {P : Program} {w : World}
theorem reordered {L : List Row} {es : Array (Int × Value)} {order : Array Nat} (he : es.toList = kept w L) (hp : order.toList.Perm (List.range L.length)) :
    ∃ L2, (order.filterMap (es[·]?)).toList = kept w L2 ∧ L2.Perm L ∧ hashesOf w L2 = order.toList.map fun i => (es.map (·.1)).getD i 0 := by
  have at' : ∀ i, es[i]? = (L[i]?).map fun p : Row => (p.2.hash w, Value.ref p.1) := fun i => by
    rw [← Array.getElem?_toList, he, kept, List.getElem?_map]
  refine ⟨order.toList.filterMap fun i => L[i]?, ?_, ?_, ?_⟩
  · rw [kept, List.map_filterMap]
    have e : (fun i => es[i]?) = fun i => (L[i]?).map fun p : Row => (p.2.hash w, Value.ref p.1) := funext at'
    rw [e]
    simp
  · have z := hp.filterMap fun i => L[i]?
    rw [range_get] at z
    exact z
  · show List.map _ _ = _
    rw [List.map_filterMap]
    have e : ∀ i ∈ order.toList, ((L[i]?).map fun p => p.2.hash w) = some ((es.map (·.1)).getD i 0) := fun i hi => by
      have il : i < L.length := List.mem_range.mp (hp.mem_iff.mp hi)
      have q : (es.map (·.1))[i]? = some (L[i].2.hash w) := by
        rw [Array.getElem?_map, at', List.getElem?_eq_getElem il]
        rfl
      rw [List.getElem?_eq_getElem il, Array.getD_eq_getD_getElem?, q]
      rfl
    have go : ∀ l : List Nat, (∀ i ∈ l, ((L[i]?).map fun p => p.2.hash w) = some ((es.map (·.1)).getD i 0)) → l.filterMap (fun i => (L[i]?).map fun p => p.2.hash w) = l.map fun i => (es.map (·.1)).getD i 0 := by
      intro l
      induction l with
      | nil => intro _; rfl
      | cons i l ih => intro h; rw [List.filterMap_cons, h i List.mem_cons_self, List.map_cons, ← ih fun j hj => h j (List.mem_cons_of_mem _ hj)]
    exact go _ e
variable {A : Around} {E : Value → Shared → Prop} {s : Shared} {a : Addr} {L : List Row} {es : Array (Int × Value)} {ep : Nat} {t : SetTable}
/-- what stands at a while its table is too full: as NSet, but for the space -/
structure Tight (P : Program) (w : World) (h : Heap) (a : Addr) (L : List Row) (es : Array (Int × Value)) (ep : Nat) (t : SetTable) : Prop where
  here : ∃ o, h.get? a = some o ∧ o.ExactSet ∧ o.data = .set es ep t
  es : es.toList = kept w L
  tab : TabOk t (hashesOf w L)
  once : (keysOf L).Nodup
  keys : ∀ p ∈ L, Nk h p.2 p.1
  led : w.params.followText "set-order" = true ∨ t.led = true
  few : L.length < 64
  in' : L.length ≤ t.mask
theorem relay (R : Tight P w s.heap a L es ep t) {wanted M : Nat} (e1 : SetTable.sizeAbove wanted - 1 = M) (e2 : MaskOk M) (e3 : SetTable.sizeAbove wanted ≤ 128) (e4 : L.length * 5 < M * 3) {Q : Unit → Shared → Prop}
    (q : ∀ h1 L1 es1 ep1 t1, Heap.SameBut a s.heap h1 → NSet P w h1 a L1 es1 ep1 t1 → L1.Perm L → Q () { s with heap := h1 }) : wpAny (model P w) A (setRelay a wanted) Q E s := by
  obtain ⟨o, ho, hex, hd⟩ := R.here
  have sz : es.size = L.length := by rw [← Array.length_toList, R.es, kept_len]
  have pl : t.place.size = L.length := R.tab.sz.trans (List.length_map _)
  have fit : t.fits es.size = true := by
    have fl : t.fill = L.length := by
      show t.place.size + t.dummies.size = L.length
      rw [R.tab.dm, pl]
      rfl
    rw [SetTable.fits, fl, pl, sz, beq_self_eq_true, Bool.true_and, decide_eq_true_eq]
    exact R.in'
  obtain ⟨t1, order, r1, r2, r3, r4, r5, _, r7⟩ := relaid_ok t (hs := es.map (·.1)) (wanted := wanted) e1 e2 (by rw [Array.size_map, sz]; omega)
  rw [Array.size_map, sz] at r2
  obtain ⟨L1, m1, m2, m3⟩ := reordered R.es r2
  rw [← m3] at r3
  have sz1 : (order.filterMap (es[·]?)).size = es.size := by rw [← Array.length_toList, m1, kept_len, m2.length_eq, sz]
  rw [setRelay_eq]
  refine wpAny_bind (wpAny_setState_of ho hd fit (wp_if_neg (by rw [sizeLine_eq]; omega) ?_))
  try refine wpAny_bind (wpAny_pure ?_)
  rw [r1]
  refine wpAny_bind (wp_if_neg (by rw [sz1]; simp) ?_)
  try refine wpAny_bind (wpAny_pure ?_)
  refine wpAny_pure (wpAny_storeSet_of ho hd ?_ (by rw [sz1, sz, sizeLine_eq]; have := R.few; omega))
  have sb : Heap.SameBut a s.heap (s.heap.update a (Obj.putSet (order.filterMap (es[·]?)) t1)) := Heap.SameBut.update ..
  refine q _ L1 _ (ep + 1) t1 sb ⟨⟨_, store_at ho hd, ⟨hex.1, hex.2.1, hex.2.2⟩, rfl⟩, m1, r3, ?_, fun p mp => (R.keys p (m2.mem_iff.mp mp)).but ho hd sb, ?_, ?_, ?_⟩ m2
  · exact (m2.map Prod.snd).nodup_iff.mpr R.once
  · rw [r5]; exact R.led
  · rw [m2.length_eq, r4]; exact e4
  · rw [m2.length_eq]; exact R.few
/-- one more row -/
theorem put_in (R : NSet P w s.heap a L es ep t) {x : Addr} {k : NestedKey} (hx : Nk s.heap k x) (hu : A.units + 8 < cLine) (few : L.length + 1 < 64) {Q : Bool → Shared → Prop}
    (q : ∀ b h1 L1 es1 ep1 t1, Heap.SameBut a s.heap h1 → NSet P w h1 a L1 es1 ep1 t1 → (k ∈ keysOf L → L1 = L) → (k ∉ keysOf L → L1.Perm ((x, k) :: L)) → Q b { s with heap := h1 }) :
    wpAny (model P w) A (setAddHashed a (.ref x) (k.hash w)) Q E s := by
  obtain ⟨o, ho, hex, hd⟩ := R.here
  have sz := R.size
  have sp := R.space
  rw [setAddHashed]
  refine wpAny_holding ?_
  rw [show (100000 : Nat) = 99999 + 1 from rfl, setAddHashedIn_succ]
  refine wpAny_bind (wpAny_setState_of ho hd R.fits (wp_if_neg (by simp [byScan, Value.scannable]) ?_))
  try refine wpAny_bind (wpAny_pure ?_)
  refine wpAny_bind (lookup R hx hu (fun m => ?_) fun N m n1 n2 => ?_)
  · exact wpAny_pure (q false s.heap L es ep t (Heap.SameBut.refl a s.heap) R (fun _ => rfl) fun z => absurd m z)
  · refine wpAny_bind (wpAny_setState_of ho hd R.fits ?_)
    obtain ⟨q1, q2, q3, q4, q5, q6, q7, q8, q9⟩ := R.tab.put n1 n2
    dsimp only
    generalize way t.mask (k.hash w) N = j at q1 q2 q3 q4 q5 q6 q7 q8 q9 ⊢
    generalize hpt : t.put j = pt at q1 q3 q4 q5 q6 q7 q8 q9 ⊢
    obtain ⟨t1, at1⟩ := pt
    dsimp only at q1 q3 q4 q5 q6 q7 q8 q9 ⊢
    subst q1
    generalize hb : SetTable.below t.place j = b at q2 q3 ⊢
    have rows1 : (SetTable.insertAt es b (k.hash w, Value.ref x)).toList = kept w (L.take b ++ (x, k) :: L.drop b) := by
      rw [SetTable.toList_insertAt, R.es, kept, kept, List.map_append, List.map_cons, List.map_take, List.map_drop]
    have hash1 : (hashesOf w L).take b ++ k.hash w :: (hashesOf w L).drop b = hashesOf w (L.take b ++ (x, k) :: L.drop b) := by
      rw [hashesOf, hashesOf, List.map_append, List.map_cons, List.map_take, List.map_drop]
    rw [hash1] at q3
    have pm := put_perm L b (x, k)
    generalize L.take b ++ (x, k) :: L.drop b = L1 at pm rows1 q3
    have n1 : L1.length = L.length + 1 := pm.length_eq
    have once1 : (keysOf L1).Nodup := (pm.map Prod.snd).nodup_iff.mpr (by rw [List.map_cons]; exact List.nodup_cons.mpr ⟨m, R.once⟩)
    generalize SetTable.insertAt es b (k.hash w, Value.ref x) = es1 at rows1 ⊢
    have sz1 : es1.size = L.length + 1 := by rw [← Array.length_toList, rows1, kept_len, n1]
    -- the rest, whatever the flag says
    have rest : ∀ t2 : SetTable, t2.place = t1.place → t2.dummies = t1.dummies → t2.mask = t1.mask → t2.led = t1.led →
        wpAny (model P w) A (storeSet a es1 t2 >>= fun _ => if (!false && t2.tooFull) = true then (setRelay a (SetTable.grown (es.size + 1)) >>= fun _ => pure true) else pure true) Q E s := by
      intro t2 p1 p2 p3 p4
      have tab2 : TabOk t2 (hashesOf w L1) := ⟨by rw [p1]; exact q3.ris, by rw [p2]; exact q3.dm, by rw [p1]; exact q3.sz, by rw [p3]; exact q3.mok, by rw [p1, p3]; exact q3.bd, by rw [p1, p3]; exact q3.reach⟩
      have fill2 : t2.fill = L.length + 1 := by
        show t2.place.size + t2.dummies.size = L.length + 1
        rw [p1, p2]
        have z : t1.place.size + t1.dummies.size = (hashesOf w L).length + 1 := q9
        rw [z, List.length_map]
      have led2 : w.params.followText "set-order" = true ∨ t2.led = true := by rw [p4, q5]; exact R.led
      refine wpAny_bind (wpAny_storeSet_of ho hd ?_ (by rw [sz1, sizeLine_eq]; omega))
      have sb : Heap.SameBut a s.heap (s.heap.update a (Obj.putSet es1 t2)) := Heap.SameBut.update ..
      have ho1 := store_at (es' := es1) (t' := t2) ho hd
      generalize s.heap.update a (Obj.putSet es1 t2) = h1 at sb ho1 ⊢
      have keys1 : ∀ p ∈ L1, Nk h1 p.2 p.1 := fun p mp => by
        rcases List.mem_cons.mp (pm.mem_iff.mp mp) with e | mp
        · rw [e]; exact hx.but ho hd sb
        · exact (R.keys p mp).but ho hd sb
      have here1 : ∃ o, h1.get? a = some o ∧ o.ExactSet ∧ o.data = .set es1 (ep + 1) t2 := ⟨_, ho1, ⟨hex.1, hex.2.1, hex.2.2⟩, rfl⟩
      by_cases hf : t2.tooFull = true
      · have z := hf
        rw [SetTable.tooFull, decide_eq_true_eq, fill2, p3, q4] at z
        have two : (t.mask = 7 ∧ L.length = 4) ∨ (t.mask = 31 ∧ L.length = 18) := by
          rcases R.tab.mok with e | e | e
          · left; rw [e] at z sp; exact ⟨e, by omega⟩
          · right; rw [e] at z sp; exact ⟨e, by omega⟩
          · exfalso; rw [e] at z; omega
        have tg : Tight P w h1 a L1 es1 (ep + 1) t2 := ⟨here1, rows1, tab2, once1, keys1, led2, by rw [n1]; exact few, by rw [n1, p3, q4]; rcases two with ⟨e, e'⟩ | ⟨e, e'⟩ <;> omega⟩
        have go : ∀ M, SetTable.sizeAbove (SetTable.grown (es.size + 1)) - 1 = M → MaskOk M → SetTable.sizeAbove (SetTable.grown (es.size + 1)) ≤ 128 → (L.length + 1) * 5 < M * 3 →
            wpAny (model P w) A (setRelay a (SetTable.grown (es.size + 1))) (fun _ s1 => wpAny (model P w) A (pure true) Q E s1) E { s with heap := h1 } := fun M g1 g2 g3 g4 =>
          relay (s := { s with heap := h1 }) tg g1 g2 g3 (by rw [n1]; exact g4) fun h2 L2 es2 ep2 t3 sb2 R2 pm2 => wpAny_pure (q true h2 L2 es2 ep2 t3 (sb.trans sb2) R2 (fun z => absurd z m) fun _ => pm2.trans pm)
        refine wp_if_pos (by rw [hf]; rfl) (wpAny_bind ?_)
        rcases two with ⟨_, e⟩ | ⟨_, e⟩
        · exact go 31 (by rw [sz, e, size_20]) (.inr (.inl rfl)) (by rw [sz, e, size_20]; decide) (by omega)
        · exact go 127 (by rw [sz, e, size_76]) (.inr (.inr rfl)) (by rw [sz, e, size_76]; decide) (by omega)
      · have fin : Q true { s with heap := h1 } := by
          refine q true h1 L1 es1 (ep + 1) t2 sb ⟨here1, rows1, tab2, once1, keys1, led2, ?_, by rw [n1]; exact few⟩ (fun z => absurd z m) fun _ => pm
          have z := hf
          rw [SetTable.tooFull, decide_eq_true_eq, fill2] at z
          rw [n1]
          omega
        exact wp_if_neg (by cases y : t2.tooFull with | true => exact absurd y hf | false => decide) (wpAny_pure fin)
    by_cases hp : t1.plain = true
    · refine wp_if_pos hp (wpAny_bind (hash_key k _ 8 s hx.is _ _ _ fun b => ?_))
      cases b
      · exact rest { t1 with plain := false } rfl rfl rfl rfl
      · exact rest t1 rfl rfl rfl rfl
    · exact wp_if_neg hp (wpAny_bind (wpAny_pure (rest t1 rfl rfl rfl rfl)))
end
end NS
/-! Sets of nested keys: set(xs). -/
namespace NS
open PySem PySem.Spec PyProof.Rows L2
/-- L is what a set has got of the rows -/
structure Has (rows L : List Row) : Prop where
  sub : ∀ p ∈ L, p ∈ rows
  all : ∀ p ∈ rows, p.2 ∈ keysOf L
  len : L.length ≤ rows.length
theorem Has.nil : Has [] [] := ⟨fun _ m => (nomatch m), fun _ m => (nomatch m), Nat.le_refl _⟩
theorem Has.same {rows L : List Row} {x : Row} (g : Has rows L) (m : x.2 ∈ keysOf L) : Has (rows ++ [x]) L := by
  refine ⟨fun p mp => List.mem_append_left _ (g.sub p mp), fun p mp => ?_, ?_⟩
  · rcases List.mem_append.mp mp with z | z
    · exact g.all p z
    · rw [List.mem_singleton.mp z]; exact m
  · rw [List.length_append]; exact Nat.le_trans g.len (Nat.le_add_right _ _)
theorem Has.more {rows L L1 : List Row} {x : Row} (g : Has rows L) (pm : L1.Perm (x :: L)) : Has (rows ++ [x]) L1 := by
  refine ⟨fun p mp => ?_, fun p mp => ?_, ?_⟩
  · rcases List.mem_cons.mp (pm.mem_iff.mp mp) with z | z
    · rw [z]; exact List.mem_append_right _ (List.mem_singleton.mpr rfl)
    · exact List.mem_append_left _ (g.sub p z)
  · rw [(pm.map Prod.snd).mem_iff, List.map_cons]
    rcases List.mem_append.mp mp with z | z
    · exact List.mem_cons_of_mem _ (g.all p z)
    · rw [List.mem_singleton.mp z]; exact List.mem_cons_self
  · rw [pm.length_eq, List.length_cons, List.length_append]
    exact Nat.succ_le_succ g.len
section
variable {P : Program} {w : World} {A : Around} {E : Value → Shared → Prop} {s : Shared}
theorem NSet.carry {h h' : Heap} {a : Addr} {L : List Row} {es : Array (Int × Value)} {ep : Nat} {t : SetTable} (R : NSet P w h a L es ep t) (f : ∀ o, h.get? a = some o → h'.get? a = some o) (g : ∀ p ∈ L, Nk h' p.2 p.1) : NSet P w h' a L es ep t :=
  let ⟨o, ho, r⟩ := R.here
  ⟨⟨o, f o ho, r⟩, R.es, R.tab, R.once, g, R.led, R.space, R.few⟩
abbrev bare (w : World) : SetTable := .fresh 0 0 (!w.params.followText "set-order")
theorem NSet.new {h : Heap} {a : Addr} (ho : h.get? a = some { cls := .type "set", dict := none, data := .set #[] 0 (bare w) }) : NSet P w h a [] #[] 0 (bare w) := by
  refine ⟨⟨_, ho, ⟨rfl, rfl, rfl⟩, rfl⟩, rfl, ⟨List.Pairwise.nil, rfl, rfl, .inl rfl, fun _ m => (nomatch m), fun i g j e => (nomatch e)⟩, List.nodup_nil, fun _ m => (nomatch m), ?_, (by show 0 * 5 < 7 * 3; decide), (by show 0 < 64; decide)⟩
  cases e : w.params.followText "set-order" with
  | true => exact .inl rfl
  | false => exact .inr (show (!w.params.followText "set-order") = true by rw [e]; rfl)
/-- set.update's loop over rows -/
theorem fill {I S : Addr} {fp wr : List Addr} {G : Array GenState → Array GenState → Prop} {n : Nat} {Pv : Nat → Value → Prop} {St : Nat → Shared → Prop} {R : Result → Shared → Prop} {rows : List Row} {h0 : Heap}
    (W : WalksS P w A.in1 I fp wr G n Pv St) (nS : S ∉ fp) (hn : n = rows.length) (few : rows.length < 64) (val : ∀ i v, Pv i v → ∃ p, rows[i]? = some p ∧ v = .ref p.1)
    (ks : ∀ p ∈ rows, Nk h0 p.2 p.1) (new : h0.get? S = none) (newW : ∀ b ∈ wr, h0.get? b = none) (hu : A.units + 9 < cLine) (rest : List Row) :
    ∀ (done : List Row) (s : Shared), rows = done ++ rest → St done.length s → (∀ b o, h0.get? b = some o → s.heap.get? b = some o) → (∃ L es ep t, NSet P w s.heap S L es ep t ∧ Has done L) →
      (∀ s1 L es ep t, Moved (S :: wr) G s s1 → NSet P w s1.heap S L es ep t → Has rows L → (∀ b o, h0.get? b = some o → s1.heap.get? b = some o) → R (.ok (.ret .none)) s1) →
      codeAny (model P w) A (.builtin "set.update.loop" ⟨[.ref S, .ref I], []⟩) R s := by
  have u1 : A.in1.units + 8 < cLine := by rw [Around.in1_units]; omega
  have up : ∀ b ∈ wr, b ∈ S :: wr := fun b m => List.mem_cons_of_mem _ m
  have nSw : S ∉ wr := fun m => nS (W.sub _ m)
  have on : ∀ {s s1 : Shared}, Moved wr G s s1 → (∀ b o, h0.get? b = some o → s.heap.get? b = some o) → ∀ b o, h0.get? b = some o → s1.heap.get? b = some o := fun {s s1} m k b o e =>
    m.heap b o (fun z => by rw [newW b z] at e; exact nomatch e) (k b o e)
  induction rest with
  | nil =>
    intro done s er st k0 hs fin
    obtain ⟨L, es, ep, t, R0, g⟩ := hs
    rw [List.append_nil] at er
    subst er
    rw [← hn] at st
    refine codeAny_builtin F.entry_set_update_loop ?_
    rw [Around.under_plainId F.plain_set_update_loop _]
    refine (show wpAny _ A.in1 (pyNext (.ref I) >>= _) _ _ s from wpAny_bind (W.done s _ _ st fun s1 m => ?_))
    have k1 := on m k0
    exact (show wpAny _ A.in1 (ret Value.none) _ _ s1 from wpAny_pure (fin s1 L es ep t (m.mono up) (R0.carry (fun o e => m.heap S o nSw e) fun p mp => (ks p (g.sub p mp)).keep k1) g k1))
  | cons x rest ih =>
    intro done s er st k0 hs fin
    obtain ⟨L, es, ep, t, R0, g⟩ := hs
    have il : done.length < n := by rw [hn, er, List.length_append, List.length_cons]; omega
    have xe : rows[done.length]? = some x := by rw [er, List.getElem?_append_right (Nat.le_refl _), Nat.sub_self]; rfl
    refine codeAny_builtin F.entry_set_update_loop ?_
    rw [Around.under_plainId F.plain_set_update_loop _]
    refine (show wpAny _ A.in1 (pyNext (.ref I) >>= _) _ _ s from wpAny_bind (W.item done.length s _ _ il st fun v s1 pv st1 m => ?_))
    obtain ⟨p, pe, rfl⟩ := val _ _ pv
    rw [xe] at pe
    cases pe
    have k1 := on m k0
    have mem : ∀ p ∈ done, p ∈ rows := fun p mp => by rw [er]; exact List.mem_append_left _ mp
    have R1 : NSet P w s1.heap S L es ep t := R0.carry (fun o e => m.heap S o nSw e) fun p mp => (ks p (mem p (g.sub p mp))).keep k1
    have x1 : Nk s1.heap x.2 x.1 := (ks x (List.mem_of_getElem? xe)).keep k1
    have len1 : L.length + 1 < 64 := by
      have z := g.len
      rw [er, List.length_append, List.length_cons] at few
      omega
    refine (show wpAny _ A.in1 (holding [Value.ref x.1] (setAdd S (.ref x.1)) >>= _) _ _ s1 from wpAny_bind (wpAny_holding ?_))
    rw [setAdd]
    refine wpAny_holding (wpAny_bind (pyHash_key x.2 _ _ _ _ x1.is (by have := x1.dp; omega) ?_))
    refine put_in (s := { s1 with toks := s1.toks + x.2.draws }) R1 x1 u1 len1 fun b h2 L2 es2 ep2 t2 sb R2 c1 c2 => ?_
    have g2 : Has (done ++ [x]) L2 := by
      rcases Classical.em (x.2 ∈ keysOf L) with c | c
      · rw [c1 c]; exact g.same c
      · exact g.more (c2 c)
    have k2 : ∀ b o, h0.get? b = some o → h2.get? b = some o := fun b o e => (sb.2 b fun z => by rw [z, new] at e; exact nomatch e).trans (k1 b o e)
    refine wpAny_pure ⟨plainId_quiet F.plain_set_update_loop _, ih (done ++ [x]) _ (by rw [er, List.append_assoc]; rfl) ?_ k2 ⟨L2, es2, ep2, t2, R2, g2⟩ fun s3 L3 es3 ep3 t3 m3 R3 g3 k3 => ?_⟩
    · rw [List.length_append]
      exact W.frame _ s1 _ _ st1 (Nat.le_add_right _ _) fun b mb o e => (sb.2 b fun z => nS (z ▸ mb)).trans e
    · refine fin s3 L3 es3 ep3 t3 (Moved.trans W.gtrans ((m.mono up).then_heap (Nat.le_add_right _ _) fun b o mb e => ?_) m3) R3 g3 k3
      exact (sb.2 b fun z => mb (z ▸ List.mem_cons_self)).trans e
end
end NS
/-! Sets of nested keys: the call set(xs), xs a list. -/
namespace NS
open PySem PySem.Spec PyProof.Rows L2
section
variable {P : Program} {w : World} {A : Around} {E : Value → Shared → Prop} {s : Shared}
abbrev setObj (w : World) : Obj := { cls := .type "set", dict := none, data := .set #[] 0 (bare w) }
/-- what set.__init__ has done -/
def Done (P : Program) (w : World) (s : Shared) (rows : List Row) (s2 : Shared) : Prop :=
  ∃ h2 tk L es ep t, s2 = { s with heap := h2, toks := tk } ∧ NSet P w h2 s.heap.objs.size L es ep t ∧ Has rows L ∧ ∀ b o, s.heap.get? b = some o → h2.get? b = some o
theorem init_list {l : Addr} {items : Array Value} {rows : List Row} (calm : A.handled = none) (hl : s.heap.IsList l items) (he : items.toList = rows.map fun p => Value.ref p.1) (ks : ∀ p ∈ rows, Nk s.heap p.2 p.1) (few : rows.length < 64) (hu : A.units + 12 < cLine) :
    codeAny (model P w) A.in1 (.call (.builtin "set.__init__") ⟨[.ref s.heap.objs.size, .ref l], []⟩) (wants (fun r s2 => r = .none ∧ Done P w s rows s2) E) { s with heap := s.heap.push (setObj w) } := by
  have at0 : (s.heap.push (setObj w)).get? s.heap.objs.size = some (setObj w) := Heap.get?_push_size _ rfl
  have ty : Shared.TypeIs { s with heap := s.heap.push (setObj w) } (.ref s.heap.objs.size) "set" := ⟨_, at0, rfl⟩
  have n0 : items.size = rows.length := by rw [← Array.length_toList, he, List.length_map]
  have none_of : ∀ b, s.heap.objs.size ≤ b → s.heap.get? b = none := fun b hb => by
    cases q : s.heap.get? b with
    | none => rfl
    | some o => exact absurd (Heap.lt_size q) (Nat.not_lt.mpr hb)
  refine codeAny_call_builtin F.called_set.init.plain F.entry_set_init (check_set_init_1 ty ?_)
  obtain ⟨ol, hol, hcl, nl, hdl⟩ := hl
  obtain ⟨cl, dl, datal, sl⟩ := ol
  simp only at hcl hdl
  subst hcl hdl
  have hol1 : (s.heap.push (setObj w)).get? l = some { cls := .type "list", dict := dl, data := .seq items nl, slots := sl } := Heap.get?_push_of_some _ hol
  have il : (s.heap.push (setObj w)).IsList l items := ⟨_, hol1, rfl, nl, rfl⟩
  have lt : l < s.heap.objs.size := Heap.lt_size hol
  have sub1 := F.sub_list_set
  have sub2 := F.sub_list_frozenset
  have ne : (Value.type "list" == Value.type "dict") = false := by decide
  unfold Builtin.«set.__init__» noKeywords Builtin.Frozenset.updateFrom
  generalize hPI : pyIter = PI
  wp_walk
  subst hPI
  refine wpAny_pyIter_list il (wpAny_bind (wpAny_runValue ?_))
  have calm3 : A.in1.in1.in1.handled = none := by simp [calm]
  have sz1 : (s.heap.push (setObj w)).objs.size = s.heap.objs.size + 1 := Heap.size_push ..
  have neI : l ≠ (s.heap.push (setObj w)).objs.size := by rw [sz1]; exact Nat.ne_of_lt (Nat.lt_succ_of_lt lt)
  refine fill (rows := rows) (h0 := s.heap) ((Walks.list calm3 _ l neI items).toS) (S := s.heap.objs.size) (fun m => ?_) n0 few (fun i v hv => ?_) ks (none_of _ (Nat.le_refl _)) (fun b mb => ?_) (by simp only [Around.in1_units]; omega) rows [] _ rfl
    ⟨⟨_, Heap.get?_push_size _ rfl, rfl, rfl⟩, il.push _⟩ (fun b o e => Heap.get?_push_of_some _ (Heap.get?_push_of_some _ e)) ⟨[], #[], 0, bare w, NSet.new (Heap.get?_push_of_some _ at0), .nil⟩ fun s2 L es ep t m R g k => ?_
  · rw [sz1] at m
    rcases List.mem_cons.mp m with z | z
    · exact absurd z (Nat.ne_of_lt (Nat.lt_succ_self _))
    · exact absurd (List.mem_singleton.mp z) (Nat.ne_of_gt lt)
  · have q : items.toList[i]? = some v := by rw [Array.getElem?_toList]; exact hv
    rw [he, List.getElem?_map] at q
    cases e : rows[i]? with
    | none => rw [e] at q; exact nomatch q
    | some p => rw [e] at q; exact ⟨p, rfl, (Option.some.inj q).symm⟩
  · rw [List.mem_singleton.mp mb, sz1]
    exact none_of _ (Nat.le_succ _)
  · obtain ⟨h2, g2, d2, tk, o2⟩ := s2
    cases (m.gens : g2 = s.gens)
    cases (m.drawn : d2 = s.drawn)
    cases (m.os : o2 = s.os)
    exact wpAny_pure (wpAny_pure ⟨rfl, h2, tk, L, es, ep, t, rfl, R, g, k⟩)
/-- set(xs) -/
theorem call_set {l : Addr} {items : Array Value} {rows : List Row} {Q : Value → Shared → Prop} (calm : A.handled = none) (hl : s.heap.IsList l items) (he : items.toList = rows.map fun p => Value.ref p.1) (ks : ∀ p ∈ rows, Nk s.heap p.2 p.1) (few : rows.length < 64) (hu : A.units + 16 < cLine)
    (q : ∀ (h2 : Heap) (tk : Nat) L es ep t, NSet P w h2 s.heap.objs.size L es ep t → Has rows L → (∀ b o, s.heap.get? b = some o → h2.get? b = some o) → Q (.ref s.heap.objs.size) { s with heap := h2, toks := tk }) :
    wpAny (model P w) A (call (.type "set") [.ref l]) Q E s := by
  obtain ⟨c, tl, mro⟩ := F.called_set.mro
  have made := F.called_set.made
  have sub := F.called_set.sub
  refine wpAny_call (codeAny_of_tree (show wpAny _ _ (callAny (.type "set") _) _ _ _ from wpAny_pure ⟨Code.quiet_builtin _ (by decide +kernel), codeAny_builtin F.entry_type_call ?_⟩))
  rw [Around.under_plain (weight_type_call_type "set" [.ref l] []) rfl]
  have t1 := F.called_set.notType
  have t2 := F.called_set.canCreate
  have t3 := F.typeCall_set_1 (.ref l)
  repeat (any_goals (first | assumption | wp_step))
  refine codeAny_mono (code_set_led1 (.ref l) (E := E) (Q₁ := fun u s1 => u = .ref s.heap.objs.size ∧ s1 = { s with heap := s.heap.push (setObj w) }) ⟨rfl, rfl⟩) fun r s1 hr => ?_
  match r, hr with
  | .error _, hr => exact hr
  | .ok (.ret u), hr =>
    obtain ⟨rfl, rfl⟩ := hr
    have ty : Shared.TypeIs { s with heap := s.heap.push (setObj w) } (.ref s.heap.objs.size) "set" := ⟨_, Heap.get?_push_size _ rfl, rfl⟩
    have i1 := F.called_set.init.lookup
    have i2 := F.called_set.init.bind (.ref s.heap.objs.size)
    repeat (any_goals (first | assumption | wp_step))
    refine codeAny_mono (init_list (E := E) calm hl he ks few (by omega)) fun r2 s2 hr2 => ?_
    match r2, hr2 with
    | .error _, hr2 => exact hr2
    | .ok (.ret r), hr2 =>
      obtain ⟨rfl, h2, tk, L, es, ep, t, rfl, R, g, k⟩ := hr2
      repeat (any_goals (first | assumption | wp_step))
      exact q h2 tk L es ep t R g k
end
end NS
/-! Sets of nested keys over the hand layer: set(xs), sorted(that set), x < y of such keys. -/
namespace NS
open PySem PySem.Spec PyProof.Rows L2
mutual
/-- the value x is the key k: all its tuples new -/
inductive Kz (H : Hp) : V → NestedKey → Prop
  | non : Kz H .non .none
  | int (i : Int) : Kz H (.int i) (.num i)
  | str (x : Str) : Kz H (.str x) (.text x)
  | tup {a : Addr} {xs : List V} {ks : List NestedKey} : H a = some (.tup xs) → KzAll H xs ks → Kz H (.ref a) (.tup ks)
inductive KzAll (H : Hp) : List V → List NestedKey → Prop
  | nil : KzAll H [] []
  | cons {v : V} {vs : List V} {k : NestedKey} {ks : List NestedKey} : Kz H v k → KzAll H vs ks → KzAll H (v :: vs) (k :: ks)
end
mutual
theorem Kz.same {H H' : Hp} (s : Same H H') : ∀ (k : NestedKey) (v : V), Kz H v k → Kz H' v k
  | .none, _, h => by cases h; exact .non
  | .num i, _, h => by cases h; exact .int i
  | .text x, _, h => by cases h; exact .str x
  | .tup ks, _, h => by cases h with | tup e h => exact .tup (s _ _ e) (KzAll.same s ks _ h)
theorem KzAll.same {H H' : Hp} (s : Same H H') : ∀ (ks : List NestedKey) (vs : List V), KzAll H vs ks → KzAll H' vs ks
  | [], _, h => by cases h; exact .nil
  | k :: ks, _, h => by cases h with | cons h1 h2 => exact .cons (Kz.same s k _ h1) (KzAll.same s ks _ h2)
end
mutual
theorem depth_data : ∀ k : NestedKey, k.data.depth = k.depth
  | .none => rfl
  | .num _ => rfl
  | .text _ => rfl
  | .tup ks => by rw [NestedKey.data, PyData.depth, NestedKey.depth, depth_datas ks]
theorem depth_datas : ∀ ks : List NestedKey, PyData.depthAll (NestedKey.datas ks) = NestedKey.depthAll ks
  | [] => rfl
  | k :: ks => by rw [NestedKey.datas, PyData.depthAll, NestedKey.depthAll, depth_data k, depth_datas ks]
end
section
variable {X : Cx} {pins : List (Addr × Obj)} {σ : L2.St} {H : Hp} {s : Shared}
mutual
theorem Kz.is (I : Inv X pins σ H s) : ∀ (k : NestedKey) (v : V) (u : Value), Kz H v k → RelV v u → NestedIs s.heap k u ∧ Reads s.heap u k.data []
  | .none, _, _, h, r => by cases h; cases r; exact ⟨.none, .none⟩
  | .num i, _, _, h, r => by cases h; obtain ⟨t, rfl⟩ := r; exact ⟨.int i t, .int i t⟩
  | .text x, _, _, h, r => by cases h; obtain ⟨t, rfl⟩ := r; exact ⟨.text x t, .str x t⟩
  | .tup ks, _, _, h, r => by
    cases h with
    | tup e h =>
      cases r
      obtain ⟨_, its, rv, o, ho, hc, n, hd⟩ := (show ObjOk X.prog X.w H s.heap _ (.tup _) from I.hok _ _ e)
      obtain ⟨q1, q2⟩ := KzAll.is I ks _ its h rv
      exact ⟨.tup ho hc hd (by simpa using q1), .tuple ho hc hd (by simpa using q2)⟩
theorem KzAll.is (I : Inv X pins σ H s) : ∀ (ks : List NestedKey) (vs : List V) (us : List Value), KzAll H vs ks → Vals vs us → NestedAll s.heap ks us ∧ ReadsAll s.heap us (NestedKey.datas ks) []
  | [], _, _, h, r => by cases h; cases r; exact ⟨.nil, .nil⟩
  | k :: ks, _, _, h, r => by
    cases h with
    | cons h1 h2 =>
      cases r with
      | cons r1 r2 =>
        obtain ⟨a1, a2⟩ := Kz.is I k _ _ h1 r1
        obtain ⟨b1, b2⟩ := KzAll.is I ks _ _ h2 r2
        exact ⟨.cons a1 b1, .cons a2 b2⟩
end
end
/-- the set alone -/
structure Sole (P : Program) (w : World) (h : Heap) (a : Addr) (L : List Row) : Prop where
  ex : ∃ (es : Array (Int × Value)) (ep : Nat) (t : SetTable), (∃ o, h.get? a = some o ∧ o.ExactSet ∧ o.data = .set es ep t) ∧ es.toList = kept w L ∧ TabOk t (hashesOf w L) ∧ (keysOf L).Nodup ∧ (w.params.followText "set-order" = true ∨ t.led = true) ∧ L.length * 5 < t.mask * 3 ∧ L.length < 64
def SetO (P : Program) (w : World) (a : Addr) (L : List Row) : HO := .ext fun h => Sole P w h a L
theorem NSet.sole {P : Program} {w : World} {h : Heap} {a : Addr} {L : List Row} {es : Array (Int × Value)} {ep : Nat} {t : SetTable} (R : NSet P w h a L es ep t) : Sole P w h a L := ⟨es, ep, t, R.here, R.es, R.tab, R.once, R.led, R.space, R.few⟩
theorem Sole.all {P : Program} {w : World} {h : Heap} {a : Addr} {L : List Row} (R : Sole P w h a L) (ks : ∀ p ∈ L, Nk h p.2 p.1) : ∃ es ep t, NSet P w h a L es ep t := by
  obtain ⟨es, ep, t, r1, r2, r3, r4, r5, r6, r7⟩ := R.ex
  exact ⟨es, ep, t, r1, r2, r3, r4, ks, r5, r6, r7⟩
theorem setO_ok {P : Program} {w : World} {H : Hp} {h : Heap} {a : Addr} {L : List Row} (R : Sole P w h a L) : ObjOk P w H h a (SetO P w a L) := by
  have z := R.ex
  obtain ⟨es, ep, t, ⟨o, ho, r⟩, q⟩ := z
  refine ⟨R, ⟨o, ho⟩, fun h1 h2 p k => ?_⟩
  obtain ⟨es', ep', t', ⟨o', ho', r'⟩, q'⟩ := (Sole.ex p : _)
  exact ⟨es', ep', t', ⟨o', k o' ho', r'⟩, q'⟩
theorem vals_rows : ∀ rows : List Row, Vals (rows.map fun p => V.ref p.1) (rows.map fun p => Value.ref p.1)
  | [] => .nil
  | _ :: rows => .cons rfl (vals_rows rows)
theorem rows_vals : ∀ {rows : List Row} {us : List Value}, Vals (rows.map fun p => V.ref p.1) us → us = rows.map fun p => Value.ref p.1
  | [], _, .nil => rfl
  | _ :: rows, _, .cons r t => by
    cases r
    rw [rows_vals t]
    rfl
section
variable {X : Cx}
/-- set(xs) of keys -/
def rSet (X : Cx) : List V → Hp → VK → Prop := fun xs H Q => ∃ (l : Addr) (rows : List Row), xs = [V.ref l] ∧ SqL X.K H l (rows.map fun p => V.ref p.1) ∧ (∀ p ∈ rows, Kz H (.ref p.1) p.2 ∧ p.2.depth ≤ 8) ∧ rows.length < 64 ∧
  ∀ a L, H a = none → Has rows L → (keysOf L).Nodup → Q (.ref a) (upd H a (SetO X.prog X.w a L))
theorem cr_set (hc : X.calm = true) (hu : X.A.units + 64 < cLine) : CallR X (.type "set") (rSet X) := by
  intro pins s σ H xs us Q I r h
  obtain ⟨l, rows, rfl, hl, ks, few, q⟩ := h
  rw [Vals.ref1 r]
  obtain ⟨its, rv, pl, hz⟩ := I.list hl
  have n0 : H s.heap.objs.size = none := I.hok.fresh (Nat.le_refl _)
  refine call_set (P := X.prog) (w := X.w) (rows := rows) (I.ok.hd hc) pl.isList (by simpa using rows_vals rv) (fun p mp => ⟨(Kz.is I p.2 _ _ (ks p mp).1 rfl).1, (ks p mp).2⟩) few (by omega) fun h2 tk L es ep t R g k => ?_
  exact ⟨.ref s.heap.objs.size, upd H s.heap.objs.size (SetO X.prog X.w s.heap.objs.size L), I.laid (t' := tk) k (Nat.le_refl _) (setO_ok R.sole), rfl, q _ L n0 g R.once⟩
end
end NS
/-! Sets of nested keys: sorted(that set); x < y of such keys. -/
namespace NS
open PySem PySem.Spec PyProof.Rows L2
theorem perm_map_inv {α β : Type} {f : α → β} : ∀ {l : List α} {vs : List β}, vs.Perm (l.map f) → ∃ l0 : List α, vs = l0.map f ∧ l0.Perm l
  | [], vs, h => ⟨[], List.Perm.eq_nil h, List.Perm.refl _⟩
  | x :: l, vs, h => by
    rw [List.map_cons] at h
    obtain ⟨v1, v2, rfl⟩ := List.append_of_mem (h.mem_iff.mpr List.mem_cons_self)
    have z : (v1 ++ v2).Perm (l.map f) := (List.perm_middle.symm.trans h).cons_inv
    obtain ⟨l0, e, p⟩ := perm_map_inv z
    obtain ⟨a, b, rfl, rfl, rfl⟩ := List.append_eq_map_iff.mp e
    exact ⟨a ++ x :: b, by rw [List.map_append, List.map_cons], List.perm_middle.trans (p.cons x)⟩
theorem each_refs : ∀ L : List Row, PySem.W.EachIs (fun (v : Value) (p : Row) => v = .ref p.1) (L.map fun p => Value.ref p.1) L
  | [] => .nil
  | _ :: L => .cons rfl (each_refs L)
theorem refs_each : ∀ {L : List Row} {vs : List Value}, PySem.W.EachIs (fun (v : Value) (p : Row) => v = .ref p.1) vs L → vs = L.map fun p => Value.ref p.1
  | [], _, .nil => rfl
  | _ :: L, _, .cons r t => by rw [r, refs_each t, List.map_cons]
/-- the order of the rows' keys -/
abbrev rowLe (p q : Row) : Bool := PySem.W.dataLe false (fun p : Row => p.2.data) p q
section
variable {P : Program} {w : World} {A : Around} {E : Value → Shared → Prop} {s : Shared}
theorem each_mk {h : Heap} {f : Addr} : ∀ {L : List Row}, (∀ p ∈ L, Reads h (.ref p.1) p.2.data []) → PySem.W.EachIs (fun (v : Value) (p : Row) => ∃ as, Reads h v p.2.data as ∧ f ∉ as) (L.map fun p => Value.ref p.1) L
  | [], _ => .nil
  | p :: L, h => .cons ⟨[], h p List.mem_cons_self, List.not_mem_nil⟩ (each_mk fun q hq => h q (List.mem_cons_of_mem _ hq))
theorem sorted_rows {a : Addr} {L : List Row} {es : Array (Int × Value)} {ep : Nat} {t : SetTable} {Q : Value → Shared → Prop} (R : NSet P w s.heap a L es ep t) (calm : A.handled = none) (rd : ∀ p ∈ L, Reads s.heap (.ref p.1) p.2.data [])
    (al : PySem.W.AllAlike (L.map fun p => p.2.data)) (so : PySem.W.Sortable (L.map fun p => p.2.data)) (hu : A.units + 16 < cLine)
    (q : ∀ s1 p (out : Array Value) (c : Nat) (L1 : List Row), (∀ b o, s.heap.get? b = some o → s1.heap.get? b = some o) → s1.gens = s.gens → s1.os = s.os → s.heap.objs.size ≤ p → s1.heap.get? p = some (seqObj "list" out c) →
      out.toList = L1.map (fun r => Value.ref r.1) → L1.Perm L → L1.Pairwise (fun x y => rowLe x y = true) → Q (.ref p) s1) :
    wpAny (model P w) A (call (.builtin "sorted") [.ref a]) Q E s := by
  obtain ⟨o, ho, hex, hd⟩ := R.here
  have sz := R.size
  have few := R.few
  refine Calls.call_function_entry kind_sorted plain_sorted entry_sorted (args_sorted1 _) ?_
  unfold Builtin.«sorted»
  refine wpAny_bind (m := checkCount "sorted" 1 1 _) (wpAny_pure (wpAny_bind (collect_set (A := A.in1) calm ⟨o, ho, hex.1, hd⟩ R.fits (by unfold scanBound; omega) R.tab.ris R.led fun s1 vs k1 z1 g1 o1 pm => ?_)))
  have e1 : es.toList.map (·.2) = L.map fun p => Value.ref p.1 := by
    rw [R.es, kept, List.map_map]
    rfl
  rw [e1] at pm
  obtain ⟨L0, rfl, p0⟩ := perm_map_inv pm
  have n0 : L0.length < 64 := by rw [p0.length_eq]; exact few
  refine wpAny_bind (wpAny_newList ?_ (by rw [List.length_map, sizeLine_eq]; omega))
  have at1 : (s1.heap.push (seqObj "list" (L0.map fun p => Value.ref p.1).toArray 0)).get? s1.heap.objs.size = some (seqObj "list" (L0.map fun p => Value.ref p.1).toArray 0) := Heap.get?_push_size _ rfl
  have rd1 : ∀ p ∈ L0, Reads (s1.heap.push (seqObj "list" (L0.map fun p => Value.ref p.1).toArray 0)) (.ref p.1) p.2.data [] := fun p mp => PyProof.Rows.Reads.keeps (fun b u e => Heap.get?_push_of_some _ (k1 b u e)) (rd p (p0.mem_iff.mp mp))
  have pd := p0.map fun p => p.2.data
  refine wpAny_bind (wpAny_holding (PySem.W.list_sort_data (s := { s1 with heap := s1.heap.push (seqObj "list" (L0.map fun p => Value.ref p.1).toArray 0) }) (R := fun (v : Value) (p : Row) => v = .ref p.1) (enc := fun p : Row => p.2.data) (bs := L0) at1 (each_refs L0) (each_mk rd1)
    (fun d hd d2 hd2 => al d (pd.mem_iff.mp hd) d2 (pd.mem_iff.mp hd2)) (so.imp (fun f d hd => f d (pd.mem_iff.mp hd)) fun f d hd => f d (pd.mem_iff.mp hd)) (by rw [sizeLine_eq]; omega) (fun b hb => ?_) fun out n1 eo => ?_))
  · have dp := (R.keys b (p0.mem_iff.mp hb)).dp
    show A.in1.units + 1 + b.2.data.depth < cLine
    rw [depth_data, Around.in1_units]
    omega
  · obtain ⟨c, hc⟩ := sortedHeap_at (vs := L0.map fun p => Value.ref p.1) (out := List.toArray out) at1
    refine wpAny_pure ⟨_, rfl, q _ s1.heap.objs.size (List.toArray out) c (L0.mergeSort (PySem.W.dataLe false fun p : Row => p.2.data)) (fun b u e => ?_) g1 o1 z1 hc (by rw [List.toList_toArray]; exact refs_each eo) ((List.mergeSort_perm _ _).trans p0) (PySem.W.sort_pairwise (PySem.W.sortLe_total _ _ _) _)⟩
    have e2 := k1 b u e
    have lt := Heap.lt_size e2
    exact (sortedHeap_old (Nat.ne_of_lt lt) (by rw [size_push']; exact Nat.lt_succ_of_lt lt)).trans (Heap.get?_push_of_some _ e2)
end
section
variable {X : Cx}
/-- sorted(a set of keys) -/
def rSorted (X : Cx) : List V → Hp → VK → Prop := fun vs H Q => ∃ (a : Addr) (L : List Row), vs = [V.ref a] ∧ H a = some (SetO X.prog X.w a L) ∧ (∀ p ∈ L, Kz H (.ref p.1) p.2 ∧ p.2.depth ≤ 8) ∧ PySem.W.AllAlike (L.map fun p => p.2.data) ∧ PySem.W.Sortable (L.map fun p => p.2.data) ∧
  ∀ (L1 : List Row) (p : Addr), L1.Perm L → L1.Pairwise (fun x y => rowLe x y = true) → L1.length < 64 → H p = none → Q (.ref p) (upd H p (.lst (L1.map fun r => V.ref r.1)))
theorem cr_sorted (hc : X.calm = true) (hu : X.A.units + 64 < cLine) : CallR X (.builtin "sorted") (rSorted X) := by
  intro pins s σ H vs us Q I r h
  obtain ⟨a, L, rfl, ha, ks, al, so, q⟩ := h
  have R0 : Sole X.prog X.w s.heap a L := (I.hok a _ ha).1
  have kz : ∀ p ∈ L, NestedIs s.heap p.2 (.ref p.1) ∧ Reads s.heap (.ref p.1) p.2.data [] := fun p mp => Kz.is I p.2 _ _ (ks p mp).1 rfl
  obtain ⟨es, ep, t, R⟩ := R0.all fun p mp => ⟨(kz p mp).1, (ks p mp).2⟩
  rw [Vals.ref1 r]
  refine sorted_rows R (I.ok.hd hc) (fun p mp => (kz p mp).2) al so (by omega) fun s1 p out c L1 k g o hp hg ho pm pw => ?_
  have few : L1.length < 64 := by rw [pm.length_eq]; exact R.few
  have n0 : H p = none := I.hok.fresh hp
  have J := I.call' (s' := s1) (ch := []) (H' := upd H p (.lst (L1.map fun r => V.ref r.1))) o (Un.laid k hp n0) (I.hok.laid k hp ⟨by rw [List.length_map, sizeLine_eq]; omega, out.toList, c, by rw [ho]; exact vals_rows L1, hg⟩) (by rw [g]; exact I.bare) (fun _ z => nomatch z)
  exact ⟨.ref p, _, J, rfl, q L1 p pm pw few n0⟩
/-- x < y of two alike keys -/
def rLt : R2 := fun x y H Q => ∃ j k : NestedKey, Kz H x j ∧ Kz H y k ∧ PySem.W.alike j.data k.data = true ∧ j ≠ .none ∧ j.depth ≤ 8 ∧ Q (.bl (PySem.W.dataLt j.data k.data)) H
theorem op_ltK (hu : X.A.units + 64 < cLine) : OpR X (compareOp .Lt) rLt := by
  intro pins s σ H x y v u Q I rx ry h
  obtain ⟨j, k, hx, hy, al, nn, dp, q⟩ := h
  have a1 := (Kz.is I j x v hx rx).2
  have a2 := (Kz.is I k y u hy ry).2
  refine PySem.W.rcLt_alike j.data k.data X.A s v u [] [] a1 a2 al (fun e => ?_) (by rw [depth_data]; omega) X.prog X.w _ _ ⟨.bl _, H, I, rfl, q⟩
  cases j with
  | none => exact nn rfl
  | num _ => exact nomatch e
  | text _ => exact nomatch e
  | tup _ => exact nomatch e
end
end NS
/-! Machines as data: deeds, rows, their keys, their order. -/
namespace MC
open PySem PySem.Spec PyProof.Rows L2 NS WD
inductive Deed where
  | step
  | ex (send : Bool) (name letter : Str)
deriving DecidableEq
abbrev wordOf (b : Bool) : Str := if b = true then "send" else "take"
def Deed.key : Deed → NestedKey
  | .step => .tup [.text "step"]
  | .ex b n l => .tup [.text (wordOf b), .text n, .text l]
structure RowM where
  before : Int
  deed : Deed
  after : Int
deriving DecidableEq
def RowM.key (r : RowM) : NestedKey := .tup [.num r.before, r.deed.key, .num r.after]
def Deed.Ok : Deed → Prop
  | .step => True
  | .ex _ n l => Wd n ∧ Wd l
structure RowM.Ok (size : Nat) (r : RowM) : Prop where
  b0 : 0 ≤ r.before
  b1 : r.before < size
  dd : r.deed.Ok
  a0 : 0 ≤ r.after
  a1 : r.after < size
theorem word_inj {a b : Bool} (h : wordOf a = wordOf b) : a = b := by
  have ne : ("send" : Str) ≠ "take" := by decide +kernel
  cases a <;> cases b
  · rfl
  · exact absurd h.symm ne
  · exact absurd h ne
  · rfl
theorem deed_inj {d e : Deed} (h : d.key = e.key) : d = e := by
  cases d with
  | step =>
    cases e with
    | step => rfl
    | ex b n l => simp [Deed.key] at h
  | ex b n l =>
    cases e with
    | step => simp [Deed.key] at h
    | ex b' n' l' =>
      injection h with h
      injection h with h1 h
      injection h with h2 h
      injection h with h3 h
      injection h1 with h1
      injection h2 with h2
      injection h3 with h3
      rw [word_inj h1, h2, h3]
theorem row_inj {r s : RowM} (h : r.key = s.key) : r = s := by
  obtain ⟨b, d, a⟩ := r
  obtain ⟨b', d', a'⟩ := s
  injection h with h
  injection h with h1 h
  injection h with h2 h
  injection h with h3 h
  injection h1 with h1
  injection h3 with h3
  cases deed_inj h2
  cases h1
  cases h3
  rfl
theorem deed_depth (d : Deed) : d.key.depth = 1 := by cases d <;> rfl
theorem row_depth (r : RowM) : r.key.depth = 2 := by
  obtain ⟨b, d, a⟩ := r
  cases d <;> rfl
theorem deed_alike (d e : Deed) : PySem.W.alike d.key.data e.key.data = true := by cases d <;> cases e <;> rfl
theorem row_alike (r s : RowM) : PySem.W.alike r.key.data s.key.data = true := by
  obtain ⟨b, d, a⟩ := r
  obtain ⟨b', d', a'⟩ := s
  cases d <;> cases d' <;> rfl
mutual
theorem eqv_data : ∀ j k : NestedKey, PyData.eqv j.data k.data = NestedKey.beq j k
  | .none, .none => rfl
  | .none, .num _ => rfl
  | .none, .text _ => rfl
  | .none, .tup _ => rfl
  | .num _, .none => rfl
  | .num a, .num b => by
    show (a == b) = decide (a = b)
    by_cases h : a = b
    · rw [h]; simp
    · simp [h]
  | .num _, .text _ => rfl
  | .num _, .tup _ => rfl
  | .text _, .none => rfl
  | .text _, .num _ => rfl
  | .text a, .text b => by
    show (a == b) = decide (a = b)
    by_cases h : a = b
    · rw [h]; simp
    · simp [h]
  | .text _, .tup _ => rfl
  | .tup _, .none => rfl
  | .tup _, .num _ => rfl
  | .tup _, .text _ => rfl
  | .tup a, .tup b => by
    rw [NestedKey.data, NestedKey.data, NestedKey.beq, ← eqv_datas a b, PyData.eqv]
theorem eqv_datas : ∀ j k : List NestedKey, PyData.eqvAll (NestedKey.datas j) (NestedKey.datas k) = NestedKey.beqAll j k
  | [], [] => rfl
  | [], _ :: _ => rfl
  | _ :: _, [] => rfl
  | a :: as, b :: bs => by
    rw [NestedKey.datas, NestedKey.datas, PyData.eqvAll, NestedKey.beqAll, eqv_data a b, eqv_datas as bs]
end
/-- two different alike keys stand in one order or the other -/
theorem lt_of_le {j k : NestedKey} (al : PySem.W.alike j.data k.data = true) (ne : j ≠ k) (le : PySem.W.dataLt k.data j.data = false) : PySem.W.dataLt j.data k.data = true := by
  have ev : PyData.eqv j.data k.data = false := by rw [eqv_data, ← NestedKey.decide_eq]; exact decide_eq_false ne
  cases h : PySem.W.dataLt j.data k.data with
  | true => rfl
  | false =>
    exfalso
    have e : PySem.W.keyToks j.data = PySem.W.keyToks k.data := lex_total _ _ h le
    have z := (PySem.W.toks_eqv _ _ al).2 ev [] [.inl 0]
    rw [e, List.append_nil, lex_irrefl] at z
    have y : PyProof.Rows.lexLt itemOrd (PySem.W.keyToks k.data ++ []) (PySem.W.keyToks k.data ++ [.inl 0]) = true := by
      rw [PySem.W.lex_pre]
      rfl
    rw [List.append_nil, z] at y
    exact nomatch y
end MC
namespace K03
open PySem PySem.Spec PyProof.Rows L2 WD NS MC
open C8 (pss_cut tCut)
abbrev sMade : Stmt := topS 32
abbrev sRowL : Stmt := topS 33
/-- tuples stay -/
def Tups (H H' : Hp) : Prop := ∀ b xs, H b = some (.tup xs) → H' b = some (.tup xs)
theorem Tups.refl {H : Hp} : Tups H H := fun _ _ e => e
theorem Tups.trans {H H1 H2 : Hp} (a : Tups H H1) (b : Tups H1 H2) : Tups H H2 := fun c xs e => b c xs (a c xs e)
theorem tups_same {H H' : Hp} (s : Same H H') : Tups H H' := fun b _ e => s b _ e
theorem tups_list {H : Hp} {a : Addr} {xs : List V} {o : HO} (e : H a = some (.lst xs)) : Tups H (upd H a o) := fun b ys eb => by
  have n : b ≠ a := fun z => by
    rw [z, e] at eb
    cases eb
  rw [upd_ne n]
  exact eb
theorem tups_dice {H : Hp} {d : Addr} {n : Nat} {o : HO} (D : Dice H d n) : Tups H (upd H d o) := by
  obtain ⟨g, s, c, e, _⟩ := D
  exact tups_list e
mutual
theorem kz_tups {H H' : Hp} (s : Tups H H') : ∀ (k : NestedKey) (v : V), Kz H v k → Kz H' v k
  | .none, _, h => by cases h; exact .non
  | .num i, _, h => by cases h; exact .int i
  | .text x, _, h => by cases h; exact .str x
  | .tup ks, _, h => by cases h with | tup e h => exact .tup (s _ _ e) (kzs_tups s ks _ h)
theorem kzs_tups {H H' : Hp} (s : Tups H H') : ∀ (ks : List NestedKey) (vs : List V), KzAll H vs ks → KzAll H' vs ks
  | [], _, h => by cases h; exact .nil
  | k :: ks, _, h => by cases h with | cons h1 h2 => exact .cons (kz_tups s k _ h1) (kzs_tups s ks _ h2)
end
/-- a way: a deed of the others, or a step -/
def Way (H : Hp) (v : V) : Prop := ∃ dd : Deed, dd.Ok ∧ Kz H v dd.key
theorem Way.tups {H H' : Hp} {v : V} (w : Way H v) (s : Tups H H') : Way H' v := let ⟨dd, o, k⟩ := w; ⟨dd, o, kz_tups s _ _ k⟩
theorem seq_ds {K : PySem.W.Frag} {d l : Addr} {H H' : Hp} {xs : List V} (s : DS d H H') (n : l ≠ d) (h : SqL K H l xs) : SqL K H' l xs := by
  rcases h with (h | ⟨ob, h⟩) | h
  · exact Or.inl (Or.inl (s _ _ n h))
  · exact Or.inl (Or.inr ⟨ob, s _ _ n h⟩)
  · exact Or.inr h
theorem Kept.free {H H' : Hp} {d p t : Addr} {c : Nat} {xs : List V} (k : Kept H d p c xs H') (n : H' t = none) : H t = none := by
  cases e : H t with
  | none => rfl
  | some o =>
    exfalso
    by_cases z : t = d
    · obtain ⟨g, s, i, ed, _⟩ := k.dice
      rw [z, ed] at n
      cases n
    · rw [k.ds t o z e] at n
      cases n
theorem Kept.tups {H H' : Hp} {d p : Addr} {c : Nat} {xs : List V} {o : HO} (k : Kept H d p c xs H') : Tups H' (upd H' d o) := tups_dice k.dice
theorem wd_letter {j : Nat} {v : V} (h : [V.str "x", V.str "y", V.str "z"][j]? = some v) : ∃ x, v = .str x ∧ Wd x := by
  have one : ∀ c : Nat, 97 ≤ c → c ≤ 122 → Wd ⟨#[c]⟩ := fun c h1 h2 => ⟨low_one h1 h2, by show 0 < 1; decide, by show 1 ≤ 8; decide⟩
  have ex : ("x" : Str) = ⟨#[120]⟩ := by decide +kernel
  have ey : ("y" : Str) = ⟨#[121]⟩ := by decide +kernel
  have ez : ("z" : Str) = ⟨#[122]⟩ := by decide +kernel
  match j, h with
  | 0, h => cases h; exact ⟨_, rfl, by rw [ex]; exact one 120 (by decide) (by decide)⟩
  | 1, h => cases h; exact ⟨_, rfl, by rw [ey]; exact one 121 (by decide) (by decide)⟩
  | 2, h => cases h; exact ⟨_, rfl, by rw [ez]; exact one 122 (by decide) (by decide)⟩
  | _ + 3, h => simp at h
/-- the ways so far -/
structure Ways (H : Hp) (d p : Addr) (n : Nat) (xs : List V) (H' : Hp) : Prop where
  k : Kept H d p n xs H'
  t : Tups H H'
  w : ∀ v ∈ xs, Way H' v
  pos : 0 < xs.length
theorem Ways.new {H H' : Hp} {d p l : Addr} {n : Nat} {xs : List V} {o : HO} (s : Ways H d p n xs H') (h : H' l = none) : Ways H d p n xs (upd H' l o) ∧ l ≠ d ∧ l ≠ p := by
  obtain ⟨k, nd, np⟩ := s.k.new (o := o) h
  have z := tups_same (same_upd (o := o) h)
  exact ⟨⟨k, s.t.trans z, fun v m => (s.w v m).tups z, s.pos⟩, nd, np⟩
theorem Ways.roll {H H' : Hp} {d p : Addr} {n n' : Nat} {xs : List V} {o : HO} (s : Ways H d p n xs H') (ne : p ≠ d) (D : Dice (upd H' d o) d n') : Ways H d p n' xs (upd H' d o) := by
  have z : Tups H' (upd H' d o) := s.k.tups
  exact ⟨s.k.roll ne D, s.t.trans z, fun v m => (s.w v m).tups z, s.pos⟩
structure TxtR (K : PySem.W.Frag) (mg : Str → Option Value) (fR fO : Addr) (dR dO : FuncData) : Prop where
  R : Fun K "_law_roll" "_law_roll" sRoll fR dR
  bR : L2.Binds K dR ["_law_dice_here", "_law_total"] []
  gR : mg "_law_roll" = some (.ref fR)
  O : Fun K "_law_one_of" "_law_one_of" sOneOf fO dO
  bO : L2.Binds K dO ["_law_dice_here", "_law_items"] []
  gO : mg "_law_one_of" = some (.ref fO)
abbrev nR : List Str := ["_law_dice_here", "_law_size", "_law_others", "_law_ways", "_law_other", "_law_letter"]
theorem scRowL : FnScope nR ["_law_dice_here", "_law_size", "_law_others"] (defScope sRowL) := ⟨rfl, rfl, rfl, by decide +kernel, rfl, by decide +kernel, by decide +kernel⟩
/-- a row drawn -/
def spRowL (K : PySem.W.Frag) : Sp := fun vs H Q _ => ∃ (d l : Addr) (size n : Nat) (ws : List Str), vs = [.ref d, .int size, .ref l] ∧ Dice H d n ∧ n ≤ 1000000 ∧ 0 < size ∧ size ≤ 100 ∧ l ≠ d ∧ SqL K H l (ws.map V.str) ∧ ws.length ≤ 10 ∧ (∀ x ∈ ws, Wd x) ∧
  ∀ H' p (r : RowM), DS d H H' → H p = none → Tups H H' → Dice H' d (n + 3) → r.Ok size → Kz H' (.ref p) r.key → Q (.ref p) H'
section
variable {P : Program} {w : World} {K : PySem.W.Frag} {mg : Str → Option Value} {base : Heap} {fR fO : Addr} {dR dO : FuncData}
theorem ok_RowL {f : Addr} {fd : FuncData} (F : Fun K "_law_row" "_law_row" sRowL f fd) (W : TxtR K mg fR fO dR dO) (TD : TxtD mg) : FnOk P w K mg base CX0 3 f fd ["_law_dice_here", "_law_size", "_law_others"] (spRowL K) := by
  have GR : FnOk P w K mg base CX0 1 fR dR ["_law_dice_here", "_law_total"] spRoll := ok_roll W.R
  have GO : FnOk P w K mg base CX0 2 fO dO ["_law_dice_here", "_law_items"] spOneOf := ok_oneOf W.O W.R W.bR W.gR TD
  refine F.ok scRowL (fun vs H Q E h => ?_) (fun cdv A outer s H vs Q E hr h => ?_)
  · obtain ⟨d, l, size, n, ws, rfl, _⟩ := h
    rfl
  · obtain ⟨d, l, size, n, ws, rfl, D, hn, s0, s1, nl, hl, lw, hw, q⟩ := h
    have hr1 : Room 1 _ := hr.mono (by decide)
    refine ⟨_, pss_cut (ps_set (i := 3) scRowL.nd rfl (.inl rfl) (pe_lst (pa_cons (pe_tup (pa_cons pe_str pa_nil)) pa_nil)))
      (pss_cut (ps_for PassesOwn.never rfl (pi_list (pv 2)) (pg_name (i := 4) scRowL.nd rfl (.inl rfl))
        (pss_one (ps_for PassesOwn.never rfl (pi_tup (pe_tup (pa_cons pe_str (pa_cons pe_str (pa_cons pe_str pa_nil))))) (pg_name (i := 5) scRowL.nd rfl (.inl rfl))
          (pss_one (ps_expr (pe_bm PySem.F.plainAttrs_list PySem.F.slot_list_extend PySem.F.type_list_extend mt_extend (pv 3) (pa_cons (pe_lst (pa_cons (pe_tup (pa_cons pe_str (pa_cons (pv 4) (pa_cons (pv 5) pa_nil)))) (pa_cons (pe_tup (pa_cons pe_str (pa_cons (pv 4) (pa_cons (pv 5) pa_nil)))) pa_nil))) pa_nil)))))))
      (pss_one (ps_ret (pe_tup (pa_cons (pe_call GR hr1 (by rfl) W.gR W.R.kp W.bR .nil pass0 (pa_cons (pv 0) (pa_cons (pv 1) pa_nil))) (pa_cons (pe_call GO hr (by rfl) W.gO W.O.kp W.bO .nil pass0 (pa_cons (pv 0) (pa_cons (pv 3) pa_nil))) (pa_cons (pe_call GR hr1 (by rfl) W.gR W.R.kp W.bR .nil pass0 (pa_cons (pv 0) (pa_cons (pv 1) pa_nil))) pa_nil))))))), ?_⟩
    have dd0 : H d ≠ none := fun z => by
      obtain ⟨g, s, c, e, _⟩ := D
      rw [e] at z
      cases z
    -- ways = [('step',)]
    refine ⟨fun σ' H' => ∃ p, σ' = [some (.ref d), some (.int size), some (.ref l), some (.ref p), none, none] ∧ H p = none ∧ p ≠ d ∧ ∃ xs, Ways H d p n xs H' ∧ xs.length ≤ 1, ?_, ?_⟩
    · refine ⟨(by show 1 ≤ sizeLine; decide), fun t nt => ⟨(by show 1 ≤ sizeLine; decide), fun p np => ?_⟩⟩
      have s1' := same_upd (o := .tup [.str "step"]) nt
      have s2' := same_upd (o := .lst [.ref t]) np
      have np0 : H p = none := s1'.free np
      have pd : p ≠ d := fun z => dd0 (z ▸ np0)
      have td : t ≠ d := fun z => dd0 (z ▸ nt)
      refine ⟨p, rfl, np0, pd, [.ref t], ⟨⟨fun b o _ e => s2' _ _ (s1' _ _ e), ?_, upd_same⟩, tups_same (s1'.trans s2'), fun v m => ?_, Nat.zero_lt_succ _⟩, Nat.le_refl _⟩
      · exact (D.same (upd_ne td.symm)).same (upd_ne pd.symm)
      · rw [List.mem_singleton.mp m]
        exact ⟨.step, True.intro, .tup (s2' _ _ upd_same) (.cons (.str _) .nil)⟩
    rintro σ1 H1 ⟨p, rfl, np, pd, xs0, w0, l0⟩
    have lp : l ≠ p ∨ ∃ o, K.lookup l = some o := by
      rcases hl with (h | ⟨ob, h⟩) | h
      · exact Or.inl fun z => by rw [z, np] at h; cases h
      · exact Or.inl fun z => by rw [z, np] at h; cases h
      · obtain ⟨o, _, _, e, _⟩ := h
        exact Or.inr ⟨o, e⟩
    have at_l : ∀ {xs : List V} {c : Nat} {H' : Hp}, Ways H d p c xs H' → SqL K H' l (ws.map V.str) := fun s => seq_ds s.k.ds nl hl
    refine ⟨fun σ' H' => ∃ xs u4 u5, σ' = [some (.ref d), some (.int size), some (.ref l), some (.ref p), u4, u5] ∧ Ways H d p n xs H' ∧ xs.length ≤ 1 + 6 * ws.length, ?_, ?_⟩
    · refine ⟨_, rfl, l, rfl, ⟨_, at_l w0⟩, ?_⟩
      refine for_list (xs := ws.map V.str) (fun i σ' H' => ∃ xs u4 u5, σ' = [some (.ref d), some (.int size), some (.ref l), some (.ref p), u4, u5] ∧ Ways H d p n xs H' ∧ xs.length ≤ 1 + 6 * i) ⟨xs0, none, none, rfl, w0, l0⟩ (fun i σ H' _ ⟨_, _, _, _, s, _⟩ => at_l s) ?_ (fun σ' H' z => ?_)
      rotate_left
      · rw [List.length_map] at z
        exact z
      rintro i v σ2 H2 hv ⟨xs, u4, u5, rfl, w2, l2⟩
      obtain ⟨y, hy, rfl⟩ : ∃ y, y ∈ ws ∧ v = .str y := by
        obtain ⟨y, hy, e⟩ := List.mem_map.mp (List.mem_of_getElem? hv)
        exact ⟨y, hy, e.symm⟩
      have il : i < ws.length := by
        have z := (List.getElem?_eq_some_iff.mp hv).1
        rw [List.length_map] at z
        exact z
      refine ⟨(by show 3 ≤ sizeLine; decide), fun t nt => ⟨t, rfl, ⟨_, SqT.of upd_same⟩, ?_⟩⟩
      obtain ⟨w3, td, tp⟩ := w2.new (o := .tup [.str "x", .str "y", .str "z"]) nt
      refine for_tup (xs := [.str "x", .str "y", .str "z"]) (fun j σ' H' => ∃ xs u5, σ' = [some (.ref d), some (.int size), some (.ref l), some (.ref p), some (.str y), u5] ∧ Ways H d p n xs H' ∧ xs.length ≤ 1 + 6 * i + 2 * j ∧ H' t = some (.tup [.str "x", .str "y", .str "z"]))
        ⟨xs, u5, rfl, w3, by omega, upd_same⟩ (fun j σ H' _ ⟨_, _, _, _, _, e⟩ => SqT.of e) ?_ (fun σ' H' ⟨xs, u5, e, s, z, _⟩ => ⟨xs, _, u5, e, s, by have z' : xs.length ≤ 1 + 6 * i + 2 * 3 := z; omega⟩)
      rintro j v σ4 H4 hv4 ⟨xs, u5, rfl, w4, l4, et⟩
      obtain ⟨z, rfl, wz⟩ := wd_letter hv4
      have jl : j < 3 := (List.getElem?_eq_some_iff.mp hv4).1
      refine ⟨_, rfl, .inl ⟨rfl, _, SqL.of w4.k.lst⟩, _, rfl, _, rfl, (by show 3 ≤ sizeLine; decide), fun t1 n1 => ⟨_, rfl, _, rfl, (by show 3 ≤ sizeLine; decide), fun t2 n2 => ⟨(by show 2 ≤ sizeLine; decide), fun l2 n3 => ?_⟩⟩⟩
      obtain ⟨w5, _, _⟩ := w4.new (o := .tup [.str "send", .str y, .str z]) n1
      obtain ⟨w6, _, _⟩ := w5.new (o := .tup [.str "take", .str y, .str z]) n2
      obtain ⟨w7, ld, lp2⟩ := w6.new (o := .lst [.ref t1, .ref t2]) n3
      have c1 := same_upd (o := .tup [.str "send", .str y, .str z]) n1
      have c2 := same_upd (o := .tup [.str "take", .str y, .str z]) n2
      have c3 := same_upd (o := .lst [.ref t1, .ref t2]) n3
      refine ⟨p, l2, xs, [.ref t1, .ref t2], rfl, rfl, w7.k.lst, upd_same, ?_, ?_⟩
      · rw [sizeLine_eq]
        show xs.length + 2 ≤ _
        omega
      · have ts := tups_list (o := .lst (xs ++ [.ref t1, .ref t2])) w7.k.lst
        refine ⟨xs ++ [.ref t1, .ref t2], _, rfl, ⟨w7.k.put pd np, w7.t.trans ts, fun v m => ?_, ?_⟩, ?_, ?_⟩
        · rcases List.mem_append.mp m with m | m
          · exact (w7.w v m).tups ts
          · have m' : v = .ref t1 ∨ v = .ref t2 := by simpa using m
            rcases m' with rfl | rfl
            · exact ⟨.ex true y z, ⟨hw y hy, wz⟩, kz_tups ts _ _ (.tup (c3 _ _ (c2 _ _ upd_same)) (.cons (.str _) (.cons (.str _) (.cons (.str _) .nil))))⟩
            · exact ⟨.ex false y z, ⟨hw y hy, wz⟩, kz_tups ts _ _ (.tup (c3 _ _ upd_same) (.cons (.str _) (.cons (.str _) (.cons (.str _) .nil))))⟩
        · rw [List.length_append]
          exact Nat.lt_of_lt_of_le w7.pos (Nat.le_add_right _ _)
        · rw [List.length_append]
          show xs.length + 2 ≤ _
          omega
        · exact ts _ _ (c3 _ _ (c2 _ _ (c1 _ _ et)))
    rintro σ2 H2 ⟨xs, u4, u5, rfl, w2, l2⟩
    refine ⟨_, rfl, _, rfl, d, size, n, rfl, w2.k.dice, by omega, by omega, by omega, fun r0 o r00 r01 D3 => ?_⟩
    have w3 := w2.roll pd D3
    refine ⟨_, rfl, _, rfl, d, p, _, xs, rfl, w3.k.dice, by omega, w3.k.lst, pd, w3.pos, by omega, fun x o hx D4 => ?_⟩
    have w4 := w3.roll pd D4
    refine ⟨_, rfl, _, rfl, d, size, _, rfl, w4.k.dice, by omega, by omega, by omega, fun r2 o r20 r21 D5 => ⟨(by show 3 ≤ sizeLine; decide), fun t nt => ?_⟩⟩
    have w5 := w4.roll pd D5
    obtain ⟨dd, od, kd⟩ := w5.w x hx
    obtain ⟨w6, td, tp⟩ := w5.new (o := .tup [.int r0, x, .int r2]) nt
    have sm := same_upd (o := .tup [.int r0, x, .int r2]) nt
    exact q _ t ⟨r0, dd, r2⟩ w6.k.ds (w5.k.free nt) w6.t w6.k.dice ⟨r00, by omega, od, r20, by omega⟩ (.tup upd_same (.cons (.int _) (.cons (Kz.same sm _ _ kd) (.cons (.int _) .nil))))
end
end K03
/-! Sets of numbers: the call set(xs), xs a list. -/
namespace NS
open PySem PySem.Spec PyProof.Rows L2
section
variable {P : Program} {w : World} {A : Around} {E : Value → Shared → Prop} {s : Shared}
/-- what set.__init__ has done -/
def DoneI (w : World) (s : Shared) (ns : List Int) (s2 : Shared) : Prop :=
  ∃ h2 tk c, s2 = { s with heap := h2, toks := tk } ∧ SetR w h2 s.heap.objs.size (fun j => decide (j ∈ ns)) c ∧ c ≤ ns.length ∧ ∀ b o, s.heap.get? b = some o → h2.get? b = some o
theorem init_ints {l : Addr} {items : Array Value} {ns : List Int} (calm : A.handled = none) (hl : s.heap.IsList l items) (he : IntsAre items.toList ns) (few : ns.length < 1000) :
    codeAny (model P w) A.in1 (.call (.builtin "set.__init__") ⟨[.ref s.heap.objs.size, .ref l], []⟩) (wants (fun r s2 => r = .none ∧ DoneI w s ns s2) E) { s with heap := s.heap.push (setObj w) } := by
  have at0 : (s.heap.push (setObj w)).get? s.heap.objs.size = some (setObj w) := Heap.get?_push_size _ rfl
  have ty : Shared.TypeIs { s with heap := s.heap.push (setObj w) } (.ref s.heap.objs.size) "set" := ⟨_, at0, rfl⟩
  have n0 : items.size = ns.length := by rw [← Array.length_toList]; exact he.length
  have none_of : ∀ b, s.heap.objs.size ≤ b → s.heap.get? b = none := fun b hb => by
    cases q : s.heap.get? b with
    | none => rfl
    | some o => exact absurd (Heap.lt_size q) (Nat.not_lt.mpr hb)
  refine codeAny_call_builtin F.called_set.init.plain F.entry_set_init (check_set_init_1 ty ?_)
  obtain ⟨ol, hol, hcl, nl, hdl⟩ := hl
  obtain ⟨cl, dl, datal, sl⟩ := ol
  simp only at hcl hdl
  subst hcl hdl
  have hol1 : (s.heap.push (setObj w)).get? l = some { cls := .type "list", dict := dl, data := .seq items nl, slots := sl } := Heap.get?_push_of_some _ hol
  have il : (s.heap.push (setObj w)).IsList l items := ⟨_, hol1, rfl, nl, rfl⟩
  have lt : l < s.heap.objs.size := Heap.lt_size hol
  have sub1 := F.sub_list_set
  have sub2 := F.sub_list_frozenset
  have ne : (Value.type "list" == Value.type "dict") = false := by decide
  unfold Builtin.«set.__init__» noKeywords Builtin.Frozenset.updateFrom
  generalize hPI : pyIter = PI
  wp_walk
  subst hPI
  refine wpAny_pyIter_list il (wpAny_bind (wpAny_runValue ?_))
  have calm3 : A.in1.in1.in1.handled = none := by simp [calm]
  have sz1 : (s.heap.push (setObj w)).objs.size = s.heap.objs.size + 1 := Heap.size_push ..
  have neI : l ≠ (s.heap.push (setObj w)).objs.size := by rw [sz1]; exact Nat.ne_of_lt (Nat.lt_succ_of_lt lt)
  have at2 : ((s.heap.push (setObj w)).push { cls := .type "list_iterator", data := .fields #[.ref l, .int 0 0] }).get? s.heap.objs.size = some (setObj w) := Heap.get?_push_of_some _ at0
  refine set_update_ints ((Walks.list calm3 _ l neI items).toS) s.heap.objs.size (fun m => ?_) ns n0 (by unfold scanBound; omega) (fun i v hv => ?_) (items.size - 0) 0 _ (by omega) (Nat.zero_le _)
    ⟨⟨_, Heap.get?_push_size _ rfl, rfl, rfl⟩, il.push _⟩ ⟨0, Nat.le_refl _, setR_new_at at2⟩ fun s2 c m hc R => ?_
  · rw [sz1] at m
    rcases List.mem_cons.mp m with z | z
    · exact absurd z (Nat.ne_of_lt (Nat.lt_succ_self _))
    · exact absurd (List.mem_singleton.mp z) (Nat.ne_of_gt lt)
  · have q : items.toList[i]? = some v := by rw [Array.getElem?_toList]; exact hv
    obtain ⟨t, e⟩ := PyProof.Rows.IntsAre.int_at he i v q
    have il2 : i < ns.length := by rw [← n0]; exact (Array.getElem?_eq_some_iff.mp hv).1
    exact ⟨ns[i], t, List.getElem?_eq_getElem il2, by rw [e, List.getD_eq_getElem?_getD, List.getElem?_eq_getElem il2]; rfl⟩
  · have keep : ∀ b o, s.heap.get? b = some o → s2.heap.get? b = some o := fun b o e => m.heap b o (fun z => by
      rcases List.mem_cons.mp z with z | z
      · rw [z, none_of _ (Nat.le_refl _)] at e; exact nomatch e
      · rw [List.mem_singleton.mp z, sz1, none_of _ (Nat.le_succ _)] at e; exact nomatch e) (Heap.get?_push_of_some _ (Heap.get?_push_of_some _ e))
    obtain ⟨h2, g2, d2, tk, o2⟩ := s2
    cases (m.gens : g2 = s.gens)
    cases (m.drawn : d2 = s.drawn)
    cases (m.os : o2 = s.os)
    rw [n0] at hc
    exact wpAny_pure (wpAny_pure ⟨rfl, h2, tk, c, rfl, R, hc, keep⟩)
/-- set(xs) -/
theorem call_ints {l : Addr} {items : Array Value} {ns : List Int} {Q : Value → Shared → Prop} (calm : A.handled = none) (hl : s.heap.IsList l items) (he : IntsAre items.toList ns) (few : ns.length < 1000)
    (q : ∀ (h2 : Heap) (tk c : Nat), SetR w h2 s.heap.objs.size (fun j => decide (j ∈ ns)) c → c ≤ ns.length → (∀ b o, s.heap.get? b = some o → h2.get? b = some o) → Q (.ref s.heap.objs.size) { s with heap := h2, toks := tk }) :
    wpAny (model P w) A (call (.type "set") [.ref l]) Q E s := by
  obtain ⟨c, tl, mro⟩ := F.called_set.mro
  have made := F.called_set.made
  have sub := F.called_set.sub
  refine wpAny_call (codeAny_of_tree (show wpAny _ _ (callAny (.type "set") _) _ _ _ from wpAny_pure ⟨Code.quiet_builtin _ (by decide +kernel), codeAny_builtin F.entry_type_call ?_⟩))
  rw [Around.under_plain (weight_type_call_type "set" [.ref l] []) rfl]
  have t1 := F.called_set.notType
  have t2 := F.called_set.canCreate
  have t3 := F.typeCall_set_1 (.ref l)
  repeat (any_goals (first | assumption | wp_step))
  refine codeAny_mono (code_set_led1 (.ref l) (E := E) (Q₁ := fun u s1 => u = .ref s.heap.objs.size ∧ s1 = { s with heap := s.heap.push (setObj w) }) ⟨rfl, rfl⟩) fun r s1 hr => ?_
  match r, hr with
  | .error _, hr => exact hr
  | .ok (.ret u), hr =>
    obtain ⟨rfl, rfl⟩ := hr
    have ty : Shared.TypeIs { s with heap := s.heap.push (setObj w) } (.ref s.heap.objs.size) "set" := ⟨_, Heap.get?_push_size _ rfl, rfl⟩
    have i1 := F.called_set.init.lookup
    have i2 := F.called_set.init.bind (.ref s.heap.objs.size)
    repeat (any_goals (first | assumption | wp_step))
    refine codeAny_mono (init_ints (E := E) calm hl he few) fun r2 s2 hr2 => ?_
    match r2, hr2 with
    | .error _, hr2 => exact hr2
    | .ok (.ret r), hr2 =>
      obtain ⟨rfl, h2, tk, c, rfl, R, hc, k⟩ := hr2
      repeat (any_goals (first | assumption | wp_step))
      exact q h2 tk c R hc k
end
section
variable {X : Cx}
/-- set(xs) of numbers -/
def rSetI (X : Cx) : List V → Hp → VK → Prop := fun xs H Q => ∃ (l : Addr) (ns : List Int), xs = [V.ref l] ∧ SqL X.K H l (ns.map V.int) ∧ ns.length < 64 ∧ ∀ a c, H a = none → c ≤ ns.length → Q (.ref a) (upd H a (L2.SetO X.w a (fun j => decide (j ∈ ns)) c))
theorem cr_setI (hc : X.calm = true) : CallR X (.type "set") (rSetI X) := by
  intro pins s σ H xs us Q I r h
  obtain ⟨l, ns, rfl, hl, few, q⟩ := h
  rw [Vals.ref1 r]
  obtain ⟨its, rv, pl, hz⟩ := I.list hl
  have n0 : H s.heap.objs.size = none := I.hok.fresh (Nat.le_refl _)
  refine call_ints (P := X.prog) (w := X.w) (ns := ns) (I.ok.hd hc) pl.isList (by simpa using Vals.ints rv) (by omega) fun h2 tk c R hcn k => ?_
  exact ⟨.ref s.heap.objs.size, upd H s.heap.objs.size (L2.SetO X.w s.heap.objs.size (fun j => decide (j ∈ ns)) c), I.laid (t' := tk) k (Nat.le_refl _) (setO_new R), rfl, q _ c n0 hcn⟩
end
end NS
/-! Machines as data: the whole machine; what sorted rows are. -/
namespace MC
open PySem PySem.Spec PyProof.Rows L2 NS WD
structure MachM where
  size : Nat
  finals : List Int
  rows : List RowM
def MachM.key (m : MachM) : NestedKey := .tup [.num m.size, .tup (m.finals.map .num), .tup (m.rows.map RowM.key)]
abbrev rowLt (r s : RowM) : Prop := PySem.W.dataLt r.key.data s.key.data = true
structure MachM.Ok (m : MachM) : Prop where
  s0 : 0 < m.size
  s1 : m.size ≤ 30
  f1 : ∀ k ∈ m.finals, 0 ≤ k ∧ k < m.size
  f2 : m.finals.Pairwise (· < ·)
  f3 : m.finals.length < 64
  r1 : ∀ r ∈ m.rows, r.Ok m.size
  r2 : m.rows.Pairwise rowLt
  r3 : m.rows.length < 64
theorem as_rows {size : Nat} : ∀ {L : List NS.Row}, (∀ p ∈ L, ∃ r : RowM, r.Ok size ∧ p.2 = r.key) → ∃ rs : List RowM, keysOf L = rs.map RowM.key ∧ ∀ r ∈ rs, r.Ok size
  | [], _ => ⟨[], rfl, fun _ z => (nomatch z)⟩
  | p :: L, h => by
    obtain ⟨r, ok, e⟩ := h p List.mem_cons_self
    obtain ⟨rs, e2, all⟩ := as_rows fun q hq => h q (List.mem_cons_of_mem _ hq)
    refine ⟨r :: rs, by rw [List.map_cons, keysOf, List.map_cons, e, ← e2], fun s hs => ?_⟩
    rcases List.mem_cons.mp hs with z | z
    · rw [z]; exact ok
    · exact all s z
theorem kz_rows {H : Hp} : ∀ {L : List NS.Row}, (∀ p ∈ L, Kz H (.ref p.1) p.2) → KzAll H (L.map fun p => V.ref p.1) (keysOf L)
  | [], _ => .nil
  | p :: L, h => .cons (h p List.mem_cons_self) (kz_rows fun q hq => h q (List.mem_cons_of_mem _ hq))
theorem kz_ints {H : Hp} : ∀ ns : List Int, KzAll H (ns.map V.int) (ns.map NestedKey.num)
  | [] => .nil
  | n :: ns => .cons (.int n) (kz_ints ns)
theorem alike_rows {size : Nat} {L : List NS.Row} (h : ∀ p ∈ L, ∃ r : RowM, r.Ok size ∧ p.2 = r.key) : PySem.W.AllAlike (L.map fun p => p.2.data) := by
  intro d hd e he
  obtain ⟨p, hp, rfl⟩ := List.mem_map.mp hd
  obtain ⟨q, hq, rfl⟩ := List.mem_map.mp he
  obtain ⟨r, _, e1⟩ := h p hp
  obtain ⟨s, _, e2⟩ := h q hq
  show PySem.W.alike p.2.data q.2.data = true
  rw [e1, e2]
  exact row_alike r s
theorem sortable_rows {size : Nat} {L : List NS.Row} (h : ∀ p ∈ L, ∃ r : RowM, r.Ok size ∧ p.2 = r.key) : PySem.W.Sortable (L.map fun p => p.2.data) := by
  refine .inl fun d hd => ?_
  obtain ⟨p, hp, rfl⟩ := List.mem_map.mp hd
  obtain ⟨r, _, e1⟩ := h p hp
  refine ⟨.int r.before, [r.deed.key.data, .int r.after], ?_⟩
  show p.2.data = _
  rw [e1]
  rfl
/-- sorted, and each once: each before the next -/
theorem strict_rows {size : Nat} {L : List NS.Row} {rs : List RowM} (h : ∀ p ∈ L, ∃ r : RowM, r.Ok size ∧ p.2 = r.key) (e : keysOf L = rs.map RowM.key) (once : (keysOf L).Nodup) (le : L.Pairwise (fun x y => NS.rowLe x y = true)) : rs.Pairwise rowLt := by
  have z : L.Pairwise (fun x y => PySem.W.dataLt x.2.data y.2.data = true) := by
    have o2 : L.Pairwise (fun x y => x.2 ≠ y.2) := List.pairwise_map.mp once
    refine List.Pairwise.imp_of_mem (fun {x y} hx hy hxy => ?_) (le.and o2)
    obtain ⟨l, n⟩ := hxy
    obtain ⟨r, _, e1⟩ := h x hx
    obtain ⟨s, _, e2⟩ := h y hy
    refine lt_of_le (by rw [e1, e2]; exact row_alike r s) n ?_
    have l' : (!PySem.W.dataLt y.2.data x.2.data) = true := by
      have q := l
      unfold NS.rowLe at q
      rw [PySem.W.dataLe_eq] at q
      exact q
    simpa using l'
  have y : (keysOf L).Pairwise (fun j k => PySem.W.dataLt j.data k.data = true) := List.pairwise_map.mpr z
  rw [e] at y
  have x : rs.Pairwise (fun r s => PySem.W.dataLt r.key.data s.key.data = true) := List.pairwise_map.mp y
  exact x
end MC
namespace K03
open PySem PySem.Spec PyProof.Rows L2 WD NS MC
open C8 (pss_cut tCut)
structure TxtS (mg : Str → Option Value) : Prop where
  set : mg "set" = none
  sorted : mg "sorted" = none
  tuple : mg "tuple" = none
abbrev nMd : List Str := ["_law_size", "_law_finals", "_law_rows_here"]
theorem scMade : FnScope nMd nMd (defScope sMade) := ⟨rfl, rfl, rfl, by decide +kernel, rfl, by decide +kernel, by decide +kernel⟩
/-- the machine of drawn finals and rows -/
def spMade (K : PySem.W.Frag) : Sp := fun vs H Q _ => ∃ (lf lr : Addr) (size : Nat) (fs : List Int) (L : List NS.Row), vs = [.int size, .ref lf, .ref lr] ∧ 0 < size ∧ size ≤ 30 ∧ SqL K H lf (fs.map V.int) ∧ fs.length < 64 ∧ (∀ k ∈ fs, 0 ≤ k ∧ k < size) ∧
  SqL K H lr (L.map fun p => V.ref p.1) ∧ L.length < 64 ∧ (∀ p ∈ L, Kz H (.ref p.1) p.2 ∧ ∃ r : RowM, r.Ok size ∧ p.2 = r.key) ∧
  ∀ H' p (m : MachM), Same H H' → H p = none → m.size = size → m.rows.length ≤ L.length → m.Ok → Kz H' (.ref p) m.key → Q (.ref p) H'
section
variable {P : Program} {w : World} {K : PySem.W.Frag} {mg : Str → Option Value} {base : Heap}
theorem ok_Made {f : Addr} {fd : FuncData} {k : Nat} (F : Fun K "_law_made" "_law_made" sMade f fd) (T : TxtS mg) : FnOk P w K mg base CX0 (k + 1) f fd nMd (spMade K) := by
  refine F.ok scMade (fun vs H Q E h => ?_) (fun cdv A outer s H vs Q E hr h => ?_)
  · obtain ⟨lf, lr, size, fs, L, rfl, _⟩ := h
    rfl
  · obtain ⟨lf, lr, size, fs, L, rfl, s0, s1, hf, lf6, rf, hl, ll6, rl, q⟩ := h
    have hu := hr.units
    refine ⟨_, pss_one (ps_ret (pe_tup (pa_cons (pv 0)
      (pa_cons (pe_callTy call_tuple_of (by rfl) T.tuple (by decide +kernel) (pa_cons (pe_callB (cr_sortedSet rfl) (by rfl) T.sorted (by decide +kernel) (pa_cons (pe_callTy (cr_setI rfl) (by rfl) T.set (by decide +kernel) (pa_cons (pv 1) pa_nil)) pa_nil)) pa_nil))
      (pa_cons (pe_callTy call_tuple_of (by rfl) T.tuple (by decide +kernel) (pa_cons (pe_callB (cr_sorted rfl hu) (by rfl) T.sorted (by decide +kernel) (pa_cons (pe_callTy (cr_set rfl hu) (by rfl) T.set (by decide +kernel) (pa_cons (pv 2) pa_nil)) pa_nil)) pa_nil)) pa_nil))))), ?_⟩
    refine ⟨_, rfl, _, rfl, lf, fs, rfl, hf, lf6, fun a1 c1 n1 h1 => ?_⟩
    have z1 := same_upd (o := L2.SetO w a1 (fun j => decide (j ∈ fs)) c1) n1
    refine ⟨a1, _, c1, rfl, upd_same, by omega, fun ns p2 pw mem len n2 => ?_⟩
    have z2 := same_upd (o := .lst (ns.map V.int)) n2
    refine ⟨p2, _, rfl, .inl ⟨SqL.of upd_same, fun t3 n3 => ?_⟩⟩
    have z3 := same_upd (o := .tup (ns.map V.int)) n3
    have z13 := z1.trans (z2.trans z3)
    refine ⟨_, rfl, lr, L, rfl, z13.seq hl, fun p hp => ⟨Kz.same z13 _ _ (rl p hp).1, ?_⟩, ll6, fun a4 L4 n4 has once => ?_⟩
    · obtain ⟨r, _, e⟩ := (rl p hp).2
      rw [e, row_depth]
      decide
    have z4 := same_upd (o := NS.SetO P w a4 L4) n4
    have z14 := z13.trans z4
    have rl4 : ∀ p ∈ L4, ∃ r : RowM, r.Ok size ∧ p.2 = r.key := fun p hp => (rl p (has.sub p hp)).2
    refine ⟨a4, L4, rfl, upd_same, fun p hp => ⟨Kz.same z14 _ _ (rl p (has.sub p hp)).1, ?_⟩, alike_rows rl4, sortable_rows rl4, fun L5 p5 pm pw5 len5 n5 => ?_⟩
    · obtain ⟨r, _, e⟩ := rl4 p hp
      rw [e, row_depth]
      decide
    have z5 := same_upd (o := .lst (L5.map fun r => V.ref r.1)) n5
    refine ⟨p5, _, rfl, .inl ⟨SqL.of upd_same, fun t6 n6 => ⟨(by show 3 ≤ sizeLine; decide), fun t7 n7 => ?_⟩⟩⟩
    have z6 := same_upd (o := .tup (L5.map fun r => V.ref r.1)) n6
    have z7 := same_upd (o := .tup [.int size, .ref t3, .ref t6]) n7
    have z16 := z14.trans (z5.trans z6)
    have rl5 : ∀ p ∈ L5, ∃ r : RowM, r.Ok size ∧ p.2 = r.key := fun p hp => rl4 p (pm.mem_iff.mp hp)
    obtain ⟨rs, ers, okrs⟩ := as_rows rl5
    have once5 : (keysOf L5).Nodup := (pm.map Prod.snd).nodup_iff.mpr once
    have lrs : rs.length = L5.length := by
      have z := congrArg List.length ers
      rw [List.length_map, List.length_map] at z
      exact z.symm
    refine q _ t7 ⟨size, ns, rs⟩ (z16.trans z7) (z16.free n7) rfl (by have z := has.len; have y := pm.length_eq; show rs.length ≤ _; omega) ⟨s0, s1, fun k hk => rf k (of_decide_eq_true ((mem k).mp hk)), pw, by show ns.length < 64; omega, okrs, strict_rows rl5 ers once5 pw5, by show rs.length < 64; omega⟩ ?_
    refine .tup upd_same (.cons (.int _) (.cons (.tup (z7 _ _ (z6 _ _ (z5 _ _ (z4 _ _ upd_same)))) (kz_ints ns)) (.cons (.tup (z7 _ _ upd_same) ?_) .nil)))
    show KzAll _ _ (rs.map RowM.key)
    rw [← ers]
    exact kz_rows fun p hp => Kz.same (z4.trans (z5.trans (z6.trans z7))) _ _ (Kz.same z13 _ _ (rl p (has.sub p (pm.mem_iff.mp hp))).1)
end
end K03
/-! Sets of texts: putting in, set(xs), sorted. -/
namespace NS
open PySem PySem.Spec PyProof.Rows L2
theorem isText (x : Str) (t : Tok) : Value.isStrOf x (.str x t) = true := by simp [Value.isStrOf]
def textOf (e : Int × Value) : Str := match e.2 with
  | .str x _ => x
  | _ => Str.empty
def IsText (w : World) (e : Int × Value) : Prop := ∃ x t, e = (hashStr w x, Value.str x t)
/-- the set of the texts ws at a, in the order of its entries -/
structure TSet (P : Program) (w : World) (h : Heap) (a : Addr) (ws : List Str) : Prop where
  ex : ∃ (o : Obj) (es : Array (Int × Value)) (ep : Nat) (t : SetTable), h.get? a = some o ∧ o.ExactSet ∧ o.data = .set es ep t ∧ (∀ e ∈ es.toList, IsText w e) ∧ es.toList.map textOf = ws ∧ ws.Nodup ∧ es.size < scanBound ∧ t.fits es.size = true ∧ Ris t.place.toList ∧
    (w.params.followText "set-order" = true ∨ t.led = true)
section
variable {P : Program} {w : World} {A : Around} {E : Value → Shared → Prop} {s : Shared} {a : Addr} {ws : List Str}
theorem TSet.carry {h h' : Heap} (R : TSet P w h a ws) (f : ∀ o, h.get? a = some o → h'.get? a = some o) : TSet P w h' a ws := by
  obtain ⟨o, es, ep, t, ho, r⟩ := R.ex
  exact ⟨o, es, ep, t, f o ho, r⟩
theorem elems_texts {l : List (Int × Value)} (h : ∀ e ∈ l, IsText w e) : ElemsOf (PySem.strKind P w) l := fun e m => by
  obtain ⟨x, t, rfl⟩ := h e m
  exact ⟨⟨x, isText x t, rfl⟩, rfl⟩
/-- what is left once a text has got its place -/
theorem put_rest {g : Bool → Sem Unit} (hg : ∀ (b : Bool) (s1 : Shared) (Q : Unit → Shared → Prop), Q () s1 → wpAny (model P w) A (g b) Q E s1) {o : Obj} {es : Array (Int × Value)} {ep : Nat} {t : SetTable} (ho : s.heap.get? a = some o) (hex : o.ExactSet) (hd : o.data = .set es ep t)
    {es1 : Array (Int × Value)} {t2 : SetTable} (all : ∀ e ∈ es1.toList, IsText w e) (once : (es1.toList.map textOf).Nodup) (small : es1.size < scanBound) (fit : t2.fits es1.size = true) (ris : Ris t2.place.toList) (led : w.params.followText "set-order" = true ∨ t2.led = true) {dum : Bool} {R : Option Bool → Shared → Prop}
    (q : ∀ h1 ws1, Heap.SameBut a s.heap h1 → TSet P w h1 a ws1 → ws1.Perm (es1.toList.map textOf) → R (some true) { s with heap := h1 }) :
    wpAny (model P w) A (do
        storeSet a es1 t2
        if (!dum && t2.tooFull) = true then do
            g (relayAll t2 es1 (SetTable.grown es1.size)).2.2
            storeSet a (relayAll t2 es1 (SetTable.grown es1.size)).1 (relayAll t2 es1 (SetTable.grown es1.size)).2.1
            pure (some true)
          else pure (some true)) R E s := by
  have sb1 := Heap.SameBut.update s.heap a (Obj.putSet es1 t2)
  have ho1 := store_at (es' := es1) (t' := t2) ho hd
  refine wpAny_bind (wpAny_storeSet_of ho hd ?_ (fits_of_scanBound small))
  split
  · have n1 := relayAll_perm t2 es1 (SetTable.grown es1.size)
    have n2 := relayAll_fits t2 es1 (SetTable.grown es1.size)
    have n3 := relayAll_ris t2 es1 (SetTable.grown es1.size)
    have n4 := relayAll_led t2 es1 (SetTable.grown es1.size)
    generalize relayAll t2 es1 (SetTable.grown es1.size) = Z at n1 n2 n3 n4 ⊢
    obtain ⟨es2, t3, gave⟩ := Z
    have sz : es2.size = es1.size := by rw [← Array.length_toList, n1.length_eq, Array.length_toList]
    have small2 : es2.size < scanBound := by rw [sz]; exact small
    refine wpAny_bind (hg _ _ _ (wpAny_bind (wpAny_storeSet_of ho1 rfl ?_ (fits_of_scanBound small2))))
    exact wpAny_pure (q _ _ (sb1.trans (Heap.SameBut.update _ a _)) ⟨_, es2, _, t3, store_at (es' := es2) (t' := t3) ho1 rfl, hex, rfl, fun e m => all e (n1.mem_iff.mp m), rfl, (n1.map textOf).nodup_iff.mpr once, small2, n2, n3, led.imp id fun z => n4.trans z⟩ (n1.map textOf))
  · exact wpAny_pure (q _ _ sb1 ⟨_, es1, _, t2, ho1, hex, rfl, all, rfl, once, small, fit, ris, led⟩ (List.Perm.refl _))
theorem put_text {x : Str} {tk : Tok} {Q : Bool → Shared → Prop} (R : TSet P w s.heap a ws) (room : ws.length + 1 < scanBound)
    (q : ∀ b h1 ws1, Heap.SameBut a s.heap h1 → TSet P w h1 a ws1 → (x ∈ ws → ws1 = ws) → (x ∉ ws → ws1.Perm (x :: ws)) → Q b { s with heap := h1 }) :
    wpAny (model P w) A (setAddHashed a (.str x tk) (hashStr w x)) Q E s := by
  obtain ⟨o, es, ep, t, ho, hex, hd, all, rfl, once, small, fit, ris, led⟩ := R.ex
  have key : (PySem.strKind P w).is x (.str x tk) = true := isText x tk
  have scan : (Value.str x tk).scannable = true := rfl
  have el : ElemsOf (PySem.strKind P w) es.toList := elems_texts all
  have is_iff : ∀ e ∈ es.toList, (PySem.strKind P w).is x e.2 = true ↔ textOf e = x := fun e m => by
    obtain ⟨y, t, rfl⟩ := all e m
    exact ⟨fun z => Value.isStrOf_inj _ _ _ (isText y t) z, fun z => by rw [← show y = x from z]; exact isText y t⟩
  unfold setAddHashed setAddHashedIn
  refine wpAny_holding (wpAny_bind (wpAny_setState_of ho hd fit ?_))
  dsimp only
  rw [byScan_of scan small el]
  simp only [↓reduceIte]
  unfold setAddByScan
  refine wpAny_bind (wpAny_bind (wpAny_rule (wpAny_bind (wpAny_setScan_of key ho hd fit el ?_))))
  cases hfi : List.findIdx? (fun e => (PySem.strKind P w).is x e.2) es.toList with
  | some j =>
    obtain ⟨hj, pj, _⟩ := List.findIdx?_eq_some_iff_getElem.mp hfi
    have m : x ∈ es.toList.map textOf := List.mem_map.mpr ⟨es.toList[j], List.getElem_mem hj, (is_iff _ (List.getElem_mem hj)).mp pj⟩
    exact wpAny_pure (wpAny_pure (q _ s.heap _ (Heap.SameBut.refl a s.heap) R (fun _ => rfl) fun z => absurd m z))
  | none =>
    have m : x ∉ es.toList.map textOf := fun z => by
      obtain ⟨e, me, ee⟩ := List.mem_map.mp z
      have c := List.findIdx?_eq_none_iff.mp hfi e me
      rw [(is_iff e me).mpr ee] at c
      cases c
    dsimp only
    have gw : ∀ (b : Bool) {s1 : Shared} {G : Unit → Shared → Prop}, G () s1 → wpAny (model P w) A (match b with | true => rule "set.scan.the-table-gave-way" | false => pure ()) G E s1 := fun b s1 G z => by cases b <;> first | exact wpAny_pure z | exact wpAny_rule z
    have n1 := layNew_perm t es (hashStr w x) (.str x tk)
    have n2 := layNew_fits t es (hashStr w x) (.str x tk)
    have n3 := layNew_ris t es (hashStr w x) (.str x tk) ris
    have n4 := layNew_led t es (hashStr w x) (.str x tk)
    generalize layNew t es (hashStr w x) (.str x tk) = Z at n1 n2 n3 n4 ⊢
    obtain ⟨es1, t1, dum, gave⟩ := Z
    dsimp only at n1 n2 n3 n4 ⊢
    rw [Array.toList_push] at n1
    have pc : es1.toList.Perm ((hashStr w x, Value.str x tk) :: es.toList) := n1.trans (List.perm_append_singleton _ _)
    have pt : (es1.toList.map textOf).Perm (x :: es.toList.map textOf) := pc.map textOf
    have all1 : ∀ e ∈ es1.toList, IsText w e := fun e me => (List.mem_cons.mp (pc.mem_iff.mp me)).elim (fun z => ⟨x, tk, z⟩) (all e)
    have once1 : (es1.toList.map textOf).Nodup := pt.nodup_iff.mpr (List.nodup_cons.mpr ⟨m, once⟩)
    have small1 : es1.size < scanBound := by
      have z := pt.length_eq
      rw [List.length_map, List.length_cons, Array.length_toList] at z
      rw [z]
      exact room
    have led1 : w.params.followText "set-order" = true ∨ t1.led = true := led.imp id fun z => n4.trans z
    have fin : ∀ h1 ws1, Heap.SameBut a s.heap h1 → TSet P w h1 a ws1 → ws1.Perm (es1.toList.map textOf) → Q true { s with heap := h1 } := fun h1 ws1 sb T p => q true h1 ws1 sb T (fun z => absurd z m) fun _ => p.trans pt
    refine wpAny_bind (gw _ ?_)
    split
    · refine wpAny_bind ?_
      rw [hashByValue_scannable 8 scan]
      refine wpAny_pure (put_rest (fun b s1 G z => ?_) ho hex hd all1 once1 small1 ?_ ?_ ?_ fun h1 ws1 sb T p => ?_)
      · cases b <;> first | exact wpAny_pure z | exact wpAny_rule z
      · first | (split <;> first | exact n2 | exact SetTable.fits_plain_off n2) | exact n2 | exact SetTable.fits_plain_off n2
      · first | (split <;> exact n3) | exact n3
      · first | (split <;> exact led1) | exact led1
      · exact wpAny_pure (fin h1 ws1 sb T p)
    · refine wpAny_bind (wpAny_pure ?_)
      simp only [↓reduceIte]
      refine put_rest (fun b s1 G z => ?_) ho hex hd all1 once1 small1 n2 n3 led1 fun h1 ws1 sb T p => ?_
      · cases b <;> first | exact wpAny_pure z | exact wpAny_rule z
      · exact wpAny_pure (fin h1 ws1 sb T p)
end
end NS
/-! Sets of texts: the call set(xs), xs a list; sorted of such a set. -/
namespace NS
open PySem PySem.Spec PyProof.Rows L2
theorem texts_at : ∀ {xs : List Str} {us : List Value}, Vals (xs.map V.str) us → ∀ (i : Nat) (v : Value), us[i]? = some v → ∃ x t, xs[i]? = some x ∧ v = Value.str x t
  | [], _, .nil, i, v, h => by simp at h
  | x :: xs, _, .cons r t, 0, v, h => by
    obtain ⟨tk, rfl⟩ := r
    exact ⟨x, tk, rfl, (Option.some.inj h).symm⟩
  | x :: xs, _, .cons r t, i + 1, v, h => texts_at t i v h
section
variable {P : Program} {w : World} {A : Around} {E : Value → Shared → Prop} {s : Shared} {a : Addr} {ws : List Str}
/-- what set.__init__ has done -/
def DoneT (P : Program) (w : World) (s : Shared) (xs : List Str) (s2 : Shared) : Prop :=
  ∃ h2 tk ws, s2 = { s with heap := h2, toks := tk } ∧ TSet P w h2 s.heap.objs.size ws ∧ (∀ x, x ∈ ws ↔ x ∈ xs) ∧ ∀ b o, s.heap.get? b = some o → h2.get? b = some o
theorem TSet.new {h : Heap} {a : Addr} (ho : h.get? a = some (setObj w)) : TSet P w h a [] := by
  refine ⟨_, #[], 0, _, ho, ⟨rfl, rfl, rfl⟩, rfl, fun _ m => (nomatch m), rfl, List.nodup_nil, by decide, rfl, List.Pairwise.nil, ?_⟩
  cases e : w.params.followText "set-order" with
  | true => exact .inl rfl
  | false => exact .inr (show (!w.params.followText "set-order") = true by rw [e]; rfl)
theorem TSet.once {h : Heap} (R : TSet P w h a ws) : ws.Nodup := by
  obtain ⟨_, _, _, _, _, _, _, _, _, o, _⟩ := R.ex
  exact o
/-- set.update's loop over texts -/
theorem fillT {I S : Addr} {fp wr : List Addr} {G : Array GenState → Array GenState → Prop} {n : Nat} {Pv : Nat → Value → Prop} {St : Nat → Shared → Prop} {R : Result → Shared → Prop} {xs : List Str}
    (W : WalksS P w A.in1 I fp wr G n Pv St) (nS : S ∉ fp) (hn : n = xs.length) (few : xs.length < 64) (val : ∀ i v, Pv i v → ∃ x t, xs[i]? = some x ∧ v = .str x t) (rest : List Str) :
    ∀ (done : List Str) (s : Shared), xs = done ++ rest → St done.length s → (∃ ws, TSet P w s.heap S ws ∧ (∀ x, x ∈ ws ↔ x ∈ done) ∧ ws.length ≤ done.length) →
      (∀ s1 ws, Moved (S :: wr) G s s1 → TSet P w s1.heap S ws → (∀ x, x ∈ ws ↔ x ∈ xs) → R (.ok (.ret .none)) s1) →
      codeAny (model P w) A (.builtin "set.update.loop" ⟨[.ref S, .ref I], []⟩) R s := by
  have up : ∀ b ∈ wr, b ∈ S :: wr := fun b m => List.mem_cons_of_mem _ m
  have nSw : S ∉ wr := fun m => nS (W.sub _ m)
  induction rest with
  | nil =>
    intro done s er st hs fin
    obtain ⟨ws, R0, g, _⟩ := hs
    rw [List.append_nil] at er
    subst er
    rw [← hn] at st
    refine codeAny_builtin F.entry_set_update_loop ?_
    rw [Around.under_plainId F.plain_set_update_loop _]
    refine (show wpAny _ A.in1 (pyNext (.ref I) >>= _) _ _ s from wpAny_bind (W.done s _ _ st fun s1 m => ?_))
    exact (show wpAny _ A.in1 (ret Value.none) _ _ s1 from wpAny_pure (fin s1 ws (m.mono up) (R0.carry fun o e => m.heap S o nSw e) g))
  | cons x rest ih =>
    intro done s er st hs fin
    obtain ⟨ws, R0, g, gl⟩ := hs
    have il : done.length < n := by rw [hn, er, List.length_append, List.length_cons]; omega
    have xe : xs[done.length]? = some x := by rw [er, List.getElem?_append_right (Nat.le_refl _), Nat.sub_self]; rfl
    refine codeAny_builtin F.entry_set_update_loop ?_
    rw [Around.under_plainId F.plain_set_update_loop _]
    refine (show wpAny _ A.in1 (pyNext (.ref I) >>= _) _ _ s from wpAny_bind (W.item done.length s _ _ il st fun v s1 pv st1 m => ?_))
    obtain ⟨y, t, pe, rfl⟩ := val _ _ pv
    rw [xe] at pe
    cases pe
    have R1 : TSet P w s1.heap S ws := R0.carry fun o e => m.heap S o nSw e
    refine (show wpAny _ A.in1 (holding [Value.str x t] (setAdd S (.str x t)) >>= _) _ _ s1 from wpAny_bind (wpAny_holding ?_))
    rw [setAdd]
    refine wpAny_holding (wpAny_bind (wpAny_pyHash_str ?_))
    refine put_text (s := { s1 with toks := s1.toks + 1 }) R1 (by rw [er, List.length_append, List.length_cons] at few; unfold scanBound; omega) fun b h2 ws2 sb R2 c1 c2 => ?_
    have g2 : (∀ y, y ∈ ws2 ↔ y ∈ done ++ [x]) ∧ ws2.length ≤ (done ++ [x]).length := by
      rw [List.length_append, List.length_singleton]
      rcases Classical.em (x ∈ ws) with c | c
      · rw [c1 c]
        refine ⟨fun y => ?_, by omega⟩
        rw [List.mem_append, List.mem_singleton, g y]
        exact ⟨Or.inl, fun z => z.elim id fun z => by rw [z]; exact (g x).mp c⟩
      · have p := c2 c
        refine ⟨fun y => ?_, by rw [p.length_eq, List.length_cons]; omega⟩
        rw [p.mem_iff, List.mem_cons, List.mem_append, List.mem_singleton, g y]
        exact Or.comm
    refine wpAny_pure ⟨plainId_quiet F.plain_set_update_loop _, ih (done ++ [x]) _ (by rw [er, List.append_assoc]; rfl) ?_ ⟨ws2, R2, g2⟩ fun s3 ws3 m3 R3 g3 => ?_⟩
    · rw [List.length_append]
      exact W.frame _ s1 _ _ st1 (Nat.le_add_right _ _) fun b mb o e => (sb.2 b fun z => nS (z ▸ mb)).trans e
    · refine fin s3 ws3 (Moved.trans W.gtrans ((m.mono up).then_heap (Nat.le_add_right _ _) fun b o mb e => ?_) m3) R3 g3
      exact (sb.2 b fun z => mb (z ▸ List.mem_cons_self)).trans e
theorem init_texts {l : Addr} {items : Array Value} {xs : List Str} (calm : A.handled = none) (hl : s.heap.IsList l items) (he : Vals (xs.map V.str) items.toList) (few : xs.length < 64) :
    codeAny (model P w) A.in1 (.call (.builtin "set.__init__") ⟨[.ref s.heap.objs.size, .ref l], []⟩) (wants (fun r s2 => r = .none ∧ DoneT P w s xs s2) E) { s with heap := s.heap.push (setObj w) } := by
  have at0 : (s.heap.push (setObj w)).get? s.heap.objs.size = some (setObj w) := Heap.get?_push_size _ rfl
  have ty : Shared.TypeIs { s with heap := s.heap.push (setObj w) } (.ref s.heap.objs.size) "set" := ⟨_, at0, rfl⟩
  have n0 : items.size = xs.length := by
    have z := he.length
    rw [List.length_map, Array.length_toList] at z
    exact z.symm
  have none_of : ∀ b, s.heap.objs.size ≤ b → s.heap.get? b = none := fun b hb => by
    cases q : s.heap.get? b with
    | none => rfl
    | some o => exact absurd (Heap.lt_size q) (Nat.not_lt.mpr hb)
  refine codeAny_call_builtin F.called_set.init.plain F.entry_set_init (check_set_init_1 ty ?_)
  obtain ⟨ol, hol, hcl, nl, hdl⟩ := hl
  obtain ⟨cl, dl, datal, sl⟩ := ol
  simp only at hcl hdl
  subst hcl hdl
  have hol1 : (s.heap.push (setObj w)).get? l = some { cls := .type "list", dict := dl, data := .seq items nl, slots := sl } := Heap.get?_push_of_some _ hol
  have il : (s.heap.push (setObj w)).IsList l items := ⟨_, hol1, rfl, nl, rfl⟩
  have lt : l < s.heap.objs.size := Heap.lt_size hol
  have sub1 := F.sub_list_set
  have sub2 := F.sub_list_frozenset
  have ne : (Value.type "list" == Value.type "dict") = false := by decide
  unfold Builtin.«set.__init__» noKeywords Builtin.Frozenset.updateFrom
  generalize hPI : pyIter = PI
  wp_walk
  subst hPI
  refine wpAny_pyIter_list il (wpAny_bind (wpAny_runValue ?_))
  have calm3 : A.in1.in1.in1.handled = none := by simp [calm]
  have sz1 : (s.heap.push (setObj w)).objs.size = s.heap.objs.size + 1 := Heap.size_push ..
  have neI : l ≠ (s.heap.push (setObj w)).objs.size := by rw [sz1]; exact Nat.ne_of_lt (Nat.lt_succ_of_lt lt)
  have at2 : ((s.heap.push (setObj w)).push { cls := .type "list_iterator", data := .fields #[.ref l, .int 0 0] }).get? s.heap.objs.size = some (setObj w) := Heap.get?_push_of_some _ at0
  refine fillT (xs := xs) (S := s.heap.objs.size) ((Walks.list calm3 _ l neI items).toS) (fun m => ?_) n0 few (fun i v hv => ?_) xs [] _ rfl
    ⟨⟨_, Heap.get?_push_size _ rfl, rfl, rfl⟩, il.push _⟩ ⟨[], TSet.new at2, fun _ => Iff.rfl, Nat.le_refl _⟩ fun s2 ws m R g => ?_
  · rw [sz1] at m
    rcases List.mem_cons.mp m with z | z
    · exact absurd z (Nat.ne_of_lt (Nat.lt_succ_self _))
    · exact absurd (List.mem_singleton.mp z) (Nat.ne_of_gt lt)
  · have q : items.toList[i]? = some v := by rw [Array.getElem?_toList]; exact hv
    exact texts_at he i v q
  · have keep : ∀ b o, s.heap.get? b = some o → s2.heap.get? b = some o := fun b o e => m.heap b o (fun z => by
      rcases List.mem_cons.mp z with z | z
      · rw [z, none_of _ (Nat.le_refl _)] at e; exact nomatch e
      · rw [List.mem_singleton.mp z, sz1, none_of _ (Nat.le_succ _)] at e; exact nomatch e) (Heap.get?_push_of_some _ (Heap.get?_push_of_some _ e))
    obtain ⟨h2, g2, d2, tk, o2⟩ := s2
    cases (m.gens : g2 = s.gens)
    cases (m.drawn : d2 = s.drawn)
    cases (m.os : o2 = s.os)
    exact wpAny_pure (wpAny_pure ⟨rfl, h2, tk, ws, rfl, R, g, keep⟩)
/-- set(xs) -/
theorem call_texts {l : Addr} {items : Array Value} {xs : List Str} {Q : Value → Shared → Prop} (calm : A.handled = none) (hl : s.heap.IsList l items) (he : Vals (xs.map V.str) items.toList) (few : xs.length < 64)
    (q : ∀ (h2 : Heap) (tk : Nat) (ws : List Str), TSet P w h2 s.heap.objs.size ws → (∀ x, x ∈ ws ↔ x ∈ xs) → (∀ b o, s.heap.get? b = some o → h2.get? b = some o) → Q (.ref s.heap.objs.size) { s with heap := h2, toks := tk }) :
    wpAny (model P w) A (call (.type "set") [.ref l]) Q E s := by
  obtain ⟨c, tl, mro⟩ := F.called_set.mro
  have made := F.called_set.made
  have sub := F.called_set.sub
  refine wpAny_call (codeAny_of_tree (show wpAny _ _ (callAny (.type "set") _) _ _ _ from wpAny_pure ⟨Code.quiet_builtin _ (by decide +kernel), codeAny_builtin F.entry_type_call ?_⟩))
  rw [Around.under_plain (weight_type_call_type "set" [.ref l] []) rfl]
  have t1 := F.called_set.notType
  have t2 := F.called_set.canCreate
  have t3 := F.typeCall_set_1 (.ref l)
  repeat (any_goals (first | assumption | wp_step))
  refine codeAny_mono (code_set_led1 (.ref l) (E := E) (Q₁ := fun u s1 => u = .ref s.heap.objs.size ∧ s1 = { s with heap := s.heap.push (setObj w) }) ⟨rfl, rfl⟩) fun r s1 hr => ?_
  match r, hr with
  | .error _, hr => exact hr
  | .ok (.ret u), hr =>
    obtain ⟨rfl, rfl⟩ := hr
    have ty : Shared.TypeIs { s with heap := s.heap.push (setObj w) } (.ref s.heap.objs.size) "set" := ⟨_, Heap.get?_push_size _ rfl, rfl⟩
    have i1 := F.called_set.init.lookup
    have i2 := F.called_set.init.bind (.ref s.heap.objs.size)
    repeat (any_goals (first | assumption | wp_step))
    refine codeAny_mono (init_texts (E := E) calm hl he few) fun r2 s2 hr2 => ?_
    match r2, hr2 with
    | .error _, hr2 => exact hr2
    | .ok (.ret r), hr2 =>
      obtain ⟨rfl, h2, tk, ws, rfl, R, g, k⟩ := hr2
      repeat (any_goals (first | assumption | wp_step))
      exact q h2 tk ws R g k
end
section
variable {X : Cx}
/-- the set of texts at a -/
def TSetO (P : Program) (w : World) (a : Addr) (ws : List Str) : HO := .ext fun h => TSet P w h a ws
theorem tSetO_ok {P : Program} {w : World} {H : Hp} {h : Heap} {a : Addr} {ws : List Str} (R : TSet P w h a ws) : ObjOk P w H h a (TSetO P w a ws) := by
  have z := R.ex
  obtain ⟨o, es, ep, t, ho, r⟩ := z
  exact ⟨R, ⟨o, ho⟩, fun h1 h2 p k => TSet.carry p k⟩
/-- set(xs) of texts -/
def rSetT (X : Cx) : List V → Hp → VK → Prop := fun vs H Q => ∃ (l : Addr) (xs : List Str), vs = [V.ref l] ∧ SqL X.K H l (xs.map V.str) ∧ xs.length < 64 ∧ ∀ a ws, H a = none → ws.Nodup → (∀ x, x ∈ ws ↔ x ∈ xs) → Q (.ref a) (upd H a (TSetO X.prog X.w a ws))
theorem cr_setT (hc : X.calm = true) : CallR X (.type "set") (rSetT X) := by
  intro pins s σ H vs us Q I r h
  obtain ⟨l, xs, rfl, hl, few, q⟩ := h
  rw [Vals.ref1 r]
  obtain ⟨its, rv, pl, hz⟩ := I.list hl
  have n0 : H s.heap.objs.size = none := I.hok.fresh (Nat.le_refl _)
  refine call_texts (P := X.prog) (w := X.w) (xs := xs) (I.ok.hd hc) pl.isList (by simpa using rv) few fun h2 tk ws R g k => ?_
  exact ⟨.ref s.heap.objs.size, upd H s.heap.objs.size (TSetO X.prog X.w s.heap.objs.size ws), I.laid (t' := tk) k (Nat.le_refl _) (tSetO_ok R), rfl, q _ ws n0 R.once g⟩
end
end NS
/-! Sets of texts: sorted of such a set. -/
namespace NS
open PySem PySem.Spec PyProof.Rows L2
abbrev strLe (x y : Str) : Bool := decide (x.cps.toList ≤ y.cps.toList)
theorem each_texts : ∀ {vs : List Value} {xs : List Str}, PySem.W.EachIs (fun (v : Value) (x : Str) => ∃ t, v = .str x t) vs xs → Vals (xs.map V.str) vs
  | _, _, .nil => .nil
  | _, _, .cons ⟨t, e⟩ r => .cons ⟨t, e⟩ (each_texts r)
theorem each_reads {h : Heap} {f : Addr} : ∀ {vs : List Value} {xs : List Str}, PySem.W.EachIs (fun (v : Value) (x : Str) => ∃ t, v = .str x t) vs xs → PySem.W.EachIs (fun (v : Value) (x : Str) => ∃ as, Reads h v (.str x) as ∧ f ∉ as) vs xs
  | _, _, .nil => .nil
  | _, _, .cons ⟨t, e⟩ r => by
    subst e
    exact .cons ⟨[], .str _ t, List.not_mem_nil⟩ (each_reads r)
theorem texts_each {w : World} : ∀ l : List (Int × Value), (∀ e ∈ l, IsText w e) → PySem.W.EachIs (fun (v : Value) (x : Str) => ∃ t, v = .str x t) (l.map (·.2)) (l.map textOf)
  | [], _ => .nil
  | e :: l, h => by
    obtain ⟨x, t, rfl⟩ := h e List.mem_cons_self
    exact .cons ⟨t, rfl⟩ (texts_each l fun d m => h d (List.mem_cons_of_mem _ m))
section
variable {P : Program} {w : World} {A : Around} {E : Value → Shared → Prop} {s : Shared} {a : Addr} {ws : List Str}
theorem sorted_texts {Q : Value → Shared → Prop} (R : TSet P w s.heap a ws) (calm : A.handled = none) (few : ws.length < 64) (hu : A.units + 16 < cLine)
    (q : ∀ s1 p (out : Array Value) (c : Nat) (ys : List Str), (∀ b o, s.heap.get? b = some o → s1.heap.get? b = some o) → s1.gens = s.gens → s1.os = s.os → s.heap.objs.size ≤ p → s1.heap.get? p = some (seqObj "list" out c) →
      Vals (ys.map V.str) out.toList → ys.Perm ws → ys.Pairwise (fun x y => x.cps.toList ≤ y.cps.toList) → Q (.ref p) s1) :
    wpAny (model P w) A (call (.builtin "sorted") [.ref a]) Q E s := by
  obtain ⟨o, es, ep, t, ho, hex, hd, all, rfl, once, small, fit, ris, led⟩ := R.ex
  refine Calls.call_function_entry kind_sorted plain_sorted entry_sorted (args_sorted1 _) ?_
  unfold Builtin.«sorted»
  refine wpAny_bind (m := checkCount "sorted" 1 1 _) (wpAny_pure (wpAny_bind (collect_set (A := A.in1) calm ⟨o, ho, hex.1, hd⟩ fit small ris led fun s1 vs k1 z1 g1 o1 pm => ?_)))
  obtain ⟨l0, rfl, p0⟩ := perm_map_inv pm
  have all0 : ∀ e ∈ l0, IsText w e := fun e m => all e (p0.mem_iff.mp m)
  have pt := p0.map textOf
  have n0 : l0.length < 64 := by
    have z := p0.length_eq
    rw [List.length_map] at few
    omega
  have each := texts_each l0 all0
  refine wpAny_bind (wpAny_newList ?_ (by rw [List.length_map, sizeLine_eq]; omega))
  have at1 : (s1.heap.push (seqObj "list" (l0.map (·.2)).toArray 0)).get? s1.heap.objs.size = some (seqObj "list" (l0.map (·.2)).toArray 0) := Heap.get?_push_size _ rfl
  refine wpAny_bind (wpAny_holding (PySem.W.list_sort_data (s := { s1 with heap := s1.heap.push (seqObj "list" (l0.map (·.2)).toArray 0) }) (R := fun (v : Value) (x : Str) => ∃ t, v = .str x t) (enc := PyData.str) (bs := l0.map textOf) at1 each (each_reads each)
    (PySem.W.AllAlike.of fun _ _ => rfl) (PySem.W.Sortable.others fun _ => ⟨fun z => (nomatch z), fun _ z => (nomatch z)⟩) (by rw [List.length_map, sizeLine_eq]; omega) (fun b _ => ?_) fun out n1 eo => ?_))
  · show A.in1.units + 1 + 0 < cLine
    rw [Around.in1_units]
    omega
  · obtain ⟨c, hc⟩ := sortedHeap_at (vs := l0.map (·.2)) (out := List.toArray out) at1
    refine wpAny_pure ⟨_, rfl, q _ s1.heap.objs.size (List.toArray out) c ((l0.map textOf).mergeSort (PySem.W.dataLe false PyData.str)) (fun b u e => ?_) g1 o1 z1 hc (by rw [List.toList_toArray]; exact each_texts eo) ((List.mergeSort_perm _ _).trans pt) ?_⟩
    · have e2 := k1 b u e
      have lt := Heap.lt_size e2
      exact (sortedHeap_old (Nat.ne_of_lt lt) (by rw [size_push']; exact Nat.lt_succ_of_lt lt)).trans (Heap.get?_push_of_some _ e2)
    · have z := PySem.W.sort_pairwise (PySem.W.sortLe_total _ _ _ : PySem.W.TotalLe (PySem.W.dataLe false PyData.str)) (l0.map textOf)
      refine z.imp fun {x y} h => ?_
      have e := congrFun (congrFun (PySem.W.dataLe_str fun x : Str => x) x) y
      exact of_decide_eq_true (e.symm.trans h)
end
section
variable {X : Cx}
/-- sorted(a set of texts) -/
def rSortedT (X : Cx) : List V → Hp → VK → Prop := fun vs H Q => ∃ (a : Addr) (ws : List Str), vs = [V.ref a] ∧ H a = some (TSetO X.prog X.w a ws) ∧ ws.length < 64 ∧
  ∀ (ys : List Str) (p : Addr), ys.Perm ws → ys.Pairwise (fun x y => x.cps.toList ≤ y.cps.toList) → H p = none → Q (.ref p) (upd H p (.lst (ys.map V.str)))
theorem cr_sortedT (hc : X.calm = true) (hu : X.A.units + 64 < cLine) : CallR X (.builtin "sorted") (rSortedT X) := by
  intro pins s σ H vs us Q I r h
  obtain ⟨a, ws, rfl, ha, few, q⟩ := h
  have R : TSet X.prog X.w s.heap a ws := (I.hok a _ ha).1
  rw [Vals.ref1 r]
  refine sorted_texts R (I.ok.hd hc) few (by omega) fun s1 p out c ys k g o hp hg hv pm pw => ?_
  have n0 : H p = none := I.hok.fresh hp
  have J := I.call' (s' := s1) (ch := []) (H' := upd H p (.lst (ys.map V.str))) o (Un.laid k hp n0) (I.hok.laid k hp ⟨by rw [List.length_map, pm.length_eq, sizeLine_eq]; omega, out.toList, c, hv, hg⟩) (by rw [g]; exact I.bare) (fun _ z => nomatch z)
  exact ⟨.ref p, _, J, rfl, q ys p pm pw n0⟩
end
end NS
/-! Machines over the abstract heap, part by part. -/
namespace MC
open PySem PySem.Spec PyProof.Rows L2 NS WD
theorem nodup_len {α : Type} [DecidableEq α] : ∀ (l D : List α), l.Nodup → (∀ x ∈ l, x ∈ D) → l.length ≤ D.length
  | [], _, _, _ => Nat.zero_le _
  | x :: l, D, n, s => by
    have hx := s x List.mem_cons_self
    have n' := List.nodup_cons.mp n
    have z := nodup_len l (D.erase x) n'.2 fun y hy => (List.mem_erase_of_ne fun e => n'.1 (by rw [← show y = x from e]; exact hy)).mpr (s y (List.mem_cons_of_mem _ hy))
    rw [List.length_erase_of_mem hx] at z
    have p : 0 < D.length := List.length_pos_of_mem hx
    rw [List.length_cons]
    omega
variable {H : Hp}
theorem kz_len : ∀ {xs : List V} {ks : List NestedKey}, KzAll H xs ks → xs.length = ks.length
  | _, _, .nil => rfl
  | _, _, .cons _ t => by rw [List.length_cons, List.length_cons, kz_len t]
theorem kz_get : ∀ {xs : List V} {ks : List NestedKey}, KzAll H xs ks → ∀ (i : Nat) (v : V), xs[i]? = some v → ∃ k, ks[i]? = some k ∧ Kz H v k
  | _, _, .nil, i, v, h => by simp at h
  | _, _, .cons r t, 0, v, h => ⟨_, rfl, (Option.some.inj h) ▸ r⟩
  | _, _, .cons r t, i + 1, v, h => kz_get t i v h
theorem kz_tup {v : V} {ks : List NestedKey} (h : Kz H v (.tup ks)) : ∃ a xs, v = .ref a ∧ H a = some (.tup xs) ∧ KzAll H xs ks := by
  cases h with
  | tup e h => exact ⟨_, _, rfl, e, h⟩
theorem kz_num {v : V} {i : Int} (h : Kz H v (.num i)) : v = .int i := by cases h; rfl
theorem kz_text {v : V} {x : Str} (h : Kz H v (.text x)) : v = .str x := by cases h; rfl
theorem kz_nums : ∀ {xs : List V} {ns : List Int}, KzAll H xs (ns.map NestedKey.num) → xs = ns.map V.int
  | _, [], h => by cases h; rfl
  | _, n :: ns, h => by
    cases h with
    | cons r t => rw [kz_num r, kz_nums t]; rfl
structure MachAt (H : Hp) (a : Addr) (m : MachM) where
  f : Addr
  t : Addr
  xs : List V
  top : H a = some (.tup [.int m.size, .ref f, .ref t])
  fin : H f = some (.tup (m.finals.map V.int))
  row : H t = some (.tup xs)
  all : KzAll H xs (m.rows.map RowM.key)
theorem mach_at {a : Addr} {m : MachM} (h : Kz H (.ref a) m.key) : Nonempty (MachAt H a m) := by
  obtain ⟨a', xs, e, ha, hs⟩ := kz_tup h
  cases e
  cases hs with
  | cons h1 hs =>
    cases hs with
    | cons h2 hs =>
      cases hs with
      | cons h3 hs =>
        cases hs
        cases kz_num h1
        obtain ⟨f, fs, rfl, ef, af⟩ := kz_tup h2
        obtain ⟨t, ts, rfl, et, at'⟩ := kz_tup h3
        cases kz_nums af
        exact ⟨⟨f, t, ts, ha, ef, et, at'⟩⟩
theorem row_at {xs : List V} {rows : List RowM} (all : KzAll H xs (rows.map RowM.key)) {i : Nat} {v : V} (h : xs[i]? = some v) : ∃ r : RowM, rows[i]? = some r ∧ ∃ (a : Addr) (dv : V), v = .ref a ∧ H a = some (.tup [.int r.before, dv, .int r.after]) ∧ Kz H dv r.deed.key := by
  obtain ⟨k, hk, z⟩ := kz_get all i v h
  rw [List.getElem?_map] at hk
  cases e : rows[i]? with
  | none => rw [e] at hk; exact nomatch hk
  | some r =>
    rw [e] at hk
    cases hk
    refine ⟨r, rfl, ?_⟩
    obtain ⟨a, ys, rfl, ha, hs⟩ := kz_tup z
    cases hs with
    | cons h1 hs =>
      cases hs with
      | cons h2 hs =>
        cases hs with
        | cons h3 hs =>
          cases hs
          cases kz_num h1
          cases kz_num h3
          exact ⟨a, _, rfl, ha, h2⟩
/-- the signs of a deed -/
def Deed.signs : Deed → List Str
  | .step => ["step"]
  | .ex b n l => [wordOf b, n, l]
theorem deed_at {dv : V} {d : Deed} (h : Kz H dv d.key) : ∃ q, dv = .ref q ∧ H q = some (.tup (d.signs.map V.str)) := by
  cases d with
  | step =>
    obtain ⟨q, ys, rfl, hq, hs⟩ := kz_tup h
    cases hs with
    | cons h1 hs =>
      cases hs
      cases kz_text h1
      exact ⟨q, rfl, hq⟩
  | ex b n l =>
    obtain ⟨q, ys, rfl, hq, hs⟩ := kz_tup h
    cases hs with
    | cons h1 hs =>
      cases hs with
      | cons h2 hs =>
        cases hs with
        | cons h3 hs =>
          cases hs
          cases kz_text h1
          cases kz_text h2
          cases kz_text h3
          exact ⟨q, rfl, hq⟩
def exName (r : RowM) : Option Str := match r.deed with
  | .step => none
  | .ex _ n _ => some n
def exNames (rs : List RowM) : List Str := rs.filterMap exName
theorem mem_exNames {rs : List RowM} {x : Str} : x ∈ exNames rs ↔ ∃ r ∈ rs, ∃ b l, r.deed = .ex b x l := by
  rw [exNames, List.mem_filterMap]
  constructor
  · rintro ⟨r, hr, e⟩
    refine ⟨r, hr, ?_⟩
    unfold exName at e
    cases h : r.deed with
    | step => rw [h] at e; exact nomatch e
    | ex b n l => rw [h] at e; cases e; exact ⟨b, l, rfl⟩
  · rintro ⟨r, hr, b, l, e⟩
    exact ⟨r, hr, by rw [exName, e]⟩
theorem exNames_next {rs : List RowM} {i : Nat} {r : RowM} (h : rs[i]? = some r) : exNames (rs.take (i + 1)) = exNames (rs.take i) ++ (exName r).toList := by
  rw [List.take_succ, h, exNames, exNames, List.filterMap_append]
  cases e : exName r with
  | none => simp [e]
  | some x => simp [e]
theorem exNames_len {rs : List RowM} : (exNames rs).length ≤ rs.length := List.length_filterMap_le _ _
end MC
namespace K03
open PySem PySem.Spec PyProof.Rows L2 WD NS MC
open C8 (pss_cut tCut)
/-- len of a list or a tuple -/
def rLenS (K : PySem.W.Frag) : List V → Hp → VK → Prop := fun xs H Q => ∃ p ys, xs = [V.ref p] ∧ (SqL K H p ys ∨ SqT K H p ys) ∧ Q (V.int ys.length) H
theorem call_lenS {X : Cx} : CallR X (.builtin "len") (rLenS X.K) := call_len_seq
abbrev sNear : Stmt := topS 39
abbrev nN : List Str := ["_law_machine", "_law_state", "_law_deed", "_law_later"]
theorem scNear : FnScope nN ["_law_machine"] (defScope sNear) := ⟨rfl, rfl, rfl, by decide +kernel, rfl, by decide +kernel, by decide +kernel⟩
/-- the neighbours, ascending -/
structure NearOf (m : MachM) (ys : List Str) : Prop where
  mem : ∀ x, x ∈ ys ↔ ∃ r ∈ m.rows, ∃ b l, r.deed = .ex b x l
  asc : ys.Pairwise (fun x y => x.cps.toList ≤ y.cps.toList)
  once : ys.Nodup
def spNear : Sp := fun vs H Q _ => ∃ (a : Addr) (m : MachM), vs = [.ref a] ∧ Kz H (.ref a) m.key ∧ m.Ok ∧
  ∀ H' p (ys : List Str), Same H H' → H p = none → H' p = some (.tup (ys.map V.str)) → NearOf m ys → ys.length < 64 → Q (.ref p) H'
def spNearL : Sp := fun vs H Q _ => ∃ (a : Addr) (m : MachM), vs = [.ref a] ∧ Kz H (.ref a) m.key ∧ m.rows.length < 64 ∧
  ∀ H' p (ys : List Str), Same H H' → H p = none → H' p = some (.lst (ys.map V.str)) → NearOf m ys → ys.length < 64 → Q (.ref p) H'
section
variable {P : Program} {w : World} {K : PySem.W.Frag} {mg : Str → Option Value} {base : Heap}
theorem ok_Near {f : Addr} {fd : FuncData} {k : Nat} (F : Fun K "_law_near" "_law_near" sNear f fd) (T : TxtS mg) (TD : TxtD mg) : FnOk P w K mg base CX0 (k + 1) f fd ["_law_machine"] spNearL := by
  refine F.ok scNear (fun vs H Q E h => ?_) (fun cdv A outer s H vs Q E hr h => ?_)
  · obtain ⟨a, m, rfl, _⟩ := h
    rfl
  · obtain ⟨a, m, rfl, hm, ok, q⟩ := h
    have hu := hr.units
    refine ⟨_, pss_one (ps_ret (pe_callB (cr_sortedT rfl hu) (by rfl) T.sorted (by decide +kernel) (pa_cons (pe_callTy (cr_setT rfl) (by rfl) T.set (by decide +kernel)
      (pa_cons (pe_lc (own := [("_law_state", 1), ("_law_deed", 2), ("_law_later", 3)]) (g := gTup K 3 (gCons (gName 1) (gCons (gName 2) (gCons (gName 3) gNil)))) (tt := tTest (tOp rEq (tCB (rLenS K) (tCons (tVar 2) tNil)) (tC (.int 3)))) (te := tOp (rIxT K) (tVar 2) (tC (.int 1))) rfl scNear.nd (pi_tup (pe_ix ix_tup (pv 0) pe_int (fun _ _ => rfl))) (blkOk_by (own := [("_law_state", 1), ("_law_deed", 2), ("_law_later", 3)]) (N := nN) (sc := defScope sNear) (by decide +kernel))
        (fun _ _ _ _ _ => pg_tup rfl (pgs_cons (pg_name (i := 1) scNear.nd rfl (.inl rfl)) (pgs_cons (pg_name (i := 2) scNear.nd rfl (.inl rfl)) (pgs_cons (pg_name (i := 3) scNear.nd rfl (.inl rfl)) pgs_nil))))
        (fun _ _ _ _ _ => pts_one (pt_cmpR op_eq (pe_callB (show CallR _ (.builtin "len") (rLenS K) from call_lenS) (by rfl) TD.len PySem.boot_len (pa_cons (pv 2) pa_nil)) pe_int (nomark _)))
        (fun _ _ _ _ _ => pe_ix (show IxR _ (rIxT K) from ix_tup) (pv 2) pe_int (fun _ _ => rfl))) pa_nil)) pa_nil))), ?_⟩
    obtain ⟨M⟩ := mach_at hm
    refine ⟨_, rfl, a, _, 2, .ref M.t, rfl, rfl, SqT.of M.top, atI_nat (j := 2) rfl, M.t, rfl, ⟨_, SqT.of M.row⟩, fun D nD => ?_⟩
    have sD := same_upd (o := .lst []) nD
    refine lc_tup (xs := M.xs) (fun i H' => Same H H' ∧ H' D = some (.lst ((exNames (m.rows.take i)).map V.str))) ⟨sD, upd_same⟩ (fun i H' _ z => SqT.of (z.1 _ _ M.row)) ?_ ?_
    · rintro i v H2 hv ⟨s2, e2⟩
      obtain ⟨r, hr', ra, dv, rfl, er, kd⟩ := row_at M.all hv
      obtain ⟨qd, rfl, ed⟩ := deed_at kd
      refine ⟨ra, _, rfl, SqT.of (s2 _ _ er), rfl, _, _, rfl, _, _, rfl, _, _, rfl, rfl, rfl, ?_⟩
      refine ⟨_, rfl, qd, _, rfl, .inr (SqT.of (s2 _ _ ed)), rfl, _, rfl, ?_⟩
      have nx := exNames_next hr'
      have il : i < m.rows.length := (List.getElem?_eq_some_iff.mp hr').1
      have small : (exNames (m.rows.take i)).length < 64 := Nat.lt_of_le_of_lt (Nat.le_trans exNames_len (by rw [List.length_take]; omega)) ok
      cases hd : r.deed with
      | step =>
        rw [hd] at ed
        refine iteF ⟨s2, ?_⟩
        rw [e2, nx, exName, hd]
        simp
      | ex b n l =>
        rw [hd] at ed
        refine iteT ⟨_, rfl, qd, _, 1, .str n, rfl, rfl, SqT.of (s2 _ _ ed), atI_nat (j := 1) rfl, _, e2, ?_, fun b' o' eb => ?_, ?_⟩
        · rw [List.length_map, sizeLine_eq]
          omega
        · rw [upd_ne (ne_of_none eb nD)]
          exact s2 _ _ eb
        · rw [upd_same, nx, exName, hd]
          simp
    · rintro H2 ⟨s2, e2⟩
      have lx : M.xs.length = m.rows.length := by
        have z := kz_len M.all
        rw [List.length_map] at z
        exact z
      rw [lx, List.take_length] at e2
      have few : (exNames m.rows).length < 64 := Nat.lt_of_le_of_lt exNames_len ok
      refine ⟨D, exNames m.rows, rfl, SqL.of e2, few, fun a3 ws n3 once mem => ?_⟩
      have lw : ws.length ≤ (exNames m.rows).length := nodup_len _ _ once fun x hx => (mem x).mp hx
      have s3 := same_upd (o := TSetO P w a3 ws) n3
      refine ⟨a3, ws, rfl, upd_same, by omega, fun ys p4 pm pw n4 => ?_⟩
      have s4 := same_upd (o := .lst (ys.map V.str)) n4
      have ss := s2.trans (s3.trans s4)
      exact q _ p4 ys ss ((s2.trans s3).free n4) upd_same ⟨fun x => (pm.mem_iff.trans (mem x)).trans mem_exNames, pw, pm.nodup_iff.mpr once⟩ (by rw [pm.length_eq]; omega)
end
end K03
namespace K03
open PySem PySem.Spec PyProof.Rows L2 WD NS MC
open C8 (pss_cut tCut)
abbrev DeedX := Bool × Str × Str
abbrev deedVals (d : DeedX) : List V := [.str (wordOf d.1), .str d.2.1, .str d.2.2]
def exDeed (st : Int) (r : RowM) : Option DeedX := if r.before = st then (match r.deed with | .step => none | .ex b n l => some (b, n, l)) else none
def exDeeds (st : Int) (rs : List RowM) : List DeedX := rs.filterMap (exDeed st)
theorem exDeeds_next {st : Int} {rs : List RowM} {i : Nat} {r : RowM} (h : rs[i]? = some r) : exDeeds st (rs.take (i + 1)) = exDeeds st (rs.take i) ++ (exDeed st r).toList := by
  rw [List.take_succ, h, exDeeds, exDeeds, List.filterMap_append]
  cases e : exDeed st r with
  | none => simp [e]
  | some x => simp [e]
theorem mem_exDeeds {st : Int} {rs : List RowM} {d : DeedX} : d ∈ exDeeds st rs ↔ ∃ r ∈ rs, r.before = st ∧ r.deed = .ex d.1 d.2.1 d.2.2 := by
  rw [exDeeds, List.mem_filterMap]
  constructor
  · rintro ⟨r, hr, e⟩
    refine ⟨r, hr, ?_⟩
    unfold exDeed at e
    by_cases h : r.before = st
    · rw [if_pos h] at e
      cases hd : r.deed with
      | step => rw [hd] at e; exact nomatch e
      | ex b n l => rw [hd] at e; cases e; exact ⟨h, rfl⟩
    · rw [if_neg h] at e
      exact nomatch e
  · rintro ⟨r, hr, e1, e2⟩
    exact ⟨r, hr, by rw [exDeed, if_pos e1, e2]⟩
def letOf (wd : Bool) (o : Str) (d : DeedX) : Option Str := if d.1 = wd ∧ d.2.1 = o then some d.2.2 else none
def lets (wd : Bool) (o : Str) (ds : List DeedX) : List Str := ds.filterMap (letOf wd o)
theorem lets_next {wd : Bool} {o : Str} {ds : List DeedX} {i : Nat} {d : DeedX} (h : ds[i]? = some d) : lets wd o (ds.take (i + 1)) = lets wd o (ds.take i) ++ (letOf wd o d).toList := by
  rw [List.take_succ, h, lets, lets, List.filterMap_append]
  cases e : letOf wd o d with
  | none => simp [e]
  | some x => simp [e]
theorem mem_lets {wd : Bool} {o : Str} {ds : List DeedX} {x : Str} : x ∈ lets wd o ds ↔ (wd, o, x) ∈ ds := by
  rw [lets, List.mem_filterMap]
  constructor
  · rintro ⟨⟨b, n, l⟩, hd, e⟩
    unfold letOf at e
    by_cases h : b = wd ∧ n = o
    · rw [if_pos h] at e
      cases e
      rw [← h.1, ← h.2]
      exact hd
    · rw [if_neg h] at e
      exact nomatch e
  · intro hd
    exact ⟨_, hd, by rw [letOf, if_pos ⟨rfl, rfl⟩]⟩
theorem low_word (b : Bool) : Low (wordOf b) := by
  have e1 : ∀ c ∈ ("send" : Str).cps.toList, 97 ≤ c ∧ c ≤ 122 := by decide +kernel
  have e2 : ∀ c ∈ ("take" : Str).cps.toList, 97 ≤ c ∧ c ≤ 122 := by decide +kernel
  cases b
  · exact e2
  · exact e1
theorem shaped_two {x y : Str} (hx : Low x) (hy : Low y) : SeqAt.shaped (.tuple [.str x, .str y]) = true := by
  rw [SeqAt.shaped, PyData.canLay0, PyData.canLayAll0, PyData.canLayAll0, PyData.canLayAll0, low_ok hx, low_ok hy]
  rfl
theorem eqv_two {a b c d : Str} : PyData.eqv (.tuple [.str a, .str b]) (.tuple [.str c, .str d]) = decide (a = c ∧ b = d) := by
  rw [PyData.eqv, PyData.eqvAll, PyData.eqvAll, PyData.eqvAll]
  show ((a == c) && ((b == d) && true)) = _
  by_cases h1 : a = c <;> by_cases h2 : b = d <;> simp [h1, h2]
section
variable {P : Program} {w : World} {K : PySem.W.Frag} {mg : Str → Option Value} {base : Heap}
end
end K03
/-! Set comprehensions over the hand layer: {e for x in xs if t}, by what the set is and how it grows; sets of texts. -/
namespace NS
open PySem PySem.Spec PyProof.Rows L2
/-- a kind of set: as it is when new, how it takes one more -/
structure SetK where
  o0 : Addr → HO
  put : Addr → V → Hp → (Hp → Prop) → Prop
structure SetK.Ok (k : SetK) (P : Program) (w : World) : Prop where
  new : ∀ {H : Hp} {h : Heap} {a : Addr}, h.get? a = some (setObj w) → ObjOk P w H h a (k.o0 a)
  add : ∀ {X : Cx} {pins : List (Addr × Obj)} {s : Shared} {σ : L2.St} {H : Hp} {D : Addr} {y : V} {u : Value} {N : Hp → Prop} {E : Value → Shared → Prop}, X.prog = P → X.w = w → Inv X pins σ H s → RelV y u → k.put D y H N →
    wpAny (model X.prog X.w) X.A (call (.builtin "set.add") [.ref D, u]) (fun _ s1 => ∃ H1, Inv X pins σ H1 s1 ∧ N H1) E s
section
variable {X : Cx}
def tSx (k : SetK) (wi : TI) (g : TG) (tt : TT) (te : TE) (vs : List Nat) : TE := fun σ H Q => wi σ H fun J H1 => ∀ D, H1 D = none → ∃ W : Nat → Nat → Hp → Prop, (∃ m, W 0 m (upd H1 D (k.o0 D))) ∧ ∀ i m H, W i m H →
  (J.stop i H ∧ Q (.ref D) H) ∨ (J.go i H ∧ ∃ N : Hp → Prop, (∀ H', N H' → ∃ m', m' < m ∧ W (i + 1) m' H') ∧ ∀ x H', J.yld i H x H' → g x (wipe σ vs) H' fun σ2 H2 => wipe σ2 vs = wipe σ vs ∧ tt σ2 H2 fun b H3 =>
    if b = true then te σ2 H3 fun y H4 => k.put D y H4 N else N H3)
/-- the block's context -/
abbrev blkOf (X : Cx) (s : Shared) (H : Hp) (scope : Scope) (cl : List (Str × Addr)) (C : Addr) (fp : List Addr) : Cx := X.blk s H scope (compEnvC scope cl C X.env) fp
theorem sx_run {k : SetK} (kk : k.Ok X.prog X.w) {pins : List (Addr × Obj)} {s : Shared} {σ : L2.St} {H : Hp} {Q : VK} {elt tg iter : Expr} {ifs : List Expr} {scope : Scope} {own : List (Str × Nat)} {pos pos' : Pos} {wi : TI} {g : TG} {tt : TT} {te : TE} {use : Option (Value → Sem Unit)} {Qf : Value → Shared → Prop}
    (calm : X.calm = true) (nd : X.N.Nodup) (I : Inv X pins σ H s) (hi : PI X tg iter wi) (ok : BlkOk X.N X.env.scope scope own)
    (tgt : ∀ s H C cl fp, PG (blkOf X s H scope cl C fp) tg g) (tst : ∀ s H C cl fp, PTs (blkOf X s H scope cl C fp) ifs tt) (ele : ∀ s H C cl fp, PE (blkOf X s H scope cl C fp) elt te) (fold : ∀ x, foldedSetIterable iter X.env x = pure x)
    (h : tSx k wi g tt te (own.map (·.2)) σ H Q)
    (fin : ∀ D C s' m H', Inv X pins σ H' s' → Q (.ref D) H' → s'.heap.Ns C m → FpOk X pins H' C → compPost (model X.prog X.w) X.A X.xe use Qf (.ref D) C (.ok .next) s') :
    wpAny (model X.prog X.w) X.A (comprehension (.SetComp elt [⟨tg, iter, ifs, 0⟩] scope pos) scope X.env pos' (newSet (.type "set")) false (eval iter X.env) use) Qf X.xe s := by
  have cells : ∀ y ∈ scope.names, y.2 = .free → ∃ c, X.env.cells.lookup y.1 = some c := fun y hy e => (ok.free y hy e).elim (fun z => I.ok.has _ (.inl z)) fun z => I.ok.has _ (.inr z)
  refine wpAny_comprehension_free (use := use) rfl fold (closure_ok cells) ok.kind (fun y hy e => by rw [ok.uniq y hy, e]) (thn (hi.run pins s σ H _ I h) fun xv s1 hx => thn hx fun itv s2 h2 => ?_)
  obtain ⟨it, fp, tn, J, H2, rfl, I2, T, st2, f2, q⟩ := h2
  refine PpSet.newSet_ok (newEnv_comp ?_)
  obtain ⟨D, eD⟩ : ∃ D, D = s2.heap.objs.size := ⟨_, rfl⟩
  have nD : H2 D = none := I2.hok.fresh (Nat.le_of_eq eD.symm)
  obtain ⟨W, ⟨m0, w0⟩, turn⟩ := q D nD
  obtain ⟨s3, e3⟩ : ∃ s3 : Shared, s3 = { s2 with heap := s2.heap.push (setObj X.w) } := ⟨_, rfl⟩
  obtain ⟨H3, eH⟩ : ∃ H3, H3 = upd H2 D (k.o0 D) := ⟨_, rfl⟩
  have I3 : Inv X pins σ H3 s3 := by
    rw [e3, eH]
    exact I2.laid (t' := s2.toks) (fun b o e => Heap.get?_push_of_some _ e) (Nat.le_of_eq eD.symm) (kk.new (by rw [eD]; exact Heap.get?_push_size _ rfl))
  have keep3 : ∀ b o, s2.heap.get? b = some o → s3.heap.get? b = some o := fun b o e => by rw [e3]; exact Heap.get?_push_of_some _ e
  have f3 : ∀ b ∈ fp, FpOk X pins H3 b ∧ b < s3.heap.objs.size := fun b hb => by
    obtain ⟨o, e, _⟩ := T.obj _ _ st2 b hb
    have lt := Heap.lt_size e
    refine ⟨⟨?_, (f2 b hb).2⟩, Heap.lt_size (keep3 b o e)⟩
    rw [eH, upd_ne (by rw [eD]; exact Nat.ne_of_lt lt)]
    exact (f2 b hb).1
  have st3 : tn 0 s3.heap := T.keep _ _ _ st2 fun b _ o e => keep3 b o e
  have I4 := block_start I3 ok nd f3
  obtain ⟨cl, ecl⟩ : ∃ cl, cl = cellsFrom (s3.heap.objs.size + 1) scope.names (cloFrom X.env.cells scope.names []) := ⟨_, rfl⟩
  obtain ⟨C, eC⟩ : ∃ C, C = s3.heap.objs.size := ⟨_, rfl⟩
  obtain ⟨s4, e4⟩ : ∃ s4 : Shared, s4 = { s3 with heap := pushCells (s3.heap.push { cls := .type "dict", data := .dict #[] }) scope.names } := ⟨_, rfl⟩
  have st4 : tn 0 s4.heap := T.keep _ _ _ st3 fun b _ o e => by rw [e4]; exact pushCells_keeps _ _ _ _ (Heap.get?_push_of_some _ e)
  rw [← e4, ← ecl, ← eC] at I4
  rw [← eH] at w0
  have pg := tgt s3 H3 C cl fp
  have pt := tst s3 H3 C cl fp
  have pe := ele s3 H3 C cl fp
  have goal : codeAny (model X.prog X.w) X.A (.compStart (.SetComp elt [⟨tg, iter, ifs, 0⟩] scope pos) 0 (.ref it) (.ref D) (compEnvC scope cl C X.env)) (compPost (model X.prog X.w) X.A X.xe use Qf (.ref D) C) s4 := by
    have cL : (compEnvC scope cl C X.env).locals = C := rfl
    have none3 : ∀ b ∈ fp, H3 b = none := fun b hb => (f3 b hb).1.1
    have stand : ∀ {σ' : L2.St} {H' : Hp} {s' : Shared}, Inv (blkOf X s3 H3 scope cl C fp) [] σ' H' s' → (∀ b ∈ fp, H' b = none) → ∀ b ∈ fp, FpOk (blkOf X s3 H3 scope cl C fp) [] H' b := fun {σ' H' s'} J n b hb =>
      ⟨n b hb, (J.ok.exf b hb).1, J.ok.exfs b hb, .inl hb, fun x c e => (J.ok.exf b hb).2 x c e, fun p hp => absurd (show p ∈ ([] : List (Addr × Obj)) ++ [] from hp) (by simp)⟩
    have loop : codeAny (model X.prog X.w) X.A (.compLoop (.SetComp elt [⟨tg, iter, ifs, 0⟩] scope pos) 0 (.ref it) (.ref D) (compEnvC scope cl C X.env)) (compPost (model X.prog X.w) X.A X.xe use Qf (.ref D) C) s4 := by
      refine PpSet.compLoopS_any (fun n s' => ∃ i H', Inv (blkOf X s3 H3 scope cl C fp) [] (wipe σ (own.map (·.2))) H' s' ∧ tn i s'.heap ∧ (∀ b ∈ fp, H' b = none) ∧ W i n H') ?_ m0 ⟨0, H3, I4, st4, none3, w0⟩
      rintro n s5 ⟨i, H5, I5, st5, n5, w5⟩
      rcases turn i n H5 w5 with ⟨stop, qq⟩ | ⟨go, N, hN, step⟩
      · refine thnF (T.done (blkOf X s3 H3 scope cl C fp) rfl rfl rfl calm i [] s5 _ H5 (fun _ _ => False) I5 (stand I5 n5) st5 stop) fun r s6 z => ?_
        obtain ⟨rfl, I6⟩ := z
        have back : Inv X pins σ H5 s6 := I3.call' (ch := fp) I6.os I6.base I6.hok I6.bare fun b hb => let t := (f3 b hb).1.2; ⟨t.2.2.1, t.1, t.2.2.2.1, t.2.2.2.2⟩
        obtain ⟨m, hn, _⟩ := I6.loc
        exact fin D C s6 m H5 back qq hn (I3.fpOk (Nat.le_of_eq eC.symm) I6.free)
      · refine thnF (T.item (blkOf X s3 H3 scope cl C fp) rfl rfl rfl calm i [] s5 _ H5 (fun _ _ => False) I5 (stand I5 n5) st5 go) fun r s6 z => ?_
        obtain ⟨u, rfl, h6⟩ := z
        refine thnF h6 fun _ s7 z => ?_
        obtain ⟨x, H7, I7, r7, y7, st7, n7⟩ := z
        refine thnF (pg.run _ s7 _ H7 x u _ (I7.pinned (stand I7 n7) (T.obj _ _ st7)) r7 (step x H7 y7)) fun _ s8 z => ?_
        obtain ⟨σ8, H8, I8, w8, q8⟩ := z
        refine thnF (pt.run _ s8 σ8 H8 _ I8 q8) fun b s9 z => ?_
        obtain ⟨H9, I9, q9⟩ := z
        have next : ∀ {s' : Shared} {H' : Hp}, Inv (blkOf X s3 H3 scope cl C fp) ([] ++ pinsAt fp s7.heap) σ8 H' s' → N H' → ∃ m, m < n ∧ ∃ i H', Inv (blkOf X s3 H3 scope cl C fp) [] (wipe σ (own.map (·.2))) H' s' ∧ tn i s'.heap ∧ (∀ b ∈ fp, H' b = none) ∧ W i m H' := fun {s' H'} K2 hN' => by
          obtain ⟨m2, lt, w2⟩ := hN H' hN'
          have pinned : ∀ b ∈ fp, ∀ o, s7.heap.get? b = some o → s'.heap.get? b = some o ∧ H' b = none := fun b hb o e =>
            let z := K2.pin (b, o) (List.mem_append_right _ (List.mem_append_right _ (mem_pinsAt hb e)))
            ⟨z.1, z.2.1⟩
          refine ⟨m2, lt, i + 1, H', (K2.unpinned (pins := [])).weak (by rw [← w8, wipe_length]) (fun j v e => ?_), T.keep _ _ _ st7 fun b hb o e => (pinned b hb o e).1, fun b hb => ?_, w2⟩
          · rw [← w8] at e
            exact (wipe_some e).1
          · obtain ⟨o, e, _⟩ := T.obj _ _ st7 b hb
            exact (pinned b hb o e).2
        cases b with
        | false => exact (show _ from next I9 q9)
        | true =>
          refine thnF (pe.run _ s9 σ8 H9 _ I9 q9) fun v s10 z => ?_
          obtain ⟨y, H10, I10, r10, pq⟩ := z
          refine thnF (kk.add (X := blkOf X s3 H3 scope cl C fp) rfl rfl I10 r10 pq) fun _ s11 z => ?_
          obtain ⟨H11, I11, n11⟩ := z
          exact next I11 n11
    exact PpSet.codeAny_compStart_set loop (T.self X.A 0 _ _ _ st4 loop)
  subst eC ecl e4 e3 eD
  exact goal
/-- as a value -/
theorem pe_sx {k : SetK} (kk : k.Ok X.prog X.w) {elt tg iter : Expr} {ifs : List Expr} {scope : Scope} {own : List (Str × Nat)} {pos : Pos} {wi : TI} {g : TG} {tt : TT} {te : TE} (calm : X.calm = true) (nd : X.N.Nodup) (hi : PI X tg iter wi) (ok : BlkOk X.N X.env.scope scope own)
    (tgt : ∀ s H C cl fp, PG (blkOf X s H scope cl C fp) tg g) (tst : ∀ s H C cl fp, PTs (blkOf X s H scope cl C fp) ifs tt) (ele : ∀ s H C cl fp, PE (blkOf X s H scope cl C fp) elt te) (fold : ∀ x, foldedSetIterable iter X.env x = pure x := by intro _; rfl) :
    PE X (.SetComp elt [⟨tg, iter, ifs, 0⟩] scope pos) (tSx k wi g tt te (own.map (·.2))) := by
  constructor
  intro pins s σ H Q I h
  rw [PpSet.eval_SetComp]
  refine sx_run kk calm nd I hi ok tgt tst ele fold h fun D C s1 m H1 I1 q hn f => ⟨m, hn, fun h2 sb => ?_⟩
  exact ⟨.ref D, H1, I1.turned (t' := s1.toks) (fun b o hb e => (sb.2 b hb).trans e) f.1 f.2.1 f.2.2.2.1 f.2.2.2.2.1 f.2.2.2.2.2, rfl, q⟩
end
/-- a block over anything that is walked -/
theorem sx_it {k : SetK} {J : It} {n : Nat} {G : Hp → Prop} {Y : Nat → Hp → V → Hp → Prop} (w : Walk J n G Y) {g : TG} {tt : TT} {te : TE} {vs : List Nat} {σ : L2.St} {H1 : Hp} {D : Addr} {Qd : Hp → Prop} (Pv : Nat → Hp → Prop) (h0 : Pv 0 (upd H1 D (k.o0 D))) (hG : ∀ i H, i ≤ n → Pv i H → G H)
    (hs : ∀ i x H H', i < n → Pv i H → Y i H x H' → g x (wipe σ vs) H' fun σ2 H2 => wipe σ2 vs = wipe σ vs ∧ tt σ2 H2 fun b H3 => if b = true then te σ2 H3 fun y H4 => k.put D y H4 (Pv (i + 1)) else Pv (i + 1) H3) (hd : ∀ H, Pv n H → Qd H) :
    ∃ W : Nat → Nat → Hp → Prop, (∃ m, W 0 m (upd H1 D (k.o0 D))) ∧ ∀ i m H, W i m H →
      (J.stop i H ∧ Qd H) ∨ (J.go i H ∧ ∃ N : Hp → Prop, (∀ H', N H' → ∃ m', m' < m ∧ W (i + 1) m' H') ∧ ∀ x H', J.yld i H x H' → g x (wipe σ vs) H' fun σ2 H2 => wipe σ2 vs = wipe σ vs ∧ tt σ2 H2 fun b H3 => if b = true then te σ2 H3 fun y H4 => k.put D y H4 N else N H3) := by
  refine ⟨fun i m H => m = n - i ∧ i ≤ n ∧ Pv i H, ⟨n, rfl, Nat.zero_le _, h0⟩, ?_⟩
  rintro i m H ⟨rfl, le, p⟩
  rcases Nat.lt_or_eq_of_le le with lt | rfl
  · exact .inr ⟨w.goes i H lt (hG i H le p), Pv (i + 1), fun H' p' => ⟨n - (i + 1), by omega, rfl, lt, p'⟩, fun x H' y => hs i x H H' lt p (w.yields i H x H' lt (hG i H le p) y)⟩
  · exact .inl ⟨w.stops H (hG _ H le p), hd H p⟩
/-- sets of texts -/
def txtK (P : Program) (w : World) : SetK where
  o0 := fun a => TSetO P w a []
  put := fun D y H N => ∃ (x : Str) (ws : List Str), y = .str x ∧ H D = some (TSetO P w D ws) ∧ ws.length + 1 < scanBound ∧ ∀ ws1 : List Str, ws1.Nodup → (x ∈ ws → ws1 = ws) → (x ∉ ws → ws1.Perm (x :: ws)) → N (upd H D (TSetO P w D ws1))
theorem add_text {P : Program} {w : World} {A : Around} {E : Value → Shared → Prop} {s : Shared} {a : Addr} {ws : List Str} {x : Str} {tk : Tok} {Q : Value → Shared → Prop} (R : TSet P w s.heap a ws) (room : ws.length + 1 < scanBound)
    (q : ∀ h1 ws1, Heap.SameBut a s.heap h1 → TSet P w h1 a ws1 → (x ∈ ws → ws1 = ws) → (x ∉ ws → ws1.Perm (x :: ws)) → Q .none { s with heap := h1, toks := s.toks + 1 }) :
    wpAny (model P w) A (call (.builtin "set.add") [.ref a, .str x tk]) Q E s := by
  have ty : s.TypeIs (.ref a) "set" := by
    obtain ⟨o, es, ep, t, ho, hex, _⟩ := R.ex
    exact ⟨o, ho, hex.1⟩
  refine wpAny_call_entry F.slot_set_add ty F.entry_set_add ?_ (F.args_set_add_2 _ _)
  unfold Builtin.«set.add» Builtin.Frozenset.oneOther Builtin.Frozenset.addrOf setAdd
  simp only [List.isEmpty_nil, bind_assoc]
  refine wpAny_bind (wpAny_pure ?_)
  try dsimp only
  try refine wpAny_bind (wpAny_pure ?_)
  try dsimp only
  refine wpAny_bind (wpAny_holding (wpAny_bind (wpAny_pyHash_str ?_)))
  refine put_text (s := { s with toks := s.toks + 1 }) R room fun b h1 ws1 sb T c1 c2 => ?_
  exact (show wpAny _ _ (ret Value.none) _ _ _ from wpAny_pure ⟨_, rfl, q h1 ws1 sb T c1 c2⟩)
theorem txtK_ok (P : Program) (w : World) : (txtK P w).Ok P w := by
  constructor
  · intro H h a ho
    exact tSetO_ok (TSet.new ho)
  · intro X pins s σ H D y u N E e1 e2 I r p
    subst e1 e2
    obtain ⟨x, ws, rfl, hD, room, n⟩ := p
    obtain ⟨tk, rfl⟩ := r
    have R : TSet X.prog X.w s.heap D ws := (I.hok D _ hD).1
    refine add_text R room fun h1 ws1 sb T c1 c2 => ?_
    have there : ∃ u, h1.get? D = some u := by
      obtain ⟨o, _, _, _, ho, _⟩ := T.ex
      exact ⟨o, ho⟩
    exact ⟨_, I.write (e := D) (t' := s.toks + 1) (by rw [hD]; trivial) (.inl rfl) (fun b u hb hu => (sb.2 b hb).trans hu) there (tSetO_ok T), n ws1 T.once c1 c2⟩
end NS
namespace K03
open PySem PySem.Spec PyProof.Rows L2 WD NS MC
open C8 (pss_cut tCut)
abbrev sIsEx : Stmt := topS 17
abbrev sNbIn : Stmt := topS 19
abbrev exV : List V := [.str "send", .str "take"]
/-- word in ('send', 'take') for None, a truth value, a number, a text -/
def spIsEx : Sp := fun vs H Q _ => ∃ x : V, vs = [x] ∧ flatV x = true ∧ ∀ H', Same H H' → Q (.bl (inV x exV)) H'
theorem scIsEx : FnScope ["word"] ["word"] (defScope sIsEx) := ⟨rfl, rfl, rfl, by decide +kernel, rfl, by decide +kernel, by decide +kernel⟩
/-- the module's constant EXCHANGES -/
structure TxtE (K : PySem.W.Frag) (mg : Str → Option Value) (tE : Addr) : Prop where
  g : mg "EXCHANGES" = some (.ref tE)
  s : ∃ (o : Obj) (its : Array Value) (n : Nat), K.lookup tE = some o ∧ o.cls = .type "tuple" ∧ o.data = .seq its n ∧ its.size ≤ sizeLine ∧ Vals exV its.toList
structure TxtX (K : PySem.W.Frag) (mg : Str → Option Value) (fX : Addr) (dX : FuncData) : Prop where
  E : ∃ tE, TxtE K mg tE
  X : Fun K "is_exchange" "is_exchange" sIsEx fX dX
  bX : L2.Binds K dX ["word"] []
  gX : mg "is_exchange" = some (.ref fX)
theorem ex_word (b : Bool) : inV (.str (wordOf b)) exV = true := by cases b <;> decide +kernel
theorem ex_step : inV (.str "step") exV = false := by decide +kernel
section
variable {P : Program} {w : World} {K : PySem.W.Frag} {mg : Str → Option Value} {base : Heap} {fX : Addr} {dX : FuncData}
theorem ok_IsEx {f : Addr} {fd : FuncData} {k : Nat} (F : Fun K "is_exchange" "is_exchange" sIsEx f fd) (TE : ∃ tE, TxtE K mg tE) : FnOk P w K mg base CX0 (k + 1) f fd ["word"] spIsEx := by
  obtain ⟨tE, gE, sE⟩ := TE
  refine F.ok scIsEx (fun vs H Q E h => ?_) (fun cdv A outer s H vs Q E hr h => ?_)
  · obtain ⟨x, rfl, _⟩ := h
    rfl
  · obtain ⟨x, rfl, fx, q⟩ := h
    refine ⟨_, pss_one (ps_ret (pe_cmpR op_in_seq (pv 0) (pe_glob (v := .ref tE) rfl gE rfl) (by rfl))), ?_⟩
    exact ⟨_, rfl, tE, exV, rfl, .inr (Or.inr sE), fx, rfl, q _ fun _ _ e => e⟩
theorem tYes_ite {σ : L2.St} {H : Hp} {A B : Hp → Prop} (h : A H) : tYes σ H (fun b H3 => if b = true then A H3 else B H3) := by
  show if true = true then A H else B H
  exact iteT h
def dName : Deed → Option Str
  | .step => none
  | .ex _ n _ => some n
theorem exNames_deeds (rs : List RowM) : exNames rs = (rs.map (·.deed)).filterMap dName := by
  rw [exNames, List.filterMap_map]
  congr 1
theorem dNames_next {ds : List Deed} {i : Nat} {d : Deed} (h : ds[i]? = some d) : (ds.take (i + 1)).filterMap dName = (ds.take i).filterMap dName ++ (dName d).toList := by
  rw [List.take_succ, h, List.filterMap_append]
  cases e : dName d with
  | none => simp [e]
  | some x => simp [e]
abbrev nNb : List Str := ["machine", "deeds", "transition", "deed"]
theorem scNbIn : FnScope nNb ["machine"] (defScope sNbIn) := ⟨rfl, rfl, rfl, by decide +kernel, rfl, by decide +kernel, by decide +kernel⟩
theorem ok_NbIn {f : Addr} {fd : FuncData} {k : Nat} (F : Fun K "neighbours_in" "neighbours_in" sNbIn f fd) (T : TxtS mg) (W : TxtX K mg fX dX) : FnOk P w K mg base CX0 (k + 2) f fd ["machine"] spNear := by
  have GX : FnOk P w K mg base CX0 (k + 1) fX dX ["word"] spIsEx := ok_IsEx W.X W.E
  refine F.ok scNbIn (fun vs H Q E h => ?_) (fun cdv A outer s H vs Q E hr h => ?_)
  · obtain ⟨a, m, rfl, _⟩ := h
    rfl
  · obtain ⟨a, m, rfl, hm, ok, q⟩ := h
    have hu := hr.units
    refine ⟨_, pss_cut (ps_setLc (i := 1) (own := [("transition", 2)]) (g := gName 2) (tt := tYes) (te := tOp (rIxT K) (tVar 2) (tC (.int 1))) rfl scNbIn.nd rfl rfl (sw_true rfl rfl rfl (by decide +kernel)) (pi_tup (pe_ix ix_tup (pv 0) pe_int (fun _ _ => rfl))) (blkOk_by (own := [("transition", 2)]) (N := nNb) (sc := defScope sNbIn) (by decide +kernel))
        (fun _ _ _ _ _ => pg_name (i := 2) scNbIn.nd rfl (.inl rfl)) (fun _ _ _ _ _ => pts_nil) (fun _ _ _ _ _ => pe_ix (show IxR _ (rIxT K) from ix_tup) (pv 2) pe_int (fun _ _ => rfl)))
      (pss_one (ps_ret (pe_callTy call_tuple_of (by rfl) T.tuple (by decide +kernel) (pa_cons (pe_callB (cr_sortedT rfl hu) (by rfl) T.sorted (by decide +kernel)
        (pa_cons (pe_sx (txtK_ok _ _) (own := [("deed", 3)]) (g := gName 3) (tt := tB (tCall spIsEx [] E0 (tCons (tOp (rIxT K) (tVar 3) (tC (.int 0))) tNil))) (te := tOp (rIxT K) (tVar 3) (tC (.int 1))) rfl scNbIn.nd (pi_list (pv 1)) (blkOk_by (own := [("deed", 3)]) (N := nNb) (sc := defScope sNbIn) (by decide +kernel))
          (fun _ _ _ _ _ => pg_name (i := 3) scNbIn.nd rfl (.inl rfl))
          (fun _ _ _ _ _ => pts_one (pt_val (pe_call GX hr (by rfl) W.gX W.X.kp W.bX .nil pass0 (pa_cons (pe_ix (show IxR _ (rIxT K) from ix_tup) (pv 3) pe_int (fun _ _ => rfl)) pa_nil))))
          (fun _ _ _ _ _ => pe_ix (show IxR _ (rIxT K) from ix_tup) (pv 3) pe_int (fun _ _ => rfl))) pa_nil)) pa_nil)))), ?_⟩
    obtain ⟨M⟩ := mach_at hm
    have lx : M.xs.length = m.rows.length := by
      have z := kz_len M.all
      rw [List.length_map] at z
      exact z
    -- the deeds
    refine ⟨fun σ' H' => ∃ (D : Addr) (qs : List (Addr × Deed)), σ' = [some (.ref a), some (.ref D), none, none] ∧ Same H H' ∧ H' D = some (.lst (qs.map fun p => V.ref p.1)) ∧ qs.map (·.2) = m.rows.map (·.deed) ∧ (∀ p ∈ qs, H p.1 = some (.tup (p.2.signs.map V.str))), ?_, ?_⟩
    · refine ⟨_, rfl, a, _, 2, .ref M.t, rfl, rfl, SqT.of M.top, atI_nat (j := 2) rfl, M.t, rfl, ⟨_, SqT.of M.row⟩, fun D nD => ?_⟩
      have sD := same_upd (o := .lst []) nD
      refine lc_tup (xs := M.xs) (fun i H' => Same H H' ∧ ∃ qs : List (Addr × Deed), H' D = some (.lst (qs.map fun p => V.ref p.1)) ∧ qs.map (·.2) = (m.rows.take i).map (·.deed) ∧ (∀ p ∈ qs, H p.1 = some (.tup (p.2.signs.map V.str))))
        ⟨sD, [], upd_same, rfl, fun _ z => (nomatch z)⟩ (fun i H' _ z => SqT.of (z.1 _ _ M.row)) ?_ ?_
      · rintro i v H2 hv ⟨s2, qs, e2, eq, hq⟩
        obtain ⟨r, hr', ra, dv, rfl, er, kd⟩ := row_at M.all hv
        obtain ⟨qd, rfl, ed⟩ := deed_at kd
        have il : i < m.rows.length := (List.getElem?_eq_some_iff.mp hr').1
        refine ⟨rfl, tYes_ite ⟨_, rfl, ra, _, 1, .ref qd, rfl, rfl, SqT.of (s2 _ _ er), atI_nat (j := 1) rfl, _, e2, ?_, fun b' o' eb => ?_, qs ++ [(qd, r.deed)], ?_, ?_, fun p hp => ?_⟩⟩
        · have z := congrArg List.length eq
          rw [List.length_map, List.length_map, List.length_take] at z
          have z3 := ok.r3
          rw [List.length_map, sizeLine_eq]
          omega
        · rw [upd_ne (ne_of_none eb nD)]
          exact s2 _ _ eb
        · rw [upd_same, List.map_append]
          rfl
        · rw [List.map_append, eq, List.take_succ, hr', List.map_append]
          rfl
        · rcases List.mem_append.mp hp with z | z
          · exact hq p z
          · rw [List.mem_singleton.mp z]
            exact ed
      · rintro H2 ⟨s2, qs, e2, eq, hq⟩
        rw [lx, List.take_length] at eq
        exact ⟨D, qs, rfl, s2, e2, eq, hq⟩
    rintro σ1 H1 ⟨D, qs, rfl, s1, e1, eq, hq⟩
    have lq : qs.length = m.rows.length := by
      have z := congrArg List.length eq
      rw [List.length_map, List.length_map] at z
      exact z
    have l64 := ok.r3
    refine ⟨_, rfl, D, rfl, ⟨_, SqL.of e1⟩, fun D2 nD2 => ?_⟩
    have sD := same_upd (o := TSetO P w D2 []) nD2
    refine sx_it (k := txtK P w) (walk_list (xs := qs.map fun p => V.ref p.1)) (fun i H' => Same H1 H' ∧ ∃ ws : List Str, H' D2 = some (TSetO P w D2 ws) ∧ ws.Nodup ∧ (∀ x, x ∈ ws ↔ x ∈ ((m.rows.map (·.deed)).take i).filterMap dName) ∧ ws.length ≤ i)
      ⟨sD, [], upd_same, List.nodup_nil, fun _ => Iff.rfl, Nat.le_refl _⟩ (fun i H' _ z => SqL.of (z.1 _ _ e1)) ?_ ?_
    · rintro i v H2 H3 hi ⟨s2, ws, e2, once, mem, lw⟩ ⟨rfl, hv⟩
      obtain ⟨p, hp, rfl⟩ : ∃ p, qs[i]? = some p ∧ v = .ref p.1 := by
        rw [List.getElem?_map] at hv
        cases e : qs[i]? with
        | none => rw [e] at hv; exact nomatch hv
        | some p => rw [e] at hv; exact ⟨p, rfl, (Option.some.inj hv).symm⟩
      obtain ⟨pa, d⟩ := p
      have ep := s2 _ _ (s1 _ _ (hq _ (List.mem_of_getElem? hp)))
      have hd : (m.rows.map (·.deed))[i]? = some d := by rw [← eq, List.getElem?_map, hp]; rfl
      have nx := dNames_next hd
      rw [List.length_map] at hi
      cases d with
      | step =>
        refine ⟨rfl, _, rfl, pa, _, 0, .str "step", rfl, rfl, SqT.of ep, atI_nat (j := 0) rfl, .str "step", rfl, rfl, fun H4 s4 => ⟨_, rfl, ?_⟩⟩
        rw [ex_step]
        refine iteF ⟨s2.trans s4, ws, s4 _ _ e2, once, fun x => ?_, by omega⟩
        rw [nx, mem x]
        simp [dName]
      | ex b n l =>
        refine ⟨rfl, _, rfl, pa, _, 0, .str (wordOf b), rfl, rfl, SqT.of ep, atI_nat (j := 0) rfl, .str (wordOf b), rfl, rfl, fun H4 s4 => ⟨_, rfl, ?_⟩⟩
        rw [ex_word]
        refine iteT ⟨_, rfl, pa, _, 1, .str n, rfl, rfl, SqT.of (s4 _ _ ep), atI_nat (j := 1) rfl, n, ws, rfl, s4 _ _ e2, by unfold scanBound; omega, fun ws1 once1 c1 c2 => ⟨fun b' o' eb => ?_, ws1, upd_same, once1, fun x => ?_, ?_⟩⟩
        · rw [upd_ne (ne_of_none eb nD2)]
          exact s4 _ _ (s2 _ _ eb)
        · rw [nx, List.mem_append, ← mem x]
          have mn : x ∈ (dName (Deed.ex b n l)).toList ↔ x = n := by simp [dName]
          rw [mn]
          by_cases c : n ∈ ws
          · rw [c1 c]
            exact ⟨Or.inl, fun z => z.elim id fun z => by rw [z]; exact c⟩
          · rw [(c2 c).mem_iff, List.mem_cons]
            exact Or.comm
        · by_cases c : n ∈ ws
          · rw [c1 c]
            omega
          · rw [(c2 c).length_eq, List.length_cons]
            omega
    · rintro H2 ⟨s2, ws, e2, once, mem, lw⟩
      have et : (m.rows.map (·.deed)).take (qs.map fun p => V.ref p.1).length = m.rows.map (·.deed) := by
        rw [List.length_map, List.take_of_length_le]
        rw [List.length_map, lq]
        exact Nat.le_refl _
      rw [et, ← exNames_deeds] at mem
      rw [List.length_map, lq] at lw
      refine ⟨D2, ws, rfl, e2, by omega, fun ys p4 pm pw n4 => ?_⟩
      have s4 := same_upd (o := .lst (ys.map V.str)) n4
      refine ⟨p4, _, rfl, .inl ⟨SqL.of upd_same, fun p5 n5 => ?_⟩⟩
      have s5 := same_upd (o := .tup (ys.map V.str)) n5
      have ss := s1.trans (s2.trans s4)
      exact q _ p5 ys (ss.trans s5) (ss.free n5) upd_same ⟨fun x => (pm.mem_iff.trans (mem x)).trans mem_exNames, pw, pm.nodup_iff.mpr once⟩ (by rw [pm.length_eq]; omega)
end
end K03
/-! Own errors over any built-in error, each with an __init__ of its own that keeps one value: made as values. -/
namespace GL
open PySem PySem.W PySem.Calls PyProof.Rows PySem.HandSPX
section
variable {M : Model} {A : Around} {E : Value → Shared → Prop} {h : Heap} {g : Array GenState} {d : Drawn} {t : Nat} {os : OsState} {prog : Program} {w : World} {R : Result → Shared → Prop}
variable {nm q : Str} {C N : Addr} {bs bm bmB : List Value} {hdct : Bool} {sn : List Str} {sub : List Value} {ab : Bool} {col : Option Bool} {dd : Option Addr} {k0 k1 k2 k3 k5 : Option Value} {B newId initId : String}
/-- what of the built-in's chain the maker asks -/
structure Over (B : String) (bm : List Value) : Prop where
  b : bm.contains (.type B) = true
  a : bm.contains (.type "AttributeError") = false
  n : bm.contains (.type "NameError") = false
theorem Over.with {c : Value} (o : Over B bm) (hc : ∀ X : String, (Value.type X == c) = false) : Over B (c :: bm) :=
  ⟨by rw [List.contains_cons, o.b, Bool.or_true], by rw [List.contains_cons, o.a, hc]; rfl, by rw [List.contains_cons, o.n, hc]; rfl⟩
theorem over_ref (o : Over B bm) : Over B (.ref C :: bm) := o.with fun _ => rfl
theorem mkCheck (F : ExcBaseFacts B newId initId bmB) (o : Over B bm) {rest : List Value} {Q : Unit → Shared → Prop} (hC : h.get? C = some (excClassObj nm q C N bs bm hdct sn sub ab col dd k0 k1 k2 k3 k5 newId)) (done : Q () ⟨h, g, d, t, os⟩) :
    wpAny M A (checkBuiltinCall newId ⟨.ref C :: rest, []⟩) Q E ⟨h, g, d, t, os⟩ := by
  have inB := (over_ref (C := C) o).b
  have notStar := F.noStar
  simp only [checkBuiltinCall, F.newKind, F.newSplit, F.newRow]
  repeat (first
    | refine wpAny_loadPart_at hC ?_
    | (refine wpAny_isSubtype_exc hC ?_; rw [inB])
    | refine wpAny_staticBase_exc hC ?_
    | refine wpAny_madeBy_exc hC ?_
    | simp only [bne_self_eq_false, Bool.false_eq_true, if_false]
    | wp_step)
  exact done
theorem mkNew (F : ExcBaseFacts B newId initId bmB) (o : Over B bm) {rest : List Value} (hC : h.get? C = some (excClassObj nm q C N bs bm hdct sn sub ab col dd k0 k1 k2 k3 k5 newId)) (small : rest.length ≤ sizeLine)
    (done : R (.ok (.ret (.ref (h.objs.size + 1)))) ⟨(h.push (kdv_tup rest)).push (excO C h.objs.size), g, d, t, os⟩) : codeAny (model prog w) A (.builtin newId ⟨.ref C :: rest, []⟩) R ⟨h, g, d, t, os⟩ := by
  have o' := over_ref (C := C) o
  have inB := o'.b
  have inA := o'.a
  have inN := o'.n
  have ends := F.ends
  refine codeAny_builtinAt F.entry ?_
  unfold Builtin.«BaseException.__new__»
  refine PySem.wpAt_bind ?_
  show PySem.wpAt _ _ _ (stack >>= _) _ _ _
  refine PySem.wpAt_bind (PySem.wpAt_stack fun p below => PySem.wpAt_of_wpAny ?_)
  wp_walk
  refine PySem.wpAt_of_wpAny ?_
  rw [F.owner]
  repeat (first
    | with_reducible refine wpAny_madeHere_exc F.canon hC ?_
    | with_reducible refine wpAny_loadPart_at hC ?_
    | (with_reducible refine wpAny_isSubtype_exc hC ?_; first | rw [inB] | rw [inA] | rw [inN])
    | wp_step)
  show R _ _
  rw [Heap.size_push]
  exact done
theorem mkType (F : ExcBaseFacts B newId initId bmB) (o : Over B bm) {rest : List Value} {fI : Addr} {Q : Fin → Shared → Prop} (hC : h.get? C = some (excClassObj nm q C N bs bm hdct sn sub ab col dd k0 k1 k2 k3 k5 newId))
    (hi : Looks (model prog w) h (typeLookup (.ref C) "__init__") (some (.ref fI))) (hb : ∀ self, Looks (model prog w) h (bindSpecial (.ref fI) self) (.ref fI, [self])) (small : rest.length ≤ sizeLine)
    (run : codeAny (model prog w) A (.call (.ref fI) ⟨.ref (h.objs.size + 1) :: rest, []⟩)
      (fun r s' => match r with | .ok (.ret v) => v = .none ∧ Q (.done (.ret (.ref (h.objs.size + 1)))) s' | .ok _ => False | .error e => E e s') ⟨(h.push (kdv_tup rest)).push (excO C h.objs.size), g, d, t, os⟩) :
    wpAny (model prog w) A (Builtin.«type.__call__» ⟨.ref C :: rest, []⟩) Q E ⟨h, g, d, t, os⟩ := by
  repeat (first
    | with_reducible refine wpAny_loadPart_at hC ?_
    | with_reducible refine wpAny_madeBy_exc hC ?_
    | wp_step)
  refine codeAny_call_builtin_code (Code.quiet_builtin _ F.quiet) (mkCheck F o hC (mkNew F o hC small (?_ : wpAny _ _ _ _ _ _)))
  have keep : ∀ b u, h.get? b = some u → ((h.push (kdv_tup rest)).push (excO C h.objs.size)).get? b = some u := fun b u e => Heap.get?_push_of_some _ (Heap.get?_push_of_some _ e)
  have cls := keep _ _ hC
  have new : ((h.push (kdv_tup rest)).push (excO C h.objs.size)).get? (h.objs.size + 1) = some (excO C h.objs.size) := by heap_get
  have self : (Value.ref C :: bm).contains (.ref C) = true := by simp
  unfold isInstance
  repeat (first
    | with_reducible refine wpAny_loadPart_at new ?_
    | (with_reducible refine wpAny_isSubtype_exc cls ?_; rw [self])
    | wp_step)
  refine (hi.keeps keep).at (?_ : wpAny _ _ _ _ _ _)
  refine wpAny_holding (wpAny_bind (((hb (.ref (h.objs.size + 1))).keeps keep).at ?_))
  refine wpAny_bind (wpAny_call (codeAny_mono run fun r s' z => ?_))
  match r, z with
  | .error e, z => exact z
  | .ok (.ret v), z =>
    obtain ⟨rfl, z⟩ := z
    first
      | exact wpAny_pure (wpAny_pure z)
      | (wp_walk; exact z)
/-- C(..): the object, then the class's own __init__ at fI -/
theorem mkOwn (F : ExcBaseFacts B newId initId bmB) (o : Over B bm) {rest : List Value} {fI : Addr} (hC : h.get? C = some (excClassObj nm q C N bs bm hdct sn sub ab col dd k0 k1 k2 k3 k5 newId))
    (hi : Looks (model prog w) h (typeLookup (.ref C) "__init__") (some (.ref fI))) (hb : ∀ self, Looks (model prog w) h (bindSpecial (.ref fI) self) (.ref fI, [self])) (small : rest.length ≤ sizeLine)
    (run : codeAny (model prog w) (A.under (.builtin "type.__call__" ⟨.ref C :: rest, []⟩)) (.call (.ref fI) ⟨.ref (h.objs.size + 1) :: rest, []⟩) (InitBack (h.objs.size + 1) R) ⟨(h.push (kdv_tup rest)).push (excO C h.objs.size), g, d, t, os⟩) :
    codeAny (model prog w) A (.call (.ref C) ⟨rest, []⟩) R ⟨h, g, d, t, os⟩ := by
  have look := tc_lookup
  have bind := tc_bind (.ref C)
  have isType : (⟨h, g, d, t, os⟩ : Shared).TypeIs (.ref C) "type" := ⟨_, hC, rfl⟩
  refine codeAny_of_tree (?_ : wpAny _ _ (callAny (.ref C) _) _ _ _)
  repeat (any_goals (first
    | assumption
    | with_reducible refine wpAny_loadPart_at hC ?_
    | wp_step))
  refine ⟨rfl, codeAny_call_builtin_at (Code.quiet_builtin _ (by decide +kernel)) entry_typeCall (wpAny_check_type_call_sub hC (mkType F o hC hi hb small (codeAny_mono run fun r s' z => ?_)))⟩
  match r, z with
  | .error e, z => exact z
  | .ok (.ret v), z => exact z
end
end GL
/-! The layer with one thing more: no repr of a container is under way where a def is entered (so repr itself can be told). -/
namespace GL
open PySem PySem.Spec PyProof.Rows L2
/-- a def's promise where no repr is under way -/
structure FnG (P : Program) (w : World) (K : PySem.W.Frag) (mg : Str → Option Value) (base : Heap) (CX : CXT) (k : Nat) (f : Addr) (fd : FuncData) (ps : List Str) (sp : Sp) : Prop where
  len : ∀ vs H Q E, sp vs H Q E → vs.length = ps.length
  run : ∀ (A : Around) (outer : List Env) (s : Shared) (H : Hp) (args : Args) (us : List Value) (vs : List V) (Q : VK) (E : XK),
    A.guards = some [] → Room k A → Env0 P w K mg base A outer s H → BindsTo s fd args (ps.zip us) → Vals vs us → sp vs H Q E → codeAny (model P w) A (.call (.ref f) args) (CR CX outer P w H s Q E) s
section
variable {P : Program} {w : World} {K : PySem.W.Frag} {mg : Str → Option Value} {base : Heap} {CX : CXT} {k : Nat} {f : Addr} {fd : FuncData} {ps : List Str} {sp : Sp}
theorem FnG.ofOk (F : FnOk P w K mg base CX k f fd ps sp) : FnG P w K mg base CX k f fd ps sp := ⟨F.len, fun A outer s H args us vs Q E _ => F.run A outer s H args us vs Q E⟩
theorem FnG.mono {j : Nat} (F : FnG P w K mg base CX j f fd ps sp) (h : j ≤ k) : FnG P w K mg base CX k f fd ps sp := ⟨F.len, fun A outer s H args us vs Q E hg hr => F.run A outer s H args us vs Q E hg (hr.mono h)⟩
/-- a def of the text, by its body's reading; hgd: no repr is under way in the body -/
theorem fnG_of {name qual : Str} {st : Stmt} {N : List Str} (F : Fun K name qual st f fd) (S : FnScope N ps (defScope st)) (len : ∀ vs H Q E, sp vs H Q E → vs.length = ps.length)
    (hbody : ∀ (cdv : Value) (A : Around) (outer : List Env) (s : Shared) (H : Hp) (vs : List V) (Q : VK) (E : XK), (A.deeper (envOfC qual (defScope st) s.heap.objs.size f cdv)).guards = some [] →
      Room k (A.deeper (envOfC qual (defScope st) s.heap.objs.size f cdv)) → sp vs H Q E →
      ∃ t, PSs (cxOf CX P w K mg base N qual (defScope st) f cdv A outer s H E) (defBody st) t ∧ t { nx := fun _ H' => Q .non H', rt := Q } (start N vs) H) : FnG P w K mg base CX (k + 1) f fd ps sp := by
  obtain ⟨oc, od, kV, doc, pm, an, cdv, ct, osl, rfl, lk, hcd⟩ := F.ex
  refine ⟨len, fun A outer s H args us vs Q E hgd hr e0 hb r hsp => ?_⟩
  have hvl : vs.length = ps.length := len _ _ _ _ hsp
  have inS : K.In s.heap := e0.mod.kin.keeps (fun b o e => And.left (e0.bs b o e))
  have noLim : s.heap.NoLimit := e0.mod.nolimit.keeps (fun b o e => And.left (e0.bs b o e))
  have kinds : ∀ y ∈ ps.zip us, (defScope st).names.lookup y.1 = some .local ∨
      ((defScope st).names.lookup y.1 = some .cell ∧ ((cellsFrom (s.heap.objs.size + 1) (defScope st).names []).lookup y.1).isSome = true) := by
    rintro ⟨n, v⟩ hy
    rcases S.par n (List.of_mem_zip hy).1 with q | q
    · exact Or.inl q
    · exact Or.inr (And.intro q (PySem.W.cellsFrom_some _ _ _ (Or.inl q)))
  obtain ⟨t, ht, hq⟩ := hbody cdv A outer s H vs Q E hgd (hr.deeper _) hsp
  refine codeAny_call_function hr.depth (inS _ _ lk) rfl S.co S.gen rfl (PySem.W.codeRec_of inS hcd) (hb _ _ _ _ (wpAny_newFunctionEnv_cells S.kind kinds ?_))
  intro env he s1 x
  subst he
  have J := inv_start (CX := CX) (P := P) (mg := mg) (E := E) S hr.hd e0 hvl r x
  have out : ∀ {σ' : L2.St} {H' : Hp} {v : V} {u : Value} {s' : Shared}, Inv (cxOf CX P w K mg base N qual (defScope st) f cdv A outer s H E) [] σ' H' s' → RelV v u → Q v H' → CE outer P w H s Q u s' := by
    intro σ' H' v u s' Z rv q
    exact ⟨v, H', Z.os, Z.bare, Z.base, Z.hok, rv, q⟩
  refine ⟨noLim.keeps x.toInCall.keep, codeAny_func (wpAny_mono (ht.run [] s1 _ H _ J hq) ?_ (fun e s' hs => hs))⟩
  intro fl s' hs
  cases fl with
  | ret u => obtain ⟨v, σ', H', Z, rv, q⟩ := hs; exact out Z rv q
  | next => obtain ⟨σ', H', Z, q⟩ := hs; exact out (v := V.non) (u := Value.none) Z rfl q
  | brk => obtain ⟨_, _, _, q⟩ := hs; exact q.elim
  | cont => obtain ⟨_, _, _, q⟩ := hs; exact q.elim
end
/-- no exception leaves the def -/
theorem fnG_ok {P : Program} {w : World} {K : PySem.W.Frag} {mg : Str → Option Value} {base : Heap} {k : Nat} {f : Addr} {fd : FuncData} {ps : List Str} {sp : Sp} {name qual : Str} {st : Stmt} {N : List Str} (F : Fun K name qual st f fd) (S : FnScope N ps (defScope st))
    (len : ∀ vs H Q E, sp vs H Q E → vs.length = ps.length)
    (hbody : ∀ (cdv : Value) (A : Around) (outer : List Env) (s : Shared) (H : Hp) (vs : List V) (Q : VK) (E : XK), (A.deeper (envOfC qual (defScope st) s.heap.objs.size f cdv)).guards = some [] →
      Room k (A.deeper (envOfC qual (defScope st) s.heap.objs.size f cdv)) → sp vs H Q E →
      ∃ t, PSs (cxOf CX0 P w K mg base N qual (defScope st) f cdv A outer s H E).nox (defBody st) t ∧ t { nx := fun _ H' => Q .non H', rt := Q } (start N vs) H) : FnG P w K mg base CX0 (k + 1) f fd ps sp :=
  fnG_of F S len fun cdv A outer s H vs Q E hg hr h => let ⟨t, p, q⟩ := hbody cdv A outer s H vs Q E hg hr h; ⟨t, p.nox, q⟩
section
variable {X : Cx} {CX : CXT} {k : Nat} {f : Addr} {fd : FuncData} {ps : List Str} {sp : Sp} {dvs : List V} {ds : List Value} {E : XK} {x : Str} {p pos : Pos} {e : Expr} {es : List Expr} {t : TA}
theorem runG {pins : List (Addr × Obj)} {σ : L2.St} {H : Hp} {s : Shared} {Q : VK} {us : List Value} {vs : List V} (F : FnG X.prog X.w X.K X.mg X.base CX k f fd ps sp) (hgd : X.A.guards = some []) (hr : Room k X.A) (hb : Binds X.K fd ps ds) (hd : Vals dvs ds)
    (hx : Passes CX X E) (I : Inv X pins σ H s) (r : Vals vs us) (h : sp (vs ++ dvs) H Q E) : wpAny (model X.prog X.w) X.A (call (.ref f) us) (EP X pins σ Q) X.xe s := by
  have both : Vals (vs ++ dvs) (us ++ ds) := r.append hd
  have n : (us ++ ds).length = ps.length := both.length.symm.trans (F.len _ _ _ _ h)
  refine wpAny_call (codeAny_mono (F.run X.A X.stack s H ⟨us, []⟩ _ _ Q E hgd hr I.env0 (hb s us I.kIn n) both h) ?_)
  intro res s' hq
  match res, hq with
  | .error e, hq => exact hx pins σ H s e s' I hq
  | .ok (.ret u), hq => exact I.after hq
/-- f(..) of such a def -/
theorem pe_callG (F : FnG X.prog X.w X.K X.mg X.base CX k f fd ps sp) (hgd : X.A.guards = some []) (hr : Room k X.A) (hg : Gl X x) (hm : X.mg x = some (.ref f)) (hk : PySem.W.keepIn X.K (.ref f) = true) (hb : Binds X.K fd ps ds) (hd : Vals dvs ds) (hx : Passes CX X E)
    (ha : PA X (e :: es) t) (hdb : (x == ("__debug__" : Str)) = false := by decide) (he : starEach (e :: es) X.env = (false, eval e X.env) :: starEach es X.env := by rfl)
    (hpl : (backTo pos (starEach es X.env)).any (·.1) = false := by rfl) : PE X (.Call (.Name x p) (e :: es) [] pos) (tCall sp dvs E t) := by
  constructor
  intro pins s σ H Q I h
  refine wpAny_Call_Name_kw (ld_glob I hg hm (PySem.W.callWith_K (h₀ := X.base) I.ok.mod.kin hk (thn (ha.run pos pins s σ H _ I h) ?_) he hpl) hdb)
  rintro us s1 ⟨vs, H1, J, r, q⟩
  exact ⟨J.kIn, runG F hgd hr hb hd hx J r q⟩
theorem pe_callG0 (F : FnG X.prog X.w X.K X.mg X.base CX k f fd ps sp) (hgd : X.A.guards = some []) (hr : Room k X.A) (hg : Gl X x) (hm : X.mg x = some (.ref f)) (hk : PySem.W.keepIn X.K (.ref f) = true) (hb : Binds X.K fd ps ds) (hd : Vals dvs ds) (hx : Passes CX X E)
    (hdb : (x == ("__debug__" : Str)) = false := by decide) : PE X (.Call (.Name x p) [] [] pos) (tCall sp dvs E tNil) := by
  constructor
  intro pins s σ H Q I h
  exact wpAny_Call_Name_kw (ld_glob I hg hm (PySem.W.callWith_K0 I.kIn hk (runG (us := []) F hgd hr hb hd hx I .nil h)) hdb)
/-- repr of data -/
def rRepr (K : PySem.W.Frag) : List V → Hp → VK → Prop := fun xs H Q => ∃ (a : Addr) (d : PyData), xs = [.ref a] ∧ Dp K H (.ref a) d ∧ d.showable = true ∧ d.hasDict = false ∧ d.depth ≤ 60 ∧ d.shown.length ≤ sizeLine ∧ Q (.str d.shown) H
theorem call_repr_data (hgd : X.A.guards = some []) (hu : X.A.units + 64 < cLine) : CallR X (.builtin "repr") (rRepr X.K) := by
  intro pins s σ H xs us Q I r h
  obtain ⟨a, d, rfl, hd, hs, hn, hdp, hz, q⟩ := h
  cases r with
  | cons r1 r2 =>
    cases r2
    cases r1
    obtain ⟨as, rd⟩ := Dp.reads I d (.ref a) (.ref a) hd rfl
    refine repr_of_reads' rd hs (fun z => absurd (hn.symm.trans z) Bool.false_ne_true) hgd (by omega) (fun _ _ z => z) (fun h' u tk keep => ?_) hz
    exact ⟨.str d.shown, H, I.kept (t' := tk) keep, ⟨u, rfl⟩, q⟩
end
end GL
/-! KeyError as the base of own errors. -/
namespace GL
open PySem PySem.F
theorem keyStore : StoreFacts "KeyError" [.type "KeyError", .type "LookupError", .type "Exception", .type "BaseException", .type "object"] "object.__setattr__" "object" := by
  refine { mro := ?_, slot := ?_, entry := F.store_LookupError.entry, kind := F.store_LookupError.kind, split := F.store_LookupError.split, hasOwner := ?_, args := F.store_LookupError.args, passes := ?_ }
  · kernel_rfl
  · refine .of (owner := "object") (n := "__setattr__") ?_ ?_ ?_ ?_ ?_ ?_
    · rw [typeLookup_type, builtinLookup_eq_fast]; kernel_rfl
    · decide +kernel
    · decide +kernel
    · decide +kernel
    · first | exact .inl (by decide +kernel) | exact .inr (by decide +kernel)
    · rw [isSubtype_type]; kernel_rfl
  · decide +kernel
  · intro self; kernel_rfl
end GL
/-! Own errors as values over the layer: made, their field read, isinstance, str. -/
namespace GL
open PySem PySem.Spec PyProof.Rows L2
/-- an error object at a: its class at C, its dict, its args -/
def exT (a C : Addr) (d : Option Addr) (t : Addr) : HO := .ext fun h => h.get? a = some ({ cls := .ref C, dict := d, data := .fields #[.ref t, .none, .none, .none, .bool false, .none] } : Obj)
theorem exT_ok {P : Program} {w : World} {H : Hp} {h : Heap} {a C t : Addr} {d : Option Addr} (e : h.get? a = some ({ cls := .ref C, dict := d, data := .fields #[.ref t, .none, .none, .none, .bool false, .none] } : Obj)) : ObjOk P w H h a (exT a C d t) :=
  ⟨e, ⟨_, e⟩, fun _ _ z k => k _ z⟩
theorem exT_at {P : Program} {w : World} {H : Hp} {h : Heap} {a C t : Addr} {d : Option Addr} (ok : HOk P w H h) (e : H a = some (exT a C d t)) : h.get? a = some ({ cls := .ref C, dict := d, data := .fields #[.ref t, .none, .none, .none, .bool false, .none] } : Obj) :=
  (show ObjOk P w H h a (.ext _) from ok a _ e).1
theorem exT_no {a C t b : Addr} {d : Option Addr} {H : Hp} {u : HO} (e : H a = some (exT a C d t)) (hb : H b = some u) (n : ∀ φ, u ≠ .ext φ) : b ≠ a := fun z => by
  subst z
  rw [e] at hb
  exact n _ (Option.some.inj hb).symm
/-- what the top has written of an own error's class -/
structure ErrC (K : PySem.W.Frag) (C : Addr) (bmB : List Value) (newId : String) : Prop where
  mi : PySem.W.excInitIn K C bmB newId = true
  kC : PySem.W.keepIn K (.ref C) = true
  ga : PySem.W.findIn K (.ref C) "__getattribute__" = some (some (.builtin "BaseException.__getattribute__"))
  gg : PySem.W.findIn K (.ref C) "__getattr__" = some none
  sb : PySem.W.subIn K (.ref C) (.type "BaseException") = some true
  hd : PySem.W.hasDictIn K C = true
  cc : PySem.W.findIn K (.ref C) "__class__" = some (some (.builtin "object.__class__"))
  mo : PySem.W.mroIn K C (.type "object") = some true
/-- one whose __init__ keeps one value as f -/
structure ErrF (K : PySem.W.Frag) (C : Addr) (bmB : List Value) (f : Str) : Prop where
  ov : PySem.W.excOver K C bmB = true
  tk : PySem.W.takerIn K C f = some none
  sa : PySem.W.findIn K (.ref C) "__setattr__" = some (some (.builtin "object.__setattr__"))
  no : PySem.W.findIn K (.ref C) f = some none
/-- two new objects -/
theorem un_two {fs : List Addr} {H : Hp} {h h' : Heap} {a d : Addr} {O D : HO} (k : ∀ b u, h.get? b = some u → h'.get? b = some u) (ha : h.get? a = none) (hd : h.get? d = none) (na : H a = none) (nd : H d = none) : Un fs [] H (upd (upd H d D) a O) h h' := by
  have apart : ∀ {b : Addr} {u : Obj}, h.get? b = some u → b ≠ a ∧ b ≠ d := fun {b u} q => ⟨fun z => (by subst z; rw [ha] at q; cases q), fun z => (by subst z; rw [hd] at q; cases q)⟩
  have old : ∀ {b : Addr} {u : HO}, H b = some u → upd (upd H d D) a O b = some u := fun {b u} q => by rw [upd_ne (ne_of_none q na), upd_ne (ne_of_none q nd)]; exact q
  refine ⟨fun b u q _ _ _ => k b u q, fun b u q _ _ _ => ⟨u.slots, k b u q⟩, fun b u q n _ => ?_, fun b u q _ => ⟨u, k b u q⟩, fun b xs q => old q, fun b u xs q => old q, fun b ps q => ⟨#[], ?_⟩⟩
  · rw [upd_ne (apart q).1, upd_ne (apart q).2]
    exact n
  · rw [old q]
    simp
section
variable {X : Cx} {pins : List (Addr × Obj)} {σ : L2.St} {H : Hp} {s : Shared} {a C t : Addr} {f : Str} {y : V} {u : Value} {Q : Unit → Shared → Prop} {E : Value → Shared → Prop} {A : Around} {B : String} {bmB : List Value}
/-- self.f = y, on an error without a dict -/
theorem est_new (SF : StoreFacts B bmB "object.__setattr__" "object") (T : ErrF X.K C bmB f) (hd : PySem.W.hasDictIn X.K C = true) (I : Inv X pins σ H s) (e : H a = some (exT a C none t)) (ry : RelV y u)
    (h : ∀ dx s', H dx = none → dx ≠ a → Inv X pins σ (upd (upd H dx (.xd [(f, y)])) a (exT a C (some dx) t)) s' → Q () s') : wpAny (model X.prog X.w) A (setAttr (.ref a) f u) Q E s := by
  have ho := exT_at I.hok e
  obtain ⟨cd, hcd, hdd⟩ := PySem.W.any_some hd
  obtain ⟨hp, g, d, tk, os⟩ := s
  refine PySem.W.set_plain I.kIn (od := none) ⟨ho, rfl, rfl, trivial⟩ T.sa ?_
  refine PySem.W.osa_openX SF I.kIn (od := none) ⟨ho, rfl, rfl, trivial⟩ T.ov T.tk fun b => ?_
  have hcls : PySem.W.Looks (model X.prog X.w) hp (classData C) cd := PySem.W.looks_clsIn I.kIn hcd
  obtain ⟨nm, bs, mro, ns, qn, hd', sn, sb, ab, col, del⟩ := cd
  dsimp only at hdd
  subst hdd
  show wpAny _ _ (Builtin.ObjectAttr.storeInOwnDict (.ref a) (.ref C) (.str f tk) f u b) _ _ _
  unfold Builtin.ObjectAttr.storeInOwnDict Builtin.ObjectAttr.ownDictForStores
  have xs : a ≠ hp.objs.size := Nat.ne_of_lt (Heap.lt_size ho)
  repeat (first
    | with_reducible refine PySem.HandSPX.store_in_new ?_ ?_
    | with_reducible refine wpAny_loadPart_at ho ?_
    | with_reducible refine hcls.at ?_
    | wp_step)
  · exact ⟨_, #[], _, (Heap.get?_update_ne _ _ _ _ xs.symm).trans (Heap.get?_push_at rfl rfl), rfl, fun z hz => absurd hz (by simp), fun _ => rfl⟩
  · intro h' tk' hn' hs
    have new : H hp.objs.size = none := I.hok.fresh (Nat.le_refl _)
    have keep : ∀ b o, b ≠ a → hp.get? b = some o → h'.get? b = some o := fun b o hb q =>
      (hs.2 b (Nat.ne_of_lt (Heap.lt_size q))).trans ((Heap.get?_update_ne _ _ _ _ hb).trans (Heap.get?_push_of_some _ q))
    have self : h'.get? a = some ({ cls := .ref C, dict := some hp.objs.size, data := .fields #[.ref t, .none, .none, .none, .bool false, .none] } : Obj) :=
      (hs.2 a xs).trans (Heap.get?_update_self _ (Heap.get?_push_of_some _ ho) rfl)
    have notA : ∀ {b : Addr}, H b = none → b ≠ a := fun {b} n z => by subst z; rw [e] at n; cases n
    have notD : ∀ {b : Addr} {o : Obj}, hp.get? b = some o → b ≠ hp.objs.size := fun {b o} q => Nat.ne_of_lt (Heap.lt_size q)
    have U : Un X.fs [] H (upd (upd H hp.objs.size (.xd [(f, y)])) a (exT a C (some hp.objs.size) t)) hp h' := by
      refine ⟨fun b o q n _ _ => keep b o (notA n) q, fun b o q n _ _ => ⟨o.slots, keep b o (notA n) q⟩, fun b o q n _ => ?_, fun b o q _ => ?_, fun b xs q => ?_, fun b o v q => ?_, fun b ps q => ⟨#[], ?_⟩⟩
      · rw [upd_ne (notA n), upd_ne (notD q)]; exact n
      · by_cases hb : b = a
        · exact ⟨_, by rw [hb]; exact self⟩
        · exact ⟨o, keep b o hb q⟩
      · rw [upd_ne (exT_no e q fun _ z => nomatch z), upd_ne (ne_of_none q new)]; exact q
      · rw [upd_ne (exT_no e q fun _ z => nomatch z), upd_ne (ne_of_none q new)]; exact q
      · rw [upd_ne (exT_no e q fun _ z => nomatch z), upd_ne (ne_of_none q new), q]; simp
    refine h hp.objs.size _ new xs.symm (I.un (t' := tk') U fun b o q => ?_)
    by_cases hb : b = a
    · subst hb
      rw [upd_same] at q
      cases q
      exact exT_ok self
    · rw [upd_ne hb] at q
      by_cases hx : b = hp.objs.size
      · subst hx
        rw [upd_same] at q
        cases q
        refine ⟨_, hn', fun g => ?_⟩
        have z := relO_put (f := f) (fs := []) (mA := fun _ => none) ry (fun _ => True.intro) g
        exact z
      · rw [upd_ne hx] at q
        refine (I.hok b o q).stay (fun c v hc z => keep c v ?_ z) (fun c hc => ?_) fun c xs hc => ?_
        · rcases hc with hc | hc
          · rw [hc]; exact hb
          · exact exT_no e hc fun _ z => nomatch z
        · rw [upd_ne (exT_no e hc fun _ z => nomatch z), upd_ne (ne_of_none hc new)]; exact hc
        · rw [upd_ne (exT_no e hc fun _ z => nomatch z), upd_ne (ne_of_none hc new)]; exact hc
end
section
variable {X : Cx} {o e : Expr} {es : List Expr} {to te : TE} {ta : TA} {f x : Str} {p p' p1 p2 pos : Pos} {B : String} {bmB : List Value}
/-- self.f = e in such an __init__ -/
def tEst (K : PySem.W.Frag) (bmB : List Value) (f : Str) (to te : TE) : TS := fun D σ H => te σ H fun y H1 => to σ H1 fun x H2 => ∃ a C t : Addr, x = .ref a ∧ H2 a = some (exT a C none t) ∧ ErrF K C bmB f ∧ PySem.W.hasDictIn K C = true ∧
  ∀ dx, H2 dx = none → dx ≠ a → D.nx σ (upd (upd H2 dx (.xd [(f, y)])) a (exT a C (some dx) t))
theorem ps_est (SF : StoreFacts B bmB "object.__setattr__" "object") (ho : PE X o to) (he : PE X e te) (hs : swapsWith e (some (.Attribute o f p')) pos.line X.env = pure false := by rfl) : PS X (.Assign [.Attribute o f p'] e pos) (tEst X.K bmB f to te) := by
  constructor
  intro pins s σ H D I h
  refine plainObj_wpAny_Assign_Attribute (thn (he.run pins s σ H _ I h) ?_) hs
  rintro v s1 ⟨y, H1, I1, r1, q1⟩
  refine thn (ho.run pins s1 σ H1 _ I1 q1) ?_
  rintro u s2 ⟨x, H2, I2, r2, a, C, t, rfl, ea, T, hd, q⟩
  cases r2
  exact est_new SF T hd I2 ea r1 fun dx s' n ne J => ⟨σ, _, J, q dx n ne⟩
/-- the promise of such an __init__ -/
def spEinit (K : PySem.W.Frag) (bmB : List Value) (f : Str) : Sp := fun vs H Q _ => ∃ (a C t : Addr) (y : V), vs = [.ref a, y] ∧ H a = some (exT a C none t) ∧ ErrF K C bmB f ∧ PySem.W.hasDictIn K C = true ∧
  ∀ dx, H dx = none → dx ≠ a → Q .non (upd (upd H dx (.xd [(f, y)])) a (exT a C (some dx) t))
/-- C(e) with such an __init__, as a value -/
def tMkE (C : Addr) (f : Str) (te : TE) : TE := fun σ H Q => te σ H fun y H1 => ∀ a t dx, H1 a = none → H1 dx = none → dx ≠ a → Q (.ref a) (upd (upd H1 dx (.xd [(f, y)])) a (exT a C (some dx) t))
def wishE (C : Addr) (f : Str) (Q : VK) : List V → Hp → Prop
  | [y], H1 => ∀ a t dx, H1 a = none → H1 dx = none → dx ≠ a → Q (.ref a) (upd (upd H1 dx (.xd [(f, y)])) a (exT a C (some dx) t))
  | _, _ => False
theorem wishE_one {C : Addr} {f : Str} {Q : VK} : ∀ {vs : List V} {H1 : Hp}, wishE C f Q vs H1 → ∃ y, vs = [y] ∧ ∀ a t dx, H1 a = none → H1 dx = none → dx ≠ a → Q (.ref a) (upd (upd H1 dx (.xd [(f, y)])) a (exT a C (some dx) t))
  | [], _, q => q.elim
  | [y], _, q => ⟨y, rfl, q⟩
  | _ :: _ :: _, _, q => q.elim
theorem pe_mkE {B' newId initId : String} {bmB' ps' : List Value} {ps : List Str} {C fI : Addr} {fd : FuncData} {k : Nat} (F : ExcBaseFacts B' newId initId bmB') (T : ErrC X.K C bmB newId) (TF : ErrF X.K C bmB f) (ov : Over B' bmB)
    (iC : PySem.W.findIn X.K (.ref C) "__init__" = some (some (.ref fI))) (tI : PySem.W.typeIn X.K (.ref fI) = some (.type "function")) (G : FnOk X.prog X.w X.K X.mg X.base CX0 k fI fd ps (spEinit X.K bmB f)) (hr : Room (k + 1) X.A)
    (hb : Binds X.K fd ps []) (hg : Gl X x) (hm : X.mg x = some (.ref C)) (he : PE X e te) (hdb : (x == ("__debug__" : Str)) = false := by decide)
    (hs : starEach [e] X.env = (false, eval e X.env) :: starEach [] X.env := by rfl) (hpl : (backTo pos (starEach [] X.env)).any (·.1) = false := by rfl) : PE X (.Call (.Name x p) [e] [] pos) (tMkE C f te) := by
  constructor
  intro pins s σ H Q I h
  have ha : PA X [e] (tCons te tNil) := pa_cons he pa_nil hs
  refine wpAny_Call_Name_kw (ld_glob I hg hm (PySem.W.callWith_K (h₀ := X.base) I.ok.mod.kin T.kC (thn (ha.run pos pins s σ H (wishE C f Q) I h) ?_) hs hpl) hdb)
  · rintro us s1 ⟨vs, H1, J, r, q⟩
    refine ⟨J.kIn, ?_⟩
    obtain ⟨y, rfl, q⟩ := wishE_one q
    obtain ⟨nm, N, qn, bs, bm, hdct, sn, sub, ab, col, dd, k0, k1, k2, k3, k5, hC, hT⟩ := PySem.W.excInit_of J.kIn T.mi
    show wpAny _ _ (call (.ref C) us) _ _ _
    obtain ⟨hp, g, dr, tk, os⟩ := s1
    have old : ∀ b o, hp.get? b = some o → ((hp.push (PySem.W.kdv_tup us)).push (PySem.HandSPX.excO C hp.objs.size)).get? b = some o := fun b o z => Heap.get?_push_of_some _ (Heap.get?_push_of_some _ z)
    have new : ((hp.push (PySem.W.kdv_tup us)).push (PySem.HandSPX.excO C hp.objs.size)).get? (hp.objs.size + 1) = some (PySem.HandSPX.excO C hp.objs.size) := by heap_get
    have le : hp.objs.size ≤ hp.objs.size + 1 := Nat.le_succ _
    have free : H1 (hp.objs.size + 1) = none := J.hok.fresh le
    have J2 : Inv X pins σ (upd H1 (hp.objs.size + 1) (exT (hp.objs.size + 1) C none hp.objs.size)) ⟨(hp.push (PySem.W.kdv_tup us)).push (PySem.HandSPX.excO C hp.objs.size), g, dr, tk, os⟩ :=
      J.laid (t' := tk) (a := hp.objs.size + 1) (h' := (hp.push (PySem.W.kdv_tup us)).push (PySem.HandSPX.excO C hp.objs.size)) old le (exT_ok new)
    have want : spEinit X.K bmB f [.ref (hp.objs.size + 1), y] (upd H1 (hp.objs.size + 1) (exT (hp.objs.size + 1) C none hp.objs.size)) (fun v H2 => v = .non ∧ Q (.ref (hp.objs.size + 1)) H2) (fun _ _ _ => False) := by
      refine ⟨_, C, _, y, rfl, upd_same, TF, T.hd, fun dx nd ne => ⟨rfl, ?_⟩⟩
      have nd' : H1 dx = none := by rw [upd_ne ne] at nd; exact nd
      have e : upd (upd (upd H1 (hp.objs.size + 1) (exT (hp.objs.size + 1) C none hp.objs.size)) dx (.xd [(f, y)])) (hp.objs.size + 1) (exT (hp.objs.size + 1) C (some dx) hp.objs.size) =
          upd (upd H1 dx (.xd [(f, y)])) (hp.objs.size + 1) (exT (hp.objs.size + 1) C (some dx) hp.objs.size) := by
        funext b
        by_cases b1 : b = hp.objs.size + 1
        · rw [b1, upd_same, upd_same]
        · rw [upd_ne b1, upd_ne b1]
          by_cases b2 : b = dx
          · rw [b2, upd_same, upd_same]
          · rw [upd_ne b2, upd_ne b2, upd_ne b1]
      rw [e]
      exact q _ _ dx free nd' ne
    have vals : Vals [V.ref (hp.objs.size + 1), y] (Value.ref (hp.objs.size + 1) :: us) := .cons rfl r
    have n : (Value.ref (hp.objs.size + 1) :: us ++ []).length = ps.length := by
      rw [List.append_nil, ← vals.length]
      exact G.len _ _ _ _ want
    have bind := hb _ (Value.ref (hp.objs.size + 1) :: us) J2.kIn n
    rw [List.append_nil] at bind
    have small : us.length ≤ sizeLine := by
      rw [← r.length, sizeLine_eq]
      exact (by decide : 1 ≤ 16777216)
    have oBm : Over B' bm := ⟨(hT _).trans ov.b, (hT _).trans ov.a, (hT _).trans ov.n⟩
    refine wpAny_call (mkOwn F oBm hC (PySem.W.looks_findIn J.kIn iC) (fun self => PySem.W.bind_fn J.kIn self tI) small
      (codeAny_mono (G.run _ X.stack _ _ ⟨Value.ref (hp.objs.size + 1) :: us, []⟩ _ _ _ _ (hr.make C us []) (J2.env0.make C us []) bind vals want) ?_))
    intro res s' z
    match res, z with
    | .error e, z => exact z.elim
    | .ok (.ret u), z =>
      obtain ⟨v, H', J3, rv, ev, q3⟩ := J2.after z
      subst ev
      exact ⟨rv, V.ref (hp.objs.size + 1), H', J3, rfl, q3⟩
end
section
variable {X : Cx} {o e : Expr} {to te : TE} {f x : Str} {p pos : Pos} {bmB : List Value} {newId : String}
/-- e.f of such an error -/
def tFldE (K : PySem.W.Frag) (bmB : List Value) (newId : String) (f : Str) (te : TE) : TE := fun σ H Q => te σ H fun x H1 => ∃ (a C d t : Addr) (fs : List (Str × V)) (v : V), x = .ref a ∧ H1 a = some (exT a C (some d) t) ∧ H1 d = some (.xd fs) ∧ ErrC K C bmB newId ∧
  PySem.W.findIn K (.ref C) f = some none ∧ fs.lookup f = some v ∧ Q v H1
theorem pe_fldE (he : PE X e te) (hb : attributeBase e f X.env (eval e X.env) = eval e X.env := by rfl) : PE X (.Attribute e f pos) (tFldE X.K bmB newId f te) := by
  constructor
  intro pins s σ H Q I h
  refine attr_of hb (thn (he.run pins s σ H _ I h) ?_)
  rintro u s1 ⟨x, H1, J, rx, a, C, d, t, fs, v, rfl, ea, ed, T, no, lk, q⟩
  cases rx
  have ho := exT_at J.hok ea
  obtain ⟨mA, hns, rel⟩ := (show ObjOk X.prog X.w H1 s1.heap d (.xd fs) from J.hok d _ ed)
  obtain ⟨od, hd, hl⟩ := lookIn_ns hns
  obtain ⟨u, hu, ru⟩ := RelO.some_of (v := v) (o := mA f) (lk ▸ rel f)
  exact HandSPX.exc_get J.kIn (od := some od) ⟨ho, rfl, rfl, hd⟩ T.ga T.gg T.sb (PySem.W.findObj_own T.hd no rfl (by rw [hl, hu])) (handed_of ru) ⟨v, H1, J.tok _, ru, q⟩
/-- what isinstance asks of the written part at large -/
structure IsK (K : PySem.W.Frag) : Prop where
  gn : PySem.W.specialIn K (.builtin "object.__class__") "__get__" = some (some (.builtin "getset_descriptor.__get__"))
  gt : PySem.W.takesIn K (.builtin "object.__class__") = some true
/-- isinstance(e, c) of an own error: with a dict, or without one -/
def rIsX (K : PySem.W.Frag) : List V → Hp → VK → Prop := fun xs H Q => ∃ (a C t : Addr) (d : Option Addr) (c : V) (cv : Value) (b : Bool) (bmB : List Value) (newId : String), xs = [.ref a, c] ∧ H a = some (exT a C d t) ∧ (∀ dx, d = some dx → ∃ fs, H dx = some (.xd fs)) ∧
  ErrC K C bmB newId ∧ ClsV c cv ∧ PySem.W.kitOne K (.ref C) cv = some b ∧ Q (.bl b) H
theorem call_isX (Z : IsK X.K) : CallR X (.builtin "isinstance") (rIsX X.K) := by
  intro pins s σ H xs us Q I r h
  obtain ⟨a, C, t, d, c, cv, b, bmB, newId, rfl, ea, hd, T, hc, e, q⟩ := h
  obtain ⟨u1, u2, rfl, r1, r2⟩ := vals2 r
  cases r1
  have e2 := hc.eq r2
  subst e2
  have ho := exT_at I.hok ea
  have hcl : (PySem.W.clsIn X.K C).isSome = true := by
    obtain ⟨cd, hcd, _⟩ := PySem.W.any_some T.hd
    rw [hcd]; rfl
  have fin : ∀ od, PySem.W.InstAt s.heap a ({ cls := .ref C, dict := d, data := .fields #[.ref t, .none, .none, .none, .bool false, .none] } : Obj) C od → wpAny (model X.prog X.w) X.A (call (.builtin "isinstance") [.ref a, u2]) (EP X pins σ Q) X.xe s := fun od J =>
    PySem.W.kia_one (PySem.W.kitx_exc hcl T.ga T.gg T.sb T.cc Z.gn Z.gt T.mo) I.kIn J e (fun z => nomatch z) fun tk => ⟨.bl b, H, I.kept (t' := tk) fun _ _ z => z, rfl, q⟩
  cases d with
  | none => exact fin none ⟨ho, rfl, rfl, trivial⟩
  | some dx =>
    obtain ⟨fs, ed⟩ := hd dx rfl
    obtain ⟨mA, ⟨od, es, ep, hod, _⟩, _⟩ := (show ObjOk X.prog X.w H s.heap dx (.xd fs) from I.hok dx _ ed)
    exact fin (some od) ⟨ho, rfl, rfl, hod⟩
/-- C(m) of an error class without an __init__ of its own -/
def tMkA (C : Addr) (te : TE) : TE := fun σ H Q => te σ H fun y H1 => ∀ a t, H1 a = none → H1 t = none → t ≠ a → Q (.ref a) (upd (upd H1 t (.tup [y])) a (exT a C none t))
theorem pe_mkA {B initId : String} {C : Addr} (F : ExcBaseFacts B newId initId bmB) (T : ErrC X.K C bmB newId) (iC : PySem.W.findIn X.K (.ref C) "__init__" = some (some (.builtin initId))) (hg : Gl X x) (hm : X.mg x = some (.ref C)) (he : PE X e te)
    (hdb : (x == ("__debug__" : Str)) = false := by decide) (hs : starEach [e] X.env = (false, eval e X.env) :: starEach [] X.env := by rfl) : PE X (.Call (.Name x p) [e] [] pos) (tMkA C te) := by
  constructor
  intro pins s σ H Q I h
  refine wpAny_Call_Name_kw (ld_glob I hg hm (PySem.W.callWith_K (h₀ := X.base) I.ok.mod.kin T.kC ?_ hs (by rfl)) hdb)
  rw [hs]
  show wpAny _ _ (spliced ((false, eval e X.env) :: backTo pos (starEach [] X.env))) _ _ s
  refine Calls.spliced_cons (thn (he.run pins s σ H _ I h) ?_)
  rintro u s1 ⟨y, H1, J, r1, q⟩
  refine Calls.spliced_nil ⟨J.kIn, ?_⟩
  show wpAny _ _ (call (.ref C) [u]) _ _ _
  obtain ⟨nm, N, qn, bs, bm, hdct, sn, sub, ab, col, dd, k0, k1, k2, k3, k5, hC, hT⟩ := PySem.W.excInit_of J.kIn T.mi
  obtain ⟨hp, g, dr, tk, os⟩ := s1
  have free : ∀ n, hp.get? (hp.objs.size + n) = none := fun n => Heap.get?_none_of_le (Nat.le_add_right _ _)
  have fr : ∀ n, H1 (hp.objs.size + n) = none := fun n => J.hok.fresh (Nat.le_add_right _ _)
  refine PySem.W.call_B F hT hC (PySem.W.looks_findIn J.kIn iC) (by rw [sizeLine_eq]; exact (by decide : 1 ≤ 16777216)) fun h' keep e1 e2 => ?_
  have ne : hp.objs.size + 2 ≠ hp.objs.size + 1 := by omega
  refine ⟨.ref (hp.objs.size + 1), _, J.un (t' := tk) (un_two (a := hp.objs.size + 1) (d := hp.objs.size + 2) (O := exT (hp.objs.size + 1) C none (hp.objs.size + 2)) (D := .tup [y]) keep (free 1) (free 2) (fr 1) (fr 2)) fun b o z => ?_, rfl, q _ _ (fr 1) (fr 2) ne⟩
  by_cases b1 : b = hp.objs.size + 1
  · subst b1
    rw [upd_same] at z
    cases z
    exact exT_ok e1
  · rw [upd_ne b1] at z
    by_cases b2 : b = hp.objs.size + 2
    · subst b2
      rw [upd_same] at z
      cases z
      exact ⟨by rw [sizeLine_eq]; exact (by decide : 1 ≤ 16777216), [u], .cons r1 .nil, _, e2, rfl, 0, rfl⟩
    · rw [upd_ne b2] at z
      exact (J.hok b o z).stay (fun c v _ k => keep c v k) (fun c hc => by rw [upd_ne (ne_of_none hc (fr 1)), upd_ne (ne_of_none hc (fr 2))]; exact hc) fun c xs hc => by rw [upd_ne (ne_of_none hc (fr 1)), upd_ne (ne_of_none hc (fr 2))]; exact hc
/-- str(e) of an error made with one text -/
def rStrX (K : PySem.W.Frag) : List V → Hp → VK → Prop := fun xs H Q => ∃ (a C t : Addr) (m : Str), xs = [.ref a] ∧ H a = some (exT a C none t) ∧ H t = some (.tup [.str m]) ∧ PySem.W.findIn K (.ref C) "__str__" = some (some (.builtin "BaseException.__str__")) ∧
  PySem.W.subIn K (.ref C) (.type "BaseException") = some true ∧ Q (.str m) H
theorem call_strX (hu : X.A.units + 2 < cLine) : CallR X (.type "str") (rStrX X.K) := by
  intro pins s σ H xs us Q I r h
  obtain ⟨a, C, t, m, rfl, ea, et, hs, hB, q⟩ := h
  cases r with
  | cons r1 r2 =>
    cases r2
    cases r1
    have ho := exT_at I.hok ea
    obtain ⟨_, its, rv, ot, hot, hcls, n, hdat⟩ := (show ObjOk X.prog X.w H s.heap t (.tup [.str m]) from I.hok t _ et)
    cases rv with
    | cons rm rn =>
      cases rn
      obtain ⟨tk, rfl⟩ := rm
      exact PySem.P.str_of_C_one hu ⟨I.kIn, _, _, ho, rfl, rfl, rfl⟩ ⟨ot, n, hot, hcls, hdat⟩ hs hB ⟨.str m, H, I, ⟨tk, rfl⟩, q⟩
end
end GL
/-! Own errors of any base, raised: what ErrLay makes becomes what the hand layer raises and catches. -/
namespace GL
open PySem PySem.Spec PyProof.Rows L2
theorem delH_two {H : Hp} {a d : Addr} {o u : HO} (na : H a = none) (ne : d ≠ a) : delH (upd (upd H d u) a o) a = upd H d u := delH_new (by rw [upd_ne ne.symm]; exact na)
section
variable {X : Cx} {e : Expr} {te : TE}
/-- an expression that gives an own error back, new in this def, makes an exception -/
theorem pmk_X (hx : X.ex = []) (he : PE X e te) :
    PMk X e (fun σ H Q => te σ H fun x H1 => ∃ (a C t : Addr) (d : Option Addr), x = .ref a ∧ H1 a = some (exT a C d t) ∧ Fr0 X.H_0 a ∧ Raises X (.ref C) ∧ Q (.ref C) d (delH H1 a)) := by
  intro pins s σ H Q I h
  refine wpAny_mono (he.run pins s σ H _ I h) (fun u s1 z => ?_) fun _ _ z => z
  obtain ⟨v, H1, J, rv, a, C, t, d, rfl, ea, f0, rs, q⟩ := z
  cases rv
  have ho := exT_at J.hok ea
  obtain ⟨G, gs, ga, J2⟩ := J.untrack ea f0 hx
  exact ⟨a, _, _, { s1 with heap := G }, delH H1 a, .ref C, d, rfl, J2, gs, ga, ho, ⟨rfl, rfl⟩, rfl, rfl, delH_same, rfl, J.bare, rs, q⟩
theorem raises_X {C : Addr} {bmB : List Value} {newId : String} (T : ErrC X.K C bmB newId) (ty : PySem.W.typeIn X.K (.ref C) = some (.type "type")) : Raises X (.ref C) := raises_own T.sb ty
end
end GL
namespace K03
open PySem PySem.Spec PyProof.Rows L2 WD NS MC GL
open C8 (pss_cut tCut)
abbrev sIsWh : Stmt := topS 6
/-- a value that is no whole number: of such a type, or a truth value -/
def NotInt (K : PySem.W.Frag) (H : Hp) (x : V) : Prop := ∃ ty ∈ ["NoneType", "bool", "str", "list", "tuple", "dict"], TyX K H x (.type ty)
def spWhole (K : PySem.W.Frag) : Sp := fun vs H Q _ => ∃ x : V, vs = [x] ∧ ((∃ i, x = .int i ∧ Q (.bl true) H) ∨ (NotInt K H x ∧ Q (.bl false) H))
structure TxtI (K : PySem.W.Frag) (mg : Str → Option Value) (fW fF : Addr) (dW dF : FuncData) : Prop where
  isi : mg "isinstance" = none
  int : mg "int" = none
  bool : mg "bool" = none
  W : Fun K "is_whole" "is_whole" sIsWh fW dW
  bW : L2.Binds K dW ["value"] []
  gW : mg "is_whole" = some (.ref fW)
theorem scIsWh : FnScope ["value"] ["value"] (defScope sIsWh) := ⟨rfl, rfl, rfl, by decide +kernel, rfl, by decide +kernel, by decide +kernel⟩
section
variable {P : Program} {w : World} {K : PySem.W.Frag} {mg : Str → Option Value} {base : Heap} {fW fF : Addr} {dW dF : FuncData}
theorem ok_IsWh {f : Addr} {fd : FuncData} {k : Nat} (F : Fun K "is_whole" "is_whole" sIsWh f fd) (T : TxtI K mg fW fF dW dF) : FnOk P w K mg base CX0 (k + 1) f fd ["value"] (spWhole K) := by
  refine F.ok scIsWh (fun vs H Q E h => ?_) (fun cdv A outer s H vs Q E hr h => ?_)
  · obtain ⟨x, rfl, _⟩ := h
    rfl
  · obtain ⟨x, rfl, h⟩ := h
    refine ⟨_, pss_one (ps_ret (pe_and (pe_callB call_isi (by rfl) T.isi (by decide +kernel) (pa_cons (pv 0) (pa_cons (pe_bltn (by rfl) T.int (by decide +kernel) (v := .ty "int") rfl) pa_nil)))
      (pe_one (pe_not (pe_callB call_isi (by rfl) T.isi (by decide +kernel) (pa_cons (pv 0) (pa_cons (pe_bltn (by rfl) T.bool (by decide +kernel) (v := .ty "bool") rfl) pa_nil))))))), ?_⟩
    rcases h with ⟨i, rfl, q⟩ | ⟨⟨ty, mt, tx⟩, q⟩
    · refine ⟨_, rfl, _, _, _, .type "int", true, rfl, .ty _, .base (.int i), kit_ty (by decide +kernel), _, rfl, iteT ?_⟩
      exact ⟨_, rfl, _, _, _, .type "bool", false, rfl, .ty _, .base (.int i), kit_ty (by decide +kernel), _, rfl, q⟩
    · by_cases b : ty = "bool"
      · subst b
        refine ⟨_, rfl, _, _, _, .type "int", true, rfl, .ty _, tx, kit_ty (by decide +kernel), _, rfl, iteT ?_⟩
        exact ⟨_, rfl, _, _, _, .type "bool", true, rfl, .ty _, tx, kit_ty (by decide +kernel), _, rfl, q⟩
      · have e : kitB ty "int" = some false := by
          simp only [List.mem_cons, List.not_mem_nil, or_false] at mt
          rcases mt with rfl | rfl | rfl | rfl | rfl | rfl
          · decide +kernel
          · exact absurd rfl b
          · decide +kernel
          · decide +kernel
          · decide +kernel
          · decide +kernel
        exact ⟨_, rfl, _, _, _, .type "int", false, rfl, .ty _, tx, kit_ty e, _, rfl, iteF q⟩
end
end K03
/-! x in a tuple of texts, x of any kind. -/
namespace IT
open PySem PySem.Spec PyProof.Rows L2 SeqAt
section
variable {A : Around} {s : Shared}
theorem str_declines_dict (b : Str) (u : Tok) (l : Addr) (es : Array DictEntry) (ep : Nat) (dd : Option Addr) (sl : Array (Option Value)) :
    Meets (Builtin.«str.__eq__» ⟨[.str b u, .ref l], []⟩) (fun _ R s => s.heap.get? l = some { cls := .type "dict", dict := dd, data := .dict es ep, slots := sl } ∧ R (.ok (.ret .notImplemented)) s) :=
  .of_wp fun prog w A R s h => by
    obtain ⟨hp, g, d, tk, os⟩ := s
    obtain ⟨hl, h⟩ := h
    wp_walk using wpAny_loadPart' hl, wpAny_load hl
    exact ⟨_, rfl, h⟩
theorem dict_declines_str (b : Str) (u : Tok) (l : Addr) (es : Array DictEntry) (ep : Nat) (dd : Option Addr) (sl : Array (Option Value)) :
    Meets (Builtin.«dict.__eq__» ⟨[.ref l, .str b u], []⟩) (fun _ R s => s.heap.get? l = some { cls := .type "dict", dict := dd, data := .dict es ep, slots := sl } ∧ R (.ok (.ret .notImplemented)) s) :=
  .of_wp fun prog w A R s h => by
    obtain ⟨hp, g, d, tk, os⟩ := s
    obtain ⟨hl, h⟩ := h
    wp_walk using wpAny_loadPart' hl, wpAny_load hl
    refine wpAny_of_eq F.sub_str_dict ?_
    wp_walk using wpAny_loadPart' hl, wpAny_load hl
    exact ⟨_, rfl, h⟩
theorem rc_str_dict {l : Addr} {es : Array DictEntry} {ep : Nat} (b : Str) (u : Tok) (hl : ∃ o, s.heap.get? l = some o ∧ o.cls = .type "dict" ∧ o.data = .dict es ep) (hu : A.units < cLine) : RcAt A s (.str b u) (.ref l) false := fun prog w E Q h => by
  obtain ⟨⟨cls, dd, data, sl⟩, ho, hc, hd⟩ := id hl
  simp only at hc hd
  subst hc hd
  exact rc_eq_decline_or (k := false) (typeIs_str s b u) ⟨_, ho, rfl⟩ (by decide) F.sub_dict_str F.slot_str_eq F.slot_dict_eq_refl
    (fun _ hq => call_meets F.slot_str_eq (typeIs_str s b u) F.entry_str_eq (F.args_str_eq_2 _ _) (str_declines_dict b u l es ep dd sl) ⟨ho, hq⟩)
    (fun _ hq => call_meets F.slot_dict_eq_refl ⟨_, ho, rfl⟩ F.entry_dict_eq (F.args_dict_eq_2 _ _) (dict_declines_str b u l es ep dd sl) ⟨ho, hq⟩)
    (fun _ hq => wpAny_of_eq (rfl : isSame (.str b u) (.ref l) = pure false) hq) (.inr hu) h
theorem eq_str_dict {l : Addr} {es : Array DictEntry} {ep : Nat} (b : Str) (u : Tok) (hl : ∃ o, s.heap.get? l = some o ∧ o.cls = .type "dict" ∧ o.data = .dict es ep) (hu : A.units < cLine) : EqAt A s (.str b u) (.ref l) false := fun prog w E Q h => by
  unfold eqBool
  exact wpAny_holding (wpAny_ite_split (fun hab => absurd (eq_of_beq hab) nofun) fun _ => wpAny_bind (rc_str_dict b u hl hu prog w E _ (wpAny_truthy_bool h)))
end
/-- a value that is no text -/
inductive NotStr (K : PySem.W.Frag) (H : Hp) : V → Prop
  | non : NotStr K H .non
  | bl (b : Bool) : NotStr K H (.bl b)
  | int (i : Int) : NotStr K H (.int i)
  | lst {a : Addr} {xs : List V} : SqL K H a xs → NotStr K H (.ref a)
  | tup {a : Addr} {xs : List V} : SqT K H a xs → NotStr K H (.ref a)
  | emp {a : Addr} {kvs : List (Key × V)} : H a = some (.dK kvs) → NotStr K H (.ref a)
section
variable {X : Cx} {pins : List (Addr × Obj)} {σ : L2.St} {H : Hp} {s : Shared}
theorem NotStr.eq {A : Around} (I : Inv X pins σ H s) {x : V} {v : Value} (n : NotStr X.K H x) (r : RelV x v) (y : Str) (u : Tok) (hu : A.units < cLine) : EqAt A s (.str y u) v false := by
  cases n with
  | non => cases r; exact EqAt.str_none y u
  | bl b => cases r; exact EqAt.str_bool y u b
  | int i => obtain ⟨t, rfl⟩ := r; exact EqAt.str_int y u i t
  | lst h => cases r; obtain ⟨its, _, pl, _⟩ := I.list h; exact EqAt.str_list y u pl.isList hu
  | tup h => cases r; obtain ⟨its, _, pt, _⟩ := I.tuple h; exact EqAt.str_tuple y u pt hu
  | @emp a kvs e =>
    cases r
    obtain ⟨_, ns, vs, kv, o, es, ep, ho, hx, hd, _⟩ := (show ObjOk X.prog X.w H s.heap _ (.dK kvs) from I.hok _ _ e)
    exact eq_str_dict y u ⟨o, ho, hx.1, hd⟩ hu
/-- x in ws, a tuple of texts -/
def rInS (K : PySem.W.Frag) (neg : Bool) : R2 := fun x y H Q => ∃ (p : Addr) (ws : List Str), y = .ref p ∧ SqT K H p (ws.map V.str) ∧ ((∃ z, x = .str z ∧ Q (.bl (if neg = true then !decide (z ∈ ws) else decide (z ∈ ws))) H) ∨ (NotStr K H x ∧ Q (.bl neg) H))
theorem strs_vals : ∀ {ws : List Str} {us : List Value}, Vals (ws.map V.str) us → ∀ u ∈ us, ∃ y t, u = Value.str y t
  | [], _, .nil, u, h => (nomatch h)
  | y :: ws, _, .cons ⟨t, e⟩ r, u, h => (List.mem_cons.mp h).elim (fun z => ⟨y, t, z.trans e⟩) (strs_vals r u)
def isT (z : Str) (v : Value) : Bool := match v with
  | .str y _ => y == z
  | _ => false
theorem any_isT {z : Str} : ∀ {ws : List Str} {us : List Value}, Vals (ws.map V.str) us → us.any (isT z) = decide (z ∈ ws)
  | [], _, .nil => by simp
  | y :: ws, _, .cons ⟨t, e⟩ r => by
    subst e
    rw [List.any_cons, any_isT r]
    show ((y == z) || decide (z ∈ ws)) = decide (z ∈ y :: ws)
    by_cases h : y = z
    · simp [h]
    · have h' : ¬ z = y := fun e => h e.symm
      simp [h, h']
theorem op_inS (hu : X.A.units + 64 < cLine) : OpR X (compareOp .In) (rInS X.K false) := by
  intro pins s σ H x y v u Q I rx ry h
  obtain ⟨p, ws, rfl, hq, h⟩ := h
  cases ry
  obtain ⟨its, r, pt, _⟩ := I.tuple hq
  have u1 : X.A.in1.units < cLine := by rw [Around.in1_units]; omega
  rcases h with ⟨z, rfl, q⟩ | ⟨n, q⟩
  · obtain ⟨tk, rfl⟩ := rx
    refine in_tupleAt (isT z) pt (fun w hw => ?_) ⟨.bl _, H, I, rfl, ?_⟩
    · obtain ⟨y, t, rfl⟩ := strs_vals r w (by simpa using hw)
      exact EqAt.str_str y t z tk
    · rw [show its.toArray.any (isT z) = its.any (isT z) by simp, any_isT r]
      exact q
  · refine in_tupleAt (fun _ => false) pt (fun w hw => ?_) ⟨.bl _, H, I, rfl, ?_⟩
    · obtain ⟨y, t, rfl⟩ := strs_vals r w (by simpa using hw)
      exact n.eq I rx y t u1
    · rw [show its.toArray.any (fun _ => false) = false by simp]
      exact q
theorem op_notInS (hu : X.A.units + 64 < cLine) : OpR X (compareOp .NotIn) (rInS X.K true) := by
  intro pins s σ H x y v u Q I rx ry h
  obtain ⟨p, ws, rfl, hq, h⟩ := h
  cases ry
  obtain ⟨its, r, pt, _⟩ := I.tuple hq
  have u1 : X.A.in1.units < cLine := by rw [Around.in1_units]; omega
  rcases h with ⟨z, rfl, q⟩ | ⟨n, q⟩
  · obtain ⟨tk, rfl⟩ := rx
    refine notIn_tupleAt (isT z) pt (fun w hw => ?_) ⟨.bl _, H, I, rfl, ?_⟩
    · obtain ⟨y, t, rfl⟩ := strs_vals r w (by simpa using hw)
      exact EqAt.str_str y t z tk
    · rw [show its.toArray.any (isT z) = its.any (isT z) by simp, any_isT r]
      exact q
  · refine notIn_tupleAt (fun _ => false) pt (fun w hw => ?_) ⟨.bl _, H, I, rfl, ?_⟩
    · obtain ⟨y, t, rfl⟩ := strs_vals r w (by simpa using hw)
      exact n.eq I rx y t u1
    · rw [show its.toArray.any (fun _ => false) = false by simp]
      exact q
end
end IT
/-! enumerate(t), t a tuple. -/
namespace ET
open PySem PySem.Spec PyProof.Rows L2
open AutoSeq1 (wpAny_loadPart')
theorem new_tuple (l : Addr) (items : Array Value) (n : Nat) (dct : Option Addr) (sl : Array (Option Value)) :
    Meets (Builtin.«enumerate.__new__» ⟨[.type "enumerate", .ref l], []⟩) (fun _ R s => s.heap.get? l = some { cls := .type "tuple", dict := dct, data := .seq items n, slots := sl } ∧
      R (.ok (.ret (.ref (s.heap.push { cls := .type "tuple_iterator", data := .fields #[.ref l, .int 0 0] }).objs.size)))
        { s with heap := (s.heap.push { cls := .type "tuple_iterator", data := .fields #[.ref l, .int 0 0] }).push { cls := .type "enumerate", data := .fields #[.none, .bool false, .ref s.heap.objs.size, rawInt 0, .none, .none] } }) :=
  .of_wp fun prog w A R s h => by
    obtain ⟨hp, g, d, tk, os⟩ := s
    obtain ⟨hl, h⟩ := h
    have sub := sub_enumerate
    have tup : Heap.IsTuple (Shared.heap ⟨hp, g, d, tk, os⟩) l items := ⟨_, hl, rfl, n, rfl⟩
    wp_walk using wpAny_loadPart' hl
    refine wpAny_stack_any fun st => wpAny_pure ?_
    split
    · rename_i c _ _ _ _ _
      cases (c == Value.type "enumerate") <;> (wp_walk using wpAny_loadPart' hl, wpAny_pyIter_tuple tup) <;> exact ⟨_, rfl, h⟩
    · wp_walk using wpAny_loadPart' hl, wpAny_pyIter_tuple tup
      exact ⟨_, rfl, h⟩
section
variable {P : Program} {w : World} {A : Around} {E : Value → Shared → Prop} {s : Shared}
theorem call_enumT {l : Addr} {items : Array Value} {Q : Value → Shared → Prop} (hL : s.heap.IsTuple l items)
    (q : ∀ h1, IsEnum h1 (s.heap.objs.size + 1) s.heap.objs.size 0 .none → h1.IsTupleIter s.heap.objs.size l 0 → (∀ b o, s.heap.get? b = some o → h1.get? b = some o) → Q (.ref (s.heap.objs.size + 1)) { s with heap := h1 }) :
    wpAny (model P w) A (call (.type "enumerate") [.ref l]) Q E s := by
  obtain ⟨⟨c, dct, dt, sl⟩, hl, hc, n, hd⟩ := hL
  simp only at hc hd
  subst hc hd
  have sz : (s.heap.push { cls := .type "tuple_iterator", data := .fields #[.ref l, .int 0 0] }).objs.size = s.heap.objs.size + 1 := Heap.size_push ..
  refine callType_new F.called_enumerate (by decide) (F.typeCall_enumerate_1 _) (F.newCall_enumerate_1 _) (fun obj => F.args_object_init_2 obj _) F.entry_enumerate_new (new_tuple l items n dct sl) ⟨hl, ?_⟩
  refine (show _ ∧ _ from ?_)
  rw [sz]
  have en : IsEnum ((s.heap.push { cls := .type "tuple_iterator", data := .fields #[.ref l, .int 0 0] }).push { cls := .type "enumerate", data := .fields #[.none, .bool false, .ref s.heap.objs.size, rawInt 0, .none, .none] }) (s.heap.objs.size + 1) s.heap.objs.size 0 .none := by
    have z := Heap.get?_push_size (s.heap.push { cls := .type "tuple_iterator", data := .fields #[.ref l, .int 0 0] }) (o := { cls := .type "enumerate", data := .fields #[.none, .bool false, .ref s.heap.objs.size, rawInt 0, .none, .none] }) rfl
    rw [sz] at z
    exact z
  exact ⟨⟨_, en, rfl⟩, q _ en ⟨_, Heap.get?_push_of_some _ (Heap.get?_push_size _ rfl), rfl, rfl⟩ fun b o x => Heap.get?_push_of_some _ (Heap.get?_push_of_some _ x)⟩
end
/-- the tuple at a, each item in a new pair -/
def IteT (K : PySem.W.Frag) (a : Addr) : It :=
  ⟨fun i H => ∃ (xs : List V) (x : V), SqT K H a xs ∧ xs[i]? = some x, fun i H v H' => ∃ T x, v = .ref T ∧ H T = none ∧ H' = upd H T (.tup [.int (i : Nat), x]) ∧ ∀ xs, SqT K H a xs → xs[i]? = some x, fun i H => ∃ xs : List V, SqT K H a xs ∧ xs.length = i⟩
theorem apart {h : Heap} {a b : Addr} {o u : Obj} (ha : h.get? a = some o) (hb : h.get? b = some u) (n : o.cls ≠ u.cls) : a ≠ b := fun z => by
  subst z
  rw [ha] at hb
  cases hb
  exact n rfl
theorem tup_inj {X : Cx} {pins : List (Addr × Obj)} {σ : L2.St} {H : Hp} {s : Shared} {a : Addr} {xs ys : List V} (I : Inv X pins σ H s) (hx : SqT X.K H a xs) (hy : SqT X.K H a ys) : xs = ys := I.tuple_inj hx hy
theorem turn_enumT {P : Program} {w : World} {K : PySem.W.Frag} {elts : List Expr} {kk : Nat} {tpos : Pos} (a e it : Addr) :
    Turn P w K (.Tuple elts kk tpos) (IteT K a) [e, it] e (fun i h => (∃ old, IsEnum h e it ((i : Nat) : Int) old) ∧ h.IsTupleIter it a i ∧ e ≠ it) where
  mem := by simp
  obj := fun i h st b hb => by
    obtain ⟨⟨old, he⟩, ⟨o, ho, hc, hd⟩, _⟩ := st
    rcases List.mem_cons.mp hb with z | z
    · rw [z]; exact ⟨_, he, fun v q => (nomatch q)⟩
    · rw [List.mem_singleton.mp z]; exact ⟨o, ho, fun v q => by rw [hd] at q; cases q⟩
  keep := fun i h h' st k => ⟨st.1.imp fun _ he => k e (by simp) _ he, st.2.1.at fun o q => k it (by simp) o q, st.2.2⟩
  item := by
    intro X hP hw hK hc i pins s σ H E I hf st hg
    subst hP hw hK
    obtain ⟨⟨old, he⟩, hit, hne⟩ := st
    obtain ⟨xs, x, hq, hx⟩ := hg
    obtain ⟨its, rv, p, hz⟩ := I.tuple hq
    obtain ⟨u, hu, ru⟩ := rv.get hx
    have hu' : its.toArray[i]? = some u := by simpa using hu
    have hlt : i < its.toArray.size := (Array.getElem?_eq_some_iff.mp hu').1
    obtain ⟨oa, hoa, hca, na, hda⟩ := id p
    obtain ⟨oi, hoi, hci, hdi⟩ := id hit
    have ai : a ≠ it := apart hoa hoi (by rw [hca, hci]; decide)
    have ea : e ≠ a := apart he hoa (by rw [hca]; exact fun z => absurd (Value.type.inj (show Value.type "enumerate" = Value.type "tuple" from z)) (by decide))
    have hel : e < s.heap.objs.size := Heap.lt_size he
    have hil : it < s.heap.objs.size := Heap.lt_size hoi
    refine wpAny_pyNext_enum_itemD (Draws.tuple (A := X.A.in1) (by rw [Around.in1_handled]; exact I.ok.hd hc) it a ai its.toArray) he ⟨hit, p⟩ hlt hne (by simp [hne, ea]) fun y h1 tk py ho hit1 hT hsz hk => ?_
    have ey : y = u := Option.some.inj (py.symm.trans hu')
    subst ey
    refine ⟨_, rfl, wpAny_letOwnedTupleGo_enum (s := { s with heap := h1, toks := tk + 1 }) ho fun h2 he2 sb => ?_⟩
    have T2 : h2.get? s.heap.objs.size = some { cls := .type "tuple", data := .seq #[.int i tk, y] } := (sb.2 _ (Nat.ne_of_gt hel)).trans hT
    have new : ObjOk X.prog X.w (upd H s.heap.objs.size (.tup [.int (i : Nat), x])) h2 s.heap.objs.size (.tup [.int (i : Nat), x]) :=
      ⟨by show 2 ≤ sizeLine; decide, [.int i tk, y], .cons ⟨_, rfl⟩ (.cons ru .nil), ⟨_, T2, rfl, _, rfl⟩⟩
    have J : Inv X pins σ (upd H s.heap.objs.size (.tup [.int (i : Nat), x])) { s with heap := h2, toks := tk + 1 } :=
      I.turnedNew (ch := [e, it]) (fun b ob hb q => (sb.2 b (fun z => hb (by simp [z]))).trans (hk b ob (fun z => hb (by simp [z])) (fun z => hb (by simp [z])) q)) hf (Nat.le_refl _) new
    refine ⟨.ref s.heap.objs.size, _, J, rfl, ⟨_, x, rfl, I.hok.fresh (Nat.le_refl _), rfl, fun ys hy => by rw [tup_inj I hy hq]; exact hx⟩, ⟨⟨y, ?_⟩, hit1.1.at fun o q => (sb.2 it (Ne.symm hne)).trans q, hne⟩, fun b hb => ?_⟩
    · rw [show ((i + 1 : Nat) : Int) = (i : Int) + 1 by omega]
      exact he2
    · have lt : b < s.heap.objs.size := (List.mem_cons.mp hb).elim (fun z => z ▸ hel) fun z => List.mem_singleton.mp z ▸ hil
      rw [upd_ne (Nat.ne_of_lt lt)]
      exact (hf b hb).1
  done := by
    intro X hP hw hK hc i pins s σ H E I hf st hg
    subst hP hw hK
    obtain ⟨⟨old, he⟩, hit, hne⟩ := st
    obtain ⟨xs, hq, hx⟩ := hg
    obtain ⟨its, rv, p, hz⟩ := I.tuple hq
    obtain ⟨oa, hoa, hca, na, hda⟩ := id p
    obtain ⟨oi, hoi, hci, hdi⟩ := id hit
    have ai : a ≠ it := apart hoa hoi (by rw [hca, hci]; decide)
    obtain ⟨f0, f1, f2, f3, f4, f5⟩ := hf it (by simp)
    have n0 : i = its.toArray.size := by
      rw [← hx, List.size_toArray]
      exact rv.length
    rw [n0] at hit
    exact wpAny_pyNext_enum_endD (Draws.tuple (A := X.A.in1) (by rw [Around.in1_handled]; exact I.ok.hd hc) it a ai its.toArray) he ⟨hit, p⟩ fun h1 eb => ⟨rfl, I.turned (t' := s.toks) (fun b o hb q => eb b o hb q) f0 f1 f3 f4 f5⟩
  self := fun A i s Q E st h => let ⟨⟨_, he⟩, _⟩ := st; wpAny_pyIter_enum he h
def iEnumT (K : PySem.W.Frag) (ta : TA) : TI := fun σ H R => ta σ H fun vs H1 => ∃ a xs, vs = [.ref a] ∧ SqT K H1 a xs ∧ R (IteT K a) H1
theorem pi_enumT {X : Cx} {e : Expr} {ta : TA} {p pos tpos : Pos} {elts : List Expr} {kk : Nat} (hg : Gl X "enumerate") (hm : X.mg "enumerate" = none) (ha : PA X [e] ta) (hs : starEach [e] X.env = [(false, eval e X.env)] := by rfl) :
    PI X (.Tuple elts kk tpos) (.Call (.Name "enumerate" p) [e] [] pos) (iEnumT X.K ta) := by
  constructor
  intro pins s σ H R I h
  refine Call_ (ld_blt I hg hm boot_enumerate (PyProof.Rows.callWith_type1 (thn (ha.run pos pins s σ H _ I h) fun us s1 z => ?_) hs rfl))
  obtain ⟨vs, H1, J, r1, a, xs, rfl, hq, q⟩ := z
  cases r1 with
  | cons r rr =>
    cases rr
    cases r
    obtain ⟨its, rv, pt, hz⟩ := J.tuple hq
    refine call_enumT pt fun h1 he hit hk => wpAny_pyIter_enum he ?_
    have le : ∀ b ∈ [s1.heap.objs.size + 1, s1.heap.objs.size], s1.heap.objs.size ≤ b := fun b hb => (List.mem_cons.mp hb).elim (fun z => z ▸ Nat.le_succ _) fun z => List.mem_singleton.mp z ▸ Nat.le_refl _
    exact ⟨s1.heap.objs.size + 1, [s1.heap.objs.size + 1, s1.heap.objs.size], _, _, H1, rfl, J.kept (t' := s1.toks) hk, turn_enumT a (s1.heap.objs.size + 1) s1.heap.objs.size, ⟨⟨.none, he⟩, hit, Nat.succ_ne_self _⟩, fun b hb => J.fpOk (le b hb) (J.hok.fresh (le b hb)), q⟩
theorem walk_enumT {K : PySem.W.Frag} {a : Addr} {xs : List V} : Walk (IteT K a) xs.length (fun H => SqT K H a xs) (YPair (fun i => some (.int (i : Nat))) fun i => xs[i]?) :=
  ⟨fun i _ hi q => ⟨xs, xs[i], q, by simp [hi]⟩, fun _ q => ⟨xs, q, rfl⟩, fun i _ _ _ _ q ⟨T, x, e1, e2, e3, e4⟩ => ⟨T, .int (i : Nat), x, e1, e2, e3, rfl, e4 xs q⟩⟩
end ET
namespace K03
open PySem PySem.Spec PyProof.Rows L2 WD NS MC GL
open C8 (pss_cut tCut)
theorem tyOf_same {K : PySem.W.Frag} {H H' : Hp} {x : V} {t : Value} (s : Same H H') (h : TyOf K H x t) : TyOf K H' x t := by
  cases h with
  | non => exact .non
  | bl b => exact .bl b
  | int i => exact .int i
  | str x => exact .str x
  | flt x => exact .flt x
  | lst e => exact .lst (s _ _ e)
  | frz e => exact .frz (s _ _ e)
  | tup e => exact .tup (s _ _ e)
  | dK e => exact .dK (s _ _ e)
  | dT e => exact .dT (s _ _ e)
  | ins e c1 c2 c3 c4 c5 => exact .ins (s _ _ e) c1 c2 c3 c4 c5
theorem tyX_same {K : PySem.W.Frag} {H H' : Hp} {x : V} {t : Value} (s : Same H H') (h : TyX K H x t) : TyX K H' x t := by
  cases h with
  | base h => exact .base (tyOf_same s h)
  | byt b => exact .byt b
  | set e => exact .set (s _ _ e)
  | kList e c => exact .kList e c
  | kTuple e c => exact .kTuple e c
  | kDict e c => exact .kDict e c
  | fTuple e => exact .fTuple (s _ _ e)
  | fDict e => exact .fDict (s _ _ e)
theorem NotInt.same {K : PySem.W.Frag} {H H' : Hp} {x : V} (s : Same H H') (h : NotInt K H x) : NotInt K H' x := let ⟨ty, m, t⟩ := h; ⟨ty, m, tyX_same s t⟩
/-- a machine, or InvalidMachine -/
def spChkM (K : PySem.W.Frag) (Bad : Hp → V → Prop) (cM : Addr) : Sp := fun vs H Q E => ∃ v : V, vs = [v] ∧ ((∃ (a : Addr) (m : MachM), v = .ref a ∧ Kz H (.ref a) m.key ∧ m.Ok ∧ ∀ H', Same H H' → Q .non H') ∨ (Bad H v ∧ ∀ H', Same H H' → E (.ref cM) none H'))
section
variable {P : Program} {w : World} {K : PySem.W.Frag} {mg : Str → Option Value} {base : Heap} {fW fF cM cN iN fM fS : Addr} {dW dF dN dM dS : FuncData} {Bad : Hp → V → Prop} {k : Nat}
end
end K03
namespace K03
open PySem PySem.Spec PyProof.Rows L2 WD NS MC GL
open C8 (pss_cut tCut)
abbrev exS : List Str := ["send", "take"]
/-- word in ('send', 'take') for any value -/
def spIsExA (K : PySem.W.Frag) : Sp := fun vs H Q _ => ∃ x : V, vs = [x] ∧ ((∃ z, x = .str z ∧ ∀ H', Same H H' → Q (.bl (decide (z ∈ exS))) H') ∨ (IT.NotStr K H x ∧ ∀ H', Same H H' → Q (.bl false) H'))
theorem sqT_same {K : PySem.W.Frag} {H H' : Hp} {a : Addr} {xs : List V} (s : Same H H') (h : SqT K H a xs) : SqT K H' a xs := by
  rcases h with (h | ⟨ob, h⟩) | h
  · exact Or.inl (Or.inl (s _ _ h))
  · exact Or.inl (Or.inr ⟨ob, s _ _ h⟩)
  · exact Or.inr h
theorem NotStr.same {K : PySem.W.Frag} {H H' : Hp} {x : V} (s : Same H H') (h : IT.NotStr K H x) : IT.NotStr K H' x := by
  cases h with
  | non => exact .non
  | bl b => exact .bl b
  | int i => exact .int i
  | lst h => exact .lst (s.seq h)
  | tup h => exact .tup (sqT_same s h)
  | emp e => exact .emp (s _ _ e)
section
variable {P : Program} {w : World} {K : PySem.W.Frag} {mg : Str → Option Value} {base : Heap}
theorem ok_IsExA {f : Addr} {fd : FuncData} {k : Nat} (F : Fun K "is_exchange" "is_exchange" sIsEx f fd) (TE : ∃ tE, TxtE K mg tE) : FnOk P w K mg base CX0 (k + 1) f fd ["word"] (spIsExA K) := by
  obtain ⟨tE, gE, sE⟩ := TE
  refine F.ok scIsEx (fun vs H Q E h => ?_) (fun cdv A outer s H vs Q E hr h => ?_)
  · obtain ⟨x, rfl, _⟩ := h
    rfl
  · obtain ⟨x, rfl, h⟩ := h
    have hu := hr.units
    refine ⟨_, pss_one (ps_ret (pe_cmpR (show OpR _ (compareOp .In) (IT.rInS K false) from IT.op_inS hu) (pv 0) (pe_glob (v := .ref tE) rfl gE rfl) (by rfl))), ?_⟩
    refine ⟨_, rfl, tE, exS, rfl, Or.inr sE, ?_⟩
    have k : Same H H := fun _ _ e => e
    rcases h with ⟨z, rfl, q⟩ | ⟨n, q⟩
    · exact .inl ⟨z, rfl, q _ k⟩
    · exact .inr ⟨n, q _ k⟩
end
abbrev veC : List Value := [.type "ValueError", .type "Exception", .type "BaseException", .type "object"]
def stDeed (st : Int) (r : RowM) : Option Deed := if r.before = st then some r.deed else none
def stDeeds (st : Int) (rs : List RowM) : List Deed := rs.filterMap (stDeed st)
theorem stDeeds_next {st : Int} {rs : List RowM} {i : Nat} {r : RowM} (h : rs[i]? = some r) : stDeeds st (rs.take (i + 1)) = stDeeds st (rs.take i) ++ (stDeed st r).toList := by
  rw [List.take_succ, h, stDeeds, stDeeds, List.filterMap_append]
  cases e : stDeed st r with
  | none => simp [e]
  | some x => simp [e]
theorem mem_stDeeds {st : Int} {rs : List RowM} {d : Deed} : d ∈ stDeeds st rs ↔ ∃ r ∈ rs, r.before = st ∧ r.deed = d := by
  rw [stDeeds, List.mem_filterMap]
  constructor
  · rintro ⟨r, hr, e⟩
    unfold stDeed at e
    by_cases h : r.before = st
    · rw [if_pos h] at e
      exact ⟨r, hr, h, Option.some.inj e⟩
    · rw [if_neg h] at e
      exact nomatch e
  · rintro ⟨r, hr, e1, e2⟩
    exact ⟨r, hr, by rw [stDeed, if_pos e1, e2]⟩
def lDeed (wd : Bool) (o : Str) : Deed → Option Str
  | .step => none
  | .ex b n l => if b = wd ∧ n = o then some l else none
theorem lDeeds_next {wd : Bool} {o : Str} {ds : List Deed} {i : Nat} {d : Deed} (h : ds[i]? = some d) : (ds.take (i + 1)).filterMap (lDeed wd o) = (ds.take i).filterMap (lDeed wd o) ++ (lDeed wd o d).toList := by
  rw [List.take_succ, h, List.filterMap_append]
  cases e : lDeed wd o d with
  | none => simp [e]
  | some x => simp [e]
theorem mem_lDeeds {wd : Bool} {o : Str} {ds : List Deed} {x : Str} : x ∈ ds.filterMap (lDeed wd o) ↔ Deed.ex wd o x ∈ ds := by
  rw [List.mem_filterMap]
  constructor
  · rintro ⟨d, hd, e⟩
    cases d with
    | step => exact nomatch e
    | ex b n l =>
      rw [lDeed] at e
      by_cases h : b = wd ∧ n = o
      · rw [if_pos h] at e
        cases e
        rw [← h.1, ← h.2]
        exact hd
      · rw [if_neg h] at e
        exact nomatch e
  · intro hd
    exact ⟨_, hd, by rw [lDeed, if_pos ⟨rfl, rfl⟩]⟩
theorem low_step : Low "step" := by
  have e : ∀ c ∈ ("step" : Str).cps.toList, 97 ≤ c ∧ c ≤ 122 := by decide +kernel
  exact e
theorem shaped_one {x : Str} (hx : Low x) : SeqAt.shaped (.tuple [.str x]) = true := by
  rw [SeqAt.shaped, PyData.canLay0, PyData.canLayAll0, PyData.canLayAll0, low_ok hx]
  rfl
theorem eqv_one {a c d : Str} : PyData.eqv (.tuple [.str a]) (.tuple [.str c, .str d]) = false := by
  rw [PyData.eqv, PyData.eqvAll, PyData.eqvAll, Bool.and_false]
theorem word_ex (b : Bool) : wordOf b ∈ exS := by cases b <;> decide +kernel
section
variable {P : Program} {w : World} {K : PySem.W.Frag} {mg : Str → Option Value} {base : Heap} {fW fF cM cN iN fM fS cU iU cO fX fN : Addr} {dW dF dN dM dS dU dX dNb : FuncData} {Bad : Hp → V → Prop} {k : Nat}
end
end K03
namespace K03
open PySem PySem.Spec PyProof.Rows L2 WD NS MC GL
open C8 (pss_cut tCut)
abbrev sName : Stmt := topS 7
abbrev sAreSt : Stmt := topS 15
/-! names -/
structure TxtNm (K : PySem.W.Frag) (mg : Str → Option Value) : Prop where
  isi : mg "isinstance" = none
  str : mg "str" = none
  len : mg "len" = none
  tuple : mg "tuple" = none
  ln : ∃ t, mg "LONGEST_NAME" = some (.int 8 t)
theorem low_all {x : Str} {p : Nat → Bool} (h : Low x) (q : ∀ i < 26, p (97 + i) = true) : x.cps.all p = true := by
  rw [← Array.all_toList, List.all_eq_true]
  intro c m
  have z := h c m
  have e : c = 97 + (c - 97) := by omega
  rw [e]
  exact q _ (by omega)
theorem asc26 : ∀ i < 26, decide (97 + i < 128) = true := by decide +kernel
theorem alp26 : ∀ i < 26, Unicode.isAlpha (97 + i) = true := by decide +kernel
theorem low26 : ∀ i < 26, Unicode.isLower (97 + i) = true := by decide +kernel
theorem upp26 : ∀ i < 26, (!(Unicode.isUpper (97 + i) || Unicode.isTitle (97 + i))) = true := by decide +kernel
theorem wd_ascii {x : Str} (h : Low x) : Txt.isascii x = true := low_all h asc26
theorem wd_alpha {x : Str} (h : Wd x) : Txt.isalpha x = true := by
  show (decide (x.length > 0) && x.cps.all Unicode.isAlpha) = true
  rw [low_all h.low alp26, decide_eq_true h.pos]
  rfl
theorem wd_lower {x : Str} (h : Wd x) : Txt.islower x = true := by
  show (x.cps.any Unicode.isLower && !x.cps.any fun c => Unicode.isUpper c || Unicode.isTitle c) = true
  obtain ⟨c, m, _⟩ := at_first h
  have e2 : (x.cps.any fun c => Unicode.isUpper c || Unicode.isTitle c) = false := by
    rw [← Array.any_toList, List.any_eq_false]
    intro d md
    have z := h.low d md
    have e : d = 97 + (d - 97) := by omega
    have y := upp26 (d - 97) (by omega)
    rw [← e] at y
    simpa using y
  have e1 : x.cps.any Unicode.isLower = true := by
    rw [← Array.any_toList, List.any_eq_true]
    have p := h.pos
    rw [← WD.len_list] at p
    obtain ⟨d, l, e⟩ : ∃ d l, x.cps.toList = d :: l := by
      cases z : x.cps.toList with
      | nil => rw [z] at p; exact absurd p (by decide)
      | cons d l => exact ⟨d, l, rfl⟩
    have md : d ∈ x.cps.toList := by rw [e]; exact List.mem_cons_self
    have z := h.low d md
    have e : d = 97 + (d - 97) := by omega
    have y := low26 (d - 97) (by omega)
    rw [← e] at y
    exact ⟨d, md, y⟩
  rw [e1, e2]
  rfl
theorem scName : FnScope ["value"] ["value"] (defScope sName) := ⟨rfl, rfl, rfl, by decide +kernel, rfl, by decide +kernel, by decide +kernel⟩
def spName : Sp := fun vs H Q _ => ∃ x : Str, vs = [.str x] ∧ Wd x ∧ Q (.bl true) H
section
variable {P : Program} {w : World} {K : PySem.W.Frag} {mg : Str → Option Value} {base : Heap}
theorem ok_Name {f : Addr} {fd : FuncData} {k : Nat} (F : Fun K "is_name" "is_name" sName f fd) (T : TxtNm K mg) : FnOk P w K mg base CX0 (k + 1) f fd ["value"] spName := by
  obtain ⟨t8, g8⟩ := T.ln
  refine F.ok scName (fun vs H Q E h => ?_) (fun cdv A outer s H vs Q E hr h => ?_)
  · obtain ⟨x, rfl, _⟩ := h
    rfl
  · obtain ⟨x, rfl, wd, q⟩ := h
    refine ⟨_, pss_one (ps_ret (pe_and (pe_callB call_isi (by rfl) T.isi (by decide +kernel) (pa_cons (pv 0) (pa_cons (pe_bltn (by rfl) T.str (by decide +kernel) (v := .ty "str") rfl) pa_nil)))
      (pe_and (pe_cmpR op_le (pe_callB call_len_str (by rfl) T.len PySem.boot_len (pa_cons (pv 0) pa_nil)) (pe_glob (v := .int 8) rfl g8 ⟨_, rfl⟩) (nomark _))
      (pe_and (pe_bm0 PySem.F.plainAttrs_str PySem.F.slot_str_isascii PySem.F.type_str_isascii mt_isascii (pv 0))
      (pe_and (pe_bm0 PySem.F.plainAttrs_str PySem.F.slot_str_isalpha PySem.F.type_str_isalpha mt_isalpha (pv 0))
      (pe_one (pe_bm0 PySem.F.plainAttrs_str PySem.F.slot_str_islower PySem.F.type_str_islower mt_islower (pv 0)))))))), ?_⟩
    refine ⟨_, rfl, _, _, _, .type "str", true, rfl, .ty _, .base (.str x), kit_ty (by decide +kernel), _, rfl, iteT ?_⟩
    refine ⟨_, rfl, _, rfl, (by have z := wd.le; rw [sizeLine_eq]; omega), _, _, rfl, rfl, _, rfl, ?_⟩
    rw [decide_eq_true (show ((x.length : Nat) : Int) ≤ 8 by have z := wd.le; omega)]
    refine iteT ⟨_, rfl, rfl, _, rfl, rfl, trivial, _, rfl, ?_⟩
    rw [wd_ascii wd.low]
    refine iteT ⟨_, rfl, rfl, _, rfl, rfl, trivial, _, rfl, ?_⟩
    rw [wd_alpha wd]
    refine iteT ⟨_, rfl, rfl, _, rfl, rfl, trivial, ?_⟩
    rw [wd_lower wd]
    exact q
end
/-! states -/
abbrev nAs : List Str := ["value", "size", "last", "state"]
theorem scAreSt : FnScope nAs ["value", "size"] (defScope sAreSt) := ⟨rfl, rfl, rfl, by decide +kernel, rfl, by decide +kernel, by decide +kernel⟩
def spAreSt : Sp := fun vs H Q _ => ∃ (a : Addr) (ns : List Int) (size : Int), vs = [.ref a, .int size] ∧ H a = some (.tup (ns.map V.int)) ∧ ns.Pairwise (· < ·) ∧ (∀ k ∈ ns, 0 ≤ k ∧ k < size) ∧ Q (.bl true) H
section
variable {P : Program} {w : World} {K : PySem.W.Frag} {mg : Str → Option Value} {base : Heap} {fW fF : Addr} {dW dF : FuncData}
theorem ok_AreSt {f : Addr} {fd : FuncData} {k : Nat} (F : Fun K "are_states" "are_states" sAreSt f fd) (T : TxtI K mg fW fF dW dF) (TN : TxtNm K mg) : FnOk P w K mg base CX0 (k + 2) f fd ["value", "size"] spAreSt := by
  have GW : FnOk P w K mg base CX0 (k + 1) fW dW ["value"] (spWhole K) := ok_IsWh T.W T
  refine F.ok scAreSt (fun vs H Q E h => ?_) (fun cdv A outer s H vs Q E hr h => ?_)
  · obtain ⟨a, ns, size, rfl, _⟩ := h
    rfl
  · obtain ⟨a, ns, size, rfl, ha, asc, all, q⟩ := h
    refine ⟨_, pss_cons (ps_if (pt_not (pt_val (pe_callB call_isi (by rfl) T.isi (by decide +kernel) (pa_cons (pv 0) (pa_cons (pe_bltn (by rfl) TN.tuple (by decide +kernel) (v := .ty "tuple") rfl) pa_nil))))) (pss_one (ps_ret pe_bl)) pss_nil)
      (pss_cons (ps_set (i := 2) scAreSt.nd rfl (.inl rfl) (pe_un un_neg pe_int))
      (pss_cons (ps_for PassesOwn.never rfl (pi_tup (pv 0)) (pg_name (i := 3) scAreSt.nd rfl (.inl rfl))
        (pss_cons (ps_if (PW.pt (pw_or (pt_not (pt_val (pe_call GW hr (by rfl) T.gW T.W.kp T.bW .nil pass0 (pa_cons (pv 3) pa_nil)))) (pw_or1 (pt_not (pt_chain op_lt op_lt (pv 2) (pv 3) (pv 1)))))) (pss_one (ps_ret pe_bl)) pss_nil)
        (pss_one (ps_set (i := 2) scAreSt.nd rfl (.inl rfl) (pv 3)))))
      (pss_one (ps_ret pe_bl)))), ?_⟩
    refine ⟨_, rfl, _, _, _, .type "tuple", true, rfl, .ty _, .base (.tup ha), kit_ty (by decide +kernel), _, rfl, iteF ?_⟩
    refine ⟨_, rfl, ?_⟩
    refine ⟨_, rfl, a, rfl, ⟨_, SqT.of ha⟩, for_tup (xs := ns.map V.int) (fun i σ' H' => H' = H ∧ ∃ (l : Int) (st : Option V), σ' = [some (.ref a), some (.int size), some (.int l), st] ∧ ∀ k ∈ ns.drop i, l < k) ?_ ?_ ?_ ?_⟩
    · exact ⟨rfl, -1, none, rfl, fun k hk => by have z := (all k (List.mem_of_mem_drop hk)).1; omega⟩
    · rintro i σ' H' _ ⟨rfl, _⟩
      exact SqT.of ha
    · rintro i x σ' H' hx ⟨rfl, l, st, rfl, lt⟩
      obtain ⟨n, hn, rfl⟩ : ∃ n, ns[i]? = some n ∧ x = .int n := by
        rw [List.getElem?_map] at hx
        cases e : ns[i]? with
        | none => rw [e] at hx; exact nomatch hx
        | some n => rw [e] at hx; exact ⟨n, rfl, (Option.some.inj hx).symm⟩
      have il : i < ns.length := (List.getElem?_eq_some_iff.mp hn).1
      have en : ns[i] = n := (List.getElem?_eq_some_iff.mp hn).2
      have dr : ns.drop i = n :: ns.drop (i + 1) := by rw [List.drop_eq_getElem_cons il, en]
      have lo := lt n (by rw [dr]; exact List.mem_cons_self)
      have hi := (all n (List.mem_of_getElem? hn)).2
      refine ⟨_, rfl, _, rfl, .inl ⟨n, rfl, _, rfl, iteF ?_⟩⟩
      refine ⟨_, rfl, _, rfl, _, _, rfl, rfl, _, rfl, ?_⟩
      rw [decide_eq_true lo]
      refine iteT ⟨_, rfl, _, _, rfl, rfl, _, rfl, ?_⟩
      rw [decide_eq_true hi]
      refine iteF ⟨_, rfl, rfl, n, some (.int n), rfl, fun k hk => ?_⟩
      have pw : (ns.drop i).Pairwise (· < ·) := asc.drop
      rw [dr] at pw
      exact (List.pairwise_cons.mp pw).1 k hk
    · rintro σ' H' ⟨rfl, _⟩
      exact q
end
end K03
namespace K03
open PySem PySem.Spec PyProof.Rows L2 WD NS MC GL
open C8 (pss_cut tCut)
abbrev sAreTr : Stmt := topS 16
abbrev nAt : List Str := ["value", "size", "near", "last", "transition", "before", "deed", "behind", "word", "other", "letter"]
theorem scAreTr : FnScope nAt ["value", "size", "near"] (defScope sAreTr) := ⟨rfl, rfl, rfl, by decide +kernel, rfl, by decide +kernel, by decide +kernel⟩
/-- None, or a list in which all neighbours are -/
def NearOk (K : PySem.W.Frag) (H : Hp) (nr : V) (rows : List RowM) : Prop := nr = .non ∨ ∃ (l : Addr) (ws : List Str), nr = .ref l ∧ SqL K H l (ws.map V.str) ∧ ∀ r ∈ rows, ∀ b n x, r.deed = .ex b n x → n ∈ ws
def spAreTr (K : PySem.W.Frag) : Sp := fun vs H Q _ => ∃ (a : Addr) (rows : List RowM) (xs : List V) (size : Nat) (nr : V), vs = [.ref a, .int size, nr] ∧ H a = some (.tup xs) ∧ KzAll H xs (rows.map RowM.key) ∧ (∀ r ∈ rows, r.Ok size) ∧ rows.Pairwise rowLt ∧ NearOk K H nr rows ∧
  ∀ H', Same H H' → Q (.bl true) H'
structure TxtT (K : PySem.W.Frag) (mg : Str → Option Value) (fN : Addr) (dN : FuncData) : Prop where
  type : mg "type" = none
  E : ∃ tE, TxtE K mg tE
  N : Fun K "is_name" "is_name" sName fN dN
  bN : L2.Binds K dN ["value"] []
  gN : mg "is_name" = some (.ref fN)
theorem inV_strs {n : Str} {ws : List Str} (h : n ∈ ws) : inV (.str n) (ws.map V.str) = true := by
  rw [inV, List.any_eq_true]
  exact ⟨.str n, List.mem_map.mpr ⟨n, h, rfl⟩, by simp [eqV]⟩
theorem lt_empty (r : RowM) : PySem.W.dataLt (NestedKey.tup []).data r.key.data = true := by
  show PyProof.Rows.lexLt PyProof.Rows.itemOrd (PySem.W.keyToks (.tuple [])) (PySem.W.keyToks (.tuple [.int r.before, r.deed.key.data, .int r.after])) = true
  rw [PySem.W.keyToks, PySem.W.keyToksAll, PySem.W.keyToks, PySem.W.keyToksAll]
  rw [PySem.W.lex_atom (by decide)]
  decide +kernel
/-- what last holds ahead of turn i -/
structure LastOk (H : Hp) (rows : List RowM) (i : Nat) (lv : V) : Prop where
  ex : ∃ pk : NestedKey, Kz H lv pk ∧ pk ≠ .none ∧ pk.depth ≤ 8 ∧ ∀ r ∈ rows.drop i, PySem.W.alike pk.data r.key.data = true ∧ PySem.W.dataLt pk.data r.key.data = true
section
variable {X : Cx} {c a b : Expr} {tc tA tB' : TT} {pos : Pos}
def tIfT (tc ta tb : TT) : TT := fun σ H Q => tc σ H fun k H1 => if k = true then ta σ H1 Q else tb σ H1 Q
theorem pt_ifExp (hc : PT X c tc) (ha : PT X a tA) (hb : PT X b tB') : PT X (.IfExp c a b pos) (tIfT tc tA tB') := by
  refine ⟨fun pins s σ H Q I h => ?_⟩
  refine isTrue_IfExp (thn (hc.run pins s σ H _ I h) fun k s1 ⟨H1, I1, q1⟩ => ?_)
  cases k with
  | true => exact ha.run pins s1 σ H1 Q I1 q1
  | false => exact hb.run pins s1 σ H1 Q I1 q1
end
section
variable {P : Program} {w : World} {K : PySem.W.Frag} {mg : Str → Option Value} {base : Heap} {fW fF fN : Addr} {dW dF dN : FuncData}
theorem ok_AreTr {f : Addr} {fd : FuncData} {k : Nat} (F : Fun K "are_transitions" "are_transitions" sAreTr f fd) (T : TxtI K mg fW fF dW dF) (TN : TxtNm K mg) (TT : TxtT K mg fN dN) : FnOk P w K mg base CX0 (k + 2) f fd ["value", "size", "near"] (spAreTr K) := by
  have GW : FnOk P w K mg base CX0 (k + 1) fW dW ["value"] (spWhole K) := ok_IsWh T.W T
  have GN : FnOk P w K mg base CX0 (k + 1) fN dN ["value"] spName := ok_Name TT.N TN
  obtain ⟨tE, gE, sE⟩ := TT.E
  refine F.ok scAreTr (fun vs H Q E h => ?_) (fun cdv A outer s H vs Q E hr h => ?_)
  · obtain ⟨a, rows, xs, size, nr, rfl, _⟩ := h
    rfl
  · obtain ⟨a, rows, xs, size, nr, rfl, ha, all, oks, asc, near, q⟩ := h
    have hu := hr.units
    refine ⟨_, pss_cons (ps_if (pt_not (pt_val (pe_callB call_isi (by rfl) T.isi (by decide +kernel) (pa_cons (pv 0) (pa_cons (pe_bltn (by rfl) TN.tuple (by decide +kernel) (v := .ty "tuple") rfl) pa_nil))))) (pss_one (ps_ret pe_bl)) pss_nil)
      (pss_cons (ps_set (i := 3) scAreTr.nd rfl (.inl rfl) (pe_tup pa_nil))
      (pss_cons (ps_for PassesOwn.never rfl (pi_tup (pv 0)) (pg_name (i := 4) scAreTr.nd rfl (.inl rfl))
        (pss_cons (ps_if (PW.pt (pw_or (pt_not (pt_val (pe_callB call_isi (by rfl) T.isi (by decide +kernel) (pa_cons (pv 4) (pa_cons (pe_bltn (by rfl) TN.tuple (by decide +kernel) (v := .ty "tuple") rfl) pa_nil)))))
            (pw_or1 (pt_cmpR op_ne (pe_callB call_len_seq (by rfl) TN.len PySem.boot_len (pa_cons (pv 4) pa_nil)) pe_int (nomark _))))) (pss_one (ps_ret pe_bl)) pss_nil)
        (pss_cons (ps_asg (pv 4) (pg_tup rfl (pgs_cons (pg_name (i := 5) scAreTr.nd rfl (.inl rfl)) (pgs_cons (pg_name (i := 6) scAreTr.nd rfl (.inl rfl)) (pgs_cons (pg_name (i := 7) scAreTr.nd rfl (.inl rfl)) pgs_nil)))))
        (pss_cons (ps_if (PW.pt (pw_or (pt_not (PW.pt (pw_or (pt_cmpR op_isTy (pe_typeOf (by rfl) TT.type (pv 5)) (pe_bltn (by rfl) T.int (by decide +kernel) (v := .ty "int") rfl) (nomark _)) (pw_or1 (pt_val (pe_call GW hr (by rfl) T.gW T.W.kp T.bW .nil pass0 (pa_cons (pv 5) pa_nil)))))))
            (pw_or1 (pt_not (PW.pt (pw_or (pt_cmpR op_isTy (pe_typeOf (by rfl) TT.type (pv 7)) (pe_bltn (by rfl) T.int (by decide +kernel) (v := .ty "int") rfl) (nomark _)) (pw_or1 (pt_val (pe_call GW hr (by rfl) T.gW T.W.kp T.bW .nil pass0 (pa_cons (pv 7) pa_nil)))))))))) (pss_one (ps_ret pe_bl)) pss_nil)
        (pss_cons (ps_if (pt_not (PW.pt (pw_and (pt_chain op_le op_lt pe_int (pv 5) (pv 1)) (pw_and (pt_chain op_le op_lt pe_int (pv 7) (pv 1)) (pw_and1 (pt_val (pe_callB call_isi (by rfl) T.isi (by decide +kernel) (pa_cons (pv 6) (pa_cons (pe_bltn (by rfl) TN.tuple (by decide +kernel) (v := .ty "tuple") rfl) pa_nil))))))))) (pss_one (ps_ret pe_bl)) pss_nil)
        (pss_cons (ps_if (pt_cmpR op_eq (pe_callB call_len_seq (by rfl) TN.len PySem.boot_len (pa_cons (pv 6) pa_nil)) pe_int (nomark _))
            (pss_cons (ps_asg (pv 6) (pg_tup rfl (pgs_cons (pg_name (i := 8) scAreTr.nd rfl (.inl rfl)) (pgs_cons (pg_name (i := 9) scAreTr.nd rfl (.inl rfl)) (pgs_cons (pg_name (i := 10) scAreTr.nd rfl (.inl rfl)) pgs_nil)))))
            (pss_cons (ps_if (PW.pt (pw_or (pt_cmpR (show OpR _ (compareOp .NotIn) (rIn K true) from op_notIn_seq) (pv 8) (pe_glob (v := .ref tE) rfl gE rfl) (by rfl)) (pw_or1 (pt_not (pt_val (pe_call GN hr (by rfl) TT.gN TT.N.kp TT.bN .nil pass0 (pa_cons (pv 10) pa_nil))))))) (pss_one (ps_ret pe_bl)) pss_nil)
            (pss_one (ps_if (pt_not (pt_ifExp (pt_cmpR op_isN (pv 2) pe_non (nomark _)) (pt_val (pe_call GN hr (by rfl) TT.gN TT.N.kp TT.bN .nil pass0 (pa_cons (pv 9) pa_nil))) (pt_cmpR (show OpR _ (compareOp .In) (rIn K false) from op_in_seq) (pv 9) (pv 2) (by rfl)))) (pss_one (ps_ret pe_bl)) pss_nil))))
            (pss_one (ps_if (PW.pt (pw_or (pt_cmpR op_ne (pe_callB call_len_seq (by rfl) TN.len PySem.boot_len (pa_cons (pv 6) pa_nil)) pe_int (nomark _)) (pw_or1 (pt_cmpR op_ne (pe_ix (show IxR _ (rIxT K) from ix_tup) (pv 6) pe_int (fun _ _ => rfl)) pe_str (nomark _))))) (pss_one (ps_ret pe_bl)) pss_nil)))
        (pss_cons (ps_if (pt_not (pt_cmpR (op_ltK hu) (pv 3) (pv 4) (nomark _))) (pss_one (ps_ret pe_bl)) pss_nil)
        (pss_one (ps_set (i := 3) scAreTr.nd rfl (.inl rfl) (pv 4))))))))))
      (pss_one (ps_ret pe_bl)))), ?_⟩
    refine ⟨_, rfl, _, _, _, .type "tuple", true, rfl, .ty _, .base (.tup ha), kit_ty (by decide +kernel), _, rfl, iteF ?_⟩
    refine ⟨Nat.zero_le _, fun p np => ?_⟩
    have s0 := same_upd (o := .tup []) np
    have lx : xs.length = rows.length := by
      have z := kz_len all
      rw [List.length_map] at z
      exact z
    refine ⟨_, rfl, a, rfl, ⟨_, SqT.of (s0 _ _ ha)⟩, for_tup (xs := xs) (fun i σ' H' => Same H H' ∧ ∃ (lv : V) (u4 u5 u6 u7 u8 u9 u10 : Option V), σ' = [some (.ref a), some (.int size), some nr, some lv, u4, u5, u6, u7, u8, u9, u10] ∧ LastOk H' rows i lv) ?_ ?_ ?_ ?_⟩
    · refine ⟨s0, _, none, none, none, none, none, none, none, rfl, ⟨.tup [], .tup upd_same .nil, (fun z => nomatch z), (by decide), fun r _ => ⟨rfl, lt_empty r⟩⟩⟩
    · rintro i σ' H' _ ⟨s1, _⟩
      exact SqT.of (s1 _ _ ha)
    · rintro i x σ' H' hx ⟨s1, lv, u4, u5, u6, u7, u8, u9, u10, rfl, ⟨pk, kl, nn, dp, lt⟩⟩
      obtain ⟨r, hr', ra, dv, rfl, er, kd⟩ := row_at all hx
      obtain ⟨qd, rfl, ed⟩ := deed_at kd
      have okr := oks r (List.mem_of_getElem? hr')
      have il : i < rows.length := (List.getElem?_eq_some_iff.mp hr').1
      have er' : rows[i] = r := (List.getElem?_eq_some_iff.mp hr').2
      have dr : rows.drop i = r :: rows.drop (i + 1) := by rw [List.drop_eq_getElem_cons il, er']
      have er1 := s1 _ _ er
      have ed1 := s1 _ _ ed
      have kr : Kz H' (.ref ra) r.key := by
        obtain ⟨k', hk', z⟩ := kz_get all i _ hx
        rw [List.getElem?_map, hr'] at hk'
        cases hk'
        exact Kz.same s1 _ _ z
      have two := lt r (by rw [dr]; exact List.mem_cons_self)
      refine ⟨_, rfl, _, _, _, .type "tuple", true, rfl, .ty _, .base (.tup er1), kit_ty (by decide +kernel), _, rfl, iteF ?_⟩
      refine ⟨_, rfl, ra, _, rfl, .inr (SqT.of er1), rfl, _, rfl, iteF ?_⟩
      refine ⟨_, rfl, ra, _, rfl, SqT.of er1, rfl, _, _, rfl, _, _, rfl, _, _, rfl, rfl, ?_⟩
      refine ⟨_, rfl, "int", rfl, _, _, rfl, rfl, _, rfl, ifT (by decide) (ifF rfl ?_)⟩
      refine ⟨_, rfl, "int", rfl, _, _, rfl, rfl, _, rfl, ifT (by decide) (ifF rfl ?_)⟩
      -- 0 <= before < size and 0 <= behind < size and isinstance(deed, tuple)
      have b0 := okr.b0
      have b1 := okr.b1
      have a0 := okr.a0
      have a1 := okr.a1
      refine ⟨_, rfl, _, _, rfl, rfl, _, rfl, ifT (decide_eq_true b0) ⟨_, rfl, _, _, rfl, rfl, _, rfl, ifT (decide_eq_true b1) ?_⟩⟩
      refine ⟨_, rfl, _, _, rfl, rfl, _, rfl, ifT (decide_eq_true a0) ⟨_, rfl, _, _, rfl, rfl, _, rfl, ifT (decide_eq_true a1) ?_⟩⟩
      refine ⟨_, rfl, _, _, _, .type "tuple", true, rfl, .ty _, .base (.tup ed1), kit_ty (by decide +kernel), _, rfl, ifF rfl ?_⟩
      -- last < transition; last = transition
      have next : LastOk H' rows (i + 1) (.ref ra) := by
        refine ⟨r.key, kr, (fun z => nomatch z), by rw [row_depth]; decide, fun r2 hr2 => ⟨row_alike r r2, ?_⟩⟩
        have pw : (rows.drop i).Pairwise rowLt := asc.drop
        rw [dr] at pw
        exact (List.pairwise_cons.mp pw).1 r2 hr2
      cases hd : r.deed with
      | step =>
        rw [hd] at ed1
        refine ⟨_, rfl, qd, _, rfl, .inr (SqT.of ed1), rfl, _, rfl, ifF (by decide) ?_⟩
        refine ⟨_, rfl, qd, _, rfl, .inr (SqT.of ed1), rfl, _, rfl, ifF (by decide) ?_⟩
        refine ⟨_, rfl, qd, _, 0, .str "step", rfl, rfl, SqT.of ed1, atI_nat (j := 0) rfl, rfl, _, rfl, ifF (by decide) ?_⟩
        refine ⟨_, rfl, _, rfl, pk, r.key, kl, kr, two.1, nn, dp, _, rfl, ?_⟩
        rw [two.2]
        exact ifF rfl ⟨_, rfl, s1, _, _, _, _, _, _, _, _, rfl, next⟩
      | ex b n l =>
        rw [hd] at ed1
        have okd := okr.dd
        rw [hd] at okd
        refine ⟨_, rfl, qd, _, rfl, .inr (SqT.of ed1), rfl, _, rfl, ifT (decide_eq_true rfl) ?_⟩
        refine ⟨_, rfl, qd, _, rfl, SqT.of ed1, rfl, _, _, rfl, _, _, rfl, _, _, rfl, rfl, ?_⟩
        refine ⟨_, rfl, tE, exV, rfl, .inr (Or.inr sE), rfl, rfl, _, rfl, ifF (by rw [if_pos rfl, ex_word]; rfl) ?_⟩
        refine ⟨_, rfl, l, rfl, okd.2, _, rfl, ifF rfl ?_⟩
        have rr : r ∈ rows := List.mem_of_getElem? hr'
        rcases near with rfl | ⟨l', ws, rfl, hl, inW⟩
        · refine ⟨_, rfl, rfl, _, rfl, ifT (decide_eq_true rfl) ⟨_, rfl, n, rfl, okd.1, _, rfl, ifF rfl ?_⟩⟩
          refine ⟨_, rfl, _, rfl, pk, r.key, kl, kr, two.1, nn, dp, _, rfl, ?_⟩
          rw [two.2]
          exact ifF rfl ⟨_, rfl, s1, _, _, _, _, _, _, _, _, rfl, next⟩
        · refine ⟨_, rfl, rfl, _, rfl, ifF (decide_eq_false fun z => nomatch z) ⟨_, rfl, _, rfl, l', ws.map V.str, rfl, .inl (s1.seq hl), rfl, flat_strs ws, _, rfl, ifF (by rw [if_neg (by decide), inV_strs (inW r rr b n l hd)]; rfl) ?_⟩⟩
          refine ⟨_, rfl, _, rfl, pk, r.key, kl, kr, two.1, nn, dp, _, rfl, ?_⟩
          rw [two.2]
          exact ifF rfl ⟨_, rfl, s1, _, _, _, _, _, _, _, _, rfl, next⟩
    · rintro σ' H' ⟨s1, _⟩
      exact q _ s1
end
end K03
namespace K03
open PySem PySem.Spec PyProof.Rows L2 WD NS MC GL
open C8 (pss_cut tCut)
abbrev sNearM : Stmt := topS 14
abbrev sIsM : Stmt := topS 13
abbrev sChkM : Stmt := topS 18
/-- no machine -/
inductive BadM (K : PySem.W.Frag) (H : Hp) : V → Prop
  | ty {v : V} (ty : String) (m : ty ∈ ["NoneType", "bool", "int", "str", "list", "dict"]) (t : TyX K H v (.type ty)) : BadM K H v
  | len {a : Addr} {xs : List V} (e : H a = some (.tup xs)) (n : xs.length ≠ 3) : BadM K H (.ref a)
  | size {a : Addr} {x y z : V} (e : H a = some (.tup [x, y, z])) (n : NotInt K H x ∨ ∃ i, x = .int i ∧ ¬ (1 ≤ i ∧ i ≤ 30)) : BadM K H (.ref a)
theorem BadM.same {K : PySem.W.Frag} {H H' : Hp} {v : V} (s : Same H H') (h : BadM K H v) : BadM K H' v := by
  cases h with
  | ty ty m t => exact .ty ty m (tyX_same s t)
  | len e n => exact .len (s _ _ e) n
  | size e n => exact .size (s _ _ e) (n.imp (NotInt.same s) id)
def spNearM (K : PySem.W.Frag) : Sp := fun vs H Q _ => ∃ v nr : V, vs = [v, nr] ∧ ((∃ (a : Addr) (m : MachM), v = .ref a ∧ Kz H (.ref a) m.key ∧ m.Ok ∧ NearOk K H nr m.rows ∧ ∀ H', Same H H' → Q (.bl true) H') ∨ (BadM K H v ∧ Q (.bl false) H))
def spIsM (K : PySem.W.Frag) : Sp := fun vs H Q _ => ∃ v : V, vs = [v] ∧ ((∃ (a : Addr) (m : MachM), v = .ref a ∧ Kz H (.ref a) m.key ∧ m.Ok ∧ ∀ H', Same H H' → Q (.bl true) H') ∨ (BadM K H v ∧ Q (.bl false) H))
structure TxtM (K : PySem.W.Frag) (mg : Str → Option Value) (fS fT fR fI fC cM : Addr) (dS dT dR dI dC : FuncData) : Prop where
  ms : ∃ t, mg "MAX_STATES" = some (.int 30 t)
  mt : ∃ t, mg "MAX_TRANSITIONS" = some (.int 90 t)
  S : Fun K "are_states" "are_states" sAreSt fS dS
  bS : L2.Binds K dS ["value", "size"] []
  gS : mg "are_states" = some (.ref fS)
  T : Fun K "are_transitions" "are_transitions" sAreTr fT dT
  bT : L2.Binds K dT ["value", "size", "near"] []
  gT : mg "are_transitions" = some (.ref fT)
  R : Fun K "is_machine_near" "is_machine_near" sNearM fR dR
  bR : L2.Binds K dR ["value", "near"] []
  gR : mg "is_machine_near" = some (.ref fR)
  I : Fun K "is_machine" "is_machine" sIsM fI dI
  bI : L2.Binds K dI ["value"] []
  gI : mg "is_machine" = some (.ref fI)
  C : Fun K "check_machine" "check_machine" sChkM fC dC
  bC : L2.Binds K dC ["machine"] []
  gC : mg "check_machine" = some (.ref fC)
  oc : ErrC K cM veC "ValueError.__new__"
  oi : PySem.W.findIn K (.ref cM) "__init__" = some (some (.builtin "ValueError.__init__"))
  oty : PySem.W.typeIn K (.ref cM) = some (.type "type")
  og : mg "InvalidMachine" = some (.ref cM)
abbrev nNm : List Str := ["value", "near", "size", "finals", "transitions"]
theorem scNearM : FnScope nNm ["value", "near"] (defScope sNearM) := ⟨rfl, rfl, rfl, by decide +kernel, rfl, by decide +kernel, by decide +kernel⟩
theorem scIsM : FnScope ["value"] ["value"] (defScope sIsM) := ⟨rfl, rfl, rfl, by decide +kernel, rfl, by decide +kernel, by decide +kernel⟩
theorem scChkM : FnScope ["machine"] ["machine"] (defScope sChkM) := ⟨rfl, rfl, rfl, by decide +kernel, rfl, by decide +kernel, by decide +kernel⟩
theorem tup_kitB {ty : String} (m : ty ∈ ["NoneType", "bool", "int", "str", "list", "dict"]) : kitB ty "tuple" = some false := by
  simp only [List.mem_cons, List.not_mem_nil, or_false] at m
  rcases m with rfl | rfl | rfl | rfl | rfl | rfl <;> decide +kernel
section
variable {P : Program} {w : World} {K : PySem.W.Frag} {mg : Str → Option Value} {base : Heap} {fW fF fN fS fT fR fI fC cM : Addr} {dW dF dN dS dT dR dI dC : FuncData}
theorem ok_NearM {f : Addr} {fd : FuncData} {k : Nat} (F : Fun K "is_machine_near" "is_machine_near" sNearM f fd) (T : TxtI K mg fW fF dW dF) (TN : TxtNm K mg) (TT : TxtT K mg fN dN) (M : TxtM K mg fS fT fR fI fC cM dS dT dR dI dC) : FnOk P w K mg base CX0 (k + 3) f fd ["value", "near"] (spNearM K) := by
  have GW : FnOk P w K mg base CX0 (k + 1) fW dW ["value"] (spWhole K) := ok_IsWh T.W T
  have GS : FnOk P w K mg base CX0 (k + 2) fS dS ["value", "size"] spAreSt := ok_AreSt M.S T TN
  have GT : FnOk P w K mg base CX0 (k + 2) fT dT ["value", "size", "near"] (spAreTr K) := ok_AreTr M.T T TN TT
  obtain ⟨t30, g30⟩ := M.ms
  obtain ⟨t90, g90⟩ := M.mt
  refine F.ok scNearM (fun vs H Q E h => ?_) (fun cdv A outer s H vs Q E hr h => ?_)
  · obtain ⟨v, nr, rfl, _⟩ := h
    rfl
  · obtain ⟨v, nr, rfl, h⟩ := h
    have hr1 : Room (k + 1) _ := hr.mono (by omega)
    refine ⟨_, pss_cons (ps_if (PW.pt (pw_or (pt_not (pt_val (pe_callB call_isi (by rfl) T.isi (by decide +kernel) (pa_cons (pv 0) (pa_cons (pe_bltn (by rfl) TN.tuple (by decide +kernel) (v := .ty "tuple") rfl) pa_nil)))))
            (pw_or1 (pt_cmpR op_ne (pe_callB call_len_seq (by rfl) TN.len PySem.boot_len (pa_cons (pv 0) pa_nil)) pe_int (nomark _))))) (pss_one (ps_ret pe_bl)) pss_nil)
      (pss_cons (ps_asg (pv 0) (pg_tup rfl (pgs_cons (pg_name (i := 2) scNearM.nd rfl (.inl rfl)) (pgs_cons (pg_name (i := 3) scNearM.nd rfl (.inl rfl)) (pgs_cons (pg_name (i := 4) scNearM.nd rfl (.inl rfl)) pgs_nil)))))
      (pss_one (ps_ret (pe_and (pe_call GW hr1 (by rfl) T.gW T.W.kp T.bW .nil pass0 (pa_cons (pv 2) pa_nil))
        (pe_and (pe_chain op_le op_le pe_int (pv 2) (pe_glob (v := .int 30) rfl g30 ⟨_, rfl⟩))
        (pe_and (pe_call GS hr (by rfl) M.gS M.S.kp M.bS .nil pass0 (pa_cons (pv 3) (pa_cons (pv 2) pa_nil)))
        (pe_and (pe_call GT hr (by rfl) M.gT M.T.kp M.bT .nil pass0 (pa_cons (pv 4) (pa_cons (pv 2) (pa_cons (pv 1) pa_nil))))
        (pe_one (pe_cmpR op_le (pe_callB call_len_seq (by rfl) TN.len PySem.boot_len (pa_cons (pv 4) pa_nil)) (pe_glob (v := .int 90) rfl g90 ⟨_, rfl⟩) (nomark _)))))))))), ?_⟩
    rcases h with ⟨a, m, rfl, hm, ok, near, q⟩ | ⟨bad, q⟩
    · obtain ⟨M'⟩ := mach_at hm
      refine ⟨_, rfl, _, _, _, .type "tuple", true, rfl, .ty _, .base (.tup M'.top), kit_ty (by decide +kernel), _, rfl, iteF ?_⟩
      refine ⟨_, rfl, a, _, rfl, .inr (SqT.of M'.top), rfl, _, rfl, iteF ?_⟩
      refine ⟨_, rfl, a, _, rfl, SqT.of M'.top, rfl, _, _, rfl, _, _, rfl, _, _, rfl, rfl, ?_⟩
      refine ⟨_, rfl, _, rfl, .inl ⟨_, rfl, _, rfl, iteT ?_⟩⟩
      have c0 := ok.s0
      have c1 := ok.s1
      refine ⟨_, rfl, _, _, rfl, rfl, _, rfl, ifT (decide_eq_true (show (1 : Int) ≤ m.size by omega)) ⟨_, _, rfl, rfl, _, rfl, ifT (decide_eq_true (show (m.size : Int) ≤ 30 by omega)) ?_⟩⟩
      refine ⟨_, rfl, _, rfl, M'.f, m.finals, m.size, rfl, M'.fin, ok.f2, ok.f1, _, rfl, iteT ?_⟩
      refine ⟨_, rfl, _, rfl, _, rfl, M'.t, m.rows, M'.xs, m.size, nr, rfl, M'.row, M'.all, ok.r1, ok.r2, near, fun H' s' => ⟨_, rfl, iteT ?_⟩⟩
      have lx : M'.xs.length = m.rows.length := by
        have z := kz_len M'.all
        rw [List.length_map] at z
        exact z
      have c3 := ok.r3
      have e90 : decide (((M'.xs.length : Nat) : Int) ≤ 90) = true := decide_eq_true (by omega)
      refine ⟨_, rfl, M'.t, _, rfl, .inr (SqT.of (s' _ _ M'.row)), _, _, rfl, rfl, ?_⟩
      show Q (.bl (decide (((M'.xs.length : Nat) : Int) ≤ 90))) H'
      rw [e90]
      exact q _ s'
    · cases bad with
      | ty ty mt t =>
        exact ⟨_, rfl, _, _, _, .type "tuple", false, rfl, .ty _, t, kit_ty (tup_kitB mt), _, rfl, iteT q⟩
      | @len a xs e n =>
        refine ⟨_, rfl, _, _, _, .type "tuple", true, rfl, .ty _, .base (.tup e), kit_ty (by decide +kernel), _, rfl, iteF ?_⟩
        refine ⟨_, rfl, a, _, rfl, .inr (SqT.of e), rfl, _, rfl, ?_⟩
        have e2 : (!decide (V.int ((xs.length : Nat) : Int) = V.int 3)) = true := by
          rw [decide_eq_false]
          · rfl
          · intro z
            have z2 := V.int.inj z
            omega
        rw [e2]
        exact iteT q
      | @size a x y z e n =>
        refine ⟨_, rfl, _, _, _, .type "tuple", true, rfl, .ty _, .base (.tup e), kit_ty (by decide +kernel), _, rfl, iteF ?_⟩
        refine ⟨_, rfl, a, _, rfl, .inr (SqT.of e), rfl, _, rfl, iteF ?_⟩
        refine ⟨_, rfl, a, _, rfl, SqT.of e, rfl, _, _, rfl, _, _, rfl, _, _, rfl, rfl, ?_⟩
        rcases n with n | ⟨i, rfl, n⟩
        · exact ⟨_, rfl, _, rfl, .inr ⟨n, _, rfl, iteF q⟩⟩
        · refine ⟨_, rfl, _, rfl, .inl ⟨_, rfl, _, rfl, iteT ?_⟩⟩
          refine ⟨_, rfl, _, _, rfl, rfl, _, rfl, ?_⟩
          by_cases c : (1 : Int) ≤ i
          · exact ifT (decide_eq_true c) ⟨_, _, rfl, rfl, _, rfl, ifF (decide_eq_false fun z => n ⟨c, z⟩) q⟩
          · exact ifF (decide_eq_false c) ⟨_, rfl, iteF q⟩
theorem ok_IsM {f : Addr} {fd : FuncData} {k : Nat} (F : Fun K "is_machine" "is_machine" sIsM f fd) (T : TxtI K mg fW fF dW dF) (TN : TxtNm K mg) (TT : TxtT K mg fN dN) (M : TxtM K mg fS fT fR fI fC cM dS dT dR dI dC) : FnOk P w K mg base CX0 (k + 4) f fd ["value"] (spIsM K) := by
  have GR : FnOk P w K mg base CX0 (k + 3) fR dR ["value", "near"] (spNearM K) := ok_NearM M.R T TN TT M
  refine F.ok scIsM (fun vs H Q E h => ?_) (fun cdv A outer s H vs Q E hr h => ?_)
  · obtain ⟨v, rfl, _⟩ := h
    rfl
  · obtain ⟨v, rfl, h⟩ := h
    refine ⟨_, pss_one (ps_ret (pe_call GR hr (by rfl) M.gR M.R.kp M.bR .nil pass0 (pa_cons (pv 0) (pa_cons pe_non pa_nil)))), ?_⟩
    refine ⟨_, rfl, v, .non, rfl, ?_⟩
    rcases h with ⟨a, m, rfl, hm, ok, q⟩ | ⟨bad, q⟩
    · exact .inl ⟨a, m, rfl, hm, ok, .inl rfl, q⟩
    · exact .inr ⟨bad, q⟩
theorem ok_ChkM {f : Addr} {fd : FuncData} {k : Nat} (F : Fun K "check_machine" "check_machine" sChkM f fd) (T : TxtI K mg fW fF dW dF) (TN : TxtNm K mg) (TT : TxtT K mg fN dN) (M : TxtM K mg fS fT fR fI fC cM dS dT dR dI dC) : FnOk P w K mg base (L2.CX P w) (k + 5) f fd ["machine"] (spChkM K (BadM K) cM) := by
  have GI : FnOk P w K mg base CX0 (k + 4) fI dI ["value"] (spIsM K) := ok_IsM M.I T TN TT M
  refine F.okX scChkM (fun vs H Q E h => ?_) (fun cdv A outer s H vs Q E hr h => ?_)
  · obtain ⟨v, rfl, _⟩ := h
    rfl
  · obtain ⟨v, rfl, h⟩ := h
    refine ⟨_, pss_one (ps_if (pt_not (pt_val (pe_call GI hr (by rfl) M.gI M.I.kp M.bI .nil pass0 (pa_cons (pv 0) pa_nil)))) (pss_one (ps_raise rfl (takes_of rfl rfl rfl rfl) (pmk_X rfl (pe_mkA PySem.F.excBase_ValueError M.oc M.oi (by rfl) M.og pe_str)))) pss_nil), ?_⟩
    refine ⟨_, rfl, v, rfl, ?_⟩
    rcases h with ⟨a, m, rfl, hm, ok, q⟩ | ⟨bad, q⟩
    · exact .inl ⟨a, m, rfl, hm, ok, fun H' s' => ⟨_, rfl, iteF (q _ s')⟩⟩
    · refine .inr ⟨bad, _, rfl, ifT rfl fun b t nb nt ne => ⟨b, cM, t, none, rfl, upd_same, fr0_none nb, raises_X M.oc M.oty, ?_⟩⟩
      show E (.ref cM) none (delH _ b)
      rw [delH_two nb ne]
      exact q _ (same_upd nt)
end
end K03
namespace K03
open PySem PySem.Spec PyProof.Rows L2 WD NS MC GL
open C8 (pss_cut tCut)
abbrev sSRI : Stmt := topS 21
abbrev sReached : Stmt := topS 20
/-- a state that transitions lead to -/
inductive Rch (m : MachM) : Int → Prop
  | zero : Rch m 0
  | step {r : RowM} : r ∈ m.rows → Rch m r.before → Rch m r.after
theorem Rch.bnd {m : MachM} (ok : m.Ok) {x : Int} (h : Rch m x) : 0 ≤ x ∧ x < m.size := by
  cases h with
  | zero => exact ⟨Int.le_refl 0, by have := ok.s0; omega⟩
  | step hr _ => exact ⟨(ok.r1 _ hr).a0, (ok.r1 _ hr).a1⟩
/-- the states that are reached, ascending -/
structure RchOf (m : MachM) (ys : List Int) : Prop where
  mem : ∀ x, x ∈ ys ↔ Rch m x
  asc : ys.Pairwise (· ≤ ·)
  once : ys.Nodup
theorem few_ints {n : Nat} {ks : List Int} (nd : ks.Nodup) (b : ∀ k ∈ ks, 0 ≤ k ∧ k < n) : ks.length ≤ n := by
  have z := nodup_len ks ((List.range n).map fun i : Nat => (i : Int)) nd fun x hx => by
    obtain ⟨z0, z1⟩ := b x hx
    exact List.mem_map.mpr ⟨x.toNat, List.mem_range.mpr (by omega), by show ((x.toNat : Nat) : Int) = x; omega⟩
  rwa [List.length_map, List.length_range] at z
abbrev kvT (ks : List Int) : List (Key × V) := ks.map fun k => (Sum.inl k, V.bl true)
theorem kvT_any {ks : List Int} {k : Int} : ((kvT ks).any fun kv => decide (kv.1 = Sum.inl k)) = decide (k ∈ ks) := by
  induction ks with
  | nil => rfl
  | cons a ks ih =>
    rw [kvT, List.map_cons, List.any_cons]
    rw [show (List.map (fun k => ((Sum.inl k : Key), V.bl true)) ks).any (fun kv => decide (kv.1 = Sum.inl k)) = _ from ih]
    by_cases e : a = k
    · subst e
      simp
    · have e' : ¬ k = a := fun z => e z.symm
      simp [e, e']
theorem kvT_put {ks : List Int} {k : Int} (h : k ∉ ks) : putK (kvT ks) (Sum.inl k) (V.bl true) = kvT (ks ++ [k]) := by
  rw [putK, kvT_any, decide_eq_false h]
  simp
theorem kvT_val {ks : List Int} {k : Int} : (valV (kvT ks) (Sum.inl k)).isSome = decide (k ∈ ks) := by
  induction ks with
  | nil => rfl
  | cons a ks ih =>
    by_cases e : a = k
    · subst e
      simp [valV]
    · have e' : ¬ k = a := fun z => e z.symm
      have ih' : (Option.map (fun x => x.snd) (List.find? (fun kv => decide (kv.fst = Sum.inl k)) (kvT ks))).isSome = decide (k ∈ ks) := ih
      simp only [valV, kvT, List.map_cons, List.find?_cons, Sum.inl.injEq, e, decide_false, List.mem_cons, e', false_or]
      exact ih'
structure TxtQ (mg : Str → Option Value) : Prop where
  list : mg "list" = none
  dict : mg "dict" = none
  range : mg "range" = none
abbrev nSr : List Str := ["machine", "reached", "waiting", "state", "before", "_", "behind"]
theorem scSRI : FnScope nSr ["machine"] (defScope sSRI) := ⟨rfl, rfl, rfl, by decide +kernel, rfl, by decide +kernel, by decide +kernel⟩
def spSRI : Sp := fun vs H Q _ => ∃ (a : Addr) (m : MachM), vs = [.ref a] ∧ Kz H (.ref a) m.key ∧ m.Ok ∧
  ∀ H' p (ys : List Int), Same H H' → H p = none → H' p = some (.tup (ys.map V.int)) → RchOf m ys → Q (.ref p) H'
def lenAt (H : Hp) (a : Addr) : Nat := match H a with
  | some (.dK kvs) => kvs.length
  | some (.lst xs) => xs.length
  | _ => 0
/-- what stands before a turn: the reached, the waiting -/
structure RchW (m : MachM) (H : Hp) (d l : Addr) (ks ws : List Int) : Prop where
  ed : H d = some (.dK (kvT ks))
  el : H l = some (.lst (ws.map V.int))
  nd : ks.Nodup
  rc : ∀ k ∈ ks, Rch m k
  z : 0 ∈ ks
  sub : ∀ k ∈ ws, k ∈ ks
theorem same_set {H H' : Hp} {x : Addr} {o : HO} (s : Same H H') (h : H x = none) : Same H (upd H' x o) := fun b y e => by
  rw [upd_ne (ne_of_none e h)]
  exact s _ _ e
theorem RchW.len {m : MachM} {H : Hp} {d l : Addr} {ks ws : List Int} (R : RchW m H d l ks ws) : 2 * (31 - lenAt H d) + lenAt H l = 2 * (31 - ks.length) + ws.length := by
  rw [lenAt, lenAt, R.ed, R.el]
  simp only [kvT, List.length_map]
section
variable {P : Program} {w : World} {K : PySem.W.Frag} {mg : Str → Option Value} {base : Heap}
theorem ok_SRI {f : Addr} {fd : FuncData} {k : Nat} (F : Fun K "states_reached_in" "states_reached_in" sSRI f fd) (T : TxtS mg) (TQ : TxtQ mg) : FnOk P w K mg base CX0 (k + 1) f fd ["machine"] spSRI := by
  refine F.ok scSRI (fun vs H Q E h => ?_) (fun cdv A outer s H vs Q E hr h => ?_)
  · obtain ⟨a, m, rfl, _⟩ := h
    rfl
  · obtain ⟨a, m, rfl, hm, ok, q⟩ := h
    have hu := hr.units
    have hu1 := Nat.lt_of_le_of_lt (Nat.add_le_add_left (by decide : 1 ≤ 64) _) hu
    refine ⟨_, pss_cons (ps_set (i := 1) scSRI.nd rfl (.inl rfl) (pe_disp (pps_cons pe_int pe_bl pps_nil) (by rfl) (by rfl) (fun z => by cases z) (by decide)))
      (pss_cut (ps_set (i := 2) scSRI.nd rfl (.inl rfl) (pe_lst (pa_cons pe_int pa_nil)))
      (pss_cut (ps_while PassesOwn.never (pt_truth (pv 2) (by intro _; rfl))
        (pss_cons (ps_set (i := 3) scSRI.nd rfl (.inl rfl) (pe_bm0 PySem.F.plainAttrs_list PySem.F.slot_list_pop PySem.F.type_list_pop mt_pop (pv 2)))
        (pss_one (ps_for PassesOwn.never rfl (pi_tup (pe_ix ix_tup (pv 0) pe_int (fun _ _ => rfl))) (pg_tup rfl (pgs_cons (pg_name (i := 4) scSRI.nd rfl (.inl rfl)) (pgs_cons (pg_name (i := 5) scSRI.nd rfl (.inl rfl)) (pgs_cons (pg_name (i := 6) scSRI.nd rfl (.inl rfl)) pgs_nil))))
          (pss_one (ps_if (PW.pt (pw_and (pt_cmpR op_eq (pv 4) (pv 3) (nomark _)) (pw_and1 (pt_cmp (pc_dnotin hu1 (pv 6) (pv 1))))))
            (pss_cons (ps_dput hu1 (pv 1) (pv 6) pe_bl rfl)
            (pss_one (ps_expr (pe_bm PySem.F.plainAttrs_list PySem.F.slot_list_append PySem.F.type_list_append mt_append (pv 2) (pa_cons (pv 6) pa_nil)))))
            pss_nil))))))
      (pss_one (ps_ret (pe_callTy call_tuple_of (by rfl) T.tuple (by decide +kernel) (pa_cons (pe_callB cr_sorted (by rfl) T.sorted (by decide +kernel) (pa_cons (pe_callTy (call_list_dK rfl) (by rfl) TQ.list (by decide +kernel) (pa_cons (pv 1) pa_nil)) pa_nil)) pa_nil)))))), ?_⟩
    refine fun d nd => ⟨upd_same, [(Sum.inl 0, V.bl true)], rfl, (by decide), ?_⟩
    rw [upd_upd]
    have e0 : mergeK [] [((Sum.inl 0 : Key), V.bl true)] = kvT [0] := rfl
    rw [e0]
    have sd := same_upd (o := .dK (kvT [0])) nd
    obtain ⟨M⟩ := mach_at hm
    have lx : M.xs.length = m.rows.length := by
      have z := kz_len M.all
      rw [List.length_map] at z
      exact z
    refine ⟨fun σ' H' => ∃ l, d ≠ l ∧ H l = none ∧ Same H H' ∧ σ' = [some (.ref a), some (.ref d), some (.ref l), none, none, none, none] ∧ RchW m H' d l [0] [0], ?_, ?_⟩
    · refine ⟨by show 1 ≤ sizeLine; decide, fun l nl => ?_⟩
      have sl := same_upd (o := .lst [.int 0]) nl
      refine ⟨l, (ne_of_none upd_same nl), sd.free nl, sd.trans sl, rfl, ⟨sl _ _ upd_same, upd_same, by decide, fun k hk => ?_, by decide, by decide⟩⟩
      rw [List.mem_singleton.mp hk]
      exact .zero
    rintro σ0 H0 ⟨l, ndl, nl, s0, rfl, R0⟩
    refine ⟨fun σ' H' => ∃ (ks : List Int) (u3 u4 u5 u6 : Option V), σ' = [some (.ref a), some (.ref d), some (.ref l), u3, u4, u5, u6] ∧ Same H H' ∧ RchW m H' d l ks [] ∧ ∀ r ∈ m.rows, r.before ∈ ks → r.after ∈ ks, ?_, ?_⟩
    · refine while_by (fun σ' H' => ∃ (ks ws : List Int) (u3 u4 u5 u6 : Option V), σ' = [some (.ref a), some (.ref d), some (.ref l), u3, u4, u5, u6] ∧ Same H H' ∧ RchW m H' d l ks ws ∧ (∀ r ∈ m.rows, r.before ∈ ks → r.before ∈ ws ∨ r.after ∈ ks) ∧ 2 * (31 - ks.length) + ws.length ≤ 61)
        (fun σ' H' => 2 * (31 - lenAt H' d) + lenAt H' l) ?_ ?_ ?_
      · exact ⟨[0], [0], none, none, none, none, rfl, s0, R0, fun r _ hb => .inl hb, by decide⟩
      · rintro σ1 H1 ⟨ks, ws, u3, u4, u5, u6, rfl, s1, R, cl, le61⟩
        refine ⟨_, rfl, _, .inl ⟨_, SqL.of R.el, rfl⟩, ?_⟩
        rcases List.eq_nil_or_concat ws with rfl | ⟨w0, y, rfl⟩
        · refine iteF ⟨ks, u3, u4, u5, u6, rfl, s1, R, fun r hr' hb => (cl r hr' hb).resolve_left (fun z => nomatch z)⟩
        · rw [List.concat_eq_append] at *
          rw [show (!(List.map V.int (w0 ++ [y])).isEmpty) = true by cases w0 <;> rfl]
          refine iteT ⟨_, rfl, .inl ⟨rfl, _, SqL.of R.el⟩, l, _, .int y, rfl, rfl, R.el, ?_, ?_⟩
          · rw [List.map_append, List.length_append]
            simp
          · have ew : (List.map V.int (w0 ++ [y])).dropLast = w0.map V.int := by
              rw [List.map_append]
              exact List.dropLast_concat
            rw [ew]
            have y1 : y ∈ ks := R.sub _ (List.mem_append_right _ List.mem_cons_self)
            have R1 : RchW m (upd H1 l (.lst (w0.map V.int))) d l ks w0 := ⟨by rw [upd_ne ndl]; exact R.ed, upd_same, R.nd, R.rc, R.z, fun k hk => R.sub k (List.mem_append_left _ hk)⟩
            have s2 : Same H (upd H1 l (.lst (w0.map V.int))) := same_set s1 nl
            have lenR := R.len
            rw [List.length_append] at lenR
            refine ⟨_, rfl, a, _, 2, .ref M.t, rfl, rfl, SqT.of (s2 _ _ M.top), atI_nat (j := 2) rfl, M.t, rfl, ⟨_, SqT.of (s2 _ _ M.row)⟩, for_tup (xs := M.xs) (fun i σ' H' => ∃ (ks' ws' : List Int) (u4 u5 u6 : Option V), σ' = [some (.ref a), some (.ref d), some (.ref l), some (.int y), u4, u5, u6] ∧ Same H H' ∧ RchW m H' d l ks' ws' ∧ y ∈ ks' ∧
              (∀ r ∈ m.rows, r.before ∈ ks' → r.before ∈ ws' ∨ r.after ∈ ks' ∨ (r.before = y ∧ r ∈ m.rows.drop i)) ∧ 2 * (31 - ks'.length) + ws'.length < 2 * (31 - lenAt H1 d) + lenAt H1 l) ?_ ?_ ?_ ?_⟩
            · refine ⟨ks, w0, u4, u5, u6, rfl, s2, R1, y1, fun r hr' hb => ?_, by rw [lenR]; simp⟩
              rcases cl r hr' hb with z | z
              · rcases List.mem_append.mp z with z | z
                · exact .inl z
                · exact .inr (.inr ⟨List.mem_singleton.mp z, hr'⟩)
              · exact .inr (.inl z)
            · rintro i σ' H' _ ⟨_, _, _, _, _, _, s3, _⟩
              exact SqT.of (s3 _ _ M.row)
            · rintro i x σ' H' hx ⟨ks', ws', v4, v5, v6, rfl, s3, R3, y3, cl3, mu⟩
              obtain ⟨r, hr', ra, dv, rfl, er, kd⟩ := row_at M.all hx
              have il : i < m.rows.length := (List.getElem?_eq_some_iff.mp hr').1
              have er' : m.rows[i] = r := (List.getElem?_eq_some_iff.mp hr').2
              have dr : m.rows.drop i = r :: m.rows.drop (i + 1) := by rw [List.drop_eq_getElem_cons il, er']
              have mr : r ∈ m.rows := List.mem_of_getElem? hr'
              refine ⟨ra, _, rfl, SqT.of (s3 _ _ er), rfl, _, _, rfl, _, _, rfl, _, _, rfl, rfl, ?_⟩
              have keep : r.before ≠ y ∨ r.after ∈ ks' → ∀ r' ∈ m.rows, r'.before ∈ ks' → r'.before ∈ ws' ∨ r'.after ∈ ks' ∨ (r'.before = y ∧ r' ∈ m.rows.drop (i + 1)) := fun c r2 hr2 hb2 => by
                rcases cl3 r2 hr2 hb2 with z | z | ⟨z, z'⟩
                · exact .inl z
                · exact .inr (.inl z)
                · rw [dr] at z'
                  rcases List.mem_cons.mp z' with rfl | z'
                  · exact .inr (.inl (c.resolve_left (fun n => n z)))
                  · exact .inr (.inr ⟨z, z'⟩)
              refine ⟨_, rfl, _, rfl, rfl, _, rfl, ifB (fun hb => ?_) fun hb => ?_⟩
              · have eb : r.before = y := by simpa using hb
                refine ⟨_, rfl, _, rfl, d, _, rfl, DGet.k (k := Sum.inl r.after) R3.ed, _, rfl, ?_⟩
                rw [kvT_val]
                by_cases hk : r.after ∈ ks'
                · rw [decide_eq_true hk]
                  exact iteF ⟨ks', ws', _, _, _, rfl, s3, R3, y3, keep (.inr hk), mu⟩
                · rw [decide_eq_false hk]
                  have rch : Rch m r.after := .step mr (by rw [eb]; exact R3.rc _ y3)
                  have nd4 : (ks' ++ [r.after]).Nodup := by
                    rw [List.nodup_append]
                    refine ⟨R3.nd, by simp, fun x hx z hz => ?_⟩
                    rw [List.mem_singleton.mp hz]
                    exact fun e => hk (e ▸ hx)
                  have rc4 : ∀ k ∈ ks' ++ [r.after], Rch m k := fun k hk => by
                    rcases List.mem_append.mp hk with z | z
                    · exact R3.rc k z
                    · rw [List.mem_singleton.mp z]
                      exact rch
                  have few : (ks' ++ [r.after]).length ≤ 30 := Nat.le_trans (few_ints nd4 fun k hk => (rc4 k hk).bnd ok) ok.s1
                  rw [List.length_append] at few
                  have few' : ks'.length + 1 ≤ 30 := few
                  refine iteT ⟨_, rfl, _, rfl, d, _, rfl, DPut.k (k := Sum.inl r.after) R3.ed ?_, ?_⟩
                  · rw [kvT, List.length_map, sizeLine_eq]
                    omega
                  rw [kvT_put hk]
                  have el4 : upd H' d (.dK (kvT (ks' ++ [r.after]))) l = some (.lst (ws'.map V.int)) := by
                    rw [upd_ne ndl.symm]
                    exact R3.el
                  have lw := R3.len
                  have mu' := mu
                  rw [lenR] at mu'
                  rw [List.length_append] at le61
                  have w0l : ks.length ≤ 30 := Nat.le_trans (few_ints R.nd fun k hk => (R.rc k hk).bnd ok) ok.s1
                  refine ⟨_, rfl, .inl ⟨rfl, _, SqL.of el4⟩, _, rfl, l, _, .int r.after, rfl, rfl, el4, ?_, ?_⟩
                  · rw [List.length_map, sizeLine_eq]
                    omega
                  · refine ⟨ks' ++ [r.after], ws' ++ [r.after], _, _, _, rfl, same_set (same_set s3 nd) nl, ⟨by rw [upd_ne ndl]; exact upd_same, by rw [upd_same, List.map_append]; rfl, nd4, rc4, List.mem_append_left _ R3.z, fun k hk => ?_⟩, List.mem_append_left _ y3, fun r2 hr2 hb2 => ?_, ?_⟩
                    · rcases List.mem_append.mp hk with z | z
                      · exact List.mem_append_left _ (R3.sub k z)
                      · exact List.mem_append_right _ z
                    · rcases List.mem_append.mp hb2 with z | z
                      · by_cases e : r2.after = r.after
                        · exact .inr (.inl (List.mem_append_right _ (List.mem_singleton.mpr e)))
                        · rcases cl3 r2 hr2 z with z | z | ⟨z, z'⟩
                          · exact .inl (List.mem_append_left _ z)
                          · exact .inr (.inl (List.mem_append_left _ z))
                          · rw [dr] at z'
                            rcases List.mem_cons.mp z' with rfl | z'
                            · exact absurd rfl e
                            · exact .inr (.inr ⟨z, z'⟩)
                      · exact .inl (List.mem_append_right _ z)
                    · rw [List.length_append, List.length_append]
                      show 2 * (31 - (ks'.length + 1)) + (ws'.length + 1) < _
                      omega
              · have nb : r.before ≠ y := by simpa using hb
                exact iteF ⟨ks', ws', _, _, _, rfl, s3, R3, y3, keep (.inl nb), mu⟩
            · rintro σ' H' ⟨ks', ws', v4, v5, v6, rfl, s3, R3, y3, cl3, mu⟩
              refine ⟨⟨ks', ws', _, v4, v5, v6, rfl, s3, R3, fun r hr' hb => ?_, by rw [lenR] at mu; rw [List.length_append] at le61; omega⟩, by rw [R3.len]; exact mu⟩
              rw [lx, List.drop_length] at cl3
              rcases cl3 r hr' hb with z | z | z
              · exact .inl z
              · exact .inr z
              · exact nomatch z.2
      · rintro σ1 H1 Q Q' hQ ⟨x, e, k, tk, z⟩
        exact ⟨x, e, k, tk, hQ _ _ z⟩
    · rintro σ1 H1 ⟨ks, u3, u4, u5, u6, rfl, s1, R, cl⟩
      have few : ks.length ≤ 30 := Nat.le_trans (few_ints R.nd fun k hk => (R.rc k hk).bnd ok) ok.s1
      refine ⟨_, rfl, d, kvT ks, rfl, R.ed, fun p3 n3 => ?_⟩
      have e3 : (kvT ks).map (fun kv => kV kv.1) = ks.map V.int := by rw [kvT, List.map_map]; rfl
      rw [e3]
      have s3 := same_upd (o := .lst (ks.map V.int)) n3
      refine ⟨p3, ks, rfl, SqL.of upd_same, by omega, fun ys p4 pm asc n4 => ?_⟩
      have s4 := same_upd (o := .lst (ys.map V.int)) n4
      refine ⟨p4, _, rfl, .inl ⟨SqL.of upd_same, fun p5 n5 => ?_⟩⟩
      have s5 := same_upd (o := .tup (ys.map V.int)) n5
      have ss := s1.trans (s3.trans s4)
      refine q _ p5 ys (ss.trans s5) (ss.free n5) upd_same ⟨fun x => pm.mem_iff.trans ⟨R.rc x, fun h => ?_⟩, asc, pm.nodup_iff.mpr R.nd⟩
      induction h with
      | zero => exact R.z
      | step hr' _ ih => exact cl _ hr' ih
end
end K03
namespace K03
open PySem PySem.Spec PyProof.Rows L2 WD NS MC GL
open C8 (pss_cut tCut)
abbrev sAll : Stmt := topS 36
abbrev nAl : List Str := ["_law_machine", "_law_found", "_law_turn", "_law_more", "_law_state", "_law_deed", "_law_later"]
theorem scAll : FnScope nAl ["_law_machine"] (defScope sAll) := ⟨rfl, rfl, rfl, by decide +kernel, rfl, by decide +kernel, by decide +kernel⟩
theorem scReached : FnScope ["machine"] ["machine"] (defScope sReached) := ⟨rfl, rfl, rfl, by decide +kernel, rfl, by decide +kernel, by decide +kernel⟩
def spAll : Sp := fun vs H Q _ => ∃ (a : Addr) (m : MachM), vs = [.ref a] ∧ Kz H (.ref a) m.key ∧ m.Ok ∧ m.rows.length ≤ 30 ∧
  ∀ H' p (ys : List Int), Same H H' → H p = none → H' p = some (.tup (ys.map V.int)) → RchOf m ys → Q (.ref p) H'
def moreOf (fs : List Int) (rs : List RowM) : List Int := (rs.filter fun r => decide (r.before ∈ fs)).map (·.after)
theorem more_next {fs : List Int} {rs : List RowM} {i : Nat} {r : RowM} (h : rs[i]? = some r) : moreOf fs (rs.take (i + 1)) = moreOf fs (rs.take i) ++ (if r.before ∈ fs then [r.after] else []) := by
  rw [moreOf, List.take_succ, h, Option.toList_some, List.filter_append, List.map_append, ← moreOf]
  by_cases e : r.before ∈ fs
  · rw [if_pos e, List.filter_cons_of_pos (by simpa using e)]
    rfl
  · rw [if_neg e, List.filter_cons_of_neg (by simpa using e)]
    rfl
theorem more_len {fs : List Int} {rs : List RowM} : (moreOf fs rs).length ≤ rs.length := by
  rw [moreOf, List.length_map]
  exact List.length_filter_le _ _
theorem inV_ints {n : Int} {ws : List Int} : inV (.int n) (ws.map V.int) = decide (n ∈ ws) := by
  induction ws with
  | nil => rfl
  | cons a ws ih =>
    rw [List.map_cons, inV, List.any_cons]
    rw [show (List.map V.int ws).any (fun y => eqV y (.int n)) = _ from ih]
    by_cases e : a = n
    · subst e
      simp [eqV]
    · have e' : ¬ n = a := fun z => e z.symm
      simp [eqV, e, e']
theorem flat_ints {ws : List Int} : (ws.map V.int).all flatV = true := by
  rw [List.all_map]
  exact List.all_eq_true.mpr fun _ _ => rfl
/-- what the law's own search has behind i rounds -/
structure Found (m : MachM) (i : Nat) (fs : List Int) : Prop where
  rc : ∀ k ∈ fs, Rch m k
  z : 0 ∈ fs
  asc : fs.Pairwise (· < ·)
  go : (∀ r ∈ m.rows, r.before ∈ fs → r.after ∈ fs) ∨ i + 1 ≤ fs.length
theorem lt_nodup {fs : List Int} (h : fs.Pairwise (· < ·)) : fs.Nodup := h.imp fun l e => by omega
theorem Found.few {m : MachM} {i : Nat} {fs : List Int} (ok : m.Ok) (F : Found m i fs) : fs.length ≤ m.size := few_ints (lt_nodup F.asc) fun k hk => (F.rc k hk).bnd ok
theorem Found.next {m : MachM} {i : Nat} {fs ns : List Int} (F : Found m i fs) (pw : ns.Pairwise (· < ·)) (mem : ∀ k, k ∈ ns ↔ k ∈ fs ++ moreOf fs m.rows) : Found m (i + 1) ns := by
  have sub : ∀ k ∈ fs, k ∈ ns := fun k hk => (mem k).mpr (List.mem_append_left _ hk)
  have inM : ∀ k, k ∈ moreOf fs m.rows ↔ ∃ r ∈ m.rows, r.before ∈ fs ∧ r.after = k := fun k => by
    simp [moreOf, and_assoc]
  refine ⟨fun k hk => ?_, sub 0 F.z, pw, ?_⟩
  · rcases List.mem_append.mp ((mem k).mp hk) with z | z
    · exact F.rc k z
    · obtain ⟨r, hr, hb, rfl⟩ := (inM k).mp z
      exact .step hr (F.rc _ hb)
  · by_cases c : ∀ r ∈ m.rows, r.before ∈ fs → r.after ∈ fs
    · refine .inl fun r hr hb => ?_
      have back : ∀ k ∈ ns, k ∈ fs := fun k hk => by
        rcases List.mem_append.mp ((mem k).mp hk) with z | z
        · exact z
        · obtain ⟨r, hr, hb, rfl⟩ := (inM k).mp z
          exact c r hr hb
      exact sub _ (c r hr (back _ hb))
    · refine .inr ?_
      have g := F.go.resolve_left c
      have ⟨r, hr⟩ := Classical.not_forall.mp c
      have ⟨mr, hr⟩ := Classical.not_imp.mp hr
      have ⟨hb, na⟩ := Classical.not_imp.mp hr
      have nd : (r.after :: fs).Nodup := List.nodup_cons.mpr ⟨na, lt_nodup F.asc⟩
      have z := nodup_len (r.after :: fs) ns nd fun x hx => by
        rcases List.mem_cons.mp hx with rfl | hx
        · exact (mem _).mpr (List.mem_append_right _ ((inM _).mpr ⟨r, mr, hb, rfl⟩))
        · exact sub x hx
      rw [List.length_cons] at z
      omega
section
variable {P : Program} {w : World} {K : PySem.W.Frag} {mg : Str → Option Value} {base : Heap}
theorem ok_All {f : Addr} {fd : FuncData} {k : Nat} (F : Fun K "_law_all" "_law_all" sAll f fd) (T : TxtS mg) (TQ : TxtQ mg) : FnOk P w K mg base CX0 (k + 1) f fd ["_law_machine"] spAll := by
  refine F.ok scAll (fun vs H Q E h => ?_) (fun cdv A outer s H vs Q E hr h => ?_)
  · obtain ⟨a, m, rfl, _⟩ := h
    rfl
  · obtain ⟨a, m, rfl, hm, ok, r30, q⟩ := h
    have hu := hr.units
    refine ⟨_, pss_cut (ps_set (i := 1) scAll.nd rfl (.inr rfl) (pe_lst (pa_cons pe_int pa_nil)))
      (pss_cut (ps_for PassesOwn.never rfl (pi_range1 rfl TQ.range (pa_cons (pe_ix ix_tup (pv 0) pe_int (fun _ _ => rfl)) pa_nil)) (pg_name (i := 2) scAll.nd rfl (.inl rfl))
        (pss_cut (ps_setLc (i := 3) (own := [("_law_state", 4), ("_law_deed", 5), ("_law_later", 6)]) (g := gTup K 3 (gCons (gName 4) (gCons (gName 5) (gCons (gName 6) gNil)))) (tt := tTest (tOp (rIn K false) (tVar 4) (tVar 1))) (te := tVar 6) rfl scAll.nd rfl rfl (sw_true rfl rfl rfl (by decide +kernel))
          (pi_tup (pe_ix ix_tup (pv 0) pe_int (fun _ _ => rfl))) (blkOk_by (own := [("_law_state", 4), ("_law_deed", 5), ("_law_later", 6)]) (N := nAl) (sc := defScope sAll) (by decide +kernel))
          (fun _ _ _ _ _ => pg_tup rfl (pgs_cons (pg_name (i := 4) scAll.nd rfl (.inl rfl)) (pgs_cons (pg_name (i := 5) scAll.nd rfl (.inl rfl)) (pgs_cons (pg_name (i := 6) scAll.nd rfl (.inl rfl)) pgs_nil))))
          (fun _ _ _ _ _ => pts_one (pt_cmpR (show OpR _ (compareOp .In) (rIn K false) from op_in_seq) (pv 4) (pv 1) (by rfl)))
          (fun _ _ _ _ _ => pv 6))
        (pss_one (ps_set (i := 1) scAll.nd rfl (.inr rfl) (pe_callB (cr_sortedSet rfl) (by rfl) T.sorted (by decide +kernel) (pa_cons (pe_callTy (cr_setI rfl) (by rfl) T.set (by decide +kernel) (pa_cons (pe_op op_cat (pv 1) (pv 3)) pa_nil)) pa_nil))))))
      (pss_one (ps_ret (pe_callTy call_tuple_of (by rfl) T.tuple (by decide +kernel) (pa_cons (pv 1) pa_nil))))), ?_⟩
    obtain ⟨M⟩ := mach_at hm
    have lx : M.xs.length = m.rows.length := by
      have z := kz_len M.all
      rw [List.length_map] at z
      exact z
    refine ⟨fun σ' H' => ∃ l, Same H H' ∧ H l = none ∧ H' l = some (.lst [.int 0]) ∧ σ' = [some (.ref a), some (.ref l), none, none, none, none, none], ?_, ?_⟩
    · refine ⟨by show 1 ≤ sizeLine; decide, fun l nl => ?_⟩
      exact ⟨l, same_upd nl, nl, upd_same, rfl⟩
    rintro σ0 H0 ⟨l, s0, nl, e0, rfl⟩
    refine ⟨fun σ' H' => ∃ (l : Addr) (fs : List Int) (u2 u3 u4 u5 u6 : Option V), σ' = [some (.ref a), some (.ref l), u2, u3, u4, u5, u6] ∧ Same H H' ∧ H l = none ∧ H' l = some (.lst (fs.map V.int)) ∧ Found m m.size fs, ?_, ?_⟩
    · refine ⟨_, rfl, a, _, 0, .int m.size, rfl, rfl, SqT.of (s0 _ _ M.top), atI_nat (j := 0) rfl, m.size, rfl, by omega, by have := ok.s1; omega, ?_⟩
      rw [Int.toNat_natCast]
      refine for_range (lo := 0) (n := m.size) (fun i σ' H' => ∃ (l : Addr) (fs : List Int) (u2 u3 u4 u5 u6 : Option V), σ' = [some (.ref a), some (.ref l), u2, u3, u4, u5, u6] ∧ Same H H' ∧ H l = none ∧ H' l = some (.lst (fs.map V.int)) ∧ Found m i fs) ?_ ?_ ?_
      · exact ⟨l, [0], none, none, none, none, none, rfl, s0, nl, e0, ⟨fun k hk => by rw [List.mem_singleton.mp hk]; exact .zero, by decide, by decide, .inr (by decide)⟩⟩
      · rintro i σ1 H1 hi ⟨l1, fs, u2, u3, u4, u5, u6, rfl, s1, nl1, el1, Fd⟩
        have fl : fs.length ≤ 30 := Nat.le_trans (Fd.few ok) ok.s1
        refine ⟨fun σ' H' => ∃ (D : Addr) (u4 u5 u6 : Option V), σ' = [some (.ref a), some (.ref l1), some (.int (0 + i)), some (.ref D), u4, u5, u6] ∧ Same H1 H' ∧ H' D = some (.lst ((moreOf fs m.rows).map V.int)), ?_, ?_⟩
        · refine ⟨_, rfl, a, _, 2, .ref M.t, rfl, rfl, SqT.of (s1 _ _ M.top), atI_nat (j := 2) rfl, M.t, rfl, ⟨_, SqT.of (s1 _ _ M.row)⟩, fun D nD => ?_⟩
          have sD := same_upd (o := .lst []) nD
          refine lc_tup (xs := M.xs) (fun i H' => Same H1 H' ∧ H' D = some (.lst ((moreOf fs (m.rows.take i)).map V.int))) ⟨sD, upd_same⟩ (fun i H' _ z => SqT.of (z.1 _ _ (s1 _ _ M.row))) ?_ ?_
          · rintro j v H2 hv ⟨s2, e2⟩
            obtain ⟨r, hr', ra, dv, rfl, er, kd⟩ := row_at M.all hv
            have nx := more_next (fs := fs) hr'
            have il : j < m.rows.length := (List.getElem?_eq_some_iff.mp hr').1
            refine ⟨ra, _, rfl, SqT.of (s2 _ _ (s1 _ _ er)), rfl, _, _, rfl, _, _, rfl, _, _, rfl, rfl, rfl, ?_⟩
            refine ⟨_, rfl, _, rfl, l1, _, rfl, .inl (SqL.of (s2 _ _ el1)), rfl, flat_ints, _, rfl, ?_⟩
            rw [show (if false = true then !inV (V.int r.before) (fs.map V.int) else inV (V.int r.before) (fs.map V.int)) = decide (r.before ∈ fs) from inV_ints]
            refine ifB (fun hb => ?_) fun hb => ?_
            · have eb : r.before ∈ fs := of_decide_eq_true hb
              refine ⟨_, rfl, _, e2, ?_, fun b' o' eb' => ?_, ?_⟩
              · have z := more_len (fs := fs) (rs := m.rows.take j)
                rw [List.length_take] at z
                rw [List.length_map, sizeLine_eq]
                omega
              · rw [upd_ne (ne_of_none eb' nD)]
                exact s2 _ _ eb'
              · rw [upd_same, nx, if_pos eb, List.map_append]
                rfl
            · have nb : ¬ r.before ∈ fs := of_decide_eq_false hb
              refine ⟨s2, ?_⟩
              rw [e2, nx, if_neg nb, List.append_nil]
          · rintro H2 ⟨s2, e2⟩
            rw [lx, List.take_length] at e2
            exact ⟨D, _, _, _, rfl, s2, e2⟩
        · rintro σ2 H2 ⟨D, v4, v5, v6, rfl, s2, e2⟩
          have ml := more_len (fs := fs) (rs := m.rows)
          refine ⟨_, rfl, _, rfl, l1, D, _, _, rfl, rfl, s2 _ _ el1, e2, ?_, fun p3 n3 => ?_⟩
          · rw [List.length_map, List.length_map, sizeLine_eq]
            omega
          rw [← List.map_append]
          have s3 := same_upd (o := .lst ((fs ++ moreOf fs m.rows).map V.int)) n3
          refine ⟨p3, fs ++ moreOf fs m.rows, rfl, SqL.of upd_same, by rw [List.length_append]; omega, fun a4 c4 n4 h4 => ?_⟩
          have s4 := same_upd (o := L2.SetO w a4 (fun j => decide (j ∈ fs ++ moreOf fs m.rows)) c4) n4
          rw [List.length_append] at h4
          refine ⟨a4, _, c4, rfl, upd_same, by omega, fun ns p5 pw mem len n5 => ?_⟩
          have s5 := same_upd (o := .lst (ns.map V.int)) n5
          have ss := s1.trans (s2.trans (s3.trans s4))
          exact ⟨p5, ns, _, _, _, _, _, rfl, ss.trans s5, ss.free n5, upd_same, Fd.next pw fun k => (mem k).trans ⟨of_decide_eq_true, fun z => decide_eq_true z⟩⟩
      · rintro σ1 H1 ⟨l1, fs, u2, u3, u4, u5, u6, rfl, s1, nl1, el1, Fd⟩
        exact ⟨l1, fs, _, _, _, _, _, rfl, s1, nl1, el1, Fd⟩
    · rintro σ1 H1 ⟨l1, fs, u2, u3, u4, u5, u6, rfl, s1, nl1, el1, Fd⟩
      refine ⟨_, rfl, l1, _, rfl, .inl ⟨SqL.of el1, fun p np => ?_⟩⟩
      have sp := same_upd (o := .tup (fs.map V.int)) np
      have cl := Fd.go.resolve_right (fun z => by have := Fd.few ok; omega)
      refine q _ p fs (s1.trans sp) (s1.free np) upd_same ⟨fun x => ⟨Fd.rc x, fun h => ?_⟩, Fd.asc.imp fun l => Int.le_of_lt l, lt_nodup Fd.asc⟩
      induction h with
      | zero => exact Fd.z
      | step hr' _ ih => exact cl _ hr' ih
end
end K03
/-! The machine of the reached states alone, renumbered. -/
namespace K03
open PySem PySem.Spec PyProof.Rows L2 WD NS MC GL
abbrev lexI := PyProof.Rows.lexLt itemOrd
theorem lex_same {p : Int ⊕ List Nat} {l m : List (Int ⊕ List Nat)} : lexI (p :: l) (p :: m) = lexI l m := by
  show (itemOrd.blt p p || !itemOrd.blt p p && lexI l m) = _
  rw [itemOrd.irrefl p]
  rfl
theorem lex_int {a b : Int} {l m : List (Int ⊕ List Nat)} : lexI (.inl a :: l) (.inl b :: m) = (decide (a < b) || (decide (a = b) && lexI l m)) := by
  show (decide (a < b) || !decide (b < a) && lexI l m) = _
  by_cases h : a < b
  · rw [decide_eq_true h]
    rfl
  · by_cases e : a = b
    · subst e
      simp
    · have g : b < a := by omega
      rw [decide_eq_false h, decide_eq_true g, decide_eq_false e]
      rfl
def dToks (d : Deed) : List (Int ⊕ List Nat) := PySem.W.keyToks d.key.data
theorem dToks_step : dToks .step = [.inl 1, .inr ("step" : Str).cps.toList, .inl 0] := rfl
theorem dToks_ex {b : Bool} {n l : Str} : dToks (.ex b n l) = [.inl 1, .inr (wordOf b).cps.toList, .inl 1, .inr n.cps.toList, .inl 1, .inr l.cps.toList, .inl 0] := rfl
theorem rToks (r : RowM) : PySem.W.keyToks r.key.data = .inl 1 :: .inl r.before :: .inl 1 :: (dToks r.deed ++ [.inl 1, .inl r.after, .inl 0]) := by
  show PySem.W.keyToks (.tuple [.int r.before, r.deed.key.data, .int r.after]) = _
  rw [PySem.W.keyToks, PySem.W.keyToksAll, PySem.W.keyToks, PySem.W.keyToksAll, PySem.W.keyToksAll, PySem.W.keyToks, PySem.W.keyToksAll]
  rfl
/-- deeds are compared without what stands behind, unless they are the same -/
theorem lex_deed (d e : Deed) : d = e ∨ ∃ v, ∀ X Y : List (Int ⊕ List Nat), lexI (dToks d ++ X) (dToks e ++ Y) = v := by
  have two : ∀ (p q : Int ⊕ List Nat) (u v : List (Int ⊕ List Nat)), p ≠ q → ∃ w, ∀ X Y, lexI (p :: (u ++ X)) (q :: (v ++ Y)) = w := fun p q u v n => ⟨_, fun X Y => PySem.W.lex_atom n _ _⟩
  have str : ∀ {x y : Str}, x ≠ y → (.inr x.cps.toList : Int ⊕ List Nat) ≠ .inr y.cps.toList := fun n e => n (by
    injection e with e
    exact by
      rename_i x y
      cases x; cases y
      congr
      exact Array.toList_inj.mp e)
  cases d with
  | step =>
    cases e with
    | step => exact .inl rfl
    | ex b n l =>
      refine .inr ?_
      obtain ⟨w, h⟩ := two (.inr ("step" : Str).cps.toList) (.inr (wordOf b).cps.toList) [.inl 0] [.inl 1, .inr n.cps.toList, .inl 1, .inr l.cps.toList, .inl 0] (str (by cases b <;> decide +kernel))
      refine ⟨w, fun X Y => ?_⟩
      rw [dToks_step, dToks_ex]
      show lexI (_ :: _) (_ :: _) = _
      rw [lex_same]
      exact h X Y
  | ex b n l =>
    cases e with
    | step =>
      refine .inr ?_
      obtain ⟨w, h⟩ := two (.inr (wordOf b).cps.toList) (.inr ("step" : Str).cps.toList) [.inl 1, .inr n.cps.toList, .inl 1, .inr l.cps.toList, .inl 0] [.inl 0] (str (by cases b <;> decide +kernel))
      refine ⟨w, fun X Y => ?_⟩
      rw [dToks_step, dToks_ex]
      show lexI (_ :: _) (_ :: _) = _
      rw [lex_same]
      exact h X Y
    | ex b' n' l' =>
      by_cases eb : b = b'
      · subst eb
        by_cases en : n = n'
        · subst en
          by_cases el : l = l'
          · subst el
            exact .inl rfl
          · refine .inr ?_
            obtain ⟨w, h⟩ := two (.inr l.cps.toList) (.inr l'.cps.toList) [.inl 0] [.inl 0] (str el)
            refine ⟨w, fun X Y => ?_⟩
            rw [dToks_ex, dToks_ex]
            show lexI (_ :: _) (_ :: _) = _
            rw [lex_same]
            show lexI (_ :: _) (_ :: _) = _
            rw [lex_same]
            show lexI (_ :: _) (_ :: _) = _
            rw [lex_same]
            show lexI (_ :: _) (_ :: _) = _
            rw [lex_same]
            show lexI (_ :: _) (_ :: _) = _
            rw [lex_same]
            exact h X Y
        · refine .inr ?_
          obtain ⟨w, h⟩ := two (.inr n.cps.toList) (.inr n'.cps.toList) [.inl 1, .inr l.cps.toList, .inl 0] [.inl 1, .inr l'.cps.toList, .inl 0] (str en)
          refine ⟨w, fun X Y => ?_⟩
          rw [dToks_ex, dToks_ex]
          show lexI (_ :: _) (_ :: _) = _
          rw [lex_same]
          show lexI (_ :: _) (_ :: _) = _
          rw [lex_same]
          show lexI (_ :: _) (_ :: _) = _
          rw [lex_same]
          exact h X Y
      · refine .inr ?_
        obtain ⟨w, h⟩ := two (.inr (wordOf b).cps.toList) (.inr (wordOf b').cps.toList) [.inl 1, .inr n.cps.toList, .inl 1, .inr l.cps.toList, .inl 0] [.inl 1, .inr n'.cps.toList, .inl 1, .inr l'.cps.toList, .inl 0] (str fun z => eb (word_inj z))
        refine ⟨w, fun X Y => ?_⟩
        rw [dToks_ex, dToks_ex]
        show lexI (_ :: _) (_ :: _) = _
        rw [lex_same]
        exact h X Y
theorem rowLt_def {r s : RowM} : PySem.W.dataLt r.key.data s.key.data = (decide (r.before < s.before) || (decide (r.before = s.before) && lexI (dToks r.deed ++ [.inl 1, .inl r.after, .inl 0]) (dToks s.deed ++ [.inl 1, .inl s.after, .inl 0]))) := by
  show lexI _ _ = _
  rw [rToks, rToks, lex_same, lex_int, lex_same]
theorem lex_pre {D : List (Int ⊕ List Nat)} {X Y : List (Int ⊕ List Nat)} : lexI (D ++ X) (D ++ Y) = lexI X Y := by
  induction D with
  | nil => rfl
  | cons p D ih => exact lex_same.trans ih
theorem lex_tail {a b : Int} : lexI [.inl 1, .inl a, .inl 0] [.inl 1, .inl b, .inl 0] = decide (a < b) := by
  rw [lex_same, lex_int, lex_same]
  show (decide (a < b) || (decide (a = b) && false)) = _
  simp
/-- renumbering that keeps the order keeps the rows' order -/
theorem rowLt_map {g : Int → Int} {r s : RowM} (mono : ∀ x y, x < y → (x = r.before ∧ y = s.before ∨ x = r.after ∧ y = s.after) → g x < g y) (h : rowLt r s) : rowLt ⟨g r.before, r.deed, g r.after⟩ ⟨g s.before, s.deed, g s.after⟩ := by
  have h' := rowLt_def.symm.trans h
  refine rowLt_def.trans ?_
  show (decide (g r.before < g s.before) || (decide (g r.before = g s.before) && lexI (dToks r.deed ++ [.inl 1, .inl (g r.after), .inl 0]) (dToks s.deed ++ [.inl 1, .inl (g s.after), .inl 0]))) = true
  by_cases l : r.before < s.before
  · rw [decide_eq_true (mono _ _ l (.inl ⟨rfl, rfl⟩))]
    rfl
  · rw [decide_eq_false l, Bool.false_or] at h'
    by_cases e : r.before = s.before
    · rw [decide_eq_true e, Bool.true_and] at h'
      rw [e, decide_eq_true rfl, Bool.true_and]
      rcases lex_deed r.deed s.deed with z | ⟨v, z⟩
      · rw [z, lex_pre, lex_tail] at h'
        rw [z, lex_pre, lex_tail, decide_eq_true (mono _ _ (of_decide_eq_true h') (.inr ⟨rfl, rfl⟩)), Bool.or_true]
      · rw [z] at h'
        rw [z, h', Bool.or_true]
    · rw [decide_eq_false e, Bool.false_and] at h'
      exact nomatch h'
/-- the place of x -/
def numOf (ys : List Int) (x : Int) : Int := (ys.idxOf x : Nat)
theorem idx_ne {a x : Int} {ys : List Int} (h : a ≠ x) : (a :: ys).idxOf x = ys.idxOf x + 1 := by
  rw [List.idxOf_cons, show (a == x) = false from beq_false_of_ne h]
  rfl
theorem num_lt {ys : List Int} (asc : ys.Pairwise (· < ·)) {x y : Int} (hx : x ∈ ys) (hy : y ∈ ys) (l : x < y) : numOf ys x < numOf ys y := by
  induction ys with
  | nil => exact nomatch hx
  | cons a ys ih =>
    have p := List.pairwise_cons.mp asc
    unfold numOf
    rcases List.mem_cons.mp hy with e | hy'
    · subst e
      rcases List.mem_cons.mp hx with e | hx'
      · omega
      · have := p.1 x hx'
        omega
    · have ay : a ≠ y := fun e => by
        have := p.1 y hy'
        omega
      rw [idx_ne ay]
      rcases List.mem_cons.mp hx with e | hx'
      · subst e
        rw [List.idxOf_cons_self]
        omega
      · have ax : a ≠ x := fun e => by
          have := p.1 x hx'
          omega
        rw [idx_ne ax]
        have := ih p.2 hx' hy'
        unfold numOf at this
        omega
theorem num_bnd {ys : List Int} {x : Int} (hx : x ∈ ys) : 0 ≤ numOf ys x ∧ numOf ys x < ys.length := by
  unfold numOf
  have := List.idxOf_lt_length_of_mem hx
  omega
def trimM (m : MachM) (ys : List Int) : MachM := ⟨ys.length, (m.finals.filter fun k => decide (k ∈ ys)).map (numOf ys), (m.rows.filter fun r => decide (r.before ∈ ys)).map fun r => ⟨numOf ys r.before, r.deed, numOf ys r.after⟩⟩
theorem RchOf.lt {m : MachM} {ys : List Int} (R : RchOf m ys) : ys.Pairwise (· < ·) := (R.asc.and R.once).imp fun ⟨l, n⟩ => by omega
theorem RchOf.aft {m : MachM} {ys : List Int} (R : RchOf m ys) {r : RowM} (hr : r ∈ m.rows) (hb : r.before ∈ ys) : r.after ∈ ys := (R.mem _).mpr (.step hr ((R.mem _).mp hb))
theorem RchOf.len {m : MachM} (ok : m.Ok) {ys : List Int} (R : RchOf m ys) : ys.length ≤ m.size := few_ints R.once fun k hk => ((R.mem k).mp hk).bnd ok
theorem trim_ok {m : MachM} (ok : m.Ok) {ys : List Int} (R : RchOf m ys) : (trimM m ys).Ok := by
  have z : (0 : Int) ∈ ys := (R.mem 0).mpr .zero
  refine ⟨List.length_pos_of_mem z, Nat.le_trans (R.len ok) ok.s1, fun k hk => ?_, ?_, ?_, fun r hr => ?_, ?_, ?_⟩
  · obtain ⟨x, hx, rfl⟩ := List.mem_map.mp hk
    exact num_bnd (of_decide_eq_true (List.mem_filter.mp hx).2)
  · refine List.pairwise_map.mpr ((ok.f2.filter _).imp_of_mem fun hx hy l => num_lt R.lt (of_decide_eq_true (List.mem_filter.mp hx).2) (of_decide_eq_true (List.mem_filter.mp hy).2) l)
  · have := ok.f3
    have g := List.length_filter_le (fun k => decide (k ∈ ys)) m.finals
    show (List.map _ _).length < 64
    rw [List.length_map]
    omega
  · obtain ⟨s, hs, rfl⟩ := List.mem_map.mp hr
    have ms := (List.mem_filter.mp hs).1
    have hb := of_decide_eq_true (List.mem_filter.mp hs).2
    have b := num_bnd hb
    have a := num_bnd (R.aft ms hb)
    exact ⟨b.1, b.2, (ok.r1 s ms).dd, a.1, a.2⟩
  · refine List.pairwise_map.mpr ((ok.r2.filter _).imp_of_mem fun {r s} hx hy l => rowLt_map (fun x y lt h => ?_) l)
    have hb := of_decide_eq_true (List.mem_filter.mp hx).2
    have hc := of_decide_eq_true (List.mem_filter.mp hy).2
    rcases h with ⟨rfl, rfl⟩ | ⟨rfl, rfl⟩
    · exact num_lt R.lt hb hc lt
    · exact num_lt R.lt (R.aft (List.mem_filter.mp hx).1 hb) (R.aft (List.mem_filter.mp hy).1 hc) lt
  · have := ok.r3
    have g := List.length_filter_le (fun r : RowM => decide (r.before ∈ ys)) m.rows
    show (List.map _ _).length < 64
    rw [List.length_map]
    omega
end K03
namespace K03
open PySem PySem.Spec PyProof.Rows L2 WD NS MC GL
open C8 (pss_cut tCut)
/-- tuples stay -/
def SameT (H H' : Hp) : Prop := ∀ b xs, H b = some (.tup xs) → H' b = some (.tup xs)
theorem SameT.of {H H' : Hp} (s : Same H H') : SameT H H' := fun b xs e => s b _ e
theorem SameT.trans {H H' H'' : Hp} (s : SameT H H') (t : SameT H' H'') : SameT H H'' := fun b xs e => t b xs (s b xs e)
theorem SameT.lst {H : Hp} {D : Addr} {xs ys : List V} (e : H D = some (.lst xs)) : SameT H (upd H D (.lst ys)) := fun b zs eb => by
  have n : b ≠ D := fun z => by
    rw [z, e] at eb
    cases eb
  rw [upd_ne n]
  exact eb
mutual
theorem Kz.tups {H H' : Hp} (s : SameT H H') : ∀ (k : NestedKey) (v : V), Kz H v k → Kz H' v k
  | .none, _, h => by cases h; exact .non
  | .num i, _, h => by cases h; exact .int i
  | .text x, _, h => by cases h; exact .str x
  | .tup ks, _, h => by cases h with | tup e h => exact .tup (s _ _ e) (KzAll.tups s ks _ h)
theorem KzAll.tups {H H' : Hp} (s : SameT H H') : ∀ (ks : List NestedKey) (vs : List V), KzAll H vs ks → KzAll H' vs ks
  | [], _, h => by cases h; exact .nil
  | k :: ks, _, h => by cases h with | cons h1 h2 => exact .cons (Kz.tups s k _ h1) (KzAll.tups s ks _ h2)
end
theorem kz_snoc {H : Hp} {v : V} {k : NestedKey} (h : Kz H v k) : ∀ {xs : List V} {ks : List NestedKey}, KzAll H xs ks → KzAll H (xs ++ [v]) (ks ++ [k])
  | _, _, .nil => .cons h .nil
  | _, _, .cons r t => .cons r (kz_snoc h t)
section
variable {J : It} {n : Nat} {G : Hp → Prop} {Y : Nat → Hp → V → Hp → Prop}
theorem dc_it (W : Walk J n G Y) {g : TG} {tt : TT} {tk tv : TE} {vs : List Nat} {σ : L2.St} {H1 : Hp} {D : Addr} {Qd : Hp → Prop} (Pv : Nat → Hp → Prop) (h0 : Pv 0 (upd H1 D (.dK []))) (hG : ∀ (i : Nat) (H : Hp), i ≤ n → Pv i H → G H)
    (step : ∀ (i : Nat) (x : V) (H H' : Hp), i < n → Pv i H → Y i H x H' → g x (wipe σ vs) H' fun σ2 H2 => wipe σ2 vs = wipe σ vs ∧ tt σ2 H2 fun b H3 => if b = true then tk σ2 H3 fun y H4 => tv σ2 H4 fun z H5 => ∃ kvs k, y = kV k ∧ H5 D = some (.dK kvs) ∧ kvs.length < sizeLine ∧ Pv (i + 1) (upd H5 D (.dK (putK kvs k z))) else Pv (i + 1) H3)
    (fin : ∀ H, Pv n H → Qd H) :
    ∃ W : Nat → Nat → Hp → Prop, (∃ m, W 0 m (upd H1 D (.dK []))) ∧ ∀ (i m : Nat) (H : Hp), W i m H → J.stop i H ∧ Qd H ∨ J.go i H ∧ ∃ Nx : Hp → Prop, (∀ H', Nx H' → ∃ m', m' < m ∧ W (i + 1) m' H') ∧ ∀ (x : V) (H' : Hp), J.yld i H x H' → g x (wipe σ vs) H' fun σ2 H2 => wipe σ2 vs = wipe σ vs ∧ tt σ2 H2 fun b H3 => if b = true then tk σ2 H3 fun y H4 => tv σ2 H4 fun z H5 => ∃ kvs k, y = kV k ∧ H5 D = some (.dK kvs) ∧ kvs.length < sizeLine ∧ Nx (upd H5 D (.dK (putK kvs k z))) else Nx H3 := by
  refine ⟨fun i m H => i ≤ n ∧ m = n - i ∧ Pv i H, ⟨n - 0, Nat.zero_le _, rfl, h0⟩, ?_⟩
  rintro i m H ⟨le, rfl, p⟩
  by_cases e : i = n
  · subst e
    exact .inl ⟨W.stops H (hG _ H le p), fin H p⟩
  · have lt : i < n := by omega
    refine .inr ⟨W.goes i H lt (hG i H le p), fun H' => Pv (i + 1) H', fun H' z => ⟨n - (i + 1), by omega, by omega, rfl, z⟩, fun x H' y => step i x H H' lt p (W.yields i H x H' lt (hG i H le p) y)⟩
end
theorem kzL {H : Hp} : ∀ {L : List (Addr × RowM)}, (∀ p ∈ L, Kz H (.ref p.1) p.2.key) → KzAll H (L.map fun p => V.ref p.1) ((L.map (·.2)).map RowM.key)
  | [], _ => .nil
  | p :: L, h => .cons (h p List.mem_cons_self) (kzL fun q hq => h q (List.mem_cons_of_mem _ hq))
/-- the numbers of the states, from n on -/
def kvI : Nat → List Int → List (Key × V)
  | _, [] => []
  | n, y :: ys => (.inl y, .int n) :: kvI (n + 1) ys
theorem kvI_len : ∀ {n : Nat} {ys : List Int}, (kvI n ys).length = ys.length
  | _, [] => rfl
  | n, y :: ys => by rw [kvI, List.length_cons, List.length_cons, kvI_len]
theorem kvI_snoc : ∀ {n : Nat} {ys : List Int} {y : Int}, kvI n (ys ++ [y]) = kvI n ys ++ [(.inl y, .int ((n + ys.length : Nat) : Int))]
  | n, [], y => rfl
  | n, a :: ys, y => by
    rw [List.cons_append, kvI, kvI_snoc, kvI, List.cons_append, List.length_cons]
    rw [show n + 1 + ys.length = n + (ys.length + 1) by omega]
theorem kvI_any : ∀ {n : Nat} {ys : List Int} {y : Int}, ((kvI n ys).any fun kv => decide (kv.1 = Sum.inl y)) = decide (y ∈ ys)
  | n, [], y => rfl
  | n, a :: ys, y => by
    rw [kvI, List.any_cons, kvI_any]
    by_cases e : a = y
    · subst e
      simp
    · have e' : ¬ y = a := fun z => e z.symm
      simp [e, e']
theorem kvI_put {n : Nat} {ys : List Int} {y : Int} (h : y ∉ ys) : putK (kvI n ys) (.inl y) (.int ((n + ys.length : Nat) : Int)) = kvI n (ys ++ [y]) := by
  rw [putK, kvI_any, decide_eq_false h, kvI_snoc]
  rfl
theorem kvI_val : ∀ {n : Nat} {ys : List Int} {y : Int}, y ∈ ys → valV (kvI n ys) (.inl y) = some (.int (n + numOf ys y))
  | n, [], y, h => nomatch h
  | n, a :: ys, y, h => by
    by_cases e : a = y
    · subst e
      simp [valV, kvI, numOf]
    · have h' : y ∈ ys := (List.mem_cons.mp h).resolve_left (fun z => e z.symm)
      have ih := kvI_val (n := n + 1) h'
      rw [numOf] at ih
      rw [numOf, idx_ne e]
      have st : valV (kvI n (a :: ys)) (.inl y) = valV (kvI (n + 1) ys) (.inl y) := by
        simp only [valV, kvI, List.find?_cons, Sum.inl.injEq, e, decide_false]
      rw [st, ih]
      congr 2
      push_cast
      omega
theorem kvI_no : ∀ {n : Nat} {ys : List Int} {y : Int}, (valV (kvI n ys) (.inl y)).isSome = decide (y ∈ ys)
  | n, [], y => rfl
  | n, a :: ys, y => by
    by_cases e : a = y
    · subst e
      simp [valV, kvI]
    · have e' : ¬ y = a := fun z => e z.symm
      have st : valV (kvI n (a :: ys)) (.inl y) = valV (kvI (n + 1) ys) (.inl y) := by
        simp only [valV, kvI, List.find?_cons, Sum.inl.injEq, e, decide_false]
      rw [st, kvI_no]
      simp [e']
abbrev sTrim : Stmt := topS 22
abbrev nTm : List Str := ["machine", "_", "finals", "transitions", "states", "numbers", "kept_finals", "kept", "state", "number", "before", "deed", "behind"]
theorem scTrim : FnScope nTm ["machine"] (defScope sTrim) := ⟨rfl, rfl, rfl, by decide +kernel, rfl, by decide +kernel, by decide +kernel⟩
def spReached (K : PySem.W.Frag) (cM : Addr) : Sp := fun vs H Q E => ∃ v : V, vs = [v] ∧ ((BadM K H v ∧ ∀ H', Same H H' → E (.ref cM) none H') ∨
  ∃ (a : Addr) (m : MachM), v = .ref a ∧ Kz H (.ref a) m.key ∧ m.Ok ∧ ∀ H' p (ys : List Int), Same H H' → H p = none → H' p = some (.tup (ys.map V.int)) → RchOf m ys → Q (.ref p) H')
def spTrim (K : PySem.W.Frag) (cM : Addr) : Sp := fun vs H Q E => ∃ v : V, vs = [v] ∧ ((BadM K H v ∧ ∀ H', Same H H' → E (.ref cM) none H') ∨
  ∃ (a : Addr) (m : MachM), v = .ref a ∧ Kz H (.ref a) m.key ∧ m.Ok ∧ ∀ H' p (ys : List Int), Same H H' → H p = none → RchOf m ys → Kz H' (.ref p) (trimM m ys).key → Q (.ref p) H')
/-- where states_reached_in stands -/
structure TxtG3 (K : PySem.W.Frag) (mg : Str → Option Value) (fG : Addr) (dG : FuncData) : Prop where
  G : Fun K "states_reached_in" "states_reached_in" sSRI fG dG
  bG : L2.Binds K dG ["machine"] []
  gG : mg "states_reached_in" = some (.ref fG)
section
variable {P : Program} {w : World} {K : PySem.W.Frag} {mg : Str → Option Value} {base : Heap} {fW fF fN fS fT fR fI fC cM fG : Addr} {dW dF dN dS dT dR dI dC dG : FuncData}
theorem ok_Reached {f : Addr} {fd : FuncData} {k : Nat} (F : Fun K "reached_states" "reached_states" sReached f fd) (T : TxtI K mg fW fF dW dF) (TN : TxtNm K mg) (TT : TxtT K mg fN dN) (M : TxtM K mg fS fT fR fI fC cM dS dT dR dI dC) (TS : TxtS mg) (TQ : TxtQ mg) (R : TxtG3 K mg fG dG) :
    FnOk P w K mg base (L2.CX P w) (k + 6) f fd ["machine"] (spReached K cM) := by
  have GC : FnOk P w K mg base (L2.CX P w) (k + 5) fC dC ["machine"] (spChkM K (BadM K) cM) := ok_ChkM M.C T TN TT M
  have GN : FnOk P w K mg base CX0 (k + 2) fG dG ["machine"] spSRI := ok_SRI R.G TS TQ
  refine F.okX scReached (fun vs H Q E h => ?_) (fun cdv A outer s H vs Q E hr h => ?_)
  · obtain ⟨v, rfl, _⟩ := h
    rfl
  · obtain ⟨v, rfl, h⟩ := h
    have hr2 : Room (k + 2) _ := hr.mono (by omega)
    refine ⟨_, pss_cons (ps_expr (pe_callS GC hr (by rfl) M.gC M.C.kp M.bC (passAt (takes_of rfl rfl rfl rfl)) (pa_cons (pv 0) pa_nil)))
      (pss_one (ps_ret (pe_call GN hr2 (by rfl) R.gG R.G.kp R.bG .nil pass0 (pa_cons (pv 0) pa_nil)))), ?_⟩
    rcases h with ⟨bad, q⟩ | ⟨a, m, rfl, hm, ok, q⟩
    · exact ⟨_, rfl, v, rfl, .inr ⟨bad, q⟩⟩
    · refine ⟨_, rfl, _, rfl, .inl ⟨a, m, rfl, hm, ok, fun H1 s1 => ?_⟩⟩
      exact ⟨_, rfl, a, m, rfl, Kz.same s1 _ _ hm, ok, fun H' p ys s' np e Ro => q H' p ys (s1.trans s') (s1.free np) e Ro⟩
theorem ok_Trim {f : Addr} {fd : FuncData} {k : Nat} (F : Fun K "trimmed" "trimmed" sTrim f fd) (T : TxtI K mg fW fF dW dF) (TN : TxtNm K mg) (TT : TxtT K mg fN dN) (M : TxtM K mg fS fT fR fI fC cM dS dT dR dI dC) (TS : TxtS mg) (TQ : TxtQ mg) (TD : TxtD mg) (R : TxtG3 K mg fG dG) :
    FnOk P w K mg base (L2.CX P w) (k + 6) f fd ["machine"] (spTrim K cM) := by
  have GC : FnOk P w K mg base (L2.CX P w) (k + 5) fC dC ["machine"] (spChkM K (BadM K) cM) := ok_ChkM M.C T TN TT M
  have GN : FnOk P w K mg base CX0 (k + 2) fG dG ["machine"] spSRI := ok_SRI R.G TS TQ
  refine F.okX scTrim (fun vs H Q E h => ?_) (fun cdv A outer s H vs Q E hr h => ?_)
  · obtain ⟨v, rfl, _⟩ := h
    rfl
  · obtain ⟨v, rfl, h⟩ := h
    have hr2 : Room (k + 2) _ := hr.mono (by omega)
    have hu := hr.units
    have hu1 := Nat.lt_of_le_of_lt (Nat.add_le_add_left (by decide : 1 ≤ 64) _) hu
    refine ⟨_, pss_cut (ps_expr (pe_callS GC hr (by rfl) M.gC M.C.kp M.bC (passAt (takes_of rfl rfl rfl rfl)) (pa_cons (pv 0) pa_nil)))
      (pss_cut (ps_asg (pv 0) (pg_tup rfl (pgs_cons (pg_name (i := 1) scTrim.nd rfl (.inl rfl)) (pgs_cons (pg_name (i := 2) scTrim.nd rfl (.inl rfl)) (pgs_cons (pg_name (i := 3) scTrim.nd rfl (.inl rfl)) pgs_nil)))))
      (pss_cut (ps_set (i := 4) scTrim.nd rfl (.inl rfl) (pe_call GN hr2 (by rfl) R.gG R.G.kp R.bG .nil pass0 (pa_cons (pv 0) pa_nil)))
      (pss_cut (ps_set (i := 5) scTrim.nd rfl (.inr rfl) (pe_dc (own := [("state", 8), ("number", 9)]) (g := gTup K 2 (gCons (gName 9) (gCons (gName 8) gNil))) (tt := tYes) (tk := tVar 8) (tv := tVar 9) rfl scTrim.nd
        (ET.pi_enumT (by rfl) TD.enumerate (pa_cons (pv 4) pa_nil)) (blkOk_by (own := [("state", 8), ("number", 9)]) (N := nTm) (sc := defScope sTrim) (by decide +kernel))
        (fun _ _ _ _ _ => pg_tup rfl (pgs_cons (pg_name (i := 9) scTrim.nd rfl (.inl rfl)) (pgs_cons (pg_name (i := 8) scTrim.nd rfl (.inl rfl)) pgs_nil)))
        (fun _ _ _ _ _ => pts_nil) (fun _ _ _ _ _ => pv 8) (fun _ _ _ _ _ => pv 9)))
      (pss_cut (ps_setLc (i := 6) (own := [("state", 8)]) (g := gName 8) (tt := tB (tDIn (tVar 8) (tVar 5))) (te := tDGet (tVar 5) (tVar 8)) rfl scTrim.nd rfl rfl (sw_true rfl rfl rfl (by decide +kernel))
        (pi_tup (pv 2)) (blkOk_by (own := [("state", 8)]) (N := nTm) (sc := defScope sTrim) (by decide +kernel))
        (fun _ _ _ _ _ => pg_name (i := 8) scTrim.nd rfl (.inl rfl))
        (fun _ _ _ _ _ => pts_one (pt_cmp (pc_din hu1 (pv 8) (pv 5))))
        (fun _ _ _ _ _ => pe_dget hu1 (pv 5) (pv 8) (fun _ _ => rfl)))
      (pss_cut (ps_setLc (i := 7) (own := [("before", 10), ("deed", 11), ("behind", 12)]) (g := gTup K 3 (gCons (gName 10) (gCons (gName 11) (gCons (gName 12) gNil)))) (tt := tB (tDIn (tVar 10) (tVar 5))) (te := tTup (tCons (tDGet (tVar 5) (tVar 10)) (tCons (tVar 11) (tCons (tDGet (tVar 5) (tVar 12)) tNil)))) rfl scTrim.nd rfl rfl (sw_true rfl rfl rfl (by decide +kernel))
        (pi_tup (pv 3)) (blkOk_by (own := [("before", 10), ("deed", 11), ("behind", 12)]) (N := nTm) (sc := defScope sTrim) (by decide +kernel))
        (fun _ _ _ _ _ => pg_tup rfl (pgs_cons (pg_name (i := 10) scTrim.nd rfl (.inl rfl)) (pgs_cons (pg_name (i := 11) scTrim.nd rfl (.inl rfl)) (pgs_cons (pg_name (i := 12) scTrim.nd rfl (.inl rfl)) pgs_nil))))
        (fun _ _ _ _ _ => pts_one (pt_cmp (pc_din hu1 (pv 10) (pv 5))))
        (fun _ _ _ _ _ => pe_tup (pa_cons (pe_dget hu1 (pv 5) (pv 10) (fun _ _ => rfl)) (pa_cons (pv 11) (pa_cons (pe_dget hu1 (pv 5) (pv 12) (fun _ _ => rfl)) pa_nil)))))
      (pss_one (ps_ret (pe_tup (pa_cons (pe_callB call_len_seq (by rfl) TD.len PySem.boot_len (pa_cons (pv 4) pa_nil)) (pa_cons (pe_callTy call_tuple_of (by rfl) TS.tuple (by decide +kernel) (pa_cons (pv 6) pa_nil)) (pa_cons (pe_callTy call_tuple_of (by rfl) TS.tuple (by decide +kernel) (pa_cons (pv 7) pa_nil)) pa_nil))))))))))), ?_⟩
    rcases h with ⟨bad, q⟩ | ⟨a, m, rfl, hm, ok, q⟩
    · refine ⟨fun _ _ => False, ⟨_, rfl, v, rfl, .inr ⟨bad, q⟩⟩, fun _ _ z => z.elim⟩
    refine ⟨fun σ' H' => σ' = [some (.ref a), none, none, none, none, none, none, none, none, none, none, none, none] ∧ Same H H', ⟨_, rfl, _, rfl, .inl ⟨a, m, rfl, hm, ok, fun H' s' => ⟨rfl, s'⟩⟩⟩, ?_⟩
    rintro σ1 H1 ⟨rfl, s1⟩
    obtain ⟨M⟩ := mach_at hm
    have lx : M.xs.length = m.rows.length := by
      have z := kz_len M.all
      rw [List.length_map] at z
      exact z
    refine ⟨fun σ' H' => σ' = [some (.ref a), some (.int m.size), some (.ref M.f), some (.ref M.t), none, none, none, none, none, none, none, none, none] ∧ Same H H', ?_, ?_⟩
    · exact ⟨_, rfl, a, _, rfl, SqT.of (s1 _ _ M.top), rfl, _, _, rfl, _, _, rfl, _, _, rfl, rfl, rfl, s1⟩
    rintro σ2 H2 ⟨rfl, s2⟩
    refine ⟨fun σ' H' => ∃ (p : Addr) (ys : List Int), σ' = [some (.ref a), some (.int m.size), some (.ref M.f), some (.ref M.t), some (.ref p), none, none, none, none, none, none, none, none] ∧ Same H H' ∧ H' p = some (.tup (ys.map V.int)) ∧ RchOf m ys, ?_, ?_⟩
    · exact ⟨_, rfl, a, m, rfl, Kz.same s2 _ _ hm, ok, fun H' p ys s' np e Ro => ⟨p, ys, rfl, s2.trans s', e, Ro⟩⟩
    rintro σ3 H3 ⟨p, ys, rfl, s3, ep, Ro⟩
    refine ⟨fun σ' H' => ∃ (d : Addr), σ' = [some (.ref a), some (.int m.size), some (.ref M.f), some (.ref M.t), some (.ref p), some (.ref d), none, none, none, none, none, none, none] ∧ Same H H' ∧ H' p = some (.tup (ys.map V.int)) ∧ H' d = some (.dK (kvI 0 ys)), ?_, ?_⟩
    · refine ⟨_, rfl, p, _, rfl, SqT.of ep, fun D nD => ?_⟩
      have sD := same_upd (o := .dK []) nD
      refine dc_it (ET.walk_enumT (xs := ys.map V.int)) (fun j H' => Same H3 H' ∧ H' D = some (.dK (kvI 0 (ys.take j)))) ⟨sD, upd_same⟩ (fun j H' _ z => SqT.of (z.1 _ _ ep)) ?_ ?_
      · rintro j v H4 H5 hj ⟨s4, e4⟩ ⟨T0, v1, v2, rfl, nT, rfl, z1, z2⟩
        cases z1
        have kT := same_upd (o := .tup [.int (j : Nat), v2]) nT
        replace z2 : (ys.map V.int)[j]? = some v2 := z2
        rw [List.getElem?_map] at z2
        rw [List.length_map] at hj
        have ej : ys[j]? = some ys[j] := List.getElem?_eq_getElem hj
        rw [ej] at z2
        have ev : v2 = .int ys[j] := (Option.some.inj z2).symm
        subst ev
        have lt : (ys.take j).length = j := by rw [List.length_take]; omega
        have nx : ys.take (j + 1) = ys.take j ++ [ys[j]] := by rw [List.take_succ, ej]; rfl
        have no : ys[j] ∉ ys.take j := fun h => by
          have nd := Ro.once
          rw [← List.take_append_drop j ys, List.nodup_append] at nd
          exact nd.2.2 _ h _ (by rw [List.drop_eq_getElem_cons hj]; exact List.mem_cons_self) rfl
        refine ⟨T0, _, rfl, SqT.of upd_same, rfl, _, _, rfl, _, _, rfl, rfl, rfl, tYes_ite ⟨_, rfl, _, rfl, kvI 0 (ys.take j), .inl ys[j], rfl, kT _ _ e4, ?_, ?_, ?_⟩⟩
        · have := Ro.len ok
          have := ok.s1
          rw [kvI_len, List.length_take, sizeLine_eq]
          omega
        · exact same_set (s4.trans kT) nD
        · rw [upd_same, nx, ← kvI_put no, lt, Nat.zero_add]
      · rintro H4 ⟨s4, e4⟩
        rw [List.length_map, List.take_length] at e4
        exact ⟨D, rfl, s3.trans s4, s4 _ _ ep, e4⟩
    rintro σ4 H4 ⟨d, rfl, s4, ep4, ed4⟩
    refine ⟨fun σ' H' => ∃ (D : Addr) (u8 : Option V), σ' = [some (.ref a), some (.int m.size), some (.ref M.f), some (.ref M.t), some (.ref p), some (.ref d), some (.ref D), none, u8, none, none, none, none] ∧ Same H4 H' ∧ H' D = some (.lst (((m.finals.filter fun k => decide (k ∈ ys)).map (numOf ys)).map V.int)), ?_, ?_⟩
    · refine ⟨_, rfl, M.f, rfl, ⟨_, SqT.of (s4 _ _ M.fin)⟩, fun D nD => ?_⟩
      have sD := same_upd (o := .lst []) nD
      refine lc_tup (xs := m.finals.map V.int) (fun i H' => Same H4 H' ∧ H' D = some (.lst ((((m.finals.take i).filter fun k => decide (k ∈ ys)).map (numOf ys)).map V.int))) ⟨sD, upd_same⟩ (fun i H' _ z => SqT.of (z.1 _ _ (s4 _ _ M.fin))) ?_ ?_
      · rintro i v H5 hv ⟨s5, e5⟩
        obtain ⟨n, hn, rfl⟩ : ∃ n, m.finals[i]? = some n ∧ v = .int n := by
          rw [List.getElem?_map] at hv
          cases e : m.finals[i]? with
          | none => rw [e] at hv; exact nomatch hv
          | some n => rw [e] at hv; exact ⟨n, rfl, (Option.some.inj hv).symm⟩
        refine ⟨rfl, _, rfl, _, rfl, d, _, rfl, DGet.k (k := Sum.inl n) (s5 _ _ ed4), _, rfl, ?_⟩
        rw [kvI_no]
        have nx : ((m.finals.take (i + 1)).filter fun k => decide (k ∈ ys)) = ((m.finals.take i).filter fun k => decide (k ∈ ys)) ++ (if n ∈ ys then [n] else []) := by
          rw [List.take_succ, hn, Option.toList_some, List.filter_append]
          by_cases e : n ∈ ys
          · rw [if_pos e, List.filter_cons_of_pos (by simpa using e)]; rfl
          · rw [if_neg e, List.filter_cons_of_neg (by simpa using e)]; rfl
        refine ifB (fun hb => ?_) fun hb => ?_
        · have eb : n ∈ ys := of_decide_eq_true hb
          refine ⟨_, rfl, _, rfl, d, _, rfl, (by rw [← kvI_val (n := 0) eb]; exact DGet.k (k := Sum.inl n) (s5 _ _ ed4)), _, e5, ?_, same_set s5 nD, ?_⟩
          · have g := List.length_filter_le (fun k => decide (k ∈ ys)) (m.finals.take i)
            rw [List.length_take] at g
            have := ok.f3
            rw [List.length_map, List.length_map, sizeLine_eq]
            omega
          · rw [upd_same, nx, if_pos eb, List.map_append, List.map_append]
            show some (HO.lst (_ ++ [V.int ((0 : Nat) + numOf ys n)])) = some (HO.lst (_ ++ [V.int (numOf ys n)]))
            rw [show ((0 : Nat) : Int) + numOf ys n = numOf ys n by omega]
        · have nb : ¬ n ∈ ys := of_decide_eq_false hb
          refine ⟨s5, ?_⟩
          rw [e5, nx, if_neg nb, List.append_nil]
      · rintro H5 ⟨s5, e5⟩
        rw [List.length_map, List.take_length] at e5
        exact ⟨D, _, rfl, s5, e5⟩
    rintro σ5 H5 ⟨D6, u8, rfl, s5, e6⟩
    have sM : Same H H5 := s4.trans s5
    have ed5 := s5 _ _ ed4
    refine ⟨fun σ' H' => ∃ (D : Addr) (u10 u11 u12 : Option V) (L : List (Addr × RowM)), σ' = [some (.ref a), some (.int m.size), some (.ref M.f), some (.ref M.t), some (.ref p), some (.ref d), some (.ref D6), some (.ref D), u8, none, u10, u11, u12] ∧ Same H5 H' ∧ H' D = some (.lst (L.map fun p => V.ref p.1)) ∧ L.map (·.2) = (trimM m ys).rows ∧ ∀ p ∈ L, Kz H' (.ref p.1) p.2.key, ?_, ?_⟩
    · refine ⟨_, rfl, M.t, rfl, ⟨_, SqT.of (sM _ _ M.row)⟩, fun D nD => ?_⟩
      have sD := same_upd (o := .lst []) nD
      refine lc_tup (xs := M.xs) (fun i H' => Same H5 H' ∧ ∃ L : List (Addr × RowM), H' D = some (.lst (L.map fun p => V.ref p.1)) ∧ L.map (·.2) = ((m.rows.take i).filter fun r => decide (r.before ∈ ys)).map (fun r => ⟨numOf ys r.before, r.deed, numOf ys r.after⟩) ∧ ∀ p ∈ L, Kz H' (.ref p.1) p.2.key) ⟨sD, [], upd_same, rfl, fun _ z => nomatch z⟩ (fun i H' _ z => SqT.of (z.1 _ _ (sM _ _ M.row))) ?_ ?_
      · rintro i v H6 hv ⟨s6, L, eL, mL, kL⟩
        obtain ⟨r, hr', ra, dv, rfl, er, kd⟩ := row_at M.all hv
        have il : i < m.rows.length := (List.getElem?_eq_some_iff.mp hr').1
        have s06 := sM.trans s6
        refine ⟨ra, _, rfl, SqT.of (s06 _ _ er), rfl, _, _, rfl, _, _, rfl, _, _, rfl, rfl, rfl, ?_⟩
        refine ⟨_, rfl, _, rfl, d, _, rfl, DGet.k (k := Sum.inl r.before) (s6 _ _ ed5), _, rfl, ?_⟩
        rw [kvI_no]
        have nx : ((m.rows.take (i + 1)).filter fun r => decide (r.before ∈ ys)) = ((m.rows.take i).filter fun r => decide (r.before ∈ ys)) ++ (if r.before ∈ ys then [r] else []) := by
          rw [List.take_succ, hr', Option.toList_some, List.filter_append]
          by_cases e : r.before ∈ ys
          · rw [if_pos e, List.filter_cons_of_pos (by simpa using e)]; rfl
          · rw [if_neg e, List.filter_cons_of_neg (by simpa using e)]; rfl
        refine ifB (fun hb => ?_) fun hb => ?_
        · have eb : r.before ∈ ys := of_decide_eq_true hb
          have ea : r.after ∈ ys := Ro.aft (List.mem_of_getElem? hr') eb
          refine ⟨_, rfl, _, rfl, d, _, rfl, (by rw [← kvI_val (n := 0) eb]; exact DGet.k (k := Sum.inl r.before) (s6 _ _ ed5)), _, rfl, _, rfl, _, rfl, d, _, rfl, (by rw [← kvI_val (n := 0) ea]; exact DGet.k (k := Sum.inl r.after) (s6 _ _ ed5)), (by show 3 ≤ sizeLine; decide), fun T0 nT => ?_⟩
          rw [show ((0 : Nat) : Int) + numOf ys r.before = numOf ys r.before by omega, show ((0 : Nat) : Int) + numOf ys r.after = numOf ys r.after by omega]
          have kT := same_upd (o := .tup [.int (numOf ys r.before), dv, .int (numOf ys r.after)]) nT
          have sT : SameT H6 (upd (upd H6 T0 (.tup [.int (numOf ys r.before), dv, .int (numOf ys r.after)])) D (.lst (L.map (fun p => V.ref p.1) ++ [.ref T0]))) := (SameT.of kT).trans (SameT.lst (kT _ _ eL))
          have ll : L.length = (((m.rows.take i).filter fun r => decide (r.before ∈ ys))).length := by
            have z := congrArg List.length mL
            rw [List.length_map, List.length_map] at z
            exact z
          refine ⟨_, kT _ _ eL, ?_, same_set (s6.trans kT) nD, L ++ [(T0, ⟨numOf ys r.before, r.deed, numOf ys r.after⟩)], ?_, ?_, fun q hq => ?_⟩
          · have g := List.length_filter_le (fun r : RowM => decide (r.before ∈ ys)) (m.rows.take i)
            rw [List.length_take] at g
            have := ok.r3
            rw [List.length_map, sizeLine_eq]
            omega
          · rw [upd_same, List.map_append]
            rfl
          · rw [List.map_append, mL, nx, if_pos eb, List.map_append]
            rfl
          · rcases List.mem_append.mp hq with z | z
            · exact Kz.tups sT _ _ (kL q z)
            · rw [List.mem_singleton.mp z]
              refine .tup (SameT.lst (kT _ _ eL) _ _ upd_same) (.cons (.int _) (.cons (Kz.tups sT _ _ (Kz.same s06 _ _ kd)) (.cons (.int _) .nil)))
        · have nb : ¬ r.before ∈ ys := of_decide_eq_false hb
          refine ⟨s6, L, eL, ?_, kL⟩
          rw [mL, nx, if_neg nb, List.append_nil]
      · rintro H6 ⟨s6, L, eL, mL, kL⟩
        rw [lx, List.take_length] at mL
        exact ⟨D, _, _, _, L, rfl, s6, eL, mL, kL⟩
    rintro σ6 H6 ⟨D7, u10, u11, u12, L, rfl, s6, eL, mL, kL⟩
    refine ⟨_, rfl, p, _, rfl, .inr (SqT.of (s6 _ _ (s5 _ _ ep4))), _, rfl, D6, _, rfl, .inl ⟨SqL.of (s6 _ _ e6), fun t1 n1 => ?_⟩⟩
    have k1 := same_upd (o := .tup (((m.finals.filter fun k => decide (k ∈ ys)).map (numOf ys)).map V.int)) n1
    refine ⟨_, rfl, D7, _, rfl, .inl ⟨SqL.of (k1 _ _ eL), fun t2 n2 => ⟨(by show 3 ≤ sizeLine; decide), fun t3 n3 => ?_⟩⟩⟩
    have k2 := same_upd (o := .tup (L.map fun p => V.ref p.1)) n2
    have k3 := same_upd (o := .tup [.int (((ys.map V.int).length : Nat) : Int), .ref t1, .ref t2]) n3
    have ss := (sM.trans s6).trans (k1.trans k2)
    refine q _ t3 ys (ss.trans k3) (ss.free n3) Ro ?_
    have kLs := kzL fun q hq => Kz.same (k1.trans (k2.trans k3)) _ _ (kL q hq)
    rw [mL] at kLs
    refine .tup upd_same (.cons ?_ (.cons (.tup (k3 _ _ (k2 _ _ upd_same)) (kz_ints _)) (.cons (.tup (k3 _ _ upd_same) kLs) .nil)))
    rw [List.length_map]
    exact .int _
end
end K03
namespace K03
open PySem PySem.Spec PyProof.Rows L2 WD NS MC GL
open C8 (pss_cut tCut)
theorem shaped_three {x y z : Str} (hx : Low x) (hy : Low y) (hz : Low z) : SeqAt.shaped (.tuple [.str x, .str y, .str z]) = true := by
  rw [SeqAt.shaped, PyData.canLay0, PyData.canLayAll0, PyData.canLayAll0, PyData.canLayAll0, PyData.canLayAll0, low_ok hx, low_ok hy, low_ok hz]
  rfl
theorem deed_shaped {d : Deed} (ok : d.Ok) : SeqAt.shaped d.key.data = true := by
  cases d with
  | step => exact shaped_one low_step
  | ex b n l => exact shaped_three (low_word b) ok.1.low ok.2.low
theorem deed_dp {K : PySem.W.Frag} {H : Hp} {q : Addr} {d : Deed} (e : H q = some (.tup (d.signs.map V.str))) : Dp K H (.ref q) d.key.data := by
  cases d with
  | step => exact .tup (SqT.of (xs := [.str "step"]) e) (.cons (.str _) .nil)
  | ex b n l => exact .tup (SqT.of (xs := [.str (wordOf b), .str n, .str l]) e) (.cons (.str _) (.cons (.str _) (.cons (.str _) .nil)))
theorem eqv_deed (d e : Deed) : PyData.eqv d.key.data e.key.data = decide (d = e) := by
  cases d with
  | step =>
    cases e with
    | step =>
      show PyData.eqv (.tuple [.str "step"]) (.tuple [.str "step"]) = _
      simp [PyData.eqv, PyData.eqvAll]
    | ex b n l =>
      show PyData.eqv (.tuple [.str "step"]) (.tuple [.str (wordOf b), .str n, .str l]) = _
      simp [PyData.eqv, PyData.eqvAll]
  | ex b n l =>
    cases e with
    | step =>
      show PyData.eqv (.tuple [.str (wordOf b), .str n, .str l]) (.tuple [.str "step"]) = _
      simp [PyData.eqv, PyData.eqvAll]
    | ex b' n' l' =>
      show PyData.eqv (.tuple [.str (wordOf b), .str n, .str l]) (.tuple [.str (wordOf b'), .str n', .str l']) = _
      have wb : (wordOf b = wordOf b') ↔ b = b' := ⟨word_inj, fun h => by rw [h]⟩
      simp only [PyData.eqv, PyData.eqvAll, Bool.and_true]
      show ((wordOf b == wordOf b') && ((n == n') && (l == l'))) = _
      by_cases h1 : b = b' <;> by_cases h2 : n = n' <;> by_cases h3 : l = l' <;> simp [h1, h2, h3, wb]
/-- where a deed leads from one of the states -/
def Beh (m : MachM) (fs : List Int) (d : Deed) (y : Int) : Prop := ∃ r ∈ m.rows, r.before ∈ fs ∧ r.deed = d ∧ r.after = y
structure BehOf (m : MachM) (fs : List Int) (d : Deed) (ys : List Int) : Prop where
  mem : ∀ y, y ∈ ys ↔ Beh m fs d y
  asc : ys.Pairwise (· < ·)
abbrev sBeh : Stmt := topS 34
abbrev nBh : List Str := ["_law_machine", "_law_states", "_law_deed", "_law_rows_here", "_law_row_here", "_law_state", "_law_here", "_law_later"]
theorem scBeh : FnScope nBh ["_law_machine", "_law_states", "_law_deed"] (defScope sBeh) := ⟨rfl, rfl, rfl, by decide +kernel, rfl, by decide +kernel, by decide +kernel⟩
def spBeh : Sp := fun vs H Q _ => ∃ (a l q : Addr) (m : MachM) (fs : List Int) (d : Deed), vs = [.ref a, .ref l, .ref q] ∧ Kz H (.ref a) m.key ∧ m.Ok ∧ H l = some (.lst (fs.map V.int)) ∧ H q = some (.tup (d.signs.map V.str)) ∧ d.Ok ∧
  ∀ H' p (ys : List Int), Same H H' → H p = none → H' p = some (.lst (ys.map V.int)) → BehOf m fs d ys → Q (.ref p) H'
def behRows (fs : List Int) (d : Deed) (rs : List RowM) : List RowM := rs.filter fun r => decide (r.before ∈ fs) && decide (r.deed = d)
theorem behRows_next {fs : List Int} {d : Deed} {rs : List RowM} {i : Nat} {r : RowM} (h : rs[i]? = some r) : behRows fs d (rs.take (i + 1)) = behRows fs d (rs.take i) ++ (if (decide (r.before ∈ fs) && decide (r.deed = d)) = true then [r] else []) := by
  rw [behRows, List.take_succ, h, Option.toList_some, List.filter_append, ← behRows]
  cases e : (decide (r.before ∈ fs) && decide (r.deed = d))
  · rw [List.filter_cons_of_neg (by rw [e]; decide)]
    rfl
  · rw [List.filter_cons_of_pos (p := fun r : RowM => decide (r.before ∈ fs) && decide (r.deed = d)) (by rw [e])]
    rfl
section
variable {P : Program} {w : World} {K : PySem.W.Frag} {mg : Str → Option Value} {base : Heap}
theorem ok_Beh {f : Addr} {fd : FuncData} {k : Nat} (F : Fun K "_law_behind" "_law_behind" sBeh f fd) (T : TxtS mg) : FnOk P w K mg base CX0 (k + 1) f fd ["_law_machine", "_law_states", "_law_deed"] spBeh := by
  refine F.ok scBeh (fun vs H Q E h => ?_) (fun cdv A outer s H vs Q E hr h => ?_)
  · obtain ⟨a, l, q, m, fs, d, rfl, _⟩ := h
    rfl
  · obtain ⟨a, l, q, m, fs, d, rfl, hm, ok, hl, hq, okd, qq⟩ := h
    have hu := hr.units
    refine ⟨_, pss_cut (ps_setLc (i := 3) (own := [("_law_row_here", 4)]) (g := gName 4) (tt := tAnd (tTest (tOp (rIn K false) (tOp (rIxT K) (tVar 4) (tC (.int 0))) (tVar 1))) (tTest (tOp (rEqD K) (tOp (rIxT K) (tVar 4) (tC (.int 1))) (tVar 2)))) (te := tVar 4) rfl scBeh.nd rfl rfl (sw_true rfl rfl rfl (by decide +kernel))
        (pi_tup (pe_ix ix_tup (pv 0) pe_int (fun _ _ => rfl))) (blkOk_by (own := [("_law_row_here", 4)]) (N := nBh) (sc := defScope sBeh) (by decide +kernel))
        (fun _ _ _ _ _ => pg_name (i := 4) scBeh.nd rfl (.inl rfl))
        (fun _ _ _ _ _ => pts_one (PW.pt (pw_and (pt_cmpR (show OpR _ (compareOp .In) (rIn K false) from op_in_seq) (pe_ix (show IxR _ (rIxT K) from ix_tup) (pv 4) pe_int (fun _ _ => rfl)) (pv 1) (by rfl)) (pw_and1 (pt_cmpR (show OpR _ (compareOp .Eq) (rEqD K) from op_eqD hu) (pe_ix (show IxR _ (rIxT K) from ix_tup) (pv 4) pe_int (fun _ _ => rfl)) (pv 2) (nomark _))))))
        (fun _ _ _ _ _ => pv 4))
      (pss_one (ps_ret (pe_callB (cr_sortedSet rfl) (by rfl) T.sorted (by decide +kernel) (pa_cons (pe_callTy (cr_setI rfl) (by rfl) T.set (by decide +kernel) (pa_cons
        (pe_lc (own := [("_law_state", 5), ("_law_here", 6), ("_law_later", 7)]) (g := gTup K 3 (gCons (gName 5) (gCons (gName 6) (gCons (gName 7) gNil)))) (tt := tYes) (te := tVar 7) rfl scBeh.nd (pi_list (pv 3)) (blkOk_by (own := [("_law_state", 5), ("_law_here", 6), ("_law_later", 7)]) (N := nBh) (sc := defScope sBeh) (by decide +kernel))
        (fun _ _ _ _ _ => pg_tup rfl (pgs_cons (pg_name (i := 5) scBeh.nd rfl (.inl rfl)) (pgs_cons (pg_name (i := 6) scBeh.nd rfl (.inl rfl)) (pgs_cons (pg_name (i := 7) scBeh.nd rfl (.inl rfl)) pgs_nil))))
        (fun _ _ _ _ _ => pts_nil) (fun _ _ _ _ _ => pv 7)) pa_nil)) pa_nil)))), ?_⟩
    obtain ⟨M⟩ := mach_at hm
    have lx : M.xs.length = m.rows.length := by
      have z := kz_len M.all
      rw [List.length_map] at z
      exact z
    refine ⟨fun σ' H' => ∃ (D : Addr) (u4 : Option V) (L : List (Addr × RowM)), σ' = [some (.ref a), some (.ref l), some (.ref q), some (.ref D), u4, none, none, none] ∧ Same H H' ∧ H' D = some (.lst (L.map fun p => V.ref p.1)) ∧ L.map (·.2) = behRows fs d m.rows ∧ ∀ p ∈ L, ∃ dv, H p.1 = some (.tup [.int p.2.before, dv, .int p.2.after]), ?_, ?_⟩
    · refine ⟨_, rfl, a, _, 2, .ref M.t, rfl, rfl, SqT.of M.top, atI_nat (j := 2) rfl, M.t, rfl, ⟨_, SqT.of M.row⟩, fun D nD => ?_⟩
      have sD := same_upd (o := .lst []) nD
      refine lc_tup (xs := M.xs) (fun i H' => Same H H' ∧ ∃ L : List (Addr × RowM), H' D = some (.lst (L.map fun p => V.ref p.1)) ∧ L.map (·.2) = behRows fs d (m.rows.take i) ∧ ∀ p ∈ L, ∃ dv, H p.1 = some (.tup [.int p.2.before, dv, .int p.2.after])) ⟨sD, [], upd_same, rfl, fun _ z => nomatch z⟩ (fun i H' _ z => SqT.of (z.1 _ _ M.row)) ?_ ?_
      · rintro i v H2 hv ⟨s2, L, eL, mL, kL⟩
        obtain ⟨r, hr', ra, dv, rfl, er, kd⟩ := row_at M.all hv
        obtain ⟨qd, rfl, ed⟩ := deed_at kd
        have il : i < m.rows.length := (List.getElem?_eq_some_iff.mp hr').1
        have nx := behRows_next (fs := fs) (d := d) hr'
        refine ⟨rfl, _, rfl, ra, _, 0, .int r.before, rfl, rfl, SqT.of (s2 _ _ er), atI_nat (j := 0) rfl, _, rfl, l, _, rfl, .inl (SqL.of (s2 _ _ hl)), rfl, flat_ints, _, rfl, ?_⟩
        rw [show (if false = true then !inV (V.int r.before) (fs.map V.int) else inV (V.int r.before) (fs.map V.int)) = decide (r.before ∈ fs) from inV_ints]
        refine ifB (fun hb => ?_) fun hb => ?_
        · refine ⟨_, rfl, ra, _, 1, .ref qd, rfl, rfl, SqT.of (s2 _ _ er), atI_nat (j := 1) rfl, _, rfl, ?_⟩
          refine ⟨r.deed.key.data, d.key.data, deed_dp (s2 _ _ ed), deed_dp (s2 _ _ hq), deed_shaped (ok.r1 r (List.mem_of_getElem? hr')).dd, deed_shaped okd, _, rfl, ?_⟩
          rw [eqv_deed]
          refine ifB (fun hc => ?_) fun hc => ?_
          · rw [hb, hc, if_pos (by decide)] at nx
            refine ⟨_, rfl, _, eL, ?_, same_set s2 nD, L ++ [(ra, r)], ?_, ?_, fun p hp => ?_⟩
            · have g : (behRows fs d (m.rows.take i)).length ≤ (m.rows.take i).length := List.length_filter_le _ _
              have z := congrArg List.length mL
              rw [List.length_map] at z
              rw [List.length_take] at g
              have := ok.r3
              rw [List.length_map, sizeLine_eq]
              omega
            · rw [upd_same, List.map_append]
              rfl
            · rw [List.map_append, mL, nx]
              rfl
            · rcases List.mem_append.mp hp with z | z
              · exact kL p z
              · rw [List.mem_singleton.mp z]
                exact ⟨_, er⟩
          · rw [hc, Bool.and_false, if_neg (by decide), List.append_nil] at nx
            exact ⟨s2, L, eL, by rw [nx]; exact mL, kL⟩
        · rw [hb, Bool.false_and, if_neg (by decide), List.append_nil] at nx
          exact ⟨s2, L, eL, by rw [nx]; exact mL, kL⟩
      · rintro H2 ⟨s2, L, eL, mL, kL⟩
        rw [lx, List.take_length] at mL
        exact ⟨D, _, L, rfl, s2, eL, mL, kL⟩
    rintro σ2 H2 ⟨D, u4, L, rfl, s2, eL, mL, kL⟩
    have lL : L.length < 64 := by
      have g : (behRows fs d m.rows).length ≤ m.rows.length := List.length_filter_le _ _
      have z := congrArg List.length mL
      rw [List.length_map] at z
      have := ok.r3
      omega
    refine ⟨_, rfl, D, rfl, ⟨_, SqL.of eL⟩, fun C nC => ?_⟩
    have sC := same_upd (o := .lst []) nC
    refine lc_list (xs := L.map fun p => V.ref p.1) (fun i H' => Same H2 H' ∧ H' C = some (.lst (((L.take i).map fun p => p.2.after).map V.int))) ⟨sC, upd_same⟩ (fun i H' _ z => SqL.of (z.1 _ _ eL)) ?_ ?_
    · rintro i v H3 hv ⟨s3, e3⟩
      rw [List.getElem?_map] at hv
      cases ep : L[i]? with
      | none => rw [ep] at hv; exact nomatch hv
      | some p =>
        rw [ep] at hv
        obtain rfl : v = .ref p.1 := (Option.some.inj hv).symm
        obtain ⟨dv, er⟩ := kL p (List.mem_of_getElem? ep)
        refine ⟨p.1, _, rfl, SqT.of (s3 _ _ (s2 _ _ er)), rfl, _, _, rfl, _, _, rfl, _, _, rfl, rfl, rfl, tYes_ite ⟨_, rfl, _, e3, ?_, same_set s3 nC, ?_⟩⟩
        · rw [List.length_map, List.length_map, List.length_take, sizeLine_eq]
          omega
        · rw [upd_same, List.take_succ, ep, Option.toList_some, List.map_append, List.map_append]
          rfl
    · rintro H3 ⟨s3, e3⟩
      rw [List.length_map, List.take_length] at e3
      refine ⟨C, L.map fun p => p.2.after, rfl, SqL.of e3, by rw [List.length_map]; exact lL, fun a4 c4 n4 h4 => ?_⟩
      have s4 := same_upd (o := L2.SetO w a4 (fun j => decide (j ∈ L.map fun p => p.2.after)) c4) n4
      rw [List.length_map] at h4
      refine ⟨a4, _, c4, rfl, upd_same, by omega, fun ns p5 pw mem len n5 => ?_⟩
      have s5 := same_upd (o := .lst (ns.map V.int)) n5
      have ss := s2.trans (s3.trans s4)
      refine qq _ p5 ns (ss.trans s5) (ss.free n5) upd_same ⟨fun y => (mem y).trans ?_, pw⟩
      rw [decide_eq_true_iff]
      have em : (L.map fun p => p.2.after) = (behRows fs d m.rows).map (·.after) := by rw [← mL, List.map_map]; rfl
      rw [em]
      simp [behRows, Beh, and_assoc]
end
end K03
/-! Dicts whose keys are nested tuples, and whose values are objects. -/
namespace DN
open PySem PySem.Spec PyProof.Rows L2 NS
/-- key, its tuple, the value's object -/
abbrev Ent := NestedKey × Addr × Addr
abbrev rawOf (L : List Ent) : List (NestedKey × Addr × Value) := L.map fun p => (p.1, p.2.1, Value.ref p.2.2)
structure DSole (P : Program) (w : World) (h : Heap) (a : Addr) (L : List Ent) : Prop where
  few : L.length ≤ sizeLine
  ns : (a == sysModules) = false
  once : (L.map (·.1)).Nodup
  ex : ∃ o es ep, h.get? a = some o ∧ o.ExactDict ∧ o.data = .dict es ep ∧ es.toList = (rawOf L).map (entryOfKey (nestedKind P w))
def DNO (P : Program) (w : World) (a : Addr) (L : List Ent) : HO := .ext fun h => DSole P w h a L
theorem dnO_ok {P : Program} {w : World} {H : Hp} {h : Heap} {a : Addr} {L : List Ent} (R : DSole P w h a L) : ObjOk P w H h a (DNO P w a L) := by
  have z := R
  obtain ⟨o, es, ep, ho, r⟩ := R.ex
  refine ⟨z, ⟨o, ho⟩, fun h1 h2 p k => ?_⟩
  have p' : DSole P w h1 a L := p
  obtain ⟨o', es', ep', ho', r'⟩ := p'.ex
  exact ⟨p'.few, p'.ns, p'.once, o', es', ep', k o' ho', r'⟩
theorem raw_fst (L : List Ent) : (rawOf L).map (·.1) = L.map (·.1) := by
  rw [rawOf, List.map_map]
  rfl
theorem DSole.all {P : Program} {w : World} {h : Heap} {a : Addr} {L : List Ent} (R : DSole P w h a L) (ks : ∀ p ∈ L, (nestedKind P w).is h p.1 p.2.1) : Heap.DictOfH (nestedKind P w) h a (rawOf L) := by
  obtain ⟨o, es, ep, ho, e, d, l⟩ := R.ex
  refine ⟨o, es, ep, ho, e, d, l, fun x hx => ?_, by rw [raw_fst]; exact R.once⟩
  obtain ⟨p, hp, rfl⟩ := List.mem_map.mp hx
  exact ks p hp
section
variable {X : Cx}
/-- {} -/
def tDNew (X : Cx) : TE := fun σ H Q => ∀ p, H p = none → Q (.ref p) (upd H p (DNO X.prog X.w p []))
theorem pe_dnew {pos : Pos} : PE X (.Dict [] [] pos) (tDNew X) := by
  constructor
  intro pins s σ H Q I q
  refine wpAny_mono ((pe_dnewT (X := X) (pos := pos)).run pins s σ H (fun v H' => ∃ p, v = .ref p ∧ H p = none ∧ H' = upd H p (.dT [])) I fun p np => ⟨p, rfl, np, rfl⟩) ?_ (fun e s' z => z)
  rintro u s' ⟨v, H', J, rv, p, rfl, np, rfl⟩
  have ok := J.hok p _ upd_same
  obtain ⟨z, ns, xs, pr, o, es, ep, ho, ex, dt, tl, nd⟩ := ok
  have xn : xs = [] := by cases pr; rfl
  subst xn
  have R : DSole X.prog X.w s'.heap p [] := ⟨Nat.zero_le _, ns, List.nodup_nil, o, es, ep, ho, ex, dt, tl⟩
  have J2 := J.write (x := p) (e := p) (o := DNO X.prog X.w p []) (h' := s'.heap) (t' := s'.toks) (by rw [upd_same]; trivial) (.inl rfl) (fun b u _ e => e) ⟨o, ho⟩ (dnO_ok R)
  rw [upd_upd] at J2
  exact ⟨.ref p, _, J2, rv, q p np⟩
/-- d[k] = v for a key that is not there -/
def rSetN (X : Cx) : TSet := fun o i v H Q => ∃ (d b c : Addr) (L : List Ent) (k : NestedKey), o = .ref d ∧ i = .ref b ∧ v = .ref c ∧ H d = some (DNO X.prog X.w d L) ∧ Kz H (.ref b) k ∧ k.depth ≤ 8 ∧ (∀ p ∈ L, Kz H (.ref p.2.1) p.1 ∧ p.1.depth ≤ 8) ∧ k ∉ L.map (·.1) ∧ L.length < sizeLine ∧ Q (upd H d (DNO X.prog X.w d (L ++ [(k, b, c)])))
theorem set_dn (hu : X.A.units + 16 < cLine) : PSet X (rSetN X) := by
  intro pins s σ H o i v ov iv u Q I ro ri rv h
  obtain ⟨d, b, c, L, k, rfl, rfl, rfl, hd, hk, dp, ks, no, few, q⟩ := h
  cases ro
  cases ri
  cases rv
  have R : DSole X.prog X.w s.heap d L := (I.hok d _ hd).1
  have isk : (nestedKind X.prog X.w).is s.heap k b := ⟨(Kz.is I k _ _ hk rfl).1, dp⟩
  have D := R.all fun p mp => ⟨(Kz.is I p.1 _ _ (ks p mp).1 rfl).1, (ks p mp).2⟩
  have st : storedH (rawOf L) k b (.ref c) = rawOf (L ++ [(k, b, c)]) := by
    have na : atKey (rawOf L) k = none := by
      rw [atKey]
      have : (rawOf L).find? (fun x => decide (x.1 = k)) = none := by
        rw [List.find?_eq_none]
        intro x hx e
        have e' : x.1 = k := by simpa using e
        obtain ⟨p, hp, rfl⟩ := List.mem_map.mp hx
        exact no (List.mem_map.mpr ⟨p, hp, e'⟩)
      rw [this]
      rfl
    rw [storedH, na]
    show rawOf L ++ _ = _
    rw [rawOf, rawOf, List.map_append]
    rfl
  refine wpAny_setItem_heap (knd := nestedKind X.prog X.w) (by show X.A.units + 1 + 8 < cLine; omega) isk D (fun h' D' sb => ?_) (by rw [rawOf, List.length_map]; exact R.few)
  rw [st] at D'
  obtain ⟨o', es', ep', ho', ex', dt', tl', _, nd'⟩ := D'
  rw [raw_fst] at nd'
  have R' : DSole X.prog X.w h' d (L ++ [(k, b, c)]) := ⟨by rw [List.length_append]; exact few, R.ns, nd', o', es', ep', ho', ex', dt', tl'⟩
  exact ⟨_, I.write (x := d) (e := d) (by rw [hd]; trivial) (.inl rfl) (fun b u n e => (sb.2 b n).trans e) ⟨o', ho'⟩ (dnO_ok R'), q⟩
/-- len(d) -/
def rLenN (X : Cx) : List V → Hp → VK → Prop := fun vs H Q => ∃ (d : Addr) (L : List Ent), vs = [.ref d] ∧ H d = some (DNO X.prog X.w d L) ∧ (∀ p ∈ L, Kz H (.ref p.2.1) p.1 ∧ p.1.depth ≤ 8) ∧ Q (.int L.length) H
end
end DN
/-! d == e and len(d) of dicts with nested keys. -/
namespace DN
open PySem PySem.W PySem.Spec PyProof.Rows L2 NS
section
variable {P : Program} {w : World} {A : Around} {E : Value → Shared → Prop} {s : Shared}
theorem call_deq {a b : Addr} {Q : Value → Shared → Prop} (ha : s.TypeIs (.ref a) "dict") (hb : s.TypeIs (.ref b) "dict") (h : wpAny (model P w) A.in1 (Builtin.Dict.samePairs "dict.__eq__" a b) (fun r s' => Q (.bool (r == true)) s') E s) : wpAny (model P w) A (call (.builtin "dict.__eq__") [.ref a, .ref b]) Q E s := by
  refine wpAny_call_entry F.slot_dict_eq ha F.entry_dict_eq ?_
  show wpAny _ _ (Builtin.Dict.dictSlotArgs "__eq__" { pos := [Value.ref a, Value.ref b] } >>= _) _ _ _
  have e : Builtin.Dict.dictSlotArgs "__eq__" { pos := [Value.ref a, Value.ref b] } = pure (Value.ref a, Value.ref b) := rfl
  rw [e]
  refine wpAny_bind (wpAny_pure ?_)
  refine wpAny_bind (wpAny_isInstance hb (b := true) (by rfl) ?_)
  simp only [Bool.not_true, Bool.false_eq_true, if_false]
  refine wpAny_bind (wpAny_pure ?_)
  refine wpAny_bind (wpAny_pure ?_)
  refine wpAny_bind (wpAny_mono h ?_ (fun e s' z => z))
  intro r s' q
  exact wpAny_pure ⟨_, rfl, q⟩
theorem same_pairs {a b : Addr} {L M : List Ent} {Q : Bool → Shared → Prop} (RA : DSole P w s.heap a L) (RB : DSole P w s.heap b M) (ka : ∀ p ∈ L, (nestedKind P w).is s.heap p.1 p.2.1) (kb : ∀ p ∈ M, (nestedKind P w).is s.heap p.1 p.2.1) (room : A.units + 8 < cLine)
    (len : L.length = M.length) (eqs : ∀ p ∈ L, ∃ q ∈ M, q.1 = p.1 ∧ SeqAt.EqIn P w A s (.ref p.2.2) (.ref q.2.2) true) (h : Q true s) : wpAny (model P w) A (Builtin.Dict.samePairs "dict.__eq__" a b) Q E s := by
  obtain ⟨oa, esa, epa, hoa, exa, dta, tla⟩ := RA.ex
  obtain ⟨ob, esb, epb, hob, exb, dtb, tlb⟩ := RB.ex
  have sza : esa.size = L.length := by
    rw [← Array.length_toList, tla, List.length_map, rawOf, List.length_map]
  have szb : esb.size = M.length := by
    rw [← Array.length_toList, tlb, List.length_map, rawOf, List.length_map]
  unfold Builtin.Dict.samePairs
  have sh : ∀ d : Addr, (d == sysModules) = false → Builtin.Dict.showsAll d = pure () := fun d z => by
    unfold Builtin.Dict.showsAll
    rw [z]
    rfl
  rw [sh a RA.ns, sh b RB.ns]
  refine wpAny_bind (wpAny_pure (wpAny_bind (wpAny_pure (wpAny_bind (wpAny_dictEntries hoa dta ?_)))))
  refine wpAny_bind (wpAny_dictEntries hob dtb ?_)
  have ne : (esa.size != esb.size) = false := by
    rw [sza, szb, len]
    exact bne_self_eq_false _
  simp only [ne, Bool.false_eq_true, if_false]
  refine wpAny_bind (wpAny_dictEpoch hoa dta ?_)
  refine wpAny_bind ?_
  rw [Std.Legacy.Range.forIn_eq_forIn_range']
  refine wpAny_forIn_list _ (fun l r s1 => s1 = s ∧ r.1 = none ∧ ∀ i ∈ l, i < L.length) _ (fun i l r s1 I => ?_) (fun r s1 I => ?_) _ _ ⟨rfl, rfl, fun i hi => ?_⟩
  · obtain ⟨rfl, e, al⟩ := I
    have il := al i List.mem_cons_self
    refine wpAny_bind (wpAny_dictEntries hoa dta ?_)
    have ei : esa[i]? = some (entryOfKey (nestedKind P w) (L[i].1, L[i].2.1, Value.ref L[i].2.2)) := by
      rw [← Array.getElem?_toList, tla, List.getElem?_map, rawOf, List.getElem?_map, List.getElem?_eq_getElem il]
      rfl
    simp only [ei]
    have mi : L[i] ∈ L := List.getElem_mem il
    obtain ⟨q, mq, kq, veq⟩ := eqs _ mi
    have DB := RB.all kb
    refine wpAny_bind (wpAny_holding (wpAny_bind (wpAny_dictFind_heap (knd := nestedKind P w) room (ka _ mi) hob dtb tlb (fun x hx => ?_) (by rw [raw_fst]; exact RB.once) (fun no => ?_) (fun j p hj => ?_))))
    · obtain ⟨p, hp, rfl⟩ := List.mem_map.mp hx
      exact kb p hp
    · exfalso
      obtain ⟨j, hj⟩ := List.getElem?_of_mem mq
      refine no j (q.2.1, .ref q.2.2) ?_
      rw [rawOf, List.getElem?_map, hj, ← kq]
      rfl
    · have jm : (rawOf M)[j]? = some (L[i].1, p) := hj
      rw [rawOf, List.getElem?_map] at jm
      cases em : M[j]? with
      | none =>
        rw [em] at jm
        exact nomatch jm
      | some t =>
        rw [em] at jm
        have et : (t.1, t.2.1, Value.ref t.2.2) = (L[i].1, p) := Option.some.inj jm
        have e1 : t.1 = L[i].1 := (Prod.mk.inj et).1
        have tq : t = q := by
          have mt : t ∈ M := List.mem_of_getElem? em
          have nd := RB.once
          have inj : ∀ {M : List Ent}, (M.map (·.1)).Nodup → t ∈ M → q ∈ M → t = q := fun {M} => by
            induction M with
            | nil => intro _ h _; exact nomatch h
            | cons x M ih =>
              intro nd h1 h2
              rw [List.map_cons, List.nodup_cons] at nd
              have kk : t.1 = q.1 := e1.trans kq.symm
              rcases List.mem_cons.mp h1 with r1 | r1
              · rcases List.mem_cons.mp h2 with r2 | r2
                · rw [r1, r2]
                · exact absurd (List.mem_map.mpr ⟨q, r2, by rw [← kk, r1]⟩) nd.1
              · rcases List.mem_cons.mp h2 with r2 | r2
                · exact absurd (List.mem_map.mpr ⟨t, r1, by rw [kk, r2]⟩) nd.1
                · exact ih nd.2 r1 r2
          exact inj nd mt mq
        subst tq
        dsimp only
        refine wpAny_bind (wpAny_dictEntries hob dtb ?_)
        have ej : esb[j]? = some (entryOfKey (nestedKind P w) (t.1, t.2.1, Value.ref t.2.2)) := by
          rw [← Array.getElem?_toList, tlb, List.getElem?_map, rawOf, List.getElem?_map, em]
          rfl
        simp only [ej]
        refine wpAny_holding (veq _ _ ?_)
        simp only [Bool.not_true, Bool.false_eq_true, if_false]
        refine wpAny_bind (wpAny_dictEpoch hoa dta ?_)
        simp only [bne_self_eq_false, Bool.false_eq_true, if_false]
        exact wpAny_pure ⟨rfl, rfl, fun k hk => al k (List.mem_cons_of_mem _ hk)⟩
  · obtain ⟨r1, r2⟩ := r
    obtain ⟨rfl, e, _⟩ := I
    cases e
    exact wpAny_pure h
  · have z := List.mem_range'.mp hi
    obtain ⟨k, hk, rfl⟩ := z
    rw [← sza]
    simpa [Std.Legacy.Range.size] using hk
end
section
variable {X : Cx}
def tupIB (n : Int) (b : Bool) : HO := .tup [.int n, .bl b]
/-- d == e: the same keys, the values tuples (number, truth) that are equal -/
def rEqN (X : Cx) : R2 := fun x y H Q => ∃ (a b : Addr) (L M : List Ent), x = .ref a ∧ y = .ref b ∧ a ≠ b ∧ H a = some (DNO X.prog X.w a L) ∧ H b = some (DNO X.prog X.w b M) ∧ (∀ p ∈ L, Kz H (.ref p.2.1) p.1 ∧ p.1.depth ≤ 8) ∧ (∀ p ∈ M, Kz H (.ref p.2.1) p.1 ∧ p.1.depth ≤ 8) ∧ L.length = M.length ∧
  (∀ p ∈ L, ∃ q ∈ M, q.1 = p.1 ∧ ∃ n t, H p.2.2 = some (tupIB n t) ∧ H q.2.2 = some (tupIB n t)) ∧ Q (.bl true) H
theorem op_eqN (hu : X.A.units + 64 < cLine) : OpR X (compareOp .Eq) (rEqN X) := by
  intro pins s σ H x y v u Q I rx ry h
  obtain ⟨a, b, L, M, rfl, rfl, ne, ha, hb, ka, kb, len, eqs, q⟩ := h
  cases rx
  cases ry
  have RA : DSole X.prog X.w s.heap a L := (I.hok a _ ha).1
  have RB : DSole X.prog X.w s.heap b M := (I.hok b _ hb).1
  have isa : ∀ p ∈ L, (nestedKind X.prog X.w).is s.heap p.1 p.2.1 := fun p mp => ⟨(Kz.is I p.1 _ _ (ka p mp).1 rfl).1, (ka p mp).2⟩
  have isb : ∀ p ∈ M, (nestedKind X.prog X.w).is s.heap p.1 p.2.1 := fun p mp => ⟨(Kz.is I p.1 _ _ (kb p mp).1 rfl).1, (kb p mp).2⟩
  have ty : ∀ {d : Addr} {L : List Ent}, DSole X.prog X.w s.heap d L → s.TypeIs (.ref d) "dict" := fun R => by
    obtain ⟨o, es, ep, ho, ex, _⟩ := R.ex
    exact ⟨o, ho, ex.1⟩
  show wpAny _ _ (richCompare .Eq _ _) _ _ _
  refine wpAny_richCompare_same_room (T := "dict") (ty RA) (ty RB) F.slot_dict_eq ?_ (by omega)
  refine call_deq (ty RA) (ty RB) ?_
  refine same_pairs RA RB isa isb (by show X.A.units + 1 + 8 < cLine; omega) len (fun p mp => ?_) ⟨fun z => (nomatch z), .bl true, H, I, rfl, q⟩
  obtain ⟨t, mt, kt, n, z, ep, eq⟩ := eqs p mp
  refine ⟨t, mt, kt, ?_⟩
  by_cases c : p.2.2 = t.2.2
  · rw [c]
    exact EqTree.at (n := 0) EqTree.same _ (by show X.A.units + 1 + 0 < cLine; omega)
  · obtain ⟨its1, rv1, T1⟩ := (I.hok _ _ ep).2
    obtain ⟨its2, rv2, T2⟩ := (I.hok _ _ eq).2
    cases rv1 with
    | cons a1 r1 =>
      cases r1 with
      | cons b1 r1 =>
        cases r1
        cases rv2 with
        | cons a2 r2 =>
          cases r2 with
          | cons b2 r2 =>
            cases r2
            obtain ⟨u1, rfl⟩ := a1
            obtain ⟨u2, rfl⟩ := a2
            cases b1
            cases b2
            have T := EqTree.tuples (prog := X.prog) (w := X.w) (s := s) (n := 0) (e := fun _ => true) c T1 T2 (fun j h1 h2 => by
              match j, h1 with
              | 0, _ => exact .leaf fun A _ => by simpa using SeqAt.EqAt.int_int (A := A) (s := s) n u1 n u2
              | 1, _ => exact .leaf fun A _ => by simpa using SeqAt.EqAt.bool_bool (A := A) (s := s) z z
              | j + 2, h1 => exact absurd h1 (by simp))
            exact EqTree.at T _ (by show X.A.units + 1 + 1 < cLine; omega)
/-- len(d) -/
theorem call_lenN : CallR X (.builtin "len") (rLenN X) := by
  intro pins s σ H vs us Q I r h
  obtain ⟨d, L, rfl, hd, ks, q⟩ := h
  have R : DSole X.prog X.w s.heap d L := (I.hok d _ hd).1
  have D := R.all fun p mp => ⟨(Kz.is I p.1 _ _ (ks p mp).1 rfl).1, (ks p mp).2⟩
  rw [Vals.ref1 r]
  have ty : s.TypeIs (.ref d) "dict" := by
    obtain ⟨o, es, ep, ho, ex, _⟩ := R.ex
    exact ⟨o, ho, ex.1⟩
  have few := R.few
  rw [sizeLine_eq] at few
  have hl : (pairsH (rawOf L)).length = L.length := by rw [pairsH, List.length_map, rawOf, List.length_map]
  refine call_len_slot (n := (L.length : Int)) ty F.slot_dict_len (fun Q' hq => len_keyed (knd := nestedKind X.prog X.w) (kvs := pairsH (rawOf L)) R.ns ⟨rawOf L, D, rfl⟩ (by rw [hl]; exact hq)) (by omega) (by omega) ?_
  exact ⟨.int L.length, H, I.kept (t' := s.toks + 1 + 1) (fun b o e => e), ⟨_, rfl⟩, q⟩
end
end DN
/-! The rows of a machine and what they come to, level by level, as functions. -/
namespace K03
open PySem PySem.Spec PyProof.Rows L2 WD NS MC GL
theorem ints_ext : ∀ l l' : List Int, l.Pairwise (· < ·) → l'.Pairwise (· < ·) → (∀ x, x ∈ l ↔ x ∈ l') → l = l'
  | [], [], _, _, _ => rfl
  | [], b :: t, _, _, h => absurd ((h b).mpr List.mem_cons_self) List.not_mem_nil
  | a :: t, [], _, _, h => absurd ((h a).mp List.mem_cons_self) List.not_mem_nil
  | a :: t, b :: t', h1, h2, h => by
    obtain ⟨a1, a2⟩ := List.pairwise_cons.mp h1
    obtain ⟨b1, b2⟩ := List.pairwise_cons.mp h2
    have e : a = b := by
      have x := (h a).mp List.mem_cons_self
      have y := (h b).mpr List.mem_cons_self
      rcases List.mem_cons.mp x with e | x
      · exact e
      · rcases List.mem_cons.mp y with e | y
        · exact e.symm
        · have := a1 b y
          have := b1 a x
          omega
    subst e
    rw [ints_ext t t' a2 b2 fun x => ⟨fun hx => ?_, fun hx => ?_⟩]
    · rcases List.mem_cons.mp ((h x).mp (List.mem_cons_of_mem _ hx)) with e | z
      · have := a1 x hx
        omega
      · exact z
    · rcases List.mem_cons.mp ((h x).mpr (List.mem_cons_of_mem _ hx)) with e | z
      · have := b1 x hx
        omega
      · exact z
theorem BehOf.ext {m : MachM} {fs : List Int} {d : Deed} {ys zs : List Int} (a : BehOf m fs d ys) (b : BehOf m fs d zs) : ys = zs := ints_ext _ _ a.asc b.asc fun x => (a.mem x).trans (b.mem x).symm
def behF (m : MachM) (fs : List Int) (d : Deed) : List Int := ((List.range m.size).map fun i : Nat => (i : Int)).filter fun y => m.rows.any fun r => decide (r.before ∈ fs) && (decide (r.deed = d) && decide (r.after = y))
theorem behF_of {m : MachM} (ok : m.Ok) (fs : List Int) (d : Deed) : BehOf m fs d (behF m fs d) := by
  refine ⟨fun y => ?_, ?_⟩
  · rw [behF, List.mem_filter, List.any_eq_true]
    constructor
    · rintro ⟨_, r, hr, h⟩
      simp only [Bool.and_eq_true, decide_eq_true_eq] at h
      exact ⟨r, hr, h.1, h.2.1, h.2.2⟩
    · rintro ⟨r, hr, h1, h2, rfl⟩
      have a0 := (ok.r1 r hr).a0
      have a1 := (ok.r1 r hr).a1
      refine ⟨List.mem_map.mpr ⟨r.after.toNat, List.mem_range.mpr (by omega), by show ((r.after.toNat : Nat) : Int) = _; omega⟩, r, hr, ?_⟩
      simp [h1, h2]
  · refine List.Pairwise.filter _ (List.pairwise_map.mpr (List.pairwise_lt_range.imp fun h => ?_))
    omega
abbrev Item := List Deed × List Int
abbrev RowR := List Deed × Int × Bool
def finF (m : MachM) (fs : List Int) : Bool := fs.any fun k => decide (k ∈ m.finals)
def stepE (m : MachM) (nf : Nat) (it : Item) (later : List Item) (d : Deed) : List Item := if behF m it.2 d ≠ [] ∧ nf + later.length < 60 then later ++ [(it.1 ++ [d], behF m it.2 d)] else later
def rowR (m : MachM) (it : Item) : RowR := (it.1, (it.2.length : Int), finF m it.2)
def stepL (m : MachM) (E : List Deed) (acc : List RowR × List Item) (it : Item) : List RowR × List Item := (acc.1 ++ [rowR m it], E.foldl (stepE m (acc.1.length + 1) it) acc.2)
def stepR (m : MachM) (E : List Deed) (st : List RowR × List Item) : List RowR × List Item := st.2.foldl (stepL m E) (st.1, [])
def itR (m : MachM) (E : List Deed) : Nat → List RowR × List Item
  | 0 => ([], [([], [0])])
  | n + 1 => stepR m E (itR m E n)
theorem fold_fst {m : MachM} {E : List Deed} : ∀ (lv : List Item) (acc : List RowR × List Item), (lv.foldl (stepL m E) acc).1 = acc.1 ++ lv.map (rowR m)
  | [], acc => by simp
  | it :: lv, acc => by
    rw [List.foldl_cons, fold_fst lv]
    simp [stepL]
/-- what stands in the list of the next level, behind j items and t deeds of item j -/
structure LaterOk (n : Nat) (lv : List Item) (E : List Deed) (j t : Nat) (later : List Item) : Prop where
  len : later.length ≤ 60
  from' : ∀ x ∈ later, ∃ (i u : Nat) (it : Item) (d : Deed), lv[i]? = some it ∧ E[u]? = some d ∧ (i < j ∨ i = j ∧ u < t) ∧ x.1 = it.1 ++ [d]
  once : (later.map (·.1)).Nodup
  sts : ∀ x ∈ later, x.2.length ≤ 30
structure LevOk (n : Nat) (st : List RowR × List Item) : Prop where
  old : ∀ x ∈ st.1, x.1.length < n
  fst : (st.1.map (·.1)).Nodup
  new : ∀ x ∈ st.2, x.1.length = n
  snd : (st.2.map (·.1)).Nodup
  few : st.2.length ≤ 60
  sts : ∀ x ∈ st.2, x.2.length ≤ 30
theorem nodup_at {α β : Type} {f : α → β} : ∀ {l : List α} {i j : Nat} {x y : α}, (l.map f).Nodup → l[i]? = some x → l[j]? = some y → f x = f y → i = j
  | [], _, _, _, _, _, h, _, _ => by simp at h
  | a :: l, 0, 0, _, _, _, _, _, _ => rfl
  | a :: l, 0, j + 1, x, y, nd, hx, hy, e => by
    rw [List.map_cons, List.nodup_cons] at nd
    obtain rfl : a = x := Option.some.inj hx
    exact absurd (List.mem_map.mpr ⟨y, List.mem_of_getElem? (show l[j]? = some y from hy), e.symm⟩) nd.1
  | a :: l, i + 1, 0, x, y, nd, hx, hy, e => by
    rw [List.map_cons, List.nodup_cons] at nd
    obtain rfl : a = y := Option.some.inj hy
    exact absurd (List.mem_map.mpr ⟨x, List.mem_of_getElem? (show l[i]? = some x from hx), e⟩) nd.1
  | a :: l, i + 1, j + 1, x, y, nd, hx, hy, e => by
    rw [List.map_cons, List.nodup_cons] at nd
    rw [nodup_at (i := i) (j := j) nd.2 hx hy e]
theorem behF_len {m : MachM} {fs : List Int} {d : Deed} : (behF m fs d).length ≤ m.size := by
  have z := List.length_filter_le (fun y => m.rows.any fun r => decide (r.before ∈ fs) && (decide (r.deed = d) && decide (r.after = y))) ((List.range m.size).map fun i : Nat => (i : Int))
  rw [List.length_map, List.length_range] at z
  exact z
theorem LaterOk.next {m : MachM} {n nf : Nat} {lv : List Item} {E : List Deed} {j t : Nat} {later : List Item} {it : Item} {d : Deed} (ok : m.Ok) (Ls : LaterOk n lv E j t later) (lvn : (lv.map (·.1)).Nodup) (En : E.Nodup) (hj : lv[j]? = some it) (ht : E[t]? = some d) : LaterOk n lv E j (t + 1) (stepE m nf it later d) := by
  rw [stepE]
  by_cases c : behF m it.2 d ≠ [] ∧ nf + later.length < 60
  · rw [if_pos c]
    refine ⟨by rw [List.length_append]; show later.length + 1 ≤ 60; omega, fun x hx => ?_, ?_, fun x hx => ?_⟩
    · rcases List.mem_append.mp hx with z | z
      · obtain ⟨i, u, it', d', h1, h2, h3, h4⟩ := Ls.from' x z
        exact ⟨i, u, it', d', h1, h2, h3.imp id fun h => ⟨h.1, by omega⟩, h4⟩
      · rw [List.mem_singleton.mp z]
        exact ⟨j, t, it, d, hj, ht, .inr ⟨rfl, by omega⟩, rfl⟩
    · rw [List.map_append, List.nodup_append]
      refine ⟨Ls.once, by simp, fun a ha b hb e => ?_⟩
      obtain ⟨x, hx, rfl⟩ := List.mem_map.mp ha
      have eb : b = it.1 ++ [d] := by simpa using hb
      obtain ⟨i, u, it', d', h1, h2, h3, h4⟩ := Ls.from' x hx
      have e2 : it'.1 ++ [d'] = it.1 ++ [d] := by rw [← h4, e, eb]
      have e3 := List.append_inj' e2 rfl
      have ij := nodup_at lvn h1 hj e3.1
      have ed : d' = d := by simpa using e3.2
      have ut : u = t := nodup_at (f := id) (by rw [List.map_id]; exact En) h2 ht ed
      omega
    · rcases List.mem_append.mp hx with z | z
      · exact Ls.sts x z
      · rw [List.mem_singleton.mp z]
        exact Nat.le_trans behF_len ok.s1
  · rw [if_neg c]
    refine ⟨Ls.len, fun x hx => ?_, Ls.once, Ls.sts⟩
    obtain ⟨i, u, it', d', h1, h2, h3, h4⟩ := Ls.from' x hx
    exact ⟨i, u, it', d', h1, h2, h3.imp id fun h => ⟨h.1, by omega⟩, h4⟩
theorem LaterOk.turn {n : Nat} {lv : List Item} {E : List Deed} {j : Nat} {later : List Item} (Ls : LaterOk n lv E j E.length later) : LaterOk n lv E (j + 1) 0 later := by
  refine ⟨Ls.len, fun x hx => ?_, Ls.once, Ls.sts⟩
  obtain ⟨i, u, it', d', h1, h2, h3, h4⟩ := Ls.from' x hx
  exact ⟨i, u, it', d', h1, h2, .inl (by omega), h4⟩
theorem lev_zero {m : MachM} {E : List Deed} : LevOk 0 (itR m E 0) := ⟨(fun x h => (nomatch h)), List.nodup_nil, (fun x h => by rw [List.mem_singleton.mp h]; rfl), (by rw [itR]; simp), (by rw [itR]; simp), (fun x h => by rw [List.mem_singleton.mp h]; decide)⟩
theorem LevOk.next {m : MachM} {n : Nat} {E : List Deed} {st : List RowR × List Item} (S : LevOk n st) (Ls : LaterOk n st.2 E st.2.length 0 (stepR m E st).2) : LevOk (n + 1) (stepR m E st) := by
  have e1 : (stepR m E st).1 = st.1 ++ st.2.map (rowR m) := fold_fst _ _
  refine ⟨fun x hx => ?_, ?_, fun x hx => ?_, Ls.once, Ls.len, Ls.sts⟩
  · rw [e1] at hx
    rcases List.mem_append.mp hx with z | z
    · have := S.old x z
      omega
    · obtain ⟨it, hi, rfl⟩ := List.mem_map.mp z
      have := S.new it hi
      show it.1.length < n + 1
      omega
  · rw [e1, List.map_append, List.nodup_append]
    refine ⟨S.fst, ?_, fun a ha b hb e => ?_⟩
    · rw [List.map_map]
      exact S.snd
    · obtain ⟨x, hx, rfl⟩ := List.mem_map.mp ha
      rw [List.map_map] at hb
      obtain ⟨it, hi, rfl⟩ := List.mem_map.mp hb
      have h1 := S.old x hx
      have h2 := S.new it hi
      have e' : x.1 = it.1 := e
      rw [e', h2] at h1
      omega
  · obtain ⟨i, u, it, d, h1, h2, h3, h4⟩ := Ls.from' x hx
    rw [h4, List.length_append, S.new it (List.mem_of_getElem? h1)]
    rfl
def keyOf (ds : List Deed) : NestedKey := .tup (ds.map Deed.key)
theorem keyOf_inj {a b : List Deed} (h : keyOf a = keyOf b) : a = b := by
  injection h with h
  revert b
  induction a with
  | nil => intro b h; cases b with
    | nil => rfl
    | cons x b => exact nomatch h
  | cons x a ih => intro b h; cases b with
    | nil => exact nomatch h
    | cons y b =>
      injection h with h1 h2
      rw [deed_inj h1, ih h2]
theorem deed_depth (d : Deed) : d.key.depth ≤ 3 := by cases d <;> simp [Deed.key, NestedKey.depth, NestedKey.depthAll]
theorem keyOf_depth (ds : List Deed) : (keyOf ds).depth ≤ 8 := by
  have all : ∀ ds : List Deed, NestedKey.depthAll (ds.map Deed.key) ≤ 3 := fun ds => by
    induction ds with
    | nil => simp [NestedKey.depthAll]
    | cons d ds ih =>
      have := deed_depth d
      simp only [List.map_cons, NestedKey.depthAll]
      omega
  have := all ds
  simp only [keyOf, NestedKey.depth]
  omega
end K03
/-! xs != [] for any list, whatever is in it. -/
namespace NE
open PySem PySem.Spec PyProof.Rows L2
section
variable {X : Cx}
def rNeE (K : PySem.W.Frag) : R2 := fun x y H Q => ∃ (a b : Addr) (xs : List V), x = .ref a ∧ y = .ref b ∧ SqL K H a xs ∧ SqL K H b [] ∧ Q (.bl (!xs.isEmpty)) H
theorem op_neE (hu : X.A.units + 64 < cLine) : OpR X (compareOp .NotEq) (rNeE X.K) := by
  intro pins s σ H x y v u Q I rx ry h
  obtain ⟨a, b, xs, rfl, rfl, ha, hb, q⟩ := h
  obtain rfl : v = Value.ref a := rx
  obtain rfl : u = Value.ref b := ry
  obtain ⟨its, rv, ⟨o, n, ho, hc, hdn, hd⟩, _⟩ := I.list ha
  obtain ⟨its2, rv2, ⟨o2, n2, ho2, hc2, hdn2, hd2⟩, _⟩ := I.list hb
  have e2 : its2 = [] := by cases rv2; rfl
  subst e2
  have l1 : s.heap.IsList a its.toArray := ⟨o, ho, hc, n, hd⟩
  have l2 : s.heap.IsList b ([] : List Value).toArray := ⟨o2, ho2, hc2, n2, hd2⟩
  have hu' : X.A.units < cLine := by omega
  cases xs with
  | nil =>
    have e1 : its = [] := by cases rv; rfl
    subst e1
    exact SeqAt.RcNeAt.lists (e := fun _ => true) l1 l2 rfl hu' (fun j h1 _ => absurd h1 (by simp)) X.prog X.w _ _ ⟨.bl _, H, I, rfl, q⟩
  | cons x xs =>
    cases rv with
    | cons r1 r2 => exact SeqAt.RcNeAt.lists_lengths l1 l2 (by simp) hu' X.prog X.w _ _ ⟨.bl _, H, I, rfl, q⟩
end
end NE
/-! _law_rows -/
namespace K03
open PySem PySem.Spec PyProof.Rows L2 WD NS MC GL
open C8 (pss_cut tCut)
open DN (DNO Ent tupIB)
abbrev sRowsL : Stmt := topS 35
abbrev nRw : List Str := ["_law_machine", "_law_longest", "_law_found", "_law_level", "_law_deed", "_law_later", "_law_deeds", "_law_turn", "_law_row_here", "_law_states", "_law_behind_here", "_law_state"]
theorem scRows : FnScope nRw ["_law_machine", "_law_longest"] (defScope sRowsL) := ⟨rfl, rfl, rfl, by decide +kernel, rfl, by decide +kernel, by decide +kernel⟩
/-- the deeds of the rows, ascending -/
structure DeedsOf (m : MachM) (E : List Deed) : Prop where
  mem : ∀ d, d ∈ E ↔ ∃ r ∈ m.rows, r.deed = d
  asc : E.Pairwise fun d e => PySem.W.dataLt d.key.data e.key.data = true
theorem deed_irr (d : Deed) : ¬ PySem.W.dataLt d.key.data d.key.data = true := fun h => by
  have e : PySem.W.dataLt d.key.data d.key.data = false := by
    show lexI _ _ = _
    induction PySem.W.keyToks d.key.data with
    | nil => rfl
    | cons p l ih => rw [lex_same, ih]
  rw [e] at h
  exact nomatch h
theorem DeedsOf.once {m : MachM} {E : List Deed} (D : DeedsOf m E) : E.Nodup := List.Pairwise.imp (fun {d e} h (z : d = e) => deed_irr e (by rw [z] at h; exact h)) D.asc
theorem alike_deeds {L : List NS.Row} (h : ∀ p ∈ L, ∃ d : Deed, p.2 = d.key) : PySem.W.AllAlike (L.map fun p => p.2.data) := by
  intro d hd e he
  obtain ⟨p, hp, rfl⟩ := List.mem_map.mp hd
  obtain ⟨q, hq, rfl⟩ := List.mem_map.mp he
  obtain ⟨r, e1⟩ := h p hp
  obtain ⟨s, e2⟩ := h q hq
  show PySem.W.alike p.2.data q.2.data = true
  rw [e1, e2]
  exact deed_alike r s
theorem sortable_deeds {L : List NS.Row} (h : ∀ p ∈ L, ∃ d : Deed, p.2 = d.key) : PySem.W.Sortable (L.map fun p => p.2.data) := by
  refine .inl fun d hd => ?_
  obtain ⟨p, hp, rfl⟩ := List.mem_map.mp hd
  obtain ⟨r, e1⟩ := h p hp
  cases r with
  | step => exact ⟨.str "step", [], by show p.2.data = _; rw [e1]; rfl⟩
  | ex b n l => exact ⟨.str (wordOf b), [.str n, .str l], by show p.2.data = _; rw [e1]; rfl⟩
theorem as_deeds : ∀ {L : List NS.Row}, (∀ p ∈ L, ∃ d : Deed, p.2 = d.key) → ∃ ds : List (Addr × Deed), L.map (fun p => V.ref p.1) = ds.map (fun p => V.ref p.1) ∧ L = ds.map fun p => (p.1, p.2.key)
  | [], _ => ⟨[], rfl, rfl⟩
  | p :: L, h => by
    obtain ⟨d, e⟩ := h p List.mem_cons_self
    obtain ⟨ds, e1, e2⟩ := as_deeds fun q hq => h q (List.mem_cons_of_mem _ hq)
    refine ⟨(p.1, d) :: ds, by rw [List.map_cons, List.map_cons, e1], ?_⟩
    rw [List.map_cons, ← e2, ← e]
theorem strict_deeds {ds : List (Addr × Deed)} (once : (ds.map fun p => p.2.key).Nodup) (le : (ds.map fun p => ((p.1, p.2.key) : NS.Row)).Pairwise (fun x y => NS.rowLe x y = true)) : (ds.map (·.2)).Pairwise fun d e => PySem.W.dataLt d.key.data e.key.data = true := by
  refine List.pairwise_map.mpr (((List.pairwise_map.mp le).and (List.pairwise_map.mp once)).imp fun {x y} h => ?_)
  refine lt_of_le (deed_alike _ _) h.2 ?_
  have q := h.1
  unfold NS.rowLe at q
  rw [PySem.W.dataLe_eq] at q
  have q' : (!PySem.W.dataLt y.2.key.data x.2.key.data) = true := q
  simpa using q'
theorem deed_kz {H : Hp} {q : Addr} {d : Deed} (e : H q = some (.tup (d.signs.map V.str))) : Kz H (.ref q) d.key := by
  cases d with
  | step => exact .tup e (.cons (.str _) .nil)
  | ex b n l => exact .tup e (.cons (.str _) (.cons (.str _) (.cons (.str _) .nil)))
/-- a list's tuple, its row, its states -/
structure ItA where
  t : Addr
  ra : Addr
  la : Addr
  it : Item
structure ItOk (H : Hp) (l : Addr) (x : ItA) : Prop where
  et : H x.t = some (.tup [.ref x.ra, .ref x.la])
  er : Kz H (.ref x.ra) (keyOf x.it.1)
  el : H x.la = some (.lst (x.it.2.map V.int))
  ne : x.la ≠ l
/-- tuples and lists stay, but for l -/
structure Kp (l : Addr) (H H' : Hp) : Prop where
  tup : SameT H H'
  lst : ∀ b xs, b ≠ l → H b = some (.lst xs) → H' b = some (.lst xs)
theorem Kp.of {l : Addr} {H H' : Hp} (s : Same H H') : Kp l H H' := ⟨.of s, fun b xs _ e => s b _ e⟩
theorem Kp.trans {l : Addr} {H H' H'' : Hp} (s : Kp l H H') (t : Kp l H' H'') : Kp l H H'' := ⟨s.tup.trans t.tup, fun b xs n e => t.lst b xs n (s.lst b xs n e)⟩
theorem Kp.put {l : Addr} {H : Hp} {xs ys : List V} (e : H l = some (.lst xs)) : Kp l H (upd H l (.lst ys)) := ⟨.lst e, fun b zs n eb => by rw [upd_ne n]; exact eb⟩
theorem Kp.dict {l d : Addr} {H : Hp} {φ : Heap → Prop} {o : HO} (e : H d = some (.ext φ)) : Kp l H (upd H d o) := ⟨fun b xs eb => by
  rw [upd_ne (fun z => by rw [z, e] at eb; cases eb)]
  exact eb, fun b zs n eb => by
  rw [upd_ne (fun z => by rw [z, e] at eb; cases eb)]
  exact eb⟩
theorem ItOk.keep {l : Addr} {H H' : Hp} {x : ItA} (k : Kp l H H') (h : ItOk H l x) : ItOk H' l x := ⟨k.tup _ _ h.et, Kz.tups k.tup _ _ h.er, k.lst _ _ h.ne h.el, h.ne⟩
/-- a found row: its tuple, its value's tuple -/
abbrev FoA := Addr × Addr × RowR
def entOf (z : FoA) : Ent := (keyOf z.2.2.1, z.1, z.2.1)
def FoOk (H : Hp) (z : FoA) : Prop := Kz H (.ref z.1) (keyOf z.2.2.1) ∧ H z.2.1 = some (tupIB z.2.2.2.1 z.2.2.2.2)
theorem FoOk.keep {l : Addr} {H H' : Hp} {z : FoA} (k : Kp l H H') (h : FoOk H z) : FoOk H' z := ⟨Kz.tups k.tup _ _ h.1, k.tup _ _ h.2⟩
theorem FoOk.kz {H : Hp} {Z : List FoA} (h : ∀ z ∈ Z, FoOk H z) : ∀ p ∈ Z.map entOf, Kz H (.ref p.2.1) p.1 ∧ p.1.depth ≤ 8 := fun p hp => by
  obtain ⟨z, hz, rfl⟩ := List.mem_map.mp hp
  exact ⟨(h z hz).1, keyOf_depth _⟩
theorem ent_new {Z : List FoA} {R : List RowR} {ds : List Deed} (e : Z.map (·.2.2) = R) (no : ds ∉ R.map (·.1)) : keyOf ds ∉ (Z.map entOf).map (·.1) := fun h => by
  obtain ⟨p, hp, e1⟩ := List.mem_map.mp h
  obtain ⟨z, hz, rfl⟩ := List.mem_map.mp hp
  refine no ?_
  rw [← e, List.map_map]
  exact List.mem_map.mpr ⟨z, hz, keyOf_inj e1⟩
/-- what stands within a turn: the found rows, the next list -/
structure RwOk (P : Program) (w : World) (H H2 H' : Hp) (d l2 : Addr) (Z : List FoA) (J : List ItA) (R : List RowR) (lt : List Item) : Prop where
  s : Same H H'
  k : Kp l2 H2 H'
  ed : H' d = some (DNO P w d (Z.map entOf))
  el : H' l2 = some (.lst (J.map fun x => V.ref x.t))
  iJ : ∀ x ∈ J, ItOk H' l2 x
  fZ : ∀ z ∈ Z, FoOk H' z
  mZ : Z.map (·.2.2) = R
  mJ : J.map (·.it) = lt
theorem RwOk.same {P : Program} {w : World} {H H2 H' H'' : Hp} {d l2 : Addr} {Z : List FoA} {J : List ItA} {R : List RowR} {lt : List Item} (h : RwOk P w H H2 H' d l2 Z J R lt) (s : Same H' H'') : RwOk P w H H2 H'' d l2 Z J R lt :=
  ⟨h.s.trans s, h.k.trans (.of s), s _ _ h.ed, s _ _ h.el, fun x hx => ItOk.keep (.of s) (h.iJ x hx), fun z hz => FoOk.keep (l := l2) (.of s) (h.fZ z hz), h.mZ, h.mJ⟩
theorem RwOk.zlen {P : Program} {w : World} {H H2 H' : Hp} {d l2 : Addr} {Z : List FoA} {J : List ItA} {R : List RowR} {lt : List Item} (h : RwOk P w H H2 H' d l2 Z J R lt) : Z.length = R.length := by rw [← h.mZ, List.length_map]
theorem RwOk.jlen {P : Program} {w : World} {H H2 H' : Hp} {d l2 : Addr} {Z : List FoA} {J : List ItA} {R : List RowR} {lt : List Item} (h : RwOk P w H H2 H' d l2 Z J R lt) : J.length = lt.length := by rw [← h.mJ, List.length_map]
theorem foldl_take {α β : Type} {f : β → α → β} {b : β} {l : List α} {i : Nat} {x : α} (h : l[i]? = some x) : (l.take (i + 1)).foldl f b = f ((l.take i).foldl f b) x := by
  rw [List.take_succ, h, Option.toList_some, List.foldl_append]
  rfl
theorem fin_empty {fs : List Int} {m : MachM} : (!((fs.filter fun k => decide (k ∈ m.finals)).map fun _ => V.int 1).isEmpty) = finF m fs := by
  rw [finF]
  induction fs with
  | nil => rfl
  | cons a fs ih =>
    by_cases e : a ∈ m.finals
    · rw [List.filter_cons_of_pos (by simpa using e), List.any_cons, decide_eq_true e]
      rfl
    · rw [List.filter_cons_of_neg (by simpa using e), List.any_cons, decide_eq_false e, Bool.false_or]
      exact ih
def spRows (P : Program) (w : World) (K : PySem.W.Frag) : Sp := fun vs H Q _ => ∃ (a : Addr) (m : MachM) (n : Nat), vs = [.ref a, .int n] ∧ Kz H (.ref a) m.key ∧ m.Ok ∧ n ≤ 100 ∧
  ∀ H' p (E : List Deed) (Z : List FoA), Same H H' → H p = none → DeedsOf m E → Z.map (·.2.2) = (itR m E (n + 1)).1 → H' p = some (DNO P w p (Z.map entOf)) → (∀ z ∈ Z, FoOk H' z) → Q (.ref p) H'
structure TxtB3 (K : PySem.W.Frag) (mg : Str → Option Value) (fB : Addr) (dB : FuncData) : Prop where
  B : Fun K "_law_behind" "_law_behind" sBeh fB dB
  bB : L2.Binds K dB ["_law_machine", "_law_states", "_law_deed"] []
  gB : mg "_law_behind" = some (.ref fB)
section
variable {P : Program} {w : World} {K : PySem.W.Frag} {mg : Str → Option Value} {base : Heap} {fB : Addr} {dB : FuncData}
theorem ok_Rows {f : Addr} {fd : FuncData} {k : Nat} (F : Fun K "_law_rows" "_law_rows" sRowsL f fd) (T : TxtS mg) (TD : TxtD mg) (TQ : TxtQ mg) (B : TxtB3 K mg fB dB) : FnOk P w K mg base CX0 (k + 2) f fd ["_law_machine", "_law_longest"] (spRows P w K) := by
  have GB : FnOk P w K mg base CX0 (k + 1) fB dB ["_law_machine", "_law_states", "_law_deed"] spBeh := ok_Beh B.B T
  refine F.ok scRows (fun vs H Q E h => ?_) (fun cdv A outer s H vs Q E hr h => ?_)
  · obtain ⟨a, m, n, rfl, _⟩ := h
    rfl
  · obtain ⟨a, m, n, rfl, hm, ok, n100, q⟩ := h
    have hu := hr.units
    have hu16 := Nat.lt_of_le_of_lt (Nat.add_le_add_left (by decide : 16 ≤ 64) _) hu
    refine ⟨_, pss_cut (ps_par (i := 2) (j := 3) (by rfl) scRows.nd rfl rfl (by decide) rfl rfl (pa_cons DN.pe_dnew (pa_cons (pe_lst (pa_cons (pe_tup (pa_cons (pe_tup pa_nil) (pa_cons (pe_lst (pa_cons pe_int pa_nil)) pa_nil))) pa_nil)) pa_nil)) (by rfl))
      (pss_cut (ps_set (i := 6) scRows.nd rfl (.inl rfl) (pe_callB (NS.cr_sorted rfl hu) (by rfl) T.sorted (by decide +kernel) (pa_cons (pe_callTy (NS.cr_set rfl hu) (by rfl) T.set (by decide +kernel) (pa_cons
        (pe_lc (own := [("_law_state", 11), ("_law_deed", 4), ("_law_later", 5)]) (g := gTup K 3 (gCons (gName 11) (gCons (gName 4) (gCons (gName 5) gNil)))) (tt := tYes) (te := tVar 4) rfl scRows.nd (pi_tup (pe_ix ix_tup (pv 0) pe_int (fun _ _ => rfl))) (blkOk_by (own := [("_law_state", 11), ("_law_deed", 4), ("_law_later", 5)]) (N := nRw) (sc := defScope sRowsL) (by decide +kernel))
        (fun _ _ _ _ _ => pg_tup rfl (pgs_cons (pg_name (i := 11) scRows.nd rfl (.inl rfl)) (pgs_cons (pg_name (i := 4) scRows.nd rfl (.inl rfl)) (pgs_cons (pg_name (i := 5) scRows.nd rfl (.inl rfl)) pgs_nil))))
        (fun _ _ _ _ _ => pts_nil) (fun _ _ _ _ _ => pv 4)) pa_nil)) pa_nil)))
      (pss_cut (ps_for PassesOwn.never rfl (pi_range1 rfl TQ.range (pa_cons (pe_op op_add (pv 1) pe_int) pa_nil)) (pg_name (i := 7) scRows.nd rfl (.inl rfl))
        (pss_cut (ps_set (i := 5) scRows.nd rfl (.inl rfl) (pe_lst pa_nil))
        (pss_cut (ps_for PassesOwn.never rfl (pi_list (pv 3)) (pg_tup rfl (pgs_cons (pg_name (i := 8) scRows.nd rfl (.inl rfl)) (pgs_cons (pg_name (i := 9) scRows.nd rfl (.inl rfl)) pgs_nil)))
          (pss_cut (ps_asg (pe_tup (pa_cons (pe_callB call_len_seq (by rfl) TD.len PySem.boot_len (pa_cons (pv 9) pa_nil)) (pa_cons (pe_cmpR (NE.op_neE hu)
              (pe_lc (own := [("_law_state", 11)]) (g := gName 11) (tt := tTest (tOp (rIn K false) (tVar 11) (tOp (rIxT K) (tVar 0) (tC (.int 1))))) (te := tC (.int 1)) rfl scRows.nd (pi_list (pv 9)) (blkOk_by (own := [("_law_state", 11)]) (N := nRw) (sc := defScope sRowsL) (by decide +kernel))
                (fun _ _ _ _ _ => pg_name (i := 11) scRows.nd rfl (.inl rfl))
                (fun _ _ _ _ _ => pts_one (pt_cmpR (show OpR _ (compareOp .In) (rIn K false) from op_in_seq) (pv 11) (pe_ix (show IxR _ (rIxT K) from ix_tup) (pv 0) pe_int (fun _ _ => rfl)) (by rfl)))
                (fun _ _ _ _ _ => pe_int)) (pe_lst pa_nil) (nomark _)) pa_nil))) (pg_sub (pv 2) (pv 8) (DN.set_dn hu16)))
          (pss_one (ps_for PassesOwn.never rfl (pi_list (pv 6)) (pg_name (i := 4) scRows.nd rfl (.inl rfl))
            (pss_cut (ps_set (i := 10) scRows.nd rfl (.inl rfl) (pe_call GB hr (by rfl) B.gB B.B.kp B.bB .nil pass0 (pa_cons (pv 0) (pa_cons (pv 9) (pa_cons (pv 4) pa_nil)))))
            (pss_one (ps_if (PW.pt (pw_and (pt_cmpR (NE.op_neE hu) (pv 10) (pe_lst pa_nil) (nomark _)) (pw_and1 (pt_cmpR op_lt (pe_op op_add (pe_callB DN.call_lenN (by rfl) TD.len PySem.boot_len (pa_cons (pv 2) pa_nil)) (pe_callB call_len_seq (by rfl) TD.len PySem.boot_len (pa_cons (pv 5) pa_nil))) pe_int (nomark _)))))
              (pss_one (ps_expr (pe_bm PySem.F.plainAttrs_list PySem.F.slot_list_append PySem.F.type_list_append mt_append (pv 5) (pa_cons (pe_tup (pa_cons (pe_op op_catA (pv 8) (pe_tup (pa_cons (pv 4) pa_nil))) (pa_cons (pv 10) pa_nil))) pa_nil)))) pss_nil)))))))
        (pss_one (ps_set (i := 3) scRows.nd rfl (.inl rfl) (pv 5))))))
      (pss_one (ps_ret (pv 2))))), ?_⟩
    obtain ⟨M⟩ := mach_at hm
    have lx : M.xs.length = m.rows.length := by
      have z := kz_len M.all
      rw [List.length_map] at z
      exact z
    refine ⟨fun σ' H' => ∃ (d lv : Addr) (x : ItA), σ' = [some (.ref a), some (.int n), some (.ref d), some (.ref lv), none, none, none, none, none, none, none, none] ∧ Same H H' ∧ H d = none ∧ H' d = some (DNO P w d []) ∧ H' lv = some (.lst [.ref x.t]) ∧ ItOk H' lv x ∧ x.it = ([], [0]), ?_, ?_⟩
    · refine fun d nd => ⟨Nat.zero_le _, fun ra nra => ⟨by show 1 ≤ sizeLine; decide, fun la nla => ⟨by show 2 ≤ sizeLine; decide, fun t nt => ⟨by show 1 ≤ sizeLine; decide, fun lv nlv => ?_⟩⟩⟩⟩
      have k1 := same_upd (o := DNO P w d []) nd
      have k2 := same_upd (o := .tup []) nra
      have k3 := same_upd (o := .lst [.int 0]) nla
      have k4 := same_upd (o := .tup [.ref ra, .ref la]) nt
      have k5 := same_upd (o := .lst [.ref t]) nlv
      refine ⟨_, _, rfl, d, lv, ⟨t, ra, la, ([], [0])⟩, rfl, k1.trans (k2.trans (k3.trans (k4.trans k5))), nd, k5 _ _ (k4 _ _ (k3 _ _ (k2 _ _ upd_same))), upd_same, ⟨k5 _ _ upd_same, .tup (k5 _ _ (k4 _ _ (k3 _ _ upd_same))) .nil, k5 _ _ (k4 _ _ upd_same), ne_of_none (k4 _ _ upd_same) nlv⟩, rfl⟩
    rintro σ1 H1 ⟨d, lv0, x0, rfl, s1, nd, ed1, elv1, ix0, ex0⟩
    refine ⟨fun σ' H' => ∃ (g : Addr) (G : List (Addr × Deed)), σ' = [some (.ref a), some (.int n), some (.ref d), some (.ref lv0), none, none, some (.ref g), none, none, none, none, none] ∧ Same H1 H' ∧ H' g = some (.lst (G.map fun p => V.ref p.1)) ∧ (∀ p ∈ G, H' p.1 = some (.tup (p.2.signs.map V.str))) ∧ DeedsOf m (G.map (·.2)), ?_, ?_⟩
    · refine ⟨_, rfl, a, _, 2, .ref M.t, rfl, rfl, SqT.of (s1 _ _ M.top), atI_nat (j := 2) rfl, M.t, rfl, ⟨_, SqT.of (s1 _ _ M.row)⟩, fun C nC => ?_⟩
      have sC := same_upd (o := .lst []) nC
      refine lc_tup (xs := M.xs) (fun i H' => Same H1 H' ∧ ∃ L : List (Addr × Deed), H' C = some (.lst (L.map fun p => V.ref p.1)) ∧ L.map (·.2) = (m.rows.take i).map (·.deed) ∧ ∀ p ∈ L, H1 p.1 = some (.tup (p.2.signs.map V.str))) ⟨sC, [], upd_same, rfl, fun _ z => nomatch z⟩ (fun i H' _ z => SqT.of (z.1 _ _ (s1 _ _ M.row))) ?_ ?_
      · rintro i v H2 hv ⟨s2, L, eL, mL, kL⟩
        obtain ⟨r, hr', ra, dv, rfl, er, kd⟩ := row_at M.all hv
        obtain ⟨qd, rfl, edq⟩ := deed_at kd
        refine ⟨ra, _, rfl, SqT.of (s2 _ _ (s1 _ _ er)), rfl, _, _, rfl, _, _, rfl, _, _, rfl, rfl, rfl, tYes_ite ⟨_, rfl, _, eL, ?_, same_set s2 nC, L ++ [(qd, r.deed)], ?_, ?_, fun p hp => ?_⟩⟩
        · have z := congrArg List.length mL
          have := ok.r3
          rw [List.length_map, List.length_map, List.length_take] at z
          rw [List.length_map, sizeLine_eq]
          omega
        · rw [upd_same, List.map_append]
          rfl
        · rw [List.map_append, mL, List.take_succ, hr', Option.toList_some, List.map_append]
          rfl
        · rcases List.mem_append.mp hp with z | z
          · exact kL p z
          · rw [List.mem_singleton.mp z]
            exact s1 _ _ edq
      · rintro H2 ⟨s2, L, eL, mL, kL⟩
        rw [lx, List.take_length] at mL
        have lL : L.length < 64 := by
          have z := congrArg List.length mL
          have := ok.r3
          rw [List.length_map, List.length_map] at z
          omega
        have eL' : H2 C = some (.lst ((L.map fun p => ((p.1, p.2.key) : NS.Row)).map fun p => V.ref p.1)) := by
          rw [List.map_map]
          exact eL
        refine ⟨C, L.map fun p => (p.1, p.2.key), rfl, SqL.of eL', fun p hp => ?_, by rw [List.length_map]; exact lL, fun a4 L4 n4 has once => ?_⟩
        · obtain ⟨x, hx, rfl⟩ := List.mem_map.mp hp
          exact ⟨deed_kz (s2 _ _ (kL x hx)), by have := deed_depth x.2; show x.2.key.depth ≤ 8; omega⟩
        have k4 := same_upd (o := NS.SetO P w a4 L4) n4
        have dL4 : ∀ p ∈ L4, ∃ x ∈ L, p = (x.1, x.2.key) := fun p hp => by
          obtain ⟨x, hx, e⟩ := List.mem_map.mp (has.sub p hp)
          exact ⟨x, hx, e.symm⟩
        refine ⟨a4, L4, rfl, upd_same, fun p hp => ?_, alike_deeds fun p hp => ?_, sortable_deeds fun p hp => ?_, fun L5 p5 pm pw5 len5 n5 => ?_⟩
        · obtain ⟨x, hx, rfl⟩ := dL4 p hp
          exact ⟨deed_kz (k4 _ _ (s2 _ _ (kL x hx))), by have := deed_depth x.2; show x.2.key.depth ≤ 8; omega⟩
        · obtain ⟨x, hx, rfl⟩ := dL4 p hp
          exact ⟨x.2, rfl⟩
        · obtain ⟨x, hx, rfl⟩ := dL4 p hp
          exact ⟨x.2, rfl⟩
        have k5 := same_upd (o := .lst (L5.map fun r => V.ref r.1)) n5
        obtain ⟨G, eG, eG2⟩ := as_deeds (L := L5) fun p hp => by
          obtain ⟨x, hx, rfl⟩ := dL4 p (pm.mem_iff.mp hp)
          exact ⟨x.2, rfl⟩
        have once5 : (keysOf L5).Nodup := (pm.map Prod.snd).nodup_iff.mpr once
        subst eG2
        refine ⟨p5, G, rfl, s2.trans (k4.trans k5), by rw [upd_same, eG], fun p hp => ?_, fun e => ?_, strict_deeds (by rw [keysOf, List.map_map] at once5; exact once5) pw5⟩
        · obtain ⟨x, hx, e⟩ := dL4 (p.1, p.2.key) (pm.mem_iff.mp (List.mem_map.mpr ⟨p, hp, rfl⟩))
          have e1 : p.1 = x.1 := (Prod.mk.inj e).1
          have e2 : p.2 = x.2 := deed_inj (Prod.mk.inj e).2
          rw [e1, e2]
          exact k5 _ _ (k4 _ _ (s2 _ _ (kL x hx)))
        · have inL : (∃ x ∈ L, x.2 = e) ↔ ∃ r ∈ m.rows, r.deed = e := by
            have z : e ∈ L.map (·.2) ↔ e ∈ m.rows.map (·.deed) := by rw [mL]
            rwa [List.mem_map, List.mem_map] at z
          rw [← inL, List.mem_map]
          constructor
          · rintro ⟨p, hp, rfl⟩
            obtain ⟨x, hx, e⟩ := dL4 (p.1, p.2.key) (pm.mem_iff.mp (List.mem_map.mpr ⟨p, hp, rfl⟩))
            exact ⟨x, hx, (deed_inj (Prod.mk.inj e).2).symm⟩
          · rintro ⟨x, hx, rfl⟩
            have z := has.all (x.1, x.2.key) (List.mem_map.mpr ⟨x, hx, rfl⟩)
            obtain ⟨y, hy, ey⟩ := List.mem_map.mp z
            obtain ⟨p, hp, ep⟩ := List.mem_map.mp (pm.mem_iff.mpr hy)
            refine ⟨p, hp, deed_inj ?_⟩
            rw [← show y.2 = x.2.key from ey, ← ep]
    rintro σ2 H2 ⟨g, G, rfl, s2, eg2, kG2, DE⟩
    generalize hE : G.map (·.2) = E at DE
    refine ⟨fun σ' H' => ∃ (Z : List FoA) (u3 u4 u5 u7 u8 u9 u10 : Option V), σ' = [some (.ref a), some (.int n), some (.ref d), u3, u4, u5, some (.ref g), u7, u8, u9, u10, none] ∧ Same H H' ∧ H' d = some (DNO P w d (Z.map entOf)) ∧ Z.map (·.2.2) = (itR m E (n + 1)).1 ∧ (∀ z ∈ Z, FoOk H' z), ?_, ?_⟩
    rotate_left
    · rintro σ3 H3 ⟨Z, u3, u4, u5, u7, u8, u9, u10, rfl, s3, e3, mZ, fZ⟩
      exact ⟨_, rfl, q H3 d E Z s3 nd DE mZ e3 fZ⟩
    refine ⟨_, rfl, (n : Int), 1, rfl, rfl, ((n : Int) + 1), rfl, by omega, by omega, ?_⟩
    rw [show ((n : Int) + 1).toNat = n + 1 by omega]
    refine for_range (lo := 0) (n := n + 1) (fun i σ' H' => ∃ (lv : Addr) (X : List ItA) (Z : List FoA) (u4 u5 u7 u8 u9 u10 : Option V), σ' = [some (.ref a), some (.int n), some (.ref d), some (.ref lv), u4, u5, some (.ref g), u7, u8, u9, u10, none] ∧ Same H H' ∧ H' d = some (DNO P w d (Z.map entOf)) ∧ H' lv = some (.lst (X.map fun x => V.ref x.t)) ∧ (∀ x ∈ X, ItOk H' lv x) ∧ X.map (·.it) = (itR m E i).2 ∧ Z.map (·.2.2) = (itR m E i).1 ∧ (∀ z ∈ Z, FoOk H' z) ∧ H' g = some (.lst (G.map fun p => V.ref p.1)) ∧ (∀ p ∈ G, H' p.1 = some (.tup (p.2.signs.map V.str))) ∧ LevOk i (itR m E i) ∧ (itR m E i).1.length ≤ 60 * i) ?_ ?_ ?_
    · refine ⟨lv0, [x0], [], none, none, none, none, none, none, rfl, s1.trans s2, s2 _ _ ed1, s2 _ _ elv1, fun x hx => ?_, by show [x0.it] = _; rw [ex0]; rfl, rfl, (fun _ z => nomatch z), eg2, kG2, lev_zero, Nat.zero_le _⟩
      rw [List.mem_singleton.mp hx]
      exact ItOk.keep (.of s2) ix0
    · rintro i σ3 H3 hi ⟨lv, X, Z, u4, u5, u7, u8, u9, u10, rfl, s3, ed3, elv3, iX, mX, mZ, fZ, eg3, kG3, LO, len60⟩
      have lXs : X.length = (itR m E i).2.length := by rw [← mX, List.length_map]
      have X60 := LO.few
      refine ⟨fun σ' H' => ∃ l2, H3 l2 = none ∧ H' = upd H3 l2 (.lst []) ∧ σ' = [some (.ref a), some (.int n), some (.ref d), some (.ref lv), u4, some (.ref l2), some (.ref g), some (.int (0 + i)), u8, u9, u10, none], ?_, ?_⟩
      · exact ⟨Nat.zero_le _, fun l2 nl => ⟨l2, nl, rfl, rfl⟩⟩
      rintro σ4 H4 ⟨l2, nl3, rfl, rfl⟩
      have k34 := same_upd (o := .lst []) nl3
      have nl : H l2 = none := s3.free nl3
      have ngl : g ≠ l2 := ne_of_none eg3 nl3
      have ndl : d ≠ l2 := ne_of_none ed3 nl3
      have nvl : lv ≠ l2 := ne_of_none elv3 nl3
      have En : E.Nodup := DE.once
      refine ⟨fun σ' H' => ∃ (Z : List FoA) (J : List ItA) (v4 v8 v9 v10 : Option V), σ' = [some (.ref a), some (.int n), some (.ref d), some (.ref lv), v4, some (.ref l2), some (.ref g), some (.int (0 + i)), v8, v9, v10, none] ∧ RwOk P w H (upd H3 l2 (.lst [])) H' d l2 Z J (itR m E (i + 1)).1 (itR m E (i + 1)).2 ∧ LaterOk i (itR m E i).2 E (itR m E i).2.length 0 (itR m E (i + 1)).2, ?_, ?_⟩
      · refine ⟨_, rfl, lv, rfl, ⟨_, SqL.of (k34 _ _ elv3)⟩, for_list (xs := X.map fun x => V.ref x.t) (fun j σ' H' => ∃ (Z : List FoA) (J : List ItA) (v4 v8 v9 v10 : Option V), σ' = [some (.ref a), some (.int n), some (.ref d), some (.ref lv), v4, some (.ref l2), some (.ref g), some (.int (0 + i)), v8, v9, v10, none] ∧ RwOk P w H (upd H3 l2 (.lst [])) H' d l2 Z J (((itR m E i).2.take j).foldl (stepL m E) ((itR m E i).1, [])).1 (((itR m E i).2.take j).foldl (stepL m E) ((itR m E i).1, [])).2 ∧ LaterOk i (itR m E i).2 E j 0 (((itR m E i).2.take j).foldl (stepL m E) ((itR m E i).1, [])).2) ?_ ?_ ?_ ?_⟩
        · refine ⟨Z, [], _, _, _, _, rfl, ⟨s3.trans k34, .of (fun _ _ e => e), k34 _ _ ed3, upd_same, (fun _ z => nomatch z), fun z hz => FoOk.keep (l := l2) (.of k34) (fZ z hz), mZ, rfl⟩, ⟨Nat.zero_le _, (fun _ z => nomatch z), List.nodup_nil, (fun _ z => nomatch z)⟩⟩
        · rintro j σ' H' _ ⟨_, _, _, _, _, _, _, R, _⟩
          exact SqL.of (R.k.lst _ _ nvl (k34 _ _ elv3))
        · rintro j xv σ5 H5 hx ⟨Z5, J5, v4, v8, v9, v10, rfl, R5, L5⟩
          rw [List.getElem?_map] at hx
          cases eX : X[j]? with
          | none => rw [eX] at hx; exact nomatch hx
          | some x =>
          rw [eX] at hx
          obtain rfl : xv = .ref x.t := (Option.some.inj hx).symm
          have hit : (itR m E i).2[j]? = some x.it := by rw [← mX, List.getElem?_map, eX]; rfl
          have ix3 := iX x (List.mem_of_getElem? eX)
          have lav : x.la ≠ l2 := ne_of_none ix3.el nl3
          have ix5 : ItOk H5 l2 x := ItOk.keep R5.k (ItOk.keep (.of k34) ⟨ix3.et, ix3.er, ix3.el, lav⟩)
          have jl : j < (itR m E i).2.length := (List.getElem?_eq_some_iff.mp hit).1
          rw [foldl_take hit]
          generalize hacc : ((itR m E i).2.take j).foldl (stepL m E) ((itR m E i).1, []) = acc at R5 L5 ⊢
          have acc1 : acc.1 = (itR m E i).1 ++ ((itR m E i).2.take j).map (rowR m) := by rw [← hacc]; exact fold_fst _ _
          have accl : acc.1.length ≤ 60 * i + 60 := by rw [acc1, List.length_append, List.length_map, List.length_take]; omega
          have zl := R5.zlen
          refine ⟨x.t, _, rfl, SqT.of ix5.et, rfl, _, _, rfl, _, _, rfl, rfl, ?_⟩
          refine ⟨fun σ' H' => ∃ (Z6 : List FoA), σ' = [some (.ref a), some (.int n), some (.ref d), some (.ref lv), v4, some (.ref l2), some (.ref g), some (.int (0 + i)), some (.ref x.ra), some (.ref x.la), v10, none] ∧ RwOk P w H (upd H3 l2 (.lst [])) H' d l2 Z6 J5 (acc.1 ++ [rowR m x.it]) acc.2, ?_, ?_⟩
          · refine ⟨_, rfl, x.la, _, rfl, .inl (SqL.of ix5.el), ?_⟩
            refine ⟨_, rfl, x.la, rfl, ⟨_, SqL.of ix5.el⟩, fun C nC => ?_⟩
            have kC := same_upd (o := .lst []) nC
            have MT := R5.s _ _ M.top
            have MF := R5.s _ _ M.fin
            refine lc_list (xs := x.it.2.map V.int) (fun i H' => Same H5 H' ∧ H' C = some (.lst (((x.it.2.take i).filter fun k => decide (k ∈ m.finals)).map fun _ => V.int 1))) ⟨kC, upd_same⟩ (fun i H' _ z => SqL.of (z.1 _ _ ix5.el)) ?_ ?_
            · rintro u v H6 hv ⟨s6, e6⟩
              obtain ⟨c, hc, rfl⟩ : ∃ c, x.it.2[u]? = some c ∧ v = .int c := by
                rw [List.getElem?_map] at hv
                cases e : x.it.2[u]? with
                | none => rw [e] at hv; exact nomatch hv
                | some c => rw [e] at hv; exact ⟨c, rfl, (Option.some.inj hv).symm⟩
              have nx : ((x.it.2.take (u + 1)).filter fun k => decide (k ∈ m.finals)) = ((x.it.2.take u).filter fun k => decide (k ∈ m.finals)) ++ (if c ∈ m.finals then [c] else []) := by
                rw [List.take_succ, hc, Option.toList_some, List.filter_append]
                by_cases e : c ∈ m.finals
                · rw [if_pos e, List.filter_cons_of_pos (by simpa using e)]; rfl
                · rw [if_neg e, List.filter_cons_of_neg (by simpa using e)]; rfl
              refine ⟨rfl, _, rfl, _, rfl, a, _, 1, .ref M.f, rfl, rfl, SqT.of (s6 _ _ MT), atI_nat (j := 1) rfl, M.f, _, rfl, .inr (SqT.of (s6 _ _ MF)), rfl, flat_ints, _, rfl, ?_⟩
              rw [show (if false = true then !inV (V.int c) (m.finals.map V.int) else inV (V.int c) (m.finals.map V.int)) = decide (c ∈ m.finals) from inV_ints]
              refine ifB (fun hb => ?_) fun hb => ?_
              · refine ⟨_, e6, ?_, same_set s6 nC, ?_⟩
                · have g := List.length_filter_le (fun k => decide (k ∈ m.finals)) (x.it.2.take u)
                  have z := LO.sts x.it (List.mem_of_getElem? hit)
                  rw [List.length_take] at g
                  rw [List.length_map, sizeLine_eq]
                  omega
                · rw [upd_same, nx, if_pos (of_decide_eq_true hb), List.map_append]
                  rfl
              · refine ⟨s6, ?_⟩
                rw [e6, nx, if_neg (of_decide_eq_false hb), List.append_nil]
            · rintro H6 ⟨s6, e6⟩
              rw [List.length_map, List.take_length] at e6
              refine ⟨Nat.zero_le _, fun p7 n7 => ?_⟩
              have k7 := same_upd (o := .lst []) n7
              refine ⟨C, p7, _, rfl, rfl, SqL.of (k7 _ _ e6), SqL.of upd_same, ?_⟩
              rw [fin_empty]
              refine ⟨by show 2 ≤ sizeLine; decide, fun c nc => ?_⟩
              have kc := same_upd (o := .tup [.int (((x.it.2.map V.int).length : Nat) : Int), .bl (finF m x.it.2)]) nc
              have sx := s6.trans (k7.trans kc)
              have R7 := R5.same sx
              have ix7 := ItOk.keep (.of sx) ix5
              have kd := Kp.dict (l := l2) (o := DNO P w d ((Z5.map entOf) ++ [(keyOf x.it.1, x.ra, c)])) R7.ed
              refine ⟨_, rfl, _, rfl, d, x.ra, c, Z5.map entOf, keyOf x.it.1, rfl, rfl, rfl, R7.ed, ix7.er, keyOf_depth _, FoOk.kz R7.fZ, ent_new R7.mZ ?_, ?_, Z5 ++ [(x.ra, c, rowR m x.it)], rfl, same_set R7.s nd, R7.k.trans kd, ?_, ?_, fun y hy => ItOk.keep kd (R7.iJ y hy), fun z hz => ?_, ?_, R7.mJ⟩
              · rw [acc1, List.map_append]
                intro h
                rcases List.mem_append.mp h with z | z
                · obtain ⟨y, hy, e⟩ := List.mem_map.mp z
                  have h1 := LO.old y hy
                  have h2 := LO.new x.it (List.mem_of_getElem? hit)
                  rw [← h2, ← e] at h1
                  omega
                · rw [List.map_map] at z
                  obtain ⟨y, hy, e⟩ := List.mem_map.mp z
                  obtain ⟨u, hu'⟩ := List.getElem?_of_mem hy
                  have ul : u < j := by
                    have := (List.getElem?_eq_some_iff.mp hu').1
                    rw [List.length_take] at this
                    omega
                  rw [List.getElem?_take_of_lt ul] at hu'
                  have := nodup_at LO.snd hu' hit e
                  omega
              · rw [List.length_map, zl, sizeLine_eq]
                omega
              · rw [upd_same, List.map_append]
                rfl
              · rw [upd_ne ndl.symm]
                exact R7.el
              · rcases List.mem_append.mp hz with z' | z'
                · exact FoOk.keep kd (R7.fZ z z')
                · rw [List.mem_singleton.mp z']
                  refine ⟨Kz.tups kd.tup _ _ ix7.er, ?_⟩
                  have ec := kd.tup _ _ (upd_same (H := upd H6 p7 (.lst [])) (a := c) (o := .tup [.int (((x.it.2.map V.int).length : Nat) : Int), .bl (finF m x.it.2)]))
                  rw [List.length_map] at ec
                  rw [List.length_map]
                  exact ec
              · rw [List.map_append, R7.mZ]
                rfl
          · rintro σ6 H6 ⟨Z6, rfl, R6⟩
            have zl6 : Z6.length = acc.1.length + 1 := by
              have := R6.zlen
              rw [List.length_append] at this
              exact this
            refine ⟨_, rfl, g, rfl, ⟨_, SqL.of (R6.k.lst _ _ ngl (k34 _ _ eg3))⟩, for_list (xs := G.map fun p => V.ref p.1) (fun t σ' H' => ∃ (J : List ItA) (v4 v10 : Option V), σ' = [some (.ref a), some (.int n), some (.ref d), some (.ref lv), v4, some (.ref l2), some (.ref g), some (.int (0 + i)), some (.ref x.ra), some (.ref x.la), v10, none] ∧ RwOk P w H (upd H3 l2 (.lst [])) H' d l2 Z6 J (acc.1 ++ [rowR m x.it]) ((E.take t).foldl (stepE m (acc.1.length + 1) x.it) acc.2) ∧ LaterOk i (itR m E i).2 E j t ((E.take t).foldl (stepE m (acc.1.length + 1) x.it) acc.2)) ?_ ?_ ?_ ?_⟩
            · exact ⟨J5, _, _, rfl, R6, L5⟩
            · rintro t σ' H' _ ⟨_, _, _, _, R, _⟩
              exact SqL.of (R.k.lst _ _ ngl (k34 _ _ eg3))
            · rintro t pv σ7 H7 hp ⟨J7, w4, w10, rfl, R7, L7⟩
              rw [List.getElem?_map] at hp
              cases eG : G[t]? with
              | none => rw [eG] at hp; exact nomatch hp
              | some p =>
              rw [eG] at hp
              obtain rfl : pv = .ref p.1 := (Option.some.inj hp).symm
              have hd : E[t]? = some p.2 := by rw [← hE, List.getElem?_map, eG]; rfl
              rw [foldl_take hd]
              have L8 := LaterOk.next (m := m) (nf := acc.1.length + 1) ok L7 LO.snd En hit hd
              generalize hlt : (E.take t).foldl (stepE m (acc.1.length + 1) x.it) acc.2 = lt at R7 L7 L8 ⊢
              have edp := R7.k.tup _ _ (k34 _ _ (kG3 p (List.mem_of_getElem? eG)))
              have okd : p.2.Ok := by
                obtain ⟨r, hr, e⟩ := (DE.mem p.2).mp (List.mem_of_getElem? hd)
                rw [← e]
                exact (ok.r1 r hr).dd
              have ix7 : ItOk H7 l2 x := ItOk.keep R7.k (ItOk.keep (.of k34) ⟨ix3.et, ix3.er, ix3.el, lav⟩)
              refine ⟨fun σ' H' => ∃ b, σ' = [some (.ref a), some (.int n), some (.ref d), some (.ref lv), some (.ref p.1), some (.ref l2), some (.ref g), some (.int (0 + i)), some (.ref x.ra), some (.ref x.la), some (.ref b), none] ∧ Same H7 H' ∧ H7 b = none ∧ H' b = some (.lst ((behF m x.it.2 p.2).map V.int)), ?_, ?_⟩
              · exact ⟨_, rfl, _, rfl, _, rfl, a, x.la, p.1, m, x.it.2, p.2, rfl, Kz.same R7.s _ _ hm, ok, ix7.el, edp, okd, fun H' b ys ss nb eb Bo => ⟨b, rfl, ss, nb, by rw [(behF_of ok _ _).ext Bo]; exact eb⟩⟩
              rintro σ8 H8 ⟨b, rfl, s78, nb, eb⟩
              have R8 := R7.same s78
              have ix8 := ItOk.keep (.of s78) ix7
              have ed8 := s78 _ _ edp
              have bl : b ≠ l2 := fun z => by
                rw [z, R7.el] at nb
                exact nomatch nb
              have cE : (!((behF m x.it.2 p.2).map V.int).isEmpty) = decide (behF m x.it.2 p.2 ≠ []) := by
                cases behF m x.it.2 p.2 <;> rfl
              refine ⟨_, rfl, Nat.zero_le _, fun e9 n9 => ?_⟩
              have k9 := same_upd (o := .lst []) n9
              have R9 := R8.same k9
              have ix9 := ItOk.keep (.of k9) ix8
              have eb9 := k9 _ _ eb
              have ed9 := k9 _ _ ed8
              refine ⟨b, e9, _, rfl, rfl, SqL.of eb9, SqL.of upd_same, _, rfl, ?_⟩
              rw [cE]
              refine ifB (fun hb => ?_) fun hb => ?_
              · have nemp := of_decide_eq_true hb
                refine ⟨_, rfl, d, _, rfl, R9.ed, FoOk.kz R9.fZ, _, rfl, l2, _, rfl, .inl (SqL.of R9.el), _, _, rfl, rfl, _, _, rfl, rfl, _, rfl, ?_⟩
                show ite _ _ _
                have jl7 := R9.jlen
                have ar : ((((Z6.map entOf).length : Nat) : Int) + (((J7.map fun x => V.ref x.t).length : Nat) : Int) < 60) ↔ (acc.1.length + 1 + lt.length < 60) := by
                  rw [List.length_map, List.length_map, zl6, jl7]
                  omega
                refine ifB (fun hc => ?_) fun hc => ?_
                · have lt60 := ar.mp (of_decide_eq_true hc)
                  have st : stepE m (acc.1.length + 1) x.it lt p.2 = lt ++ [(x.it.1 ++ [p.2], behF m x.it.2 p.2)] := by rw [stepE, if_pos ⟨nemp, lt60⟩]
                  rw [st] at L8 ⊢
                  obtain ⟨ra', xs, ea, exs, kxs⟩ := kz_tup ix9.er
                  cases ea
                  have xl := kz_len kxs
                  refine ⟨_, rfl, .inl ⟨rfl, _, SqL.of R9.el⟩, _, rfl, _, rfl, by show 1 ≤ sizeLine; decide, fun q1 nq => ?_⟩
                  have kq := same_upd (o := .tup [.ref p.1]) nq
                  refine ⟨x.ra, q1, xs, [.ref p.1], rfl, rfl, SqT.of (kq _ _ exs), SqT.of upd_same, ?_, fun e => ?_, fun _ z => (nomatch z), fun ne _ r3 n3 => ?_⟩
                  · have z := LO.new x.it (List.mem_of_getElem? hit)
                    rw [List.length_map, z] at xl
                    show xs.length + 1 ≤ sizeLine
                    rw [sizeLine_eq]
                    omega
                  · have ss := kq
                    have d0 : x.it.1 = [] := by
                      rw [e, List.length_map] at xl
                      exact List.eq_nil_of_length_eq_zero xl.symm
                    have kr : Kz (upd (upd H8 e9 (.lst [])) q1 (.tup [.ref p.1])) (.ref q1) (keyOf (x.it.1 ++ [p.2])) := by
                      rw [d0]
                      exact .tup upd_same (.cons (deed_kz (kq _ _ ed9)) .nil)
                    refine ⟨_, rfl, by show 2 ≤ sizeLine; decide, fun t2 nt2 => ?_⟩
                    have k2 := same_upd (o := .tup [.ref q1, .ref b]) nt2
                    have R10 := R9.same (ss.trans k2)
                    have l2e := R10.el
                    refine ⟨l2, _, .ref t2, rfl, rfl, l2e, ?_, J7 ++ [⟨t2, q1, b, (x.it.1 ++ [p.2], behF m x.it.2 p.2)⟩], _, _, rfl, ⟨same_set R10.s nl, R10.k.trans (Kp.put l2e), by rw [upd_ne ndl]; exact R10.ed, ?_, fun y hy => ?_, fun z hz => FoOk.keep (Kp.put l2e) (R10.fZ z hz), R10.mZ, by rw [List.map_append, R10.mJ]; rfl⟩, L8⟩
                    · have := L7.len
                      rw [List.length_map, sizeLine_eq]
                      omega
                    · rw [upd_same, List.map_append]
                      rfl
                    · rcases List.mem_append.mp hy with z | z
                      · exact ItOk.keep (Kp.put l2e) (R10.iJ y z)
                      · rw [List.mem_singleton.mp z]
                        exact ItOk.keep (Kp.put l2e) ⟨upd_same, Kz.same k2 _ _ kr, (ss.trans k2) _ _ eb9, bl⟩
                  · have k3 := same_upd (o := .tup (xs ++ [.ref p.1])) n3
                    have ss := kq.trans k3
                    have kr : Kz (upd (upd (upd H8 e9 (.lst [])) q1 (.tup [.ref p.1])) r3 (.tup (xs ++ [.ref p.1]))) (.ref r3) (keyOf (x.it.1 ++ [p.2])) := by
                      have kx := kz_snoc (deed_kz (ss _ _ ed9)) (KzAll.same ss _ _ kxs)
                      refine .tup upd_same ?_
                      rw [List.map_append]
                      exact kx
                    refine ⟨_, rfl, by show 2 ≤ sizeLine; decide, fun t2 nt2 => ?_⟩
                    have k2 := same_upd (o := .tup [.ref r3, .ref b]) nt2
                    have R10 := R9.same (ss.trans k2)
                    have l2e := R10.el
                    refine ⟨l2, _, .ref t2, rfl, rfl, l2e, ?_, J7 ++ [⟨t2, r3, b, (x.it.1 ++ [p.2], behF m x.it.2 p.2)⟩], _, _, rfl, ⟨same_set R10.s nl, R10.k.trans (Kp.put l2e), by rw [upd_ne ndl]; exact R10.ed, ?_, fun y hy => ?_, fun z hz => FoOk.keep (Kp.put l2e) (R10.fZ z hz), R10.mZ, by rw [List.map_append, R10.mJ]; rfl⟩, L8⟩
                    · have := L7.len
                      rw [List.length_map, sizeLine_eq]
                      omega
                    · rw [upd_same, List.map_append]
                      rfl
                    · rcases List.mem_append.mp hy with z | z
                      · exact ItOk.keep (Kp.put l2e) (R10.iJ y z)
                      · rw [List.mem_singleton.mp z]
                        exact ItOk.keep (Kp.put l2e) ⟨upd_same, Kz.same k2 _ _ kr, (ss.trans k2) _ _ eb9, bl⟩
                · have no : ¬ (acc.1.length + 1 + lt.length < 60) := fun h => of_decide_eq_false hc (ar.mpr h)
                  have st : stepE m (acc.1.length + 1) x.it lt p.2 = lt := by rw [stepE, if_neg (fun h => no h.2)]
                  rw [st] at L8 ⊢
                  exact ⟨J7, _, _, rfl, R9, L8⟩
              · have emp := of_decide_eq_false hb
                have st : stepE m (acc.1.length + 1) x.it lt p.2 = lt := by rw [stepE, if_neg (fun h => emp h.1)]
                rw [st] at L8 ⊢
                exact ⟨J7, _, _, rfl, R9, L8⟩
            · rintro σ7 H7 ⟨J7, w4, w10, rfl, R7, L7⟩
              have gl : (G.map fun p => V.ref p.1).length = E.length := by rw [← hE, List.length_map, List.length_map]
              rw [gl] at R7 L7
              rw [List.take_length] at R7 L7
              exact ⟨Z6, J7, _, _, _, _, rfl, R7, L7.turn⟩
        · rintro σ5 H5 ⟨Z5, J5, v4, v8, v9, v10, rfl, R5, L5⟩
          rw [List.length_map, lXs, List.take_length] at R5 L5
          exact ⟨Z5, J5, v4, v8, v9, v10, rfl, R5, L5⟩
      · rintro σ5 H5 ⟨Z5, J5, v4, v8, v9, v10, rfl, R5, L5⟩
        refine ⟨_, rfl, l2, J5, Z5, _, _, _, _, _, _, rfl, R5.s, R5.ed, R5.el, R5.iJ, R5.mJ, R5.mZ, R5.fZ, R5.k.lst _ _ ngl (k34 _ _ eg3), fun p hp => R5.k.tup _ _ (k34 _ _ (kG3 p hp)), LO.next L5, ?_⟩
        have e1 : (itR m E (i + 1)).1 = (itR m E i).1 ++ (itR m E i).2.map (rowR m) := fold_fst _ _
        rw [e1, List.length_append, List.length_map]
        omega
    · rintro σ3 H3 ⟨lv, X, Z, u4, u5, u7, u8, u9, u10, rfl, s3, ed3, elv3, iX, mX, mZ, fZ, eg3, kG3, LO, len60⟩
      exact ⟨Z, _, _, _, _, _, _, _, rfl, s3, ed3, mZ, fZ⟩
end
end K03
/-! The rows of the machine of the reached states are those of the machine. -/
namespace K03
open PySem PySem.Spec PyProof.Rows L2 WD NS MC GL
theorem sorted_ext {α : Type} {r : α → α → Prop} (ir : ∀ a, ¬ r a a) (as : ∀ a b, r a b → ¬ r b a) : ∀ l l' : List α, l.Pairwise r → l'.Pairwise r → (∀ x, x ∈ l ↔ x ∈ l') → l = l'
  | [], [], _, _, _ => rfl
  | [], b :: t, _, _, h => absurd ((h b).mpr List.mem_cons_self) List.not_mem_nil
  | a :: t, [], _, _, h => absurd ((h a).mp List.mem_cons_self) List.not_mem_nil
  | a :: t, b :: t', h1, h2, h => by
    obtain ⟨a1, a2⟩ := List.pairwise_cons.mp h1
    obtain ⟨b1, b2⟩ := List.pairwise_cons.mp h2
    have e : a = b := by
      rcases List.mem_cons.mp ((h a).mp List.mem_cons_self) with z | z
      · exact z
      · rcases List.mem_cons.mp ((h b).mpr List.mem_cons_self) with y | y
        · exact y.symm
        · exact absurd (b1 a z) (as a b (a1 b y))
    subst e
    congr 1
    refine sorted_ext ir as t t' a2 b2 fun x => ⟨fun m => ?_, fun m => ?_⟩
    · rcases List.mem_cons.mp ((h x).mp (List.mem_cons_of_mem _ m)) with z | z
      · rw [z] at m; exact absurd (a1 a m) (ir a)
      · exact z
    · rcases List.mem_cons.mp ((h x).mpr (List.mem_cons_of_mem _ m)) with z | z
      · rw [z] at m; exact absurd (b1 a m) (ir a)
      · exact z
theorem lex_asym : ∀ l m : List (Int ⊕ List Nat), lexI l m = true → lexI m l = false
  | [], [], h => nomatch h
  | [], b :: t, _ => rfl
  | a :: t, [], h => nomatch h
  | x :: r, y :: t, h => by
    have h' : (itemOrd.blt x y || !itemOrd.blt y x && lexI r t) = true := h
    show (itemOrd.blt y x || !itemOrd.blt x y && lexI t r) = false
    cases e : itemOrd.blt x y
    · rw [e, Bool.false_or] at h'
      cases e2 : itemOrd.blt y x
      · rw [e2] at h'
        rw [lex_asym r t (by simpa using h')]
        rfl
      · rw [e2] at h'
        exact nomatch h'
    · cases e2 : itemOrd.blt y x
      · rfl
      · have := itemOrd.trans x y x e e2
        rw [itemOrd.irrefl] at this
        exact nomatch this
theorem deeds_ext {E F : List Deed} (a : E.Pairwise fun d e => PySem.W.dataLt d.key.data e.key.data = true) (b : F.Pairwise fun d e => PySem.W.dataLt d.key.data e.key.data = true) (h : ∀ d, d ∈ E ↔ d ∈ F) : E = F :=
  sorted_ext (r := fun d e : Deed => PySem.W.dataLt d.key.data e.key.data = true) deed_irr (fun d e z y => by
    have z' : lexI (PySem.W.keyToks d.key.data) (PySem.W.keyToks e.key.data) = true := z
    have y' : lexI (PySem.W.keyToks e.key.data) (PySem.W.keyToks d.key.data) = true := y
    rw [lex_asym _ _ z'] at y'
    exact nomatch y') E F a b h
theorem DeedsOf.ext {m : MachM} {E F : List Deed} (a : DeedsOf m E) (b : DeedsOf m F) : E = F := deeds_ext a.asc b.asc fun d => (a.mem d).trans (b.mem d).symm
theorem num_inj {ys : List Int} (asc : ys.Pairwise (· < ·)) {x y : Int} (hx : x ∈ ys) (hy : y ∈ ys) (e : numOf ys x = numOf ys y) : x = y := by
  rcases Int.lt_trichotomy x y with h | h | h
  · have := num_lt asc hx hy h
    omega
  · exact h
  · have := num_lt asc hy hx h
    omega
section
variable {m : MachM} {ys : List Int} (ok : m.Ok) (R : RchOf m ys)
include ok R
theorem beh_in {fs : List Int} {d : Deed} (sub : ∀ k ∈ fs, k ∈ ys) : ∀ k ∈ behF m fs d, k ∈ ys := fun k hk => by
  obtain ⟨r, hr, hb, _, rfl⟩ := ((behF_of ok fs d).mem k).mp hk
  exact R.aft hr (sub _ hb)
theorem mem_num {fs : List Int} (sub : ∀ k ∈ fs, k ∈ ys) {x : Int} (hx : x ∈ ys) : numOf ys x ∈ fs.map (numOf ys) ↔ x ∈ fs := by
  constructor
  · intro h
    obtain ⟨y, hy, e⟩ := List.mem_map.mp h
    rw [← num_inj R.lt (sub y hy) hx e]
    exact hy
  · exact fun h => List.mem_map.mpr ⟨x, h, rfl⟩
theorem trim_row (r' : RowM) : r' ∈ (trimM m ys).rows ↔ ∃ r ∈ m.rows, r.before ∈ ys ∧ r' = ⟨numOf ys r.before, r.deed, numOf ys r.after⟩ := by
  show r' ∈ List.map _ (List.filter _ _) ↔ _
  rw [List.mem_map]
  constructor
  · rintro ⟨r, hr, rfl⟩
    exact ⟨r, (List.mem_filter.mp hr).1, of_decide_eq_true (List.mem_filter.mp hr).2, rfl⟩
  · rintro ⟨r, hr, hb, rfl⟩
    exact ⟨r, List.mem_filter.mpr ⟨hr, decide_eq_true hb⟩, rfl⟩
theorem beh_trim {fs : List Int} {d : Deed} (sub : ∀ k ∈ fs, k ∈ ys) : behF (trimM m ys) (fs.map (numOf ys)) d = (behF m fs d).map (numOf ys) := by
  refine (behF_of (trim_ok ok R) _ _).ext ⟨fun y => ?_, ?_⟩
  · rw [List.mem_map]
    constructor
    · rintro ⟨x, hx, rfl⟩
      obtain ⟨r, hr, hb, hd, rfl⟩ := ((behF_of ok fs d).mem x).mp hx
      exact ⟨⟨numOf ys r.before, r.deed, numOf ys r.after⟩, (trim_row ok R _).mpr ⟨r, hr, sub _ hb, rfl⟩, (mem_num ok R sub (sub _ hb)).mpr hb, hd, rfl⟩
    · rintro ⟨r', hr', hb, hd, rfl⟩
      obtain ⟨r, hr, hy, rfl⟩ := (trim_row ok R _).mp hr'
      exact ⟨r.after, ((behF_of ok fs d).mem _).mpr ⟨r, hr, (mem_num ok R sub hy).mp hb, hd, rfl⟩, rfl⟩
  · exact List.pairwise_map.mpr ((behF_of ok fs d).asc.imp_of_mem fun hx hy l => num_lt R.lt (beh_in ok R sub _ hx) (beh_in ok R sub _ hy) l)
theorem fin_trim {fs : List Int} (sub : ∀ k ∈ fs, k ∈ ys) : finF (trimM m ys) (fs.map (numOf ys)) = finF m fs := by
  rw [Bool.eq_iff_iff, finF, finF, List.any_eq_true, List.any_eq_true]
  constructor
  · rintro ⟨k, hk, h⟩
    obtain ⟨x, hx, rfl⟩ := List.mem_map.mp hk
    have h' : numOf ys x ∈ (m.finals.filter fun k => decide (k ∈ ys)).map (numOf ys) := of_decide_eq_true h
    obtain ⟨z, hz, e⟩ := List.mem_map.mp h'
    have zy := of_decide_eq_true (List.mem_filter.mp hz).2
    refine ⟨x, hx, decide_eq_true ?_⟩
    rw [← num_inj R.lt zy (sub x hx) e]
    exact (List.mem_filter.mp hz).1
  · rintro ⟨x, hx, h⟩
    have hf := of_decide_eq_true h
    exact ⟨numOf ys x, List.mem_map.mpr ⟨x, hx, rfl⟩, decide_eq_true (List.mem_map.mpr ⟨x, List.mem_filter.mpr ⟨hf, decide_eq_true (sub x hx)⟩, rfl⟩)⟩
def mapI (ys : List Int) (it : Item) : Item := (it.1, it.2.map (numOf ys))
omit ok R in
theorem mapI_def (ys : List Int) (it : Item) : mapI ys it = (it.1, it.2.map (numOf ys)) := rfl
theorem row_trim {it : Item} (sub : ∀ k ∈ it.2, k ∈ ys) : rowR (trimM m ys) (mapI ys it) = rowR m it := by
  show (it.1, (((it.2.map (numOf ys)).length : Nat) : Int), finF (trimM m ys) (it.2.map (numOf ys))) = (it.1, (it.2.length : Int), finF m it.2)
  rw [List.length_map, fin_trim ok R sub]
theorem stepE_trim {nf : Nat} {it : Item} {later : List Item} {d : Deed} (sub : ∀ k ∈ it.2, k ∈ ys) : stepE (trimM m ys) nf (mapI ys it) (later.map (mapI ys)) d = (stepE m nf it later d).map (mapI ys) := by
  have eb : behF (trimM m ys) (mapI ys it).2 d = (behF m it.2 d).map (numOf ys) := beh_trim ok R sub
  have ne : ((behF m it.2 d).map (numOf ys) ≠ []) ↔ (behF m it.2 d ≠ []) := by
    cases behF m it.2 d <;> simp
  by_cases c : behF m it.2 d ≠ [] ∧ nf + later.length < 60
  · rw [stepE, if_pos (show _ ∧ _ from ⟨by rw [eb]; exact ne.mpr c.1, by rw [List.length_map]; exact c.2⟩), stepE, if_pos c, List.map_append, eb]
    rfl
  · rw [stepE, if_neg (show ¬ (_ ∧ _) from fun h => c ⟨ne.mp (by rw [← eb]; exact h.1), by have := h.2; rw [List.length_map] at this; exact this⟩), stepE, if_neg c]
theorem foldE_trim {nf : Nat} {it : Item} (sub : ∀ k ∈ it.2, k ∈ ys) : ∀ (E : List Deed) (later : List Item), E.foldl (stepE (trimM m ys) nf (mapI ys it)) (later.map (mapI ys)) = (E.foldl (stepE m nf it) later).map (mapI ys)
  | [], _ => rfl
  | d :: E, later => by
    rw [List.foldl_cons, List.foldl_cons, stepE_trim ok R sub, foldE_trim sub E]
/-- deeds that lead nowhere change nothing -/
theorem foldE_skip {nf : Nat} {it : Item} (sub : ∀ k ∈ it.2, k ∈ ys) : ∀ (E : List Deed) (later : List Item), (E.filter fun d => (trimM m ys).rows.any fun r => decide (r.deed = d)).foldl (stepE m nf it) later = E.foldl (stepE m nf it) later
  | [], _ => rfl
  | d :: E, later => by
    by_cases c : (trimM m ys).rows.any (fun r => decide (r.deed = d)) = true
    · rw [List.filter_cons_of_pos (p := fun d => (trimM m ys).rows.any fun r => decide (r.deed = d)) c, List.foldl_cons, List.foldl_cons, foldE_skip sub E]
    · rw [List.filter_cons_of_neg (p := fun d => (trimM m ys).rows.any fun r => decide (r.deed = d)) c, List.foldl_cons]
      have e : behF m it.2 d = [] := by
        cases z : behF m it.2 d with
        | nil => rfl
        | cons y t =>
          have hy : y ∈ behF m it.2 d := by rw [z]; exact List.mem_cons_self
          obtain ⟨r, hr, hb, hd, _⟩ := ((behF_of ok _ _).mem y).mp hy
          exact absurd (List.any_eq_true.mpr ⟨_, (trim_row ok R _).mpr ⟨r, hr, sub _ hb, rfl⟩, decide_eq_true hd⟩) c
      rw [foldE_skip sub E, stepE, if_neg (fun h => h.1 e)]
theorem sub_E {nf : Nat} {it : Item} (sub : ∀ k ∈ it.2, k ∈ ys) : ∀ (E : List Deed) (later : List Item), (∀ x ∈ later, ∀ k ∈ x.2, k ∈ ys) → ∀ x ∈ E.foldl (stepE m nf it) later, ∀ k ∈ x.2, k ∈ ys
  | [], _, h => h
  | d :: E, later, h => by
    rw [List.foldl_cons]
    refine sub_E sub E _ fun x hx => ?_
    rw [stepE] at hx
    by_cases c : behF m it.2 d ≠ [] ∧ nf + later.length < 60
    · rw [if_pos c] at hx
      rcases List.mem_append.mp hx with z | z
      · exact h x z
      · rw [List.mem_singleton.mp z]
        exact beh_in ok R sub
    · rw [if_neg c] at hx
      exact h x hx
theorem foldL_trim {E E' : List Deed} (hE : E' = E.filter fun d => (trimM m ys).rows.any fun r => decide (r.deed = d)) : ∀ (lv : List Item) (acc : List RowR × List Item), (∀ x ∈ lv, ∀ k ∈ x.2, k ∈ ys) → (∀ x ∈ acc.2, ∀ k ∈ x.2, k ∈ ys) →
    (lv.map (mapI ys)).foldl (stepL (trimM m ys) E') (acc.1, acc.2.map (mapI ys)) = ((lv.foldl (stepL m E) acc).1, (lv.foldl (stepL m E) acc).2.map (mapI ys)) ∧ ∀ x ∈ (lv.foldl (stepL m E) acc).2, ∀ k ∈ x.2, k ∈ ys
  | [], acc, _, h => ⟨rfl, h⟩
  | it :: lv, acc, hl, h => by
    have hi := hl it List.mem_cons_self
    rw [List.map_cons, List.foldl_cons, List.foldl_cons]
    have e : stepL (trimM m ys) E' (acc.1, acc.2.map (mapI ys)) (mapI ys it) = ((stepL m E acc it).1, (stepL m E acc it).2.map (mapI ys)) := by
      show (acc.1 ++ [rowR (trimM m ys) (mapI ys it)], E'.foldl (stepE (trimM m ys) (acc.1.length + 1) (mapI ys it)) (acc.2.map (mapI ys))) = (acc.1 ++ [rowR m it], (E.foldl (stepE m (acc.1.length + 1) it) acc.2).map (mapI ys))
      rw [row_trim ok R hi, hE, foldE_trim ok R hi, foldE_skip ok R hi]
    rw [e]
    exact foldL_trim hE lv _ (fun x hx => hl x (List.mem_cons_of_mem _ hx)) (sub_E ok R hi E acc.2 h)
theorem it_trim {E E' : List Deed} (DE : DeedsOf m E) (DE' : DeedsOf (trimM m ys) E') : ∀ n : Nat, itR (trimM m ys) E' n = ((itR m E n).1, (itR m E n).2.map (mapI ys)) ∧ ∀ x ∈ (itR m E n).2, ∀ k ∈ x.2, k ∈ ys := by
  have hE : E' = E.filter fun d => (trimM m ys).rows.any fun r => decide (r.deed = d) := by
    refine deeds_ext DE'.asc (DE.asc.filter _) fun d => ?_
    rw [List.mem_filter, DE'.mem, DE.mem, List.any_eq_true]
    constructor
    · rintro ⟨r', hr', e⟩
      obtain ⟨r, hr, _, rfl⟩ := (trim_row ok R _).mp hr'
      exact ⟨⟨r, hr, e⟩, _, hr', decide_eq_true e⟩
    · rintro ⟨_, r', hr', e⟩
      exact ⟨r', hr', of_decide_eq_true e⟩
  have z : (0 : Int) ∈ ys := (R.mem 0).mpr .zero
  intro n
  induction n with
  | zero =>
    refine ⟨?_, fun x hx k hk => ?_⟩
    · have num0 : numOf ys 0 = 0 := by
        cases ys with
        | nil => exact nomatch z
        | cons y t =>
          have p := List.pairwise_cons.mp R.lt
          have y0 : y = 0 := by
            rcases List.mem_cons.mp z with e | e
            · exact e.symm
            · have a := p.1 0 e
              have b := ((R.mem y).mp List.mem_cons_self).bnd ok
              omega
          rw [y0, numOf, List.idxOf_cons_self]
          rfl
      show (([], [([], [0])]) : List RowR × List Item) = ([], [([], [numOf ys 0])])
      rw [num0]
    · rw [List.mem_singleton.mp hx] at hk
      rw [List.mem_singleton.mp hk]
      exact z
  | succ n ih =>
    have h := foldL_trim ok R hE (itR m E n).2 ((itR m E n).1, []) ih.2 (fun _ z => nomatch z)
    refine ⟨?_, h.2⟩
    show (itR (trimM m ys) E' n).2.foldl (stepL (trimM m ys) E') ((itR (trimM m ys) E' n).1, []) = _
    rw [ih.1]
    exact h.1
end
end K03
namespace K03
open PySem PySem.Spec PyProof.Rows L2 WD NS MC GL
open C8 (pss_cut tCut)
/-- a def of the text: where it stands, how it is called -/
structure Df (K : PySem.W.Frag) (mg : Str → Option Value) (name : Str) (st : Stmt) (ps : List Str) (f : Addr) (fd : FuncData) : Prop where
  F : Fun K name name st f fd
  b : L2.Binds K fd ps []
  g : mg name = some (.ref f)
theorem passE0 {X : Cx} {P : Program} {w : World} (hP : X.prog = P) (hw : X.w = w) : L2.Passes (L2.CX P w) X C8.E0 := by
  subst hP hw
  exact L2.passes_call WD.takes_none fun _ _ _ _ z => z
theorem dp_ints {K : PySem.W.Frag} {H : Hp} : ∀ ns : List Int, DpAll K H (ns.map V.int) (ns.map PyData.int)
  | [] => .nil
  | x :: ns => .cons (.int x) (dp_ints ns)
theorem can_ints : ∀ ns : List Int, PyData.canLayAll0 (ns.map PyData.int) = true
  | [] => rfl
  | x :: ns => by rw [List.map_cons, PyData.canLayAll0, can_ints ns]; rfl
theorem depth_ints : ∀ ns : List Int, PyData.depthAll (ns.map PyData.int) = 0
  | [] => rfl
  | x :: ns => by rw [List.map_cons, PyData.depthAll, depth_ints ns]; rfl
theorem shaped_intsT (ns : List Int) : SeqAt.shaped (.tuple (ns.map PyData.int)) = true := by
  rw [SeqAt.shaped, PyData.canLay0, can_ints ns, PyData.depth, depth_ints]
  rfl
theorem shaped_can {d : PyData} (h : SeqAt.shaped d = true) : d.canLay0 = true := by
  rw [SeqAt.shaped, Bool.and_eq_true] at h
  exact h.1
theorem eqv_self {d : PyData} (h : SeqAt.shaped d = true) : PyData.eqv d d = true := SeqAt.eqv_refl d (shaped_can h)
theorem ne_ints {K : PySem.W.Frag} {H : Hp} {p q : Addr} {ns : List Int} {Q : V → Hp → Prop} (hp : SqT K H p (ns.map V.int)) (hq : SqT K H q (ns.map V.int)) (k : Q (.bl false) H) : rNeD K (.ref p) (.ref q) H Q := by
  refine ⟨_, _, .tup hp (dp_ints ns), .tup hq (dp_ints ns), shaped_intsT ns, shaped_intsT ns, ?_⟩
  rw [eqv_self (shaped_intsT ns)]
  exact k
mutual
theorem kz_dp {K : PySem.W.Frag} {H : Hp} : ∀ (k : NestedKey) (v : V), Kz H v k → Dp K H v k.data
  | .none, _, h => by cases h; exact .non
  | .num i, _, h => by cases h; exact .int i
  | .text x, _, h => by cases h; exact .str x
  | .tup ks, _, h => by
    cases h with
    | tup e h => exact .tup (SqT.of e) (kz_dpAll ks _ h)
theorem kz_dpAll {K : PySem.W.Frag} {H : Hp} : ∀ (ks : List NestedKey) (vs : List V), KzAll H vs ks → DpAll K H vs (NestedKey.datas ks)
  | [], _, h => by cases h; exact .nil
  | k :: ks, _, h => by
    cases h with
    | cons h1 h2 => exact .cons (kz_dp k _ h1) (kz_dpAll ks _ h2)
end
theorem can_rows {size : Nat} : ∀ rs : List RowM, (∀ r ∈ rs, r.Ok size) → PyData.canLayAll0 (NestedKey.datas (rs.map RowM.key)) = true ∧ PyData.depthAll (NestedKey.datas (rs.map RowM.key)) ≤ 3
  | [], _ => ⟨rfl, Nat.zero_le _⟩
  | r :: rs, h => by
    have ih := can_rows rs fun s hs => h s (List.mem_cons_of_mem _ hs)
    have sd := shaped_can (deed_shaped (h r List.mem_cons_self).dd)
    have dd : r.deed.key.data.depth ≤ 1 := by
      cases r.deed with
      | step => exact Nat.le_refl 1
      | ex b n l => exact Nat.le_refl 1
    constructor
    · show PyData.canLayAll0 (PyData.tuple [.int r.before, r.deed.key.data, .int r.after] :: NestedKey.datas (rs.map RowM.key)) = true
      rw [PyData.canLayAll0, PyData.canLay0, PyData.canLayAll0, PyData.canLayAll0, PyData.canLayAll0, sd, ih.1]
      rfl
    · show PyData.depthAll (PyData.tuple [.int r.before, r.deed.key.data, .int r.after] :: NestedKey.datas (rs.map RowM.key)) ≤ 3
      have i2 := ih.2
      simp only [PyData.depthAll, PyData.depth] at i2 ⊢
      omega
theorem datas_ints : ∀ ns : List Int, NestedKey.datas (ns.map .num) = ns.map PyData.int
  | [] => rfl
  | n :: ns => by
    show PyData.int n :: NestedKey.datas (ns.map .num) = _
    rw [datas_ints ns]
    rfl
theorem mach_shaped {m : MachM} (ok : m.Ok) : SeqAt.shaped m.key.data = true := by
  have h := can_rows m.rows ok.r1
  show SeqAt.shaped (.tuple [.int m.size, .tuple (NestedKey.datas (m.finals.map .num)), .tuple (NestedKey.datas (m.rows.map RowM.key))]) = true
  rw [datas_ints]
  have d1 := depth_ints m.finals
  have h2 := h.2
  rw [SeqAt.shaped, Bool.and_eq_true]
  constructor
  · simp only [PyData.canLay0, PyData.canLayAll0, can_ints, h.1]
    rfl
  · refine decide_eq_true ?_
    simp only [PyData.depth, PyData.depthAll, d1]
    omega
theorem ne_mach {K : PySem.W.Frag} {H : Hp} {p q : Addr} {m : MachM} {Q : V → Hp → Prop} (ok : m.Ok) (hp : Kz H (.ref p) m.key) (hq : Kz H (.ref q) m.key) (k : Q (.bl false) H) : rNeD K (.ref p) (.ref q) H Q := by
  refine ⟨_, _, kz_dp _ _ hp, kz_dp _ _ hq, mach_shaped ok, mach_shaped ok, ?_⟩
  rw [eqv_self (mach_shaped ok)]
  exact k
theorem RchOf.ext {m : MachM} {ys zs : List Int} (a : RchOf m ys) (b : RchOf m zs) : ys = zs := ints_ext _ _ a.lt b.lt fun x => (a.mem x).trans (b.mem x).symm
theorem num_at : ∀ {ys : List Int} {i : Nat} {y : Int}, ys.Nodup → ys[i]? = some y → numOf ys y = i
  | a :: ys, 0, y, _, h => by
    obtain rfl : a = y := Option.some.inj h
    rw [numOf, List.idxOf_cons_self]
  | a :: ys, i + 1, y, nd, h => by
    have nd' := List.nodup_cons.mp nd
    have h' : ys[i]? = some y := h
    have n : a ≠ y := fun e => nd'.1 (e ▸ List.mem_of_getElem? h')
    have ih := num_at nd'.2 h'
    rw [numOf] at ih
    rw [numOf, idx_ne n]
    omega
abbrev upTo (n : Nat) : List Int := (List.range n).map fun i : Nat => (i : Int)
theorem upTo_asc (n : Nat) : (upTo n).Pairwise (· < ·) := List.pairwise_map.mpr (List.pairwise_lt_range.imp fun h => by omega)
theorem mem_upTo {n : Nat} {x : Int} : x ∈ upTo n ↔ 0 ≤ x ∧ x < n := by
  rw [List.mem_map]
  constructor
  · rintro ⟨i, hi, rfl⟩
    have := List.mem_range.mp hi
    omega
  · rintro ⟨h0, h1⟩
    exact ⟨x.toNat, List.mem_range.mpr (by omega), by show ((x.toNat : Nat) : Int) = x; omega⟩
theorem num_upTo {n : Nat} {x : Int} (h : x ∈ upTo n) : numOf (upTo n) x = x := by
  obtain ⟨h0, h1⟩ := mem_upTo.mp h
  have e : (upTo n)[x.toNat]? = some x := by
    rw [upTo, List.getElem?_map, List.getElem?_range (by omega)]
    show some ((x.toNat : Nat) : Int) = some x
    rw [show ((x.toNat : Nat) : Int) = x by omega]
  have z := num_at (lt_nodup (upTo_asc n)) e
  omega
section
variable {m : MachM} {ys : List Int} (ok : m.Ok) (R : RchOf m ys)
include ok R
theorem rch_trim : RchOf (trimM m ys) (upTo ys.length) := by
  refine ⟨fun x => ?_, (upTo_asc _).imp fun l => Int.le_of_lt l, lt_nodup (upTo_asc _)⟩
  rw [mem_upTo]
  constructor
  · rintro ⟨h0, h1⟩
    have il : x.toNat < ys.length := by omega
    have e : ys[x.toNat]? = some ys[x.toNat] := List.getElem?_eq_getElem il
    have hn := num_at R.once e
    have hx : numOf ys ys[x.toNat] = x := by omega
    have go : ∀ y, Rch m y → Rch (trimM m ys) (numOf ys y) := fun y h => by
      induction h with
      | zero =>
        have z : Rch (trimM m ys) 0 := .zero
        have n0 : numOf ys (0 : Int) = (0 : Int) := by
          have z := (R.mem 0).mpr .zero
          cases ys with
          | nil => exact nomatch z
          | cons y t =>
            have p := List.pairwise_cons.mp R.lt
            have y0 : y = 0 := by
              rcases List.mem_cons.mp z with e | e
              · exact e.symm
              · have a := p.1 0 e
                have b := ((R.mem y).mp List.mem_cons_self).bnd ok
                omega
            rw [y0, numOf, List.idxOf_cons_self]
            rfl
        rw [n0]
        exact z
      | step hr hb ih => exact Rch.step (m := trimM m ys) ((trim_row ok R _).mpr ⟨_, hr, (R.mem _).mpr hb, rfl⟩) ih
    rw [← hx]
    exact go _ ((R.mem _).mp (List.getElem_mem il))
  · intro h
    exact h.bnd (trim_ok ok R)
theorem trim_twice : trimM (trimM m ys) (upTo ys.length) = trimM m ys := by
  have T := trim_ok ok R
  have lenU : (upTo ys.length).length = ys.length := by rw [List.length_map, List.length_range]
  have inU : ∀ x : Int, 0 ≤ x → x < ((trimM m ys).size : Int) → x ∈ upTo ys.length := fun x h0 h1 => mem_upTo.mpr ⟨h0, h1⟩
  have f1 : ((trimM m ys).finals.filter fun k => decide (k ∈ upTo ys.length)) = (trimM m ys).finals := List.filter_eq_self.mpr fun k hk => decide_eq_true (inU k (T.f1 k hk).1 (T.f1 k hk).2)
  have f2 : ((trimM m ys).rows.filter fun r => decide (r.before ∈ upTo ys.length)) = (trimM m ys).rows := List.filter_eq_self.mpr fun r hr => decide_eq_true (inU _ (T.r1 r hr).b0 (T.r1 r hr).b1)
  have g1 : (trimM m ys).finals.map (numOf (upTo ys.length)) = (trimM m ys).finals := by
    refine (List.map_congr_left fun k hk => num_upTo (inU k (T.f1 k hk).1 (T.f1 k hk).2)).trans (List.map_id _)
  have g2 : (trimM m ys).rows.map (fun r => (⟨numOf (upTo ys.length) r.before, r.deed, numOf (upTo ys.length) r.after⟩ : RowM)) = (trimM m ys).rows := by
    refine (List.map_congr_left (g := id) fun (r : RowM) hr => ?_).trans (List.map_id _)
    rw [num_upTo (inU _ (T.r1 r hr).b0 (T.r1 r hr).b1), num_upTo (inU _ (T.r1 r hr).a0 (T.r1 r hr).a1)]
    rfl
  show (⟨(upTo ys.length).length, ((trimM m ys).finals.filter fun k => decide (k ∈ upTo ys.length)).map (numOf (upTo ys.length)), ((trimM m ys).rows.filter fun r => decide (r.before ∈ upTo ys.length)).map fun r => ⟨numOf (upTo ys.length) r.before, r.deed, numOf (upTo ys.length) r.after⟩⟩ : MachM) = _
  rw [f1, f2, g1, g2, lenU]
  rfl
end
/-- the places of the states that are final -/
def finIx (m : MachM) : Nat → List Int → List Int
  | _, [] => []
  | n, y :: ys => (if y ∈ m.finals then [(n : Int)] else []) ++ finIx m (n + 1) ys
theorem finIx_snoc (m : MachM) : ∀ (n : Nat) (ys : List Int) (y : Int), finIx m n (ys ++ [y]) = finIx m n ys ++ (if y ∈ m.finals then [((n + ys.length : Nat) : Int)] else [])
  | n, [], y => by simp [finIx]
  | n, a :: ys, y => by
    rw [List.cons_append, finIx, finIx_snoc, finIx, List.append_assoc, List.length_cons, show n + 1 + ys.length = n + (ys.length + 1) by omega]
theorem finIx_mem (m : MachM) : ∀ (n : Nat) (ys : List Int) (x : Int), x ∈ finIx m n ys ↔ ∃ (j : Nat) (y : Int), ys[j]? = some y ∧ y ∈ m.finals ∧ x = ((n + j : Nat) : Int)
  | n, [], x => by simp [finIx]
  | n, a :: ys, x => by
    rw [finIx, List.mem_append, finIx_mem m (n + 1) ys x]
    constructor
    · rintro (h | ⟨j, y, h1, h2, h3⟩)
      · by_cases e : a ∈ m.finals
        · rw [if_pos e] at h
          exact ⟨0, a, rfl, e, List.mem_singleton.mp h⟩
        · rw [if_neg e] at h
          exact nomatch h
      · exact ⟨j + 1, y, h1, h2, by rw [h3]; congr 1; omega⟩
    · rintro ⟨j, y, h1, h2, h3⟩
      cases j with
      | zero =>
        obtain rfl : a = y := Option.some.inj h1
        rw [if_pos h2]
        exact .inl (List.mem_singleton.mpr h3)
      | succ j => exact .inr ⟨j, y, h1, h2, by rw [h3]; congr 1; omega⟩
theorem finIx_asc (m : MachM) : ∀ (n : Nat) (ys : List Int), (finIx m n ys).Pairwise (· < ·)
  | _, [] => .nil
  | n, a :: ys => by
    rw [finIx, List.pairwise_append]
    refine ⟨by by_cases e : a ∈ m.finals <;> simp [e], finIx_asc m (n + 1) ys, fun x hx y hy => ?_⟩
    obtain ⟨j, z, _, _, e⟩ := (finIx_mem m (n + 1) ys y).mp hy
    have ex : x = n := by
      by_cases e : a ∈ m.finals
      · rw [if_pos e] at hx
        exact List.mem_singleton.mp hx
      · rw [if_neg e] at hx
        exact nomatch hx
    omega
theorem fin_ix {m : MachM} {ys : List Int} (ok : m.Ok) (R : RchOf m ys) : (trimM m ys).finals = finIx m 0 ys := by
  refine ints_ext _ _ (trim_ok ok R).f2 (finIx_asc m 0 ys) fun x => ?_
  rw [finIx_mem]
  show x ∈ List.map _ (List.filter _ _) ↔ _
  rw [List.mem_map]
  constructor
  · rintro ⟨k, hk, rfl⟩
    have hy := of_decide_eq_true (List.mem_filter.mp hk).2
    obtain ⟨j, hj⟩ := List.getElem?_of_mem hy
    exact ⟨j, k, hj, (List.mem_filter.mp hk).1, by rw [num_at R.once hj, Nat.zero_add]⟩
  · rintro ⟨j, y, h1, h2, rfl⟩
    exact ⟨y, List.mem_filter.mpr ⟨h2, decide_eq_true (List.mem_of_getElem? h1)⟩, by rw [num_at R.once h1, Nat.zero_add]⟩
end K03
/-! _law_right -/
namespace K03
open PySem PySem.Spec PyProof.Rows L2 WD NS MC GL
open C8 (pss_cut tCut)
abbrev sRight : Stmt := topS 41
abbrev nRr : List Str := ["_law_machine", "_law_every", "_law_small", "_law_row_here", "_law_at", "_law_state"]
theorem scRr : FnScope nRr ["_law_machine"] (defScope sRight) := ⟨rfl, rfl, rfl, by decide +kernel, rfl, by decide +kernel, by decide +kernel⟩
def spRt : Sp := fun vs H Q _ => ∃ (a : Addr) (m : MachM), vs = [.ref a] ∧ Kz H (.ref a) m.key ∧ m.Ok ∧ m.rows.length ≤ 30 ∧ ∀ H', Same H H' → Q (.bl true) H'
structure TxtRr (K : PySem.W.Frag) (mg : Str → Option Value) (f1 f2 f3 f4 f5 : Addr) (d1 d2 d3 d4 d5 : FuncData) : Prop where
  reached : Df K mg "reached_states" sReached ["machine"] f1 d1
  trim : Df K mg "trimmed" sTrim ["machine"] f2 d2
  all : Df K mg "_law_all" sAll ["_law_machine"] f3 d3
  isM : Df K mg "is_machine" sIsM ["value"] f4 d4
  rows : Df K mg "_law_rows" sRowsL ["_law_machine", "_law_longest"] f5 d5
theorem rg_upTo (n : Nat) : rgV 0 (n : Int) = (upTo n).map V.int := by
  rw [rgV, upTo, List.map_map, show ((n : Int) - 0).toNat = n by omega]
  refine List.map_congr_left fun i _ => ?_
  show V.int (0 + (i : Int)) = V.int (i : Int)
  rw [Int.zero_add]
section
variable {P : Program} {w : World} {K : PySem.W.Frag} {mg : Str → Option Value} {base : Heap} {f1 f2 f3 f4 f5 cM : Addr} {d1 d2 d3 d4 d5 : FuncData} {k : Nat}
theorem ok_Right {f : Addr} {fd : FuncData} (F : Fun K "_law_right" "_law_right" sRight f fd) (T : TxtRr K mg f1 f2 f3 f4 f5 d1 d2 d3 d4 d5) (TD : TxtD mg) (TS : TxtS mg) (TQ : TxtQ mg)
    (G1 : FnOk P w K mg base (L2.CX P w) k f1 d1 ["machine"] (spReached K cM)) (G2 : FnOk P w K mg base (L2.CX P w) k f2 d2 ["machine"] (spTrim K cM)) (G3 : FnOk P w K mg base CX0 k f3 d3 ["_law_machine"] spAll)
    (G4 : FnOk P w K mg base CX0 k f4 d4 ["value"] (spIsM K)) (G5 : FnOk P w K mg base CX0 k f5 d5 ["_law_machine", "_law_longest"] (spRows P w K)) :
    FnOk P w K mg base CX0 (k + 1) f fd ["_law_machine"] spRt := by
  refine F.ok scRr (fun vs H Q E h => ?_) (fun cdv A outer s H vs Q E hr h => ?_)
  · obtain ⟨a, m, rfl, _⟩ := h
    rfl
  · obtain ⟨a, m, rfl, hm, ok, r30, q⟩ := h
    have hu := hr.units
    refine ⟨_, pss_cut (ps_asg (pe_tup (pa_cons (pe_call G1 hr (by rfl) T.reached.g T.reached.F.kp T.reached.b .nil (passE0 rfl rfl) (pa_cons (pv 0) pa_nil)) (pa_cons (pe_call G2 hr (by rfl) T.trim.g T.trim.F.kp T.trim.b .nil (passE0 rfl rfl) (pa_cons (pv 0) pa_nil)) pa_nil)))
        (pg_tup rfl (pgs_cons (pg_name (i := 1) scRr.nd rfl (.inr rfl)) (pgs_cons (pg_name (i := 2) scRr.nd rfl (.inl rfl)) pgs_nil))))
      (pss_cut (ps_if (PW.pt (pw_or (pt_cmpR (show OpR _ (compareOp .NotEq) (rNeD K) from op_neD hu) (pv 1) (pe_call G3 hr (by rfl) T.all.g T.all.F.kp T.all.b .nil pass0 (pa_cons (pv 0) pa_nil)) (nomark _))
          (pw_or (pt_cmpR op_isnot_bl (pe_call G4 hr (by rfl) T.isM.g T.isM.F.kp T.isM.b .nil pass0 (pa_cons (pv 2) pa_nil)) pe_bl (nomark _))
          (pw_or1 (pt_cmpR op_ne (pe_ix (show IxR _ (rIxT K) from ix_tup) (pv 2) pe_int (fun _ _ => rfl)) (pe_callB call_len_seq (by rfl) TD.len PySem.boot_len (pa_cons (pv 1) pa_nil)) (nomark _)))))) (pss_one (ps_ret pe_bl)) pss_nil)
      (pss_cut (ps_if (PW.pt (pw_or (pt_cmpR (show OpR _ (compareOp .NotEq) (rNeD K) from op_neD hu) (pe_call G1 hr (by rfl) T.reached.g T.reached.F.kp T.reached.b .nil (passE0 rfl rfl) (pa_cons (pv 2) pa_nil)) (pe_tupRg rfl (by rfl) TS.tuple (prg_1 (by rfl) TQ.range (pe_callB call_len_seq (by rfl) TD.len PySem.boot_len (pa_cons (pv 1) pa_nil)))) (nomark _))
          (pw_or1 (pt_cmpR (show OpR _ (compareOp .NotEq) (rNeD K) from op_neD hu) (pe_call G2 hr (by rfl) T.trim.g T.trim.F.kp T.trim.b .nil (passE0 rfl rfl) (pa_cons (pv 2) pa_nil)) (pv 2) (nomark _))))) (pss_one (ps_ret pe_bl)) pss_nil)
      (pss_cut (ps_if (pt_cmpR op_ne (pe_callB call_len_seq (by rfl) TD.len PySem.boot_len (pa_cons (pe_ix (show IxR _ (rIxT K) from ix_tup) (pv 2) pe_int (fun _ _ => rfl)) pa_nil))
          (pe_callB call_len_seq (by rfl) TD.len PySem.boot_len (pa_cons (pe_lc (own := [("_law_row_here", 3)]) (g := gName 3) (tt := tTest (tOp (rIn K false) (tOp (rIxT K) (tVar 3) (tC (.int 0))) (tVar 1))) (te := tC (.int 1)) rfl scRr.nd
            (pi_tup (pe_ix ix_tup (pv 0) pe_int (fun _ _ => rfl))) (blkOk_by (own := [("_law_row_here", 3)]) (N := nRr) (sc := defScope sRight) (by decide +kernel))
            (fun _ _ _ _ _ => pg_name (i := 3) scRr.nd rfl (.inl rfl))
            (fun _ _ _ _ _ => pts_one (pt_cmpR (show OpR _ (compareOp .In) (rIn K false) from op_in_seq) (pe_ix (show IxR _ (rIxT K) from ix_tup) (pv 3) pe_int (fun _ _ => rfl)) (pv 1) (by rfl)))
            (fun _ _ _ _ _ => pe_int)) pa_nil)) (nomark _)) (pss_one (ps_ret pe_bl)) pss_nil)
      (pss_cut (ps_if (pt_cmpR (show OpR _ (compareOp .NotEq) (rNeD K) from op_neD hu) (pe_ix (show IxR _ (rIxT K) from ix_tup) (pv 2) pe_int (fun _ _ => rfl))
          (pe_callTy call_tuple_of (by rfl) TS.tuple (by decide +kernel) (pa_cons (pe_lc (own := [("_law_at", 4), ("_law_state", 5)]) (g := gTup K 2 (gCons (gName 4) (gCons (gName 5) gNil))) (tt := tTest (tOp (rIn K false) (tVar 5) (tOp (rIxT K) (tVar 0) (tC (.int 1))))) (te := tVar 4) rfl scRr.nd
            (ET.pi_enumT (by rfl) TD.enumerate (pa_cons (pv 1) pa_nil)) (blkOk_by (own := [("_law_at", 4), ("_law_state", 5)]) (N := nRr) (sc := defScope sRight) (by decide +kernel))
            (fun _ _ _ _ _ => pg_tup rfl (pgs_cons (pg_name (i := 4) scRr.nd rfl (.inl rfl)) (pgs_cons (pg_name (i := 5) scRr.nd rfl (.inl rfl)) pgs_nil)))
            (fun _ _ _ _ _ => pts_one (pt_cmpR (show OpR _ (compareOp .In) (rIn K false) from op_in_seq) (pv 5) (pe_ix (show IxR _ (rIxT K) from ix_tup) (pv 0) pe_int (fun _ _ => rfl)) (by rfl)))
            (fun _ _ _ _ _ => pv 4)) pa_nil)) (nomark _)) (pss_one (ps_ret pe_bl)) pss_nil)
      (pss_one (ps_ret (pe_cmpR (DN.op_eqN hu) (pe_call G5 hr (by rfl) T.rows.g T.rows.F.kp T.rows.b .nil pass0 (pa_cons (pv 2) (pa_cons pe_int pa_nil))) (pe_call G5 hr (by rfl) T.rows.g T.rows.F.kp T.rows.b .nil pass0 (pa_cons (pv 0) (pa_cons pe_int pa_nil))) (nomark _)))))))), ?_⟩
    obtain ⟨M⟩ := mach_at hm
    have lx : M.xs.length = m.rows.length := by
      have z := kz_len M.all
      rw [List.length_map] at z
      exact z
    -- the two
    refine ⟨fun σ' H' => ∃ (p c : Addr) (ys : List Int), σ' = [some (.ref a), some (.ref p), some (.ref c), none, none, none] ∧ Same H H' ∧ H' p = some (.tup (ys.map V.int)) ∧ RchOf m ys ∧ Kz H' (.ref c) (trimM m ys).key, ?_, ?_⟩
    · refine ⟨_, rfl, .ref a, rfl, .inr ⟨a, m, rfl, hm, ok, fun H1 p ys s1 np ep Ro => ?_⟩⟩
      refine ⟨_, rfl, .ref a, rfl, .inr ⟨a, m, rfl, Kz.same s1 _ _ hm, ok, fun H2 c ys2 s2 nc Ro2 kc => ?_⟩⟩
      cases Ro2.ext Ro
      refine ⟨by show 2 ≤ sizeLine; decide, fun t nt => ?_⟩
      have kt := same_upd (o := .tup [.ref p, .ref c]) nt
      exact ⟨t, _, rfl, SqT.of upd_same, rfl, _, _, rfl, _, _, rfl, rfl, p, c, ys, rfl, s1.trans (s2.trans kt), kt _ _ (s2 _ _ ep), Ro, Kz.same kt _ _ kc⟩
    rintro σ1 H1 ⟨p, c, ys, rfl, s1, ep1, Ro, kc1⟩
    have okT := trim_ok ok Ro
    have t30 : (trimM m ys).rows.length ≤ 30 := by
      show (List.map _ (List.filter _ _)).length ≤ 30
      rw [List.length_map]
      exact Nat.le_trans (List.length_filter_le _ _) r30
    have ys30 := Nat.le_trans (Ro.len ok) ok.s1
    refine ⟨fun σ' H' => σ' = [some (.ref a), some (.ref p), some (.ref c), none, none, none] ∧ Same H1 H', ?_, ?_⟩
    · have hm1 := Kz.same s1 _ _ hm
      refine ⟨_, rfl, _, rfl, a, m, rfl, hm1, ok, r30, fun H2 p2 ys2 s2 n2 e2 Ro2 => ?_⟩
      cases Ro2.ext Ro
      refine ne_ints (SqT.of (s2 _ _ ep1)) (SqT.of e2) ⟨_, rfl, ifF rfl ?_⟩
      have kc2 := Kz.same s2 _ _ kc1
      refine ⟨_, rfl, _, rfl, .inl ⟨c, trimM m ys, rfl, kc2, okT, fun H3 s3 => ⟨true, true, rfl, rfl, _, rfl, ifF (by decide) ?_⟩⟩⟩
      obtain ⟨TC⟩ := mach_at (Kz.same s3 _ _ kc2)
      refine ⟨_, rfl, c, _, 0, .int (trimM m ys).size, rfl, rfl, SqT.of TC.top, atI_nat (j := 0) rfl, _, rfl, p, _, rfl, .inr (SqT.of (s3 _ _ (s2 _ _ ep1))), rfl, _, rfl, ?_⟩
      rw [List.length_map]
      exact ifF (by rw [show (trimM m ys).size = ys.length from rfl]; simp) ⟨rfl, s2.trans s3⟩
    rintro σ2 H2 ⟨rfl, s2⟩
    refine ⟨fun σ' H' => σ' = [some (.ref a), some (.ref p), some (.ref c), none, none, none] ∧ Same H1 H', ?_, ?_⟩
    · have kc2 := Kz.same s2 _ _ kc1
      refine ⟨_, rfl, _, rfl, .inr ⟨c, trimM m ys, rfl, kc2, okT, fun H3 p3 zs s3 n3 e3 Rz => ?_⟩⟩
      cases Rz.ext (rch_trim ok Ro)
      refine ⟨_, rfl, p, _, rfl, .inr (SqT.of (s3 _ _ (s2 _ _ ep1))), _, rfl, ?_, fun q4 n4 => ?_⟩
      · rw [List.length_map]
        exact ⟨by omega, by omega, by omega, by omega, by omega⟩
      rw [List.length_map, rg_upTo]
      have k4 := same_upd (o := .tup ((upTo ys.length).map V.int)) n4
      refine ne_ints (SqT.of (k4 _ _ e3)) (SqT.of upd_same) ⟨_, rfl, ifF rfl ?_⟩
      have kc4 := Kz.same (s3.trans k4) _ _ kc2
      refine ⟨_, rfl, _, rfl, .inr ⟨c, trimM m ys, rfl, kc4, okT, fun H5 c5 zs2 s5 n5 Rz2 kc5 => ?_⟩⟩
      cases Rz2.ext (rch_trim ok Ro)
      rw [trim_twice ok Ro] at kc5
      exact ⟨_, rfl, ne_mach okT kc5 (Kz.same s5 _ _ kc4) ⟨_, rfl, ifF rfl ⟨rfl, s2.trans (s3.trans (k4.trans s5))⟩⟩⟩
    rintro σ3 H3 ⟨rfl, s3⟩
    refine ⟨fun σ' H' => σ' = [some (.ref a), some (.ref p), some (.ref c), none, none, none] ∧ Same H1 H', ?_, ?_⟩
    · obtain ⟨TC⟩ := mach_at (Kz.same s3 _ _ kc1)
      have lt : TC.xs.length = (trimM m ys).rows.length := by
        have z := kz_len TC.all
        rw [List.length_map] at z
        exact z
      have s13 := s1.trans s3
      refine ⟨_, rfl, c, _, 2, .ref TC.t, rfl, rfl, SqT.of TC.top, atI_nat (j := 2) rfl, TC.t, TC.xs, rfl, .inr (SqT.of TC.row), _, rfl, a, _, 2, .ref M.t, rfl, rfl, SqT.of (s13 _ _ M.top), atI_nat (j := 2) rfl, M.t, rfl, ⟨_, SqT.of (s13 _ _ M.row)⟩, fun D nD => ?_⟩
      have kD := same_upd (o := .lst []) nD
      refine lc_tup (xs := M.xs) (fun i H' => Same H3 H' ∧ H' D = some (.lst (((m.rows.take i).filter fun r => decide (r.before ∈ ys)).map fun _ => V.int 1))) ⟨kD, upd_same⟩ (fun i H' _ z => SqT.of (z.1 _ _ (s13 _ _ M.row))) ?_ ?_
      · rintro i v H5 hv ⟨s5, e5⟩
        obtain ⟨r, hr', ra, dv, rfl, er, kd⟩ := row_at M.all hv
        have il : i < m.rows.length := (List.getElem?_eq_some_iff.mp hr').1
        have nx : ((m.rows.take (i + 1)).filter fun r => decide (r.before ∈ ys)) = ((m.rows.take i).filter fun r => decide (r.before ∈ ys)) ++ (if r.before ∈ ys then [r] else []) := by
          rw [List.take_succ, hr', Option.toList_some, List.filter_append]
          by_cases e : r.before ∈ ys
          · rw [if_pos e, List.filter_cons_of_pos (by simpa using e)]; rfl
          · rw [if_neg e, List.filter_cons_of_neg (by simpa using e)]; rfl
        refine ⟨rfl, _, rfl, ra, _, 0, .int r.before, rfl, rfl, SqT.of (s5 _ _ (s13 _ _ er)), atI_nat (j := 0) rfl, _, rfl, p, _, rfl, .inr (SqT.of (s5 _ _ (s3 _ _ ep1))), rfl, flat_ints, _, rfl, ?_⟩
        rw [show (if false = true then !inV (V.int r.before) (ys.map V.int) else inV (V.int r.before) (ys.map V.int)) = decide (r.before ∈ ys) from inV_ints]
        refine ifB (fun hb => ?_) fun hb => ?_
        · refine ⟨_, e5, ?_, same_set s5 nD, ?_⟩
          · have g := List.length_filter_le (fun r : RowM => decide (r.before ∈ ys)) (m.rows.take i)
            rw [List.length_take] at g
            have := ok.r3
            rw [List.length_map, sizeLine_eq]
            omega
          · rw [upd_same, nx, if_pos (of_decide_eq_true hb), List.map_append]
            rfl
        · refine ⟨s5, ?_⟩
          rw [e5, nx, if_neg (of_decide_eq_false hb), List.append_nil]
      · rintro H5 ⟨s5, e5⟩
        rw [lx, List.take_length] at e5
        refine ⟨D, _, rfl, .inl (SqL.of e5), rfl, _, rfl, ?_⟩
        rw [List.length_map, lt]
        have le : (trimM m ys).rows.length = (m.rows.filter fun r => decide (r.before ∈ ys)).length := by
          show (List.map _ (List.filter _ _)).length = _
          rw [List.length_map]
        exact ifF (by rw [le]; simp) ⟨rfl, s3.trans s5⟩
    rintro σ4 H4 ⟨rfl, s4⟩
    refine ⟨fun σ' H' => σ' = [some (.ref a), some (.ref p), some (.ref c), none, none, none] ∧ Same H1 H', ?_, ?_⟩
    · obtain ⟨TC⟩ := mach_at (Kz.same s4 _ _ kc1)
      have s14 := s1.trans s4
      refine ⟨_, rfl, c, _, 1, .ref TC.f, rfl, rfl, SqT.of TC.top, atI_nat (j := 1) rfl, _, rfl, p, _, rfl, SqT.of (s4 _ _ ep1), fun D nD => ?_⟩
      have kD := same_upd (o := .lst []) nD
      refine lc_it (ET.walk_enumT (xs := ys.map V.int)) (fun j H' => Same H4 H' ∧ H' D = some (.lst ((finIx m 0 (ys.take j)).map V.int))) ⟨kD, upd_same⟩ (fun j H' _ z => SqT.of (z.1 _ _ (s4 _ _ ep1))) ?_ ?_
      · rintro j v H5 H6 hj ⟨s5, e5⟩ ⟨T0, v1, v2, rfl, nT, rfl, z1, z2⟩
        cases z1
        have kT := same_upd (o := .tup [.int (j : Nat), v2]) nT
        replace z2 : (ys.map V.int)[j]? = some v2 := z2
        rw [List.getElem?_map] at z2
        rw [List.length_map] at hj
        have ej : ys[j]? = some ys[j] := List.getElem?_eq_getElem hj
        rw [ej] at z2
        have ev : v2 = .int ys[j] := (Option.some.inj z2).symm
        subst ev
        have ltj : (ys.take j).length = j := by rw [List.length_take]; omega
        have nx : ys.take (j + 1) = ys.take j ++ [ys[j]] := by rw [List.take_succ, ej]; rfl
        have s56 := s5.trans kT
        refine ⟨T0, _, rfl, SqT.of upd_same, rfl, _, _, rfl, _, _, rfl, rfl, rfl, ?_⟩
        refine ⟨_, rfl, _, rfl, a, _, 1, .ref M.f, rfl, rfl, SqT.of (s56 _ _ (s14 _ _ M.top)), atI_nat (j := 1) rfl, M.f, _, rfl, .inr (SqT.of (s56 _ _ (s14 _ _ M.fin))), rfl, flat_ints, _, rfl, ?_⟩
        rw [show (if false = true then !inV (V.int ys[j]) (m.finals.map V.int) else inV (V.int ys[j]) (m.finals.map V.int)) = decide (ys[j] ∈ m.finals) from inV_ints]
        have fx := finIx_snoc m 0 (ys.take j) ys[j]
        refine ifB (fun hb => ?_) fun hb => ?_
        · refine ⟨_, rfl, _, kT _ _ e5, ?_, same_set s56 nD, ?_⟩
          · have lf : ∀ (n : Nat) (zs : List Int), (finIx m n zs).length ≤ zs.length := fun n zs => by
              induction zs generalizing n with
              | nil => exact Nat.le_refl _
              | cons z zs ih =>
                have := ih (n + 1)
                rw [finIx, List.length_append, List.length_cons]
                by_cases e : z ∈ m.finals
                · rw [if_pos e]; show 1 + _ ≤ _; omega
                · rw [if_neg e]; show 0 + _ ≤ _; omega
            have := lf 0 (ys.take j)
            rw [List.length_map, sizeLine_eq]
            omega
          · rw [upd_same, nx, fx, if_pos (of_decide_eq_true hb), ltj, Nat.zero_add, List.map_append]
            rfl
        · refine ⟨s56, ?_⟩
          rw [kT _ _ e5, nx, fx, if_neg (of_decide_eq_false hb), List.append_nil]
      · rintro H5 ⟨s5, e5⟩
        rw [List.length_map, List.take_length] at e5
        refine ⟨D, _, rfl, .inl ⟨SqL.of e5, fun t6 n6 => ?_⟩⟩
        have k6 := same_upd (o := .tup ((finIx m 0 ys).map V.int)) n6
        have ef := k6 _ _ (s5 _ _ TC.fin)
        rw [fin_ix ok Ro] at ef
        exact ne_ints (SqT.of ef) (SqT.of upd_same) ⟨_, rfl, ifF rfl ⟨rfl, s4.trans (s5.trans k6)⟩⟩
    rintro σ5 H5 ⟨rfl, s5⟩
    have s15 := s1.trans s5
    refine ⟨_, rfl, c, trimM m ys, 4, rfl, Kz.same s5 _ _ kc1, okT, by decide, fun H6 p6 E6 Z6 s6 n6 DE6 mZ6 ed6 fZ6 => ?_⟩
    refine ⟨_, rfl, a, m, 4, rfl, Kz.same (s15.trans s6) _ _ hm, ok, by decide, fun H7 p7 E7 Z7 s7 n7 DE7 mZ7 ed7 fZ7 => ?_⟩
    have me : Z6.map (·.2.2) = Z7.map (·.2.2) := by
      rw [mZ6, mZ7, (it_trim ok Ro DE7 DE6 5).1]
    have fZ67 : ∀ z ∈ Z6, FoOk H7 z := fun z hz => FoOk.keep (l := a) (.of s7) (fZ6 z hz)
    refine ⟨p6, p7, _, _, rfl, rfl, ne_of_none ed6 n7, s7 _ _ ed6, ed7, FoOk.kz fZ67, FoOk.kz fZ7, ?_, fun e he => ?_, q _ (s15.trans (s6.trans s7))⟩
    · have z := congrArg List.length me
      rw [List.length_map, List.length_map] at z
      rw [List.length_map, List.length_map, z]
    · obtain ⟨z, hz, rfl⟩ := List.mem_map.mp he
      have hm7 : z.2.2 ∈ Z7.map (·.2.2) := by
        rw [← me]
        exact List.mem_map.mpr ⟨z, hz, rfl⟩
      obtain ⟨y, hy, ey⟩ := List.mem_map.mp hm7
      have ey' : y.2.2 = z.2.2 := ey
      refine ⟨entOf y, List.mem_map.mpr ⟨y, hy, rfl⟩, by show keyOf y.2.2.1 = keyOf z.2.2.1; rw [ey'], z.2.2.2.1, z.2.2.2.2, (fZ67 z hz).2, ?_⟩
      have f := (fZ7 y hy).2
      rw [ey'] at f
      exact f
end
end K03
/-! sorted(a list of nested keys). -/
namespace NS
open PySem PySem.Spec PyProof.Rows L2
section
variable {P : Program} {w : World} {A : Around} {E : Value → Shared → Prop} {s : Shared}
theorem sorted_list {a : Addr} {L : List Row} {items : Array Value} {Q : Value → Shared → Prop} (hl : s.heap.IsList a items) (hi : items.toList = L.map fun p => Value.ref p.1) (calm : A.handled = none) (few : L.length < 64) (rd : ∀ p ∈ L, Reads s.heap (.ref p.1) p.2.data []) (dp : ∀ p ∈ L, p.2.depth ≤ 8)
    (al : PySem.W.AllAlike (L.map fun p => p.2.data)) (so : PySem.W.Sortable (L.map fun p => p.2.data)) (hu : A.units + 16 < cLine)
    (q : ∀ s1 p (out : Array Value) (c : Nat) (L1 : List Row), (∀ b o, s.heap.get? b = some o → s1.heap.get? b = some o) → s1.gens = s.gens → s1.os = s.os → s.heap.objs.size ≤ p → s1.heap.get? p = some (seqObj "list" out c) →
      out.toList = L1.map (fun r => Value.ref r.1) → L1.Perm L → L1.Pairwise (fun x y => rowLe x y = true) → Q (.ref p) s1) :
    wpAny (model P w) A (call (.builtin "sorted") [.ref a]) Q E s := by
  refine Calls.call_function_entry kind_sorted plain_sorted entry_sorted (args_sorted1 _) ?_
  unfold Builtin.«sorted»
  have ei : items = (L.map fun p => Value.ref p.1).toArray := by
    rw [← hi]
  rw [ei] at hl
  obtain ⟨s1, e1⟩ : ∃ s1 : Shared, s1 = { s with heap := (s.heap.push (seqObj "list" #[] 0)).update s.heap.objs.size (Obj.mapSeq fun x => x ++ (L.map fun p => Value.ref p.1).toArray) } := ⟨_, rfl⟩
  have k1 : ∀ b o, s.heap.get? b = some o → s1.heap.get? b = some o := fun b o e => by
    rw [e1]
    have lt := Heap.lt_size e
    exact (Heap.get?_update_ne _ _ _ _ (Nat.ne_of_lt lt)).trans (Heap.get?_push_of_some _ e)
  have z1 : s.heap.objs.size ≤ s1.heap.objs.size := by
    rw [e1, Heap.size_update, size_push']
    exact Nat.le_succ _
  have g1 : s1.gens = s.gens := by rw [e1]
  have o1 : s1.os = s.os := by rw [e1]
  refine wpAny_bind (m := checkCount "sorted" 1 1 _) (wpAny_pure (wpAny_bind (collect_list (A := A.in1) hl ?_ (by rw [List.length_map, sizeLine_eq]; omega))))
  rw [← e1]
  refine wpAny_bind (wpAny_newList ?_ (by rw [List.length_map, sizeLine_eq]; omega))
  have at1 : (s1.heap.push (seqObj "list" (L.map fun p => Value.ref p.1).toArray 0)).get? s1.heap.objs.size = some (seqObj "list" (L.map fun p => Value.ref p.1).toArray 0) := Heap.get?_push_size _ rfl
  have rd1 : ∀ p ∈ L, Reads (s1.heap.push (seqObj "list" (L.map fun p => Value.ref p.1).toArray 0)) (.ref p.1) p.2.data [] := fun p mp => PyProof.Rows.Reads.keeps (fun b u e => Heap.get?_push_of_some _ (k1 b u e)) (rd p mp)
  refine wpAny_bind (wpAny_holding (PySem.W.list_sort_data (s := { s1 with heap := s1.heap.push (seqObj "list" (L.map fun p => Value.ref p.1).toArray 0) }) (R := fun (v : Value) (p : Row) => v = .ref p.1) (enc := fun p : Row => p.2.data) (bs := L) at1 (each_refs L) (each_mk rd1)
    al so (by rw [sizeLine_eq]; omega) (fun b hb => ?_) fun out n1 eo => ?_))
  · have d := dp b hb
    show A.in1.units + 1 + b.2.data.depth < cLine
    rw [depth_data, Around.in1_units]
    omega
  · obtain ⟨c, hc⟩ := sortedHeap_at (vs := L.map fun p => Value.ref p.1) (out := List.toArray out) at1
    refine wpAny_pure ⟨_, rfl, q _ s1.heap.objs.size (List.toArray out) c (L.mergeSort (PySem.W.dataLe false fun p : Row => p.2.data)) (fun b u e => ?_) g1 o1 z1 hc (by rw [List.toList_toArray]; exact refs_each eo) (List.mergeSort_perm _ _) (PySem.W.sort_pairwise (PySem.W.sortLe_total _ _ _) _)⟩
    have e2 := k1 b u e
    have lt := Heap.lt_size e2
    exact (sortedHeap_old (Nat.ne_of_lt lt) (by rw [size_push']; exact Nat.lt_succ_of_lt lt)).trans (Heap.get?_push_of_some _ e2)
end
section
variable {X : Cx}
/-- sorted(a list of keys) -/
def rSortedL (X : Cx) : List V → Hp → VK → Prop := fun vs H Q => ∃ (a : Addr) (L : List Row), vs = [V.ref a] ∧ SqL X.K H a (L.map fun p => V.ref p.1) ∧ L.length < 64 ∧ (∀ p ∈ L, Kz H (.ref p.1) p.2 ∧ p.2.depth ≤ 8) ∧ PySem.W.AllAlike (L.map fun p => p.2.data) ∧ PySem.W.Sortable (L.map fun p => p.2.data) ∧
  ∀ (L1 : List Row) (p : Addr), L1.Perm L → L1.Pairwise (fun x y => rowLe x y = true) → H p = none → Q (.ref p) (upd H p (.lst (L1.map fun r => V.ref r.1)))
theorem cr_sortedL (hc : X.calm = true) (hu : X.A.units + 64 < cLine) : CallR X (.builtin "sorted") (rSortedL X) := by
  intro pins s σ H vs us Q I r h
  obtain ⟨a, L, rfl, ha, few, ks, al, so, q⟩ := h
  rw [Vals.ref1 r]
  obtain ⟨its, rv, pl, hz⟩ := I.list ha
  refine sorted_list pl.isList (by simpa using rows_vals rv) (I.ok.hd hc) few (fun p mp => (Kz.is I p.2 _ _ (ks p mp).1 rfl).2) (fun p mp => (ks p mp).2) al so (by omega) fun s1 p out c L1 k g o hp hg ho pm pw => ?_
  have n0 : H p = none := I.hok.fresh hp
  have J := I.call' (s' := s1) (ch := []) (H' := upd H p (.lst (L1.map fun r => V.ref r.1))) o (Un.laid k hp n0) (I.hok.laid k hp ⟨by rw [List.length_map, sizeLine_eq, pm.length_eq]; omega, out.toList, c, by rw [ho]; exact vals_rows L1, hg⟩) (by rw [g]; exact I.bare) (fun _ z => nomatch z)
  exact ⟨.ref p, _, J, rfl, q L1 p pm pw n0⟩
end
end NS
/-! Machines under other names: renamed_deed, with_neighbours_named. -/
namespace K03
open PySem PySem.Spec PyProof.Rows L2 WD NS MC GL
open C8 (pss_cut tCut)
/-- a dict from names to names -/
abbrev kvS (ns : List (Str × Str)) : List (Key × V) := ns.map fun p => (Sum.inr p.1, V.str p.2)
def nu : List (Str × Str) → Str → Str
  | [], x => x
  | (a, b) :: ns, x => if a = x then b else nu ns x
theorem nu_get : ∀ (ns : List (Str × Str)) (x : Str), (valV (kvS ns) (Sum.inr x)).getD (.str x) = .str (nu ns x)
  | [], x => rfl
  | (a, b) :: ns, x => by
    by_cases e : a = x
    · subst e
      simp [valV, nu]
    · have st : valV (kvS ((a, b) :: ns)) (Sum.inr x) = valV (kvS ns) (Sum.inr x) := by
        simp only [valV, kvS, List.map_cons, List.find?_cons, Sum.inr.injEq, e, decide_false]
      rw [st, nu_get ns x, nu, if_neg e]
def renD (ns : List (Str × Str)) : Deed → Deed
  | .step => .step
  | .ex b n l => .ex b (nu ns n) l
def renR (ns : List (Str × Str)) (r : RowM) : RowM := ⟨r.before, renD ns r.deed, r.after⟩
def Nms (ns : List (Str × Str)) : Prop := ∀ p ∈ ns, Wd p.1 ∧ Wd p.2
theorem nu_wd {ns : List (Str × Str)} (h : Nms ns) {x : Str} (w : Wd x) : Wd (nu ns x) := by
  induction ns with
  | nil => exact w
  | cons p ns ih =>
    obtain ⟨a, b⟩ := p
    rw [nu]
    by_cases e : a = x
    · rw [if_pos e]
      exact (h (a, b) List.mem_cons_self).2
    · rw [if_neg e]
      exact ih fun p hp => h p (List.mem_cons_of_mem _ hp)
theorem renR_ok {ns : List (Str × Str)} (h : Nms ns) {size : Nat} {r : RowM} (ok : r.Ok size) : (renR ns r).Ok size := by
  refine ⟨ok.b0, ok.b1, ?_, ok.a0, ok.a1⟩
  have d := ok.dd
  show (renD ns r.deed).Ok
  cases e : r.deed with
  | step => trivial
  | ex b n l =>
    rw [e] at d
    exact ⟨nu_wd h d.1, d.2⟩
/-- one row before the other, or the same -/
abbrev rowLeM (r s : RowM) : Prop := PySem.W.dataLt s.key.data r.key.data = false
/-- the machine with the names of a dict: its rows sorted anew -/
structure NewOf (ns : List (Str × Str)) (m m' : MachM) : Prop where
  size : m'.size = m.size
  fin : m'.finals = m.finals
  perm : m'.rows.Perm (m.rows.map (renR ns))
  asc : m'.rows.Pairwise rowLeM
theorem rowLe_anti {r s : RowM} (h : rowLeM r s) (h' : rowLeM s r) : r = s := row_inj (by
  by_cases e : r.key = s.key
  · exact e
  · have := lt_of_le (row_alike r s) e h
    rw [h'] at this
    exact nomatch this)
theorem sorted_perm : ∀ {l l' : List RowM}, l.Pairwise rowLeM → l'.Pairwise rowLeM → l.Perm l' → l = l'
  | [], l', _, _, h => (List.Perm.nil_eq h)
  | a :: t, [], _, _, h => nomatch (List.Perm.eq_nil h)
  | a :: t, b :: t', h1, h2, h => by
    obtain ⟨a1, a2⟩ := List.pairwise_cons.mp h1
    obtain ⟨b1, b2⟩ := List.pairwise_cons.mp h2
    have e : a = b := by
      rcases List.mem_cons.mp (h.mem_iff.mp (List.mem_cons_self (a := a))) with e | x
      · exact e
      · rcases List.mem_cons.mp (h.mem_iff.mpr (List.mem_cons_self (a := b))) with e | y
        · exact e.symm
        · exact rowLe_anti (a1 b y) (b1 a x)
    subst e
    rw [sorted_perm a2 b2 h.cons_inv]
theorem NewOf.ext {ns : List (Str × Str)} {m m1 m2 : MachM} (a : NewOf ns m m1) (b : NewOf ns m m2) : m1 = m2 := by
  obtain ⟨s1, f1, r1⟩ := m1
  obtain ⟨s2, f2, r2⟩ := m2
  have e1 : s1 = s2 := a.size.trans b.size.symm
  have e2 : f1 = f2 := a.fin.trans b.fin.symm
  have e3 : r1 = r2 := sorted_perm a.asc b.asc (a.perm.trans b.perm.symm)
  rw [e1, e2, e3]
theorem le_rows {L : List (Addr × RowM)} (h : (L.map fun p => ((p.1, p.2.key) : NS.Row)).Pairwise (fun x y => NS.rowLe x y = true)) : (L.map (·.2)).Pairwise rowLeM := by
  refine List.pairwise_map.mpr ((List.pairwise_map.mp h).imp fun {x y} q => ?_)
  unfold NS.rowLe at q
  rw [PySem.W.dataLe_eq] at q
  have q' : (!PySem.W.dataLt y.2.key.data x.2.key.data) = true := q
  simpa using q'
theorem as_rowsA : ∀ {L : List NS.Row} {T : List (Addr × RowM)}, L.Perm (T.map fun p => (p.1, p.2.key)) → ∃ U : List (Addr × RowM), L = U.map (fun p => (p.1, p.2.key)) ∧ U.Perm T := fun h => perm_map_inv h
abbrev sRenD : Stmt := topS 26
abbrev nRd : List Str := ["deed", "names", "word", "other", "letter"]
theorem scRenD : FnScope nRd ["deed", "names"] (defScope sRenD) := ⟨rfl, rfl, rfl, by decide +kernel, rfl, by decide +kernel, by decide +kernel⟩
def spRenD : Sp := fun vs H Q _ => ∃ (q dd : Addr) (d : Deed) (ns : List (Str × Str)), vs = [.ref q, .ref dd] ∧ H q = some (.tup (d.signs.map V.str)) ∧ H dd = some (.dK (kvS ns)) ∧
  ∀ H' q', Same H H' → H' q' = some (.tup ((renD ns d).signs.map V.str)) → Q (.ref q') H'
section
variable {P : Program} {w : World} {K : PySem.W.Frag} {mg : Str → Option Value} {base : Heap} {fX : Addr} {dX : FuncData}
theorem ok_RenD {f : Addr} {fd : FuncData} {k : Nat} (F : Fun K "renamed_deed" "renamed_deed" sRenD f fd) (W : TxtX K mg fX dX) : FnOk P w K mg base CX0 (k + 2) f fd ["deed", "names"] spRenD := by
  have GX : FnOk P w K mg base CX0 (k + 1) fX dX ["word"] spIsEx := ok_IsEx W.X W.E
  refine F.ok scRenD (fun vs H Q E h => ?_) (fun cdv A outer s H vs Q E hr h => ?_)
  · obtain ⟨q, dd, d, ns, rfl, _⟩ := h
    rfl
  · obtain ⟨q, dd, d, ns, rfl, eq, ed, qq⟩ := h
    have hu := hr.units
    have hu1 := Nat.lt_of_le_of_lt (Nat.add_le_add_left (by decide : 1 ≤ 64) _) hu
    refine ⟨_, pss_cons (ps_if (pt_not (pt_val (pe_call GX hr (by rfl) W.gX W.X.kp W.bX .nil pass0 (pa_cons (pe_ix (show IxR _ (rIxT K) from ix_tup) (pv 0) pe_int (fun _ _ => rfl)) pa_nil)))) (pss_one (ps_ret (pv 0))) pss_nil)
      (pss_cons (ps_asg (pv 0) (pg_tup rfl (pgs_cons (pg_name (i := 2) scRenD.nd rfl (.inl rfl)) (pgs_cons (pg_name (i := 3) scRenD.nd rfl (.inl rfl)) (pgs_cons (pg_name (i := 4) scRenD.nd rfl (.inl rfl)) pgs_nil)))))
      (pss_one (ps_ret (pe_tup (pa_cons (pv 2) (pa_cons (pe_dget2 hu1 (pv 1) (pv 3) (pv 3) ⟨rfl, by rfl, rfl, rfl⟩) (pa_cons (pv 4) pa_nil))))))), ?_⟩
    cases d with
    | step =>
      refine ⟨_, rfl, q, _, 0, .str "step", rfl, rfl, SqT.of (xs := [.str "step"]) eq, atI_nat (j := 0) rfl, .str "step", rfl, rfl, fun H' s' => ⟨_, rfl, ?_⟩⟩
      rw [ex_step]
      exact iteT ⟨_, rfl, qq H' q s' (s' _ _ eq)⟩
    | ex b n l =>
      refine ⟨_, rfl, q, _, 0, .str (wordOf b), rfl, rfl, SqT.of (xs := [.str (wordOf b), .str n, .str l]) eq, atI_nat (j := 0) rfl, .str (wordOf b), rfl, rfl, fun H' s' => ⟨_, rfl, ?_⟩⟩
      rw [ex_word]
      refine iteF ⟨_, rfl, q, _, rfl, SqT.of (s' _ _ eq), rfl, _, _, rfl, _, _, rfl, _, _, rfl, rfl, ?_⟩
      have ed' := s' _ _ ed
      refine ⟨_, rfl, _, rfl, dd, rfl, .inl ⟨_, .inl ed'⟩, _, rfl, _, rfl, _, DGet.k (k := Sum.inr n) ed', _, rfl, by show 3 ≤ sizeLine; decide, fun t nt => ?_⟩
      rw [nu_get]
      exact qq _ t (s'.trans (same_upd nt)) upd_same
end
end K03
/-! with_neighbours_named, _law_new -/
namespace K03
open PySem PySem.Spec PyProof.Rows L2 WD NS MC GL
open C8 (pss_cut tCut)
abbrev sWNN : Stmt := topS 25
abbrev sNew : Stmt := topS 38
abbrev nWn : List Str := ["machine", "names", "size", "finals", "transitions", "renamed", "before", "deed", "behind"]
theorem scWNN : FnScope nWn ["machine", "names"] (defScope sWNN) := ⟨rfl, rfl, rfl, by decide +kernel, rfl, by decide +kernel, by decide +kernel⟩
abbrev nNw : List Str := ["_law_machine", "_law_new_here", "_law_rows_here", "_law_state", "_law_deed", "_law_later"]
theorem scNew : FnScope nNw ["_law_machine", "_law_new_here"] (defScope sNew) := ⟨rfl, rfl, rfl, by decide +kernel, rfl, by decide +kernel, by decide +kernel⟩
def spNew : Sp := fun vs H Q _ => ∃ (a dd : Addr) (m : MachM) (ns : List (Str × Str)), vs = [.ref a, .ref dd] ∧ Kz H (.ref a) m.key ∧ m.Ok ∧ H dd = some (.dK (kvS ns)) ∧ Nms ns ∧
  ∀ H' p (m' : MachM), Same H H' → H p = none → NewOf ns m m' → Kz H' (.ref p) m'.key → Q (.ref p) H'
structure TxtD3 (K : PySem.W.Frag) (mg : Str → Option Value) (fD : Addr) (dD : FuncData) : Prop where
  D : Fun K "renamed_deed" "renamed_deed" sRenD fD dD
  bD : L2.Binds K dD ["deed", "names"] []
  gD : mg "renamed_deed" = some (.ref fD)
theorem alike_rowsA {L : List (Addr × RowM)} : PySem.W.AllAlike ((L.map fun p => ((p.1, p.2.key) : NS.Row)).map fun p => p.2.data) := by
  intro d hd e he
  obtain ⟨p, hp, rfl⟩ := List.mem_map.mp hd
  obtain ⟨q, hq, rfl⟩ := List.mem_map.mp he
  obtain ⟨x, _, rfl⟩ := List.mem_map.mp hp
  obtain ⟨y, _, rfl⟩ := List.mem_map.mp hq
  exact row_alike x.2 y.2
theorem sortable_rowsA {L : List (Addr × RowM)} : PySem.W.Sortable ((L.map fun p => ((p.1, p.2.key) : NS.Row)).map fun p => p.2.data) := by
  refine .inl fun d hd => ?_
  obtain ⟨p, hp, rfl⟩ := List.mem_map.mp hd
  obtain ⟨x, _, rfl⟩ := List.mem_map.mp hp
  exact ⟨.int x.2.before, [x.2.deed.key.data, .int x.2.after], rfl⟩
section
variable {P : Program} {w : World} {K : PySem.W.Frag} {mg : Str → Option Value} {base : Heap} {fX fD : Addr} {dX dD : FuncData}
theorem ok_WNN {f : Addr} {fd : FuncData} {k : Nat} (F : Fun K "with_neighbours_named" "with_neighbours_named" sWNN f fd) (TS : TxtS mg) (W : TxtX K mg fX dX) (D : TxtD3 K mg fD dD) : FnOk P w K mg base CX0 (k + 3) f fd ["machine", "names"] spNew := by
  have GD : FnOk P w K mg base CX0 (k + 2) fD dD ["deed", "names"] spRenD := ok_RenD D.D W
  refine F.ok scWNN (fun vs H Q E h => ?_) (fun cdv A outer s H vs Q E hr h => ?_)
  · obtain ⟨a, dd, m, ns, rfl, _⟩ := h
    rfl
  · obtain ⟨a, dd, m, ns, rfl, hm, ok, edd, nms, q⟩ := h
    have hu := hr.units
    refine ⟨_, pss_cut (ps_asg (pv 0) (pg_tup rfl (pgs_cons (pg_name (i := 2) scWNN.nd rfl (.inl rfl)) (pgs_cons (pg_name (i := 3) scWNN.nd rfl (.inl rfl)) (pgs_cons (pg_name (i := 4) scWNN.nd rfl (.inl rfl)) pgs_nil)))))
      (pss_cut (ps_setLc (i := 5) (own := [("before", 6), ("deed", 7), ("behind", 8)]) (g := gTup K 3 (gCons (gName 6) (gCons (gName 7) (gCons (gName 8) gNil)))) (tt := tYes) (te := tTup (tCons (tVar 6) (tCons (tCall spRenD [] E0 (tCons (tVar 7) (tCons (tVar 1) tNil))) (tCons (tVar 8) tNil)))) rfl scWNN.nd rfl rfl (sw_true rfl rfl rfl (by decide +kernel))
        (pi_tup (pv 4)) (blkOk_by (own := [("before", 6), ("deed", 7), ("behind", 8)]) (N := nWn) (sc := defScope sWNN) (by decide +kernel))
        (fun _ _ _ _ _ => pg_tup rfl (pgs_cons (pg_name (i := 6) scWNN.nd rfl (.inl rfl)) (pgs_cons (pg_name (i := 7) scWNN.nd rfl (.inl rfl)) (pgs_cons (pg_name (i := 8) scWNN.nd rfl (.inl rfl)) pgs_nil))))
        (fun _ _ _ _ _ => pts_nil)
        (fun _ _ _ _ _ => pe_tup (pa_cons (pv 6) (pa_cons (pe_call GD hr (by rfl) D.gD D.D.kp D.bD .nil pass0 (pa_cons (pv 7) (pa_cons (pv 1) pa_nil))) (pa_cons (pv 8) pa_nil)))))
      (pss_one (ps_ret (pe_tup (pa_cons (pv 2) (pa_cons (pv 3) (pa_cons (pe_callTy call_tuple_of (by rfl) TS.tuple (by decide +kernel) (pa_cons (pe_callB (NS.cr_sortedL rfl hu) (by rfl) TS.sorted (by decide +kernel) (pa_cons (pv 5) pa_nil)) pa_nil)) pa_nil))))))), ?_⟩
    obtain ⟨M⟩ := mach_at hm
    have lx : M.xs.length = m.rows.length := by
      have z := kz_len M.all
      rw [List.length_map] at z
      exact z
    refine ⟨fun σ' H' => σ' = [some (.ref a), some (.ref dd), some (.int m.size), some (.ref M.f), some (.ref M.t), none, none, none, none] ∧ H' = H, ?_, ?_⟩
    · exact ⟨_, rfl, a, _, rfl, SqT.of M.top, rfl, _, _, rfl, _, _, rfl, _, _, rfl, rfl, rfl, rfl⟩
    rintro σ1 H1 ⟨rfl, rfl⟩
    refine ⟨fun σ' H' => ∃ (C : Addr) (u6 u7 u8 : Option V) (L : List (Addr × RowM)), σ' = [some (.ref a), some (.ref dd), some (.int m.size), some (.ref M.f), some (.ref M.t), some (.ref C), u6, u7, u8] ∧ Same H1 H' ∧ H' C = some (.lst (L.map fun p => V.ref p.1)) ∧ L.map (·.2) = m.rows.map (renR ns) ∧ ∀ p ∈ L, Kz H' (.ref p.1) p.2.key, ?_, ?_⟩
    · refine ⟨_, rfl, M.t, rfl, ⟨_, SqT.of M.row⟩, fun C nC => ?_⟩
      have kC := same_upd (o := .lst []) nC
      refine lc_tup (xs := M.xs) (fun i H' => Same H1 H' ∧ ∃ L : List (Addr × RowM), H' C = some (.lst (L.map fun p => V.ref p.1)) ∧ L.map (·.2) = (m.rows.take i).map (renR ns) ∧ ∀ p ∈ L, Kz H' (.ref p.1) p.2.key) ⟨kC, [], upd_same, rfl, fun _ z => nomatch z⟩ (fun i H' _ z => SqT.of (z.1 _ _ M.row)) ?_ ?_
      · rintro i v H2 hv ⟨s2, L, eL, mL, kL⟩
        obtain ⟨r, hr', ra, dv, rfl, er, kd⟩ := row_at M.all hv
        obtain ⟨qd, rfl, ed⟩ := deed_at kd
        refine ⟨ra, _, rfl, SqT.of (s2 _ _ er), rfl, _, _, rfl, _, _, rfl, _, _, rfl, rfl, rfl, tYes_ite ?_⟩
        refine ⟨_, rfl, _, rfl, _, rfl, qd, dd, r.deed, ns, rfl, s2 _ _ ed, s2 _ _ edd, fun H3 q3 s3 e3 => ⟨_, rfl, by show 3 ≤ sizeLine; decide, fun t nt => ?_⟩⟩
        have kt := same_upd (o := .tup [.int r.before, .ref q3, .int r.after]) nt
        have s34 := s3.trans kt
        have eL' := s34 _ _ eL
        have sT : SameT H2 (upd (upd H3 t (.tup [.int r.before, .ref q3, .int r.after])) C (.lst (L.map (fun p => V.ref p.1) ++ [.ref t]))) := (SameT.of s34).trans (SameT.lst eL')
        have sU : SameT (upd H3 t (.tup [.int r.before, .ref q3, .int r.after])) (upd (upd H3 t (.tup [.int r.before, .ref q3, .int r.after])) C (.lst (L.map (fun p => V.ref p.1) ++ [.ref t]))) := SameT.lst eL'
        refine ⟨_, eL', ?_, same_set (s2.trans s34) nC, L ++ [(t, renR ns r)], ?_, ?_, fun p hp => ?_⟩
        · have z := congrArg List.length mL
          have := ok.r3
          rw [List.length_map, List.length_map, List.length_take] at z
          rw [List.length_map, sizeLine_eq]
          omega
        · rw [upd_same, List.map_append]
          rfl
        · rw [List.map_append, mL, List.take_succ, hr', Option.toList_some, List.map_append]
          rfl
        · rcases List.mem_append.mp hp with z | z
          · exact Kz.tups sT _ _ (kL p z)
          · rw [List.mem_singleton.mp z]
            exact .tup (sU _ _ upd_same) (.cons (.int _) (.cons (Kz.tups ((SameT.of kt).trans sU) _ _ (deed_kz e3)) (.cons (.int _) .nil)))
      · rintro H2 ⟨s2, L, eL, mL, kL⟩
        rw [lx, List.take_length] at mL
        exact ⟨C, _, _, _, L, rfl, s2, eL, mL, kL⟩
    rintro σ2 H2 ⟨C, u6, u7, u8, L, rfl, s2, eL, mL, kL⟩
    have lL : L.length < 64 := by
      have z := congrArg List.length mL
      have := ok.r3
      rw [List.length_map, List.length_map] at z
      omega
    have eL' : H2 C = some (.lst ((L.map fun p => ((p.1, p.2.key) : NS.Row)).map fun p => V.ref p.1)) := by
      rw [List.map_map]
      exact eL
    refine ⟨_, rfl, _, rfl, _, rfl, C, L.map fun p => (p.1, p.2.key), rfl, SqL.of eL', by rw [List.length_map]; exact lL, fun p hp => ?_, alike_rowsA, sortable_rowsA, fun L1 p3 pm pw n3 => ?_⟩
    · obtain ⟨x, hx, rfl⟩ := List.mem_map.mp hp
      exact ⟨kL x hx, by show x.2.key.depth ≤ 8; rw [row_depth]; decide⟩
    obtain ⟨U, rfl, pU⟩ := as_rowsA pm
    have k3 := same_upd (o := .lst ((U.map fun p => ((p.1, p.2.key) : NS.Row)).map fun r => V.ref r.1)) n3
    refine ⟨p3, _, rfl, .inl ⟨SqL.of upd_same, fun p4 n4 => ⟨by show 3 ≤ sizeLine; decide, fun p5 n5 => ?_⟩⟩⟩
    have k4 := same_upd (o := .tup ((U.map fun p => ((p.1, p.2.key) : NS.Row)).map fun r => V.ref r.1)) n4
    have k5 := same_upd (o := .tup [.int m.size, .ref M.f, .ref p4]) n5
    have ss := s2.trans (k3.trans k4)
    refine q _ p5 ⟨m.size, m.finals, U.map (·.2)⟩ (ss.trans k5) (ss.free n5) ⟨rfl, rfl, by rw [← mL]; exact pU.map _, le_rows pw⟩ ?_
    have kU := kzL fun p hp => Kz.same (k3.trans (k4.trans k5)) _ _ (kL p (pU.mem_iff.mp hp))
    refine .tup upd_same (.cons (.int _) (.cons (.tup ((ss.trans k5) _ _ M.fin) (kz_ints _)) (.cons (.tup (k5 _ _ upd_same) ?_) .nil)))
    have e : (U.map fun p => ((p.1, p.2.key) : NS.Row)).map (fun r => V.ref r.1) = U.map fun p => V.ref p.1 := by
      rw [List.map_map]
      rfl
    rw [← e] at kU
    exact kU
end
end K03
/-! _law_new -/
namespace K03
open PySem PySem.Spec PyProof.Rows L2 WD NS MC GL
open C8 (pss_cut tCut)
section
variable {P : Program} {w : World} {K : PySem.W.Frag} {mg : Str → Option Value} {base : Heap}
theorem ok_New {f : Addr} {fd : FuncData} {k : Nat} (F : Fun K "_law_new" "_law_new" sNew f fd) (TS : TxtS mg) (TD : TxtD mg) : FnOk P w K mg base CX0 (k + 1) f fd ["_law_machine", "_law_new_here"] spNew := by
  refine F.ok scNew (fun vs H Q E h => ?_) (fun cdv A outer s H vs Q E hr h => ?_)
  · obtain ⟨a, dd, m, ns, rfl, _⟩ := h
    rfl
  · obtain ⟨a, dd, m, ns, rfl, hm, ok, edd, nms, q⟩ := h
    have hu := hr.units
    have hu1 := Nat.lt_of_le_of_lt (Nat.add_le_add_left (by decide : 1 ≤ 64) _) hu
    refine ⟨_, pss_cut (ps_set (i := 2) scNew.nd rfl (.inl rfl) (pe_lst pa_nil))
      (pss_cut (ps_for PassesOwn.never rfl (pi_tup (pe_ix ix_tup (pv 0) pe_int (fun _ _ => rfl))) (pg_tup rfl (pgs_cons (pg_name (i := 3) scNew.nd rfl (.inl rfl)) (pgs_cons (pg_name (i := 4) scNew.nd rfl (.inl rfl)) (pgs_cons (pg_name (i := 5) scNew.nd rfl (.inl rfl)) pgs_nil))))
        (pss_cut (ps_set (i := 4) scNew.nd rfl (.inl rfl) (pe_ifExp (pt_cmpR op_eq (pe_callB call_len_seq (by rfl) TD.len PySem.boot_len (pa_cons (pv 4) pa_nil)) pe_int (nomark _))
          (pe_tup (pa_cons (pe_ix (show IxR _ (rIxT K) from ix_tup) (pv 4) pe_int (fun _ _ => rfl)) (pa_cons (pe_dget2 hu1 (pv 1) (pe_ix (show IxR _ (rIxT K) from ix_tup) (pv 4) pe_int (fun _ _ => rfl)) (pe_ix (show IxR _ (rIxT K) from ix_tup) (pv 4) pe_int (fun _ _ => rfl)) ⟨rfl, by rfl, rfl, rfl⟩) (pa_cons (pe_ix (show IxR _ (rIxT K) from ix_tup) (pv 4) pe_int (fun _ _ => rfl)) pa_nil)))) (pv 4)))
        (pss_one (ps_expr (pe_bm PySem.F.plainAttrs_list PySem.F.slot_list_append PySem.F.type_list_append mt_append (pv 2) (pa_cons (pe_tup (pa_cons (pv 3) (pa_cons (pv 4) (pa_cons (pv 5) pa_nil)))) pa_nil))))))
      (pss_one (ps_ret (pe_tup (pa_cons (pe_ix (show IxR _ (rIxT K) from ix_tup) (pv 0) pe_int (fun _ _ => rfl)) (pa_cons (pe_ix (show IxR _ (rIxT K) from ix_tup) (pv 0) pe_int (fun _ _ => rfl)) (pa_cons (pe_callTy call_tuple_of (by rfl) TS.tuple (by decide +kernel) (pa_cons (pe_callB (NS.cr_sortedL rfl hu) (by rfl) TS.sorted (by decide +kernel) (pa_cons (pv 2) pa_nil)) pa_nil)) pa_nil))))))), ?_⟩
    obtain ⟨M⟩ := mach_at hm
    have lx : M.xs.length = m.rows.length := by
      have z := kz_len M.all
      rw [List.length_map] at z
      exact z
    refine ⟨fun σ' H' => ∃ C, H C = none ∧ H' = upd H C (.lst []) ∧ σ' = [some (.ref a), some (.ref dd), some (.ref C), none, none, none], ?_, ?_⟩
    · exact ⟨Nat.zero_le _, fun C nC => ⟨C, nC, rfl, rfl⟩⟩
    rintro σ1 H1 ⟨C, nC, rfl, rfl⟩
    have kC := same_upd (o := .lst []) nC
    refine ⟨fun σ' H' => ∃ (u3 u4 u5 : Option V) (L : List (Addr × RowM)), σ' = [some (.ref a), some (.ref dd), some (.ref C), u3, u4, u5] ∧ Same H H' ∧ H' C = some (.lst (L.map fun p => V.ref p.1)) ∧ L.map (·.2) = m.rows.map (renR ns) ∧ ∀ p ∈ L, Kz H' (.ref p.1) p.2.key, ?_, ?_⟩
    · refine ⟨_, rfl, a, _, 2, .ref M.t, rfl, rfl, SqT.of (kC _ _ M.top), atI_nat (j := 2) rfl, M.t, rfl, ⟨_, SqT.of (kC _ _ M.row)⟩, for_tup (xs := M.xs) (fun i σ' H' => ∃ (u3 u4 u5 : Option V) (L : List (Addr × RowM)), σ' = [some (.ref a), some (.ref dd), some (.ref C), u3, u4, u5] ∧ Same H H' ∧ H' C = some (.lst (L.map fun p => V.ref p.1)) ∧ L.map (·.2) = (m.rows.take i).map (renR ns) ∧ ∀ p ∈ L, Kz H' (.ref p.1) p.2.key) ?_ ?_ ?_ ?_⟩
      · exact ⟨_, _, _, [], rfl, kC, upd_same, rfl, fun _ z => nomatch z⟩
      · rintro i σ' H' _ ⟨_, _, _, _, _, s2, _⟩
        exact SqT.of (s2 _ _ M.row)
      · rintro i v σ2 H2 hv ⟨u3, u4, u5, L, rfl, s2, eL, mL, kL⟩
        obtain ⟨r, hr', ra, dv, rfl, er, kd⟩ := row_at M.all hv
        obtain ⟨qd, rfl, ed⟩ := deed_at kd
        refine ⟨ra, _, rfl, SqT.of (s2 _ _ er), rfl, _, _, rfl, _, _, rfl, _, _, rfl, rfl, ?_⟩
        refine ⟨fun σ' H' => ∃ q3, σ' = [some (.ref a), some (.ref dd), some (.ref C), some (.int r.before), some (.ref q3), some (.int r.after)] ∧ Same H2 H' ∧ H' q3 = some (.tup ((renD ns r.deed).signs.map V.str)), ?_, ?_⟩
        · have ed2 := s2 _ _ ed
          cases hd : r.deed with
          | step =>
            rw [hd] at ed2
            exact ⟨_, rfl, qd, _, rfl, .inr (SqT.of ed2), rfl, _, rfl, ifF (by decide) ⟨_, rfl, qd, rfl, (fun _ _ e => e), ed2⟩⟩
          | ex b n l =>
            rw [hd] at ed2
            have edd2 := s2 _ _ edd
            have T : SqT K H2 qd [.str (wordOf b), .str n, .str l] := SqT.of ed2
            refine ⟨_, rfl, qd, _, rfl, .inr (SqT.of ed2), rfl, _, rfl, ifT (decide_eq_true rfl) ?_⟩
            refine ⟨_, rfl, qd, _, 0, .str (wordOf b), rfl, rfl, T, atI_nat (j := 0) rfl, _, rfl, dd, rfl, .inl ⟨_, .inl edd2⟩, _, rfl, qd, _, 1, .str n, rfl, rfl, T, atI_nat (j := 1) rfl, _, rfl, qd, _, 1, .str n, rfl, rfl, T, atI_nat (j := 1) rfl, _, DGet.k (k := Sum.inr n) edd2, ?_⟩
            rw [nu_get]
            refine ⟨_, rfl, qd, _, 2, .str l, rfl, rfl, T, atI_nat (j := 2) rfl, by show 3 ≤ sizeLine; decide, fun t nt => ⟨t, rfl, same_upd nt, upd_same⟩⟩
        rintro σ3 H3 ⟨q3, rfl, s3, e3⟩
        have eL3 := s3 _ _ eL
        refine ⟨_, rfl, .inl ⟨rfl, _, SqL.of eL3⟩, _, rfl, _, rfl, _, rfl, by show 3 ≤ sizeLine; decide, fun t nt => ?_⟩
        have kt := same_upd (o := .tup [.int r.before, .ref q3, .int r.after]) nt
        have s34 := s3.trans kt
        have eL' := s34 _ _ eL
        have sT : SameT H2 (upd (upd H3 t (.tup [.int r.before, .ref q3, .int r.after])) C (.lst (L.map (fun p => V.ref p.1) ++ [.ref t]))) := (SameT.of s34).trans (SameT.lst eL')
        have sU : SameT (upd H3 t (.tup [.int r.before, .ref q3, .int r.after])) (upd (upd H3 t (.tup [.int r.before, .ref q3, .int r.after])) C (.lst (L.map (fun p => V.ref p.1) ++ [.ref t]))) := SameT.lst eL'
        refine ⟨C, _, .ref t, rfl, rfl, eL', ?_, _, _, _, L ++ [(t, renR ns r)], rfl, same_set (s2.trans s34) nC, ?_, ?_, fun p hp => ?_⟩
        · have z := congrArg List.length mL
          have := ok.r3
          rw [List.length_map, List.length_map, List.length_take] at z
          rw [List.length_map, sizeLine_eq]
          omega
        · rw [upd_same, List.map_append]
          rfl
        · rw [List.map_append, mL, List.take_succ, hr', Option.toList_some, List.map_append]
          rfl
        · rcases List.mem_append.mp hp with z | z
          · exact Kz.tups sT _ _ (kL p z)
          · rw [List.mem_singleton.mp z]
            exact .tup (sU _ _ upd_same) (.cons (.int _) (.cons (Kz.tups ((SameT.of kt).trans sU) _ _ (deed_kz e3)) (.cons (.int _) .nil)))
      · rintro σ2 H2 ⟨u3, u4, u5, L, rfl, s2, eL, mL, kL⟩
        rw [lx, List.take_length] at mL
        exact ⟨_, _, _, L, rfl, s2, eL, mL, kL⟩
    rintro σ2 H2 ⟨u3, u4, u5, L, rfl, s2, eL, mL, kL⟩
    have lL : L.length < 64 := by
      have z := congrArg List.length mL
      have := ok.r3
      rw [List.length_map, List.length_map] at z
      omega
    have eL' : H2 C = some (.lst ((L.map fun p => ((p.1, p.2.key) : NS.Row)).map fun p => V.ref p.1)) := by
      rw [List.map_map]
      exact eL
    have MT := s2 _ _ M.top
    refine ⟨_, rfl, a, _, 0, .int m.size, rfl, rfl, SqT.of MT, atI_nat (j := 0) rfl, _, rfl, a, _, 1, .ref M.f, rfl, rfl, SqT.of MT, atI_nat (j := 1) rfl, _, rfl, C, L.map fun p => (p.1, p.2.key), rfl, SqL.of eL', by rw [List.length_map]; exact lL, fun p hp => ?_, alike_rowsA, sortable_rowsA, fun L1 p3 pm pw n3 => ?_⟩
    · obtain ⟨x, hx, rfl⟩ := List.mem_map.mp hp
      exact ⟨kL x hx, by show x.2.key.depth ≤ 8; rw [row_depth]; decide⟩
    obtain ⟨U, rfl, pU⟩ := as_rowsA pm
    have k3 := same_upd (o := .lst ((U.map fun p => ((p.1, p.2.key) : NS.Row)).map fun r => V.ref r.1)) n3
    refine ⟨p3, _, rfl, .inl ⟨SqL.of upd_same, fun p4 n4 => ⟨by show 3 ≤ sizeLine; decide, fun p5 n5 => ?_⟩⟩⟩
    have k4 := same_upd (o := .tup ((U.map fun p => ((p.1, p.2.key) : NS.Row)).map fun r => V.ref r.1)) n4
    have k5 := same_upd (o := .tup [.int m.size, .ref M.f, .ref p4]) n5
    have ss := s2.trans (k3.trans k4)
    refine q _ p5 ⟨m.size, m.finals, U.map (·.2)⟩ (ss.trans k5) (ss.free n5) ⟨rfl, rfl, by rw [← mL]; exact pU.map _, le_rows pw⟩ ?_
    have kU := kzL fun p hp => Kz.same (k3.trans (k4.trans k5)) _ _ (kL p (pU.mem_iff.mp hp))
    refine .tup upd_same (.cons (.int _) (.cons (.tup ((ss.trans k5) _ _ M.fin) (kz_ints _)) (.cons (.tup (k5 _ _ upd_same) ?_) .nil)))
    have e : (U.map fun p => ((p.1, p.2.key) : NS.Row)).map (fun r => V.ref r.1) = U.map fun p => V.ref p.1 := by
      rw [List.map_map]
      rfl
    rw [← e] at kU
    exact kU
end
end K03
/-! len of a set of texts. -/
namespace NS
open PySem PySem.Spec PyProof.Rows L2
variable {X : Cx}
def rLenTS (X : Cx) : List V → Hp → VK → Prop := fun vs H Q => ∃ (a : Addr) (ws : List Str), vs = [V.ref a] ∧ H a = some (TSetO X.prog X.w a ws) ∧ Q (.int ws.length) H
theorem call_lenTS : CallR X (.builtin "len") (rLenTS X) := by
  intro pins s σ H vs us Q I r h
  obtain ⟨a, ws, rfl, ha, q⟩ := h
  have R : TSet X.prog X.w s.heap a ws := (I.hok a _ ha).1
  rw [Vals.ref1 r]
  obtain ⟨o, es, ep, t, ho, ex, dt, _, mp, _, sb, ft, _⟩ := R.ex
  have len : es.size = ws.length := by rw [← mp, List.length_map, Array.length_toList]
  refine call_len_set ho ex dt ft (by unfold scanBound at sb; omega) ?_
  rw [len]
  exact ⟨.int ws.length, H, I.kept (t' := s.toks + 1 + 1) (fun b o e => e), ⟨_, rfl⟩, q⟩
end NS
/-! is_name of any value, is_naming -/
namespace K03
open PySem PySem.Spec PyProof.Rows L2 WD NS MC GL
open C8 (pss_cut tCut)
abbrev tysNotStr : List String := ["NoneType", "bool", "int", "list", "tuple", "dict"]
theorem str_kitB {ty : String} (m : ty ∈ tysNotStr) : kitB ty "str" = some false := by
  simp only [List.mem_cons, List.not_mem_nil, or_false] at m
  rcases m with rfl | rfl | rfl | rfl | rfl | rfl <;> decide +kernel
/-- no name: of another type, or not written small -/
inductive BadN (K : PySem.W.Frag) (H : Hp) : V → Prop
  | ty {v : V} (ty : String) (m : ty ∈ tysNotStr) (t : TyX K H v (.type ty)) : BadN K H v
  | upper {x : Str} (l : x.length ≤ 8) (a : Txt.isascii x = true) (b : Txt.isalpha x = true) (c : Txt.islower x = false) : BadN K H (.str x)
theorem BadN.same {K : PySem.W.Frag} {H H' : Hp} {v : V} (s : Same H H') (h : BadN K H v) : BadN K H' v := by
  cases h with
  | ty ty m t => exact .ty ty m (tyX_same s t)
  | upper l a b c => exact .upper l a b c
def spNameG (K : PySem.W.Frag) : Sp := fun vs H Q _ => ∃ v : V, vs = [v] ∧ ((∃ x, v = .str x ∧ Wd x ∧ Q (.bl true) H) ∨ (BadN K H v ∧ Q (.bl false) H))
section
variable {P : Program} {w : World} {K : PySem.W.Frag} {mg : Str → Option Value} {base : Heap}
theorem ok_NameG {f : Addr} {fd : FuncData} {k : Nat} (F : Fun K "is_name" "is_name" sName f fd) (T : TxtNm K mg) : FnOk P w K mg base CX0 (k + 1) f fd ["value"] (spNameG K) := by
  obtain ⟨t8, g8⟩ := T.ln
  refine F.ok scName (fun vs H Q E h => ?_) (fun cdv A outer s H vs Q E hr h => ?_)
  · obtain ⟨v, rfl, _⟩ := h
    rfl
  · obtain ⟨v, rfl, h⟩ := h
    refine ⟨_, pss_one (ps_ret (pe_and (pe_callB call_isi (by rfl) T.isi (by decide +kernel) (pa_cons (pv 0) (pa_cons (pe_bltn (by rfl) T.str (by decide +kernel) (v := .ty "str") rfl) pa_nil)))
      (pe_and (pe_cmpR op_le (pe_callB call_len_str (by rfl) T.len PySem.boot_len (pa_cons (pv 0) pa_nil)) (pe_glob (v := .int 8) rfl g8 ⟨_, rfl⟩) (nomark _))
      (pe_and (pe_bm0 PySem.F.plainAttrs_str PySem.F.slot_str_isascii PySem.F.type_str_isascii mt_isascii (pv 0))
      (pe_and (pe_bm0 PySem.F.plainAttrs_str PySem.F.slot_str_isalpha PySem.F.type_str_isalpha mt_isalpha (pv 0))
      (pe_one (pe_bm0 PySem.F.plainAttrs_str PySem.F.slot_str_islower PySem.F.type_str_islower mt_islower (pv 0)))))))), ?_⟩
    rcases h with ⟨x, rfl, wd, q⟩ | ⟨bad, q⟩
    · refine ⟨_, rfl, _, _, _, .type "str", true, rfl, .ty _, .base (.str x), kit_ty (by decide +kernel), _, rfl, iteT ?_⟩
      refine ⟨_, rfl, _, rfl, (by have z := wd.le; rw [sizeLine_eq]; omega), _, _, rfl, rfl, _, rfl, ?_⟩
      rw [decide_eq_true (show ((x.length : Nat) : Int) ≤ 8 by have z := wd.le; omega)]
      refine iteT ⟨_, rfl, rfl, _, rfl, rfl, trivial, _, rfl, ?_⟩
      rw [wd_ascii wd.low]
      refine iteT ⟨_, rfl, rfl, _, rfl, rfl, trivial, _, rfl, ?_⟩
      rw [wd_alpha wd]
      refine iteT ⟨_, rfl, rfl, _, rfl, rfl, trivial, ?_⟩
      rw [wd_lower wd]
      exact q
    · cases bad with
      | ty ty m t =>
        exact ⟨_, rfl, _, _, .type ty, .type "str", false, rfl, .ty _, t, kit_ty (str_kitB m), _, rfl, iteF q⟩
      | @upper x l a b c =>
        refine ⟨_, rfl, _, _, _, .type "str", true, rfl, .ty _, .base (.str x), kit_ty (by decide +kernel), _, rfl, iteT ?_⟩
        refine ⟨_, rfl, _, rfl, (by rw [sizeLine_eq]; omega), _, _, rfl, rfl, _, rfl, ?_⟩
        rw [decide_eq_true (show ((x.length : Nat) : Int) ≤ 8 by omega)]
        refine iteT ⟨_, rfl, rfl, _, rfl, rfl, trivial, _, rfl, ?_⟩
        rw [a]
        refine iteT ⟨_, rfl, rfl, _, rfl, rfl, trivial, _, rfl, ?_⟩
        rw [b]
        refine iteT ⟨_, rfl, rfl, _, rfl, rfl, trivial, ?_⟩
        rw [c]
        exact q
end
end K03
/-! is_naming -/
namespace K03
open PySem PySem.Spec PyProof.Rows L2 WD NS MC GL
open C8 (pss_cut tCut)
abbrev sNaming : Stmt := topS 8
abbrev nNg : List Str := ["value", "key"]
theorem scNaming : FnScope nNg ["value"] (defScope sNaming) := ⟨rfl, rfl, rfl, by decide +kernel, rfl, by decide +kernel, by decide +kernel⟩
abbrev tysNotDict : List String := ["NoneType", "bool", "int", "str", "list", "tuple"]
theorem dict_kitB {ty : String} (m : ty ∈ tysNotDict) : kitB ty "dict" = some false := by
  simp only [List.mem_cons, List.not_mem_nil, or_false] at m
  rcases m with rfl | rfl | rfl | rfl | rfl | rfl <;> decide +kernel
/-- a value that is no name, whatever a dict holds -/
inductive BadX (H : Hp) : V → Prop
  | non : BadX H .non
  | upper {x : Str} (l : x.length ≤ 8) (a : Txt.isascii x = true) (b : Txt.isalpha x = true) (c : Txt.islower x = false) : BadX H (.str x)
  | tup {q : Addr} {xs : List V} (e : H q = some (.tup xs)) : BadX H (.ref q)
theorem BadX.bad {K : PySem.W.Frag} {H : Hp} {v : V} (h : BadX H v) : BadN K H v := by
  cases h with
  | non => exact .ty "NoneType" (by decide) (.base .non)
  | upper l a b c => exact .upper l a b c
  | tup e => exact .ty "tuple" (by decide) (.base (.tup e))
/-- a dict of one entry that is no naming -/
inductive BadD (H : Hp) : List (Key × V) → Prop
  | int {i : Int} {x : V} : BadD H [(.inl i, x)]
  | key {z : Str} {x : V} (l : z.length ≤ 8) (a : Txt.isascii z = true) (b : Txt.isalpha z = true) (c : Txt.islower z = false) : BadD H [(.inr z, x)]
  | val {z : Str} {x : V} (w : Wd z) (h : BadX H x) : BadD H [(.inr z, x)]
inductive BadNm (K : PySem.W.Frag) (H : Hp) : V → Prop
  | ty {v : V} (ty : String) (m : ty ∈ tysNotDict) (t : TyX K H v (.type ty)) : BadNm K H v
  | dict {dd : Addr} {kvs : List (Key × V)} (e : H dd = some (.dK kvs)) (b : BadD H kvs) : BadNm K H (.ref dd)
def spNaming (K : PySem.W.Frag) : Sp := fun vs H Q _ => ∃ v : V, vs = [v] ∧ ((∃ (dd : Addr) (ns : List (Str × Str)), v = .ref dd ∧ H dd = some (.dK (kvS ns)) ∧ Nms ns ∧ ns.length < 64 ∧ ∀ H', Same H H' → Q (.bl true) H') ∨ (BadNm K H v ∧ ∀ H', Same H H' → Q (.bl false) H'))
theorem nu_val {ns : List (Str × Str)} {p : Str × Str} (h : p ∈ ns) : valV (kvS ns) (Sum.inr p.1) = some (.str (nu ns p.1)) := by
  have g := nu_get ns p.1
  cases e : valV (kvS ns) (Sum.inr p.1) with
  | some v =>
    rw [e] at g
    rw [← g]
    rfl
  | none =>
    exfalso
    rw [valV, Option.map_eq_none_iff, List.find?_eq_none] at e
    have := e (Sum.inr p.1, V.str p.2) (List.mem_map.mpr ⟨p, h, rfl⟩)
    simp at this
structure TxtNg (K : PySem.W.Frag) (mg : Str → Option Value) (fN : Addr) (dN : FuncData) : Prop where
  isi : mg "isinstance" = none
  dict : mg "dict" = none
  all : mg "all" = none
  N : Fun K "is_name" "is_name" sName fN dN
  bN : L2.Binds K dN ["value"] []
  gN : mg "is_name" = some (.ref fN)
section
variable {P : Program} {w : World} {K : PySem.W.Frag} {mg : Str → Option Value} {base : Heap} {fN : Addr} {dN : FuncData}
theorem ok_Naming {f : Addr} {fd : FuncData} {k : Nat} (F : Fun K "is_naming" "is_naming" sNaming f fd) (T : TxtNg K mg fN dN) (TN : TxtNm K mg) : FnOk P w K mg base CX0 (k + 2) f fd ["value"] (spNaming K) := by
  have GN : FnOk P w K mg base CX0 (k + 1) fN dN ["value"] (spNameG K) := ok_NameG T.N TN
  refine F.ok scNaming (fun vs H Q E h => ?_) (fun cdv A outer s H vs Q E hr h => ?_)
  · obtain ⟨v, rfl, _⟩ := h
    rfl
  · obtain ⟨v, rfl, h⟩ := h
    have hu := hr.units
    have hu1 := Nat.lt_of_le_of_lt (Nat.add_le_add_left (by decide : 1 ≤ 64) _) hu
    refine ⟨_, pss_one (ps_ret (pe_and (pe_callB call_isi (by rfl) T.isi (by decide +kernel) (pa_cons (pv 0) (pa_cons (pe_bltn (by rfl) T.dict (by decide +kernel) (v := .ty "dict") rfl) pa_nil)))
      (pe_one (pe_callB (cr_all rfl) (by rfl) T.all (by decide +kernel) (pa_cons (pe_lock (pe_lc (own := [("key", 1)]) (g := gName 1) (tt := tYes) (te := tAndV (tCall (spNameG K) [] E0 (tCons (tVar 1) tNil)) (tCall (spNameG K) [] E0 (tCons (tDGet (tVar 0) (tVar 1)) tNil))) rfl scNaming.nd (pi_keys (pv 0)) (blkOk_by (own := [("key", 1)]) (N := nNg) (sc := defScope sNaming) (by decide +kernel))
        (fun _ _ _ _ _ => pg_name (i := 1) scNaming.nd rfl (.inl rfl)) (fun _ _ _ _ _ => pts_nil)
        (fun _ _ _ _ _ => pe_and (pe_call GN hr (by rfl) T.gN T.N.kp T.bN .nil pass0 (pa_cons (pv 1) pa_nil)) (pe_one (pe_call GN hr (by rfl) T.gN T.N.kp T.bN .nil pass0 (pa_cons (pe_dget hu1 (pv 0) (pv 1) (fun _ _ => rfl)) pa_nil)))))) pa_nil))))), ?_⟩
    have back : ∀ {dd : Addr} {u : HO} {H' : Hp}, H dd = some u → (∀ b y, b ≠ dd → H b = some y → H' b = some y) → Same H (upd H' dd u) := fun {dd u H'} e k b y eb => by
      by_cases c : b = dd
      · subst c
        rw [upd_same, ← eb, e]
      · rw [upd_ne c]
        exact k b y c eb
    rcases h with ⟨dd, ns, rfl, ed, nms, few, q⟩ | ⟨bad, q⟩
    · refine ⟨_, rfl, _, _, _, .type "dict", true, rfl, .ty _, .base (.dK ed), kit_ty (by decide +kernel), _, rfl, iteT ?_⟩
      refine ⟨dd, _, ed, trivial, fun od => ⟨_, rfl, dd, od, rfl, .inl ⟨kvS ns, upd_same, fun C nC => ?_⟩⟩⟩
      have nCd : C ≠ dd := fun z => by
        rw [z, upd_same] at nC
        cases nC
      have nCH : H C = none := by
        rw [upd_ne nCd] at nC
        exact nC
      refine lc_it walk_keys (fun j H' => (∀ b y, b ≠ dd → H b = some y → H' b = some y) ∧ H' dd = some (.frz od (.dK (kvS ns))) ∧ H' C = some (.lst ((List.replicate j true).map V.bl))) ⟨fun b y c e => ?_, ?_, upd_same⟩ (fun j H' _ z => z.2.1) ?_ ?_
      · rw [upd_ne (ne_of_none e nCH), upd_ne c]
        exact e
      · rw [upd_ne nCd.symm]
        exact upd_same
      · rintro j v H2 H3 hj ⟨k2, f2, e2⟩ ⟨rfl, kk, vv, hk, rfl⟩
        rw [List.length_map] at hj
        rw [List.getElem?_map, List.getElem?_eq_getElem hj] at hk
        cases Option.some.inj hk
        have mp := List.getElem_mem hj
        refine ⟨rfl, tYes_ite ⟨_, rfl, .str ns[j].1, rfl, .inl ⟨ns[j].1, rfl, (nms _ mp).1, true, rfl, iteT ⟨_, rfl, _, rfl, dd, .str (nu ns ns[j].1), rfl, .inl ⟨kvS ns, .inr ns[j].1, .inr ⟨od, f2⟩, rfl, (nu_val mp).symm⟩, _, rfl, .inl ⟨_, rfl, nu_wd nms (nms _ mp).1, _, e2, ?_, fun b y c e => ?_, ?_, ?_⟩⟩⟩⟩⟩
        · rw [List.length_map, List.length_replicate, sizeLine_eq]
          omega
        · rw [upd_ne (ne_of_none e nCH)]
          exact k2 b y c e
        · rw [upd_ne nCd.symm]
          exact f2
        · rw [upd_same, List.replicate_succ', List.map_append]
          rfl
      · rintro H2 ⟨k2, f2, e2⟩
        refine ⟨f2, C, List.replicate (kvS ns).length true, rfl, SqL.of (by rw [upd_ne nCd]; exact e2), ?_⟩
        rw [show (List.replicate (kvS ns).length true).all id = true by simp]
        exact q _ (back ed k2)
    · cases bad with
      | ty ty m t => exact ⟨_, rfl, _, _, .type ty, .type "dict", false, rfl, .ty _, t, kit_ty (dict_kitB m), _, rfl, iteF (q H fun _ _ e => e)⟩
      | @dict dd kvs ed b =>
        refine ⟨_, rfl, _, _, _, .type "dict", true, rfl, .ty _, .base (.dK ed), kit_ty (by decide +kernel), _, rfl, iteT ?_⟩
        have one : kvs.length = 1 := by cases b <;> rfl
        refine ⟨dd, _, ed, trivial, fun od => ⟨_, rfl, dd, od, rfl, .inl ⟨kvs, upd_same, fun C nC => ?_⟩⟩⟩
        have nCd : C ≠ dd := fun z => by
          rw [z, upd_same] at nC
          cases nC
        have nCH : H C = none := by
          rw [upd_ne nCd] at nC
          exact nC
        refine lc_it walk_keys (fun j H' => (∀ b y, b ≠ dd → H b = some y → H' b = some y) ∧ H' dd = some (.frz od (.dK kvs)) ∧ H' C = some (.lst (([false].take j).map V.bl))) ⟨fun b y c e => ?_, ?_, upd_same⟩ (fun j H' _ z => z.2.1) ?_ ?_
        · rw [upd_ne (ne_of_none e nCH), upd_ne c]
          exact e
        · rw [upd_ne nCd.symm]
          exact upd_same
        · rintro j v H2 H3 hj ⟨k2, f2, e2⟩ ⟨rfl, kk, vv, hk, rfl⟩
          obtain rfl : j = 0 := by omega
          have fin : (∃ acc, H3 C = some (.lst acc) ∧ acc.length < sizeLine ∧ (∀ b y, b ≠ dd → H b = some y → upd H3 C (.lst (acc ++ [.bl false])) b = some y) ∧ upd H3 C (.lst (acc ++ [.bl false])) dd = some (.frz od (.dK kvs)) ∧ upd H3 C (.lst (acc ++ [.bl false])) C = some (.lst (([false].take (0 + 1)).map V.bl))) := by
            refine ⟨_, e2, by show 0 < sizeLine; decide, fun b y c e => ?_, ?_, upd_same⟩
            · rw [upd_ne (ne_of_none e nCH)]
              exact k2 b y c e
            · rw [upd_ne nCd.symm]
              exact f2
          cases b with
          | @int i x =>
            cases Option.some.inj hk
            exact ⟨rfl, tYes_ite ⟨_, rfl, _, rfl, .inr ⟨.ty "int" (by decide) (.base (.int i)), false, rfl, iteF fin⟩⟩⟩
          | @key z x l a b c =>
            cases Option.some.inj hk
            exact ⟨rfl, tYes_ite ⟨_, rfl, _, rfl, .inr ⟨.upper l a b c, false, rfl, iteF fin⟩⟩⟩
          | @val z x w h =>
            cases Option.some.inj hk
            have h3 : BadX H3 vv := by
              cases h with
              | non => exact .non
              | upper l a b c => exact .upper l a b c
              | @tup q xs e => exact .tup (k2 q _ (fun zz => by rw [zz, ed] at e; cases e) e)
            exact ⟨rfl, tYes_ite ⟨_, rfl, _, rfl, .inl ⟨z, rfl, w, true, rfl, iteT ⟨_, rfl, _, rfl, dd, vv, rfl, .inl ⟨_, .inr z, .inr ⟨od, f2⟩, rfl, by simp [valV]⟩, _, rfl, .inr ⟨h3.bad, fin⟩⟩⟩⟩⟩
        · rintro H2 ⟨k2, f2, e2⟩
          rw [one] at e2
          exact ⟨f2, C, [false], rfl, SqL.of (by rw [upd_ne nCd]; exact e2), q _ (back ed k2)⟩
end
end K03
/-! machine_renamed_by -/
namespace K03
open PySem PySem.Spec PyProof.Rows L2 WD NS MC GL
open C8 (pss_cut tCut)
abbrev sMRB : Stmt := topS 24
abbrev nMr : List Str := ["machine", "names", "neighbours", "name"]
theorem scMRB : FnScope nMr ["machine", "names"] (defScope sMRB) := ⟨rfl, rfl, rfl, by decide +kernel, rfl, by decide +kernel, by decide +kernel⟩
theorem nodup_of_len {α : Type} [DecidableEq α] : ∀ (l D : List α), D.Nodup → (∀ x ∈ D, x ∈ l) → l.length ≤ D.length → l.Nodup
  | [], _, _, _, _ => List.nodup_nil
  | a :: t, D, nd, s, le => by
    rw [List.length_cons] at le
    by_cases c : a ∈ t
    · have z := nodup_len D t nd fun x hx => by
        rcases List.mem_cons.mp (s x hx) with e | e
        · rw [e]; exact c
        · exact e
      omega
    · refine List.nodup_cons.mpr ⟨c, nodup_of_len t (D.erase a) (nd.erase a) (fun x hx => ?_) ?_⟩
      · have h := (nd.mem_erase_iff).mp hx
        exact (List.mem_cons.mp (s x h.2)).resolve_left h.1
      · have := List.length_erase_of_mem (a := a) (l := D)
        by_cases m : a ∈ D
        · have := this m
          omega
        · rw [List.erase_of_not_mem m]
          omega
theorem fewer_iff {ys ws : List Str} {g : Str → Str} (nd : ws.Nodup) (mem : ∀ x, x ∈ ws ↔ x ∈ ys.map g) : ws.length < ys.length ↔ ¬ (ys.map g).Nodup := by
  have lm : (ys.map g).length = ys.length := List.length_map _
  constructor
  · intro l n
    have := nodup_len (ys.map g) ws n fun x hx => (mem x).mpr hx
    omega
  · intro n
    rcases Nat.lt_or_ge ws.length ys.length with l | l
    · exact l
    · exact absurd (nodup_of_len (ys.map g) ws nd (fun x hx => (mem x).mp hx) (by omega)) n
def spMRB (K : PySem.W.Frag) (cM cO : Addr) : Sp := fun vs H Q E => ∃ v nv : V, vs = [v, nv] ∧ ((BadM K H v ∧ ∀ H', Same H H' → E (.ref cM) none H') ∨
  ∃ (a : Addr) (m : MachM), v = .ref a ∧ Kz H (.ref a) m.key ∧ m.Ok ∧ ((BadNm K H nv ∧ ∀ H', Same H H' → E (.ref cO) none H') ∨
    ∃ (dd : Addr) (ns : List (Str × Str)), nv = .ref dd ∧ H dd = some (.dK (kvS ns)) ∧ Nms ns ∧ ns.length < 64 ∧ ∃ ys : List Str, NearOf m ys ∧
      ((¬ (ys.map (nu ns)).Nodup ∧ ∀ H', Same H H' → E (.ref cO) none H') ∨
       ((ys.map (nu ns)).Nodup ∧ ∀ H' p (m' : MachM), Same H H' → H p = none → NewOf ns m m' → Kz H' (.ref p) m'.key → Q (.ref p) H'))))
structure TxtO3 (K : PySem.W.Frag) (mg : Str → Option Value) (cO fG fB fW : Addr) (dG dB dW : FuncData) : Prop where
  oc : ErrC K cO veC "ValueError.__new__"
  oi : PySem.W.findIn K (.ref cO) "__init__" = some (some (.builtin "ValueError.__init__"))
  oty : PySem.W.typeIn K (.ref cO) = some (.type "type")
  og : mg "InvalidOperation" = some (.ref cO)
  ng : Df K mg "is_naming" sNaming ["value"] fG dG
  nb : Df K mg "neighbours_in" sNbIn ["machine"] fB dB
  wn : Df K mg "with_neighbours_named" sWNN ["machine", "names"] fW dW
theorem strs_ext {l l' : List Str} (a : l.Pairwise (fun x y => x.cps.toList ≤ y.cps.toList)) (n : l.Nodup) (a' : l'.Pairwise (fun x y => x.cps.toList ≤ y.cps.toList)) (n' : l'.Nodup) (h : ∀ x, x ∈ l ↔ x ∈ l') : l = l' := by
  refine sorted_ext (r := fun x y : Str => x.cps.toList ≤ y.cps.toList ∧ x ≠ y) (fun a z => z.2 rfl) (fun a b z y => z.2 (PySem.W.str_of_cps (List.le_antisymm z.1 y.1))) l l' (a.and n) (a'.and n') h
theorem near_ext {m : MachM} {ys zs : List Str} (a : NearOf m ys) (b : NearOf m zs) : ys = zs := strs_ext a.asc a.once b.asc b.once fun x => (a.mem x).trans (b.mem x).symm
theorem BadNm.same {K : PySem.W.Frag} {H H' : Hp} {v : V} (s : Same H H') (h : BadNm K H v) : BadNm K H' v := by
  cases h with
  | ty ty m t => exact .ty ty m (tyX_same s t)
  | dict e b =>
    refine .dict (s _ _ e) ?_
    cases b with
    | int => exact .int
    | key l a b c => exact .key l a b c
    | val w h =>
      refine .val w ?_
      cases h with
      | non => exact .non
      | upper l a b c => exact .upper l a b c
      | tup e2 => exact .tup (s _ _ e2)
section
variable {P : Program} {w : World} {K : PySem.W.Frag} {mg : Str → Option Value} {base : Heap} {fC cM cO fG fB fW : Addr} {dC dG dB dW : FuncData} {k : Nat}
theorem ok_MRB {f : Addr} {fd : FuncData} (F : Fun K "machine_renamed_by" "machine_renamed_by" sMRB f fd) (hC : Df K mg "check_machine" sChkM ["machine"] fC dC) (O : TxtO3 K mg cO fG fB fW dG dB dW) (TD : TxtD mg)
    (GC : FnOk P w K mg base (L2.CX P w) k fC dC ["machine"] (spChkM K (BadM K) cM)) (GG : FnOk P w K mg base CX0 k fG dG ["value"] (spNaming K)) (GB : FnOk P w K mg base CX0 k fB dB ["machine"] spNear) (GW : FnOk P w K mg base CX0 k fW dW ["machine", "names"] spNew) :
    FnOk P w K mg base (L2.CX P w) (k + 1) f fd ["machine", "names"] (spMRB K cM cO) := by
  refine F.okX scMRB (fun vs H Q E h => ?_) (fun cdv A outer s H vs Q E hr h => ?_)
  · obtain ⟨v, nv, rfl, _⟩ := h
    rfl
  · obtain ⟨v, nv, rfl, h⟩ := h
    have hu := hr.units
    have hu1 := Nat.lt_of_le_of_lt (Nat.add_le_add_left (by decide : 1 ≤ 64) _) hu
    refine ⟨_, pss_cut (ps_expr (pe_callS GC hr (by rfl) hC.g hC.F.kp hC.b (passAt (takes_of rfl rfl rfl rfl)) (pa_cons (pv 0) pa_nil)))
      (pss_cut (ps_if (pt_not (pt_val (pe_call GG hr (by rfl) O.ng.g O.ng.F.kp O.ng.b .nil pass0 (pa_cons (pv 1) pa_nil)))) (pss_one (ps_raise rfl (takes_of rfl rfl rfl rfl) (pmk_X rfl (pe_mkA PySem.F.excBase_ValueError O.oc O.oi (by rfl) O.og pe_str)))) pss_nil)
      (pss_cut (ps_set (i := 2) scMRB.nd rfl (.inl rfl) (pe_call GB hr (by rfl) O.nb.g O.nb.F.kp O.nb.b .nil pass0 (pa_cons (pv 0) pa_nil)))
      (pss_cut (ps_if (pt_cmpR op_lt (pe_callB NS.call_lenTS (by rfl) TD.len PySem.boot_len (pa_cons (pe_sx (txtK_ok _ _) (own := [("name", 3)]) (g := gName 3) (tt := tYes) (te := tDGet2 (tVar 1) (tVar 3) (tVar 3)) rfl scMRB.nd (pi_tup (pv 2)) (blkOk_by (own := [("name", 3)]) (N := nMr) (sc := defScope sMRB) (by decide +kernel))
          (fun _ _ _ _ _ => pg_name (i := 3) scMRB.nd rfl (.inl rfl)) (fun _ _ _ _ _ => pts_nil)
          (fun _ _ _ _ _ => pe_dget2 hu1 (pv 1) (pv 3) (pv 3) ⟨rfl, by rfl, rfl, rfl⟩)) pa_nil)) (pe_callB call_len_seq (by rfl) TD.len PySem.boot_len (pa_cons (pv 2) pa_nil)) (nomark _))
        (pss_one (ps_raise rfl (takes_of rfl rfl rfl rfl) (pmk_X rfl (pe_mkA PySem.F.excBase_ValueError O.oc O.oi (by rfl) O.og pe_str)))) pss_nil)
      (pss_one (ps_ret (pe_call GW hr (by rfl) O.wn.g O.wn.F.kp O.wn.b .nil pass0 (pa_cons (pv 0) (pa_cons (pv 1) pa_nil)))))))), ?_⟩
    rcases h with ⟨bad, q⟩ | ⟨a, m, rfl, hm, ok, h⟩
    · exact ⟨fun _ _ => False, ⟨_, rfl, v, rfl, .inr ⟨bad, q⟩⟩, fun _ _ z => z.elim⟩
    refine ⟨fun σ' H' => σ' = [some (.ref a), some nv, none, none] ∧ Same H H', ⟨_, rfl, _, rfl, .inl ⟨a, m, rfl, hm, ok, fun H' s' => ⟨rfl, s'⟩⟩⟩, ?_⟩
    rintro σ1 H1 ⟨rfl, s1⟩
    rcases h with ⟨bad, q⟩ | ⟨dd, ns, rfl, ed, nms, few, ys, near, h⟩
    · refine ⟨fun _ _ => False, ⟨_, rfl, nv, rfl, .inr ⟨BadNm.same s1 bad, fun H2 s2 => ⟨_, rfl, ifT rfl fun b t nb nt ne => ⟨b, cO, t, none, rfl, upd_same, fr0_none ((s1.trans s2).free nb), raises_X O.oc O.oty, ?_⟩⟩⟩⟩, fun _ _ z => z.elim⟩
      show E (.ref cO) none (delH _ b)
      rw [delH_two nb ne]
      exact q _ ((s1.trans s2).trans (same_upd nt))
    refine ⟨fun σ' H' => σ' = [some (.ref a), some (.ref dd), none, none] ∧ Same H H', ⟨_, rfl, .ref dd, rfl, .inl ⟨dd, ns, rfl, s1 _ _ ed, nms, few, fun H2 s2 => ⟨_, rfl, iteF ⟨rfl, s1.trans s2⟩⟩⟩⟩, ?_⟩
    rintro σ2 H2 ⟨rfl, s2⟩
    refine ⟨fun σ' H' => ∃ p, σ' = [some (.ref a), some (.ref dd), some (.ref p), none] ∧ Same H H' ∧ H' p = some (.tup (ys.map V.str)) ∧ ys.length < 64, ?_, ?_⟩
    · refine ⟨_, rfl, a, m, rfl, Kz.same s2 _ _ hm, ok, fun H' p ys2 s' np e near2 few2 => ?_⟩
      cases near_ext near2 near
      exact ⟨p, rfl, s2.trans s', e, few2⟩
    rintro σ3 H3 ⟨p, rfl, s3, ep, y64⟩
    have ed3 := s3 _ _ ed
    refine ⟨fun σ' H' => σ' = [some (.ref a), some (.ref dd), some (.ref p), none] ∧ Same H H' ∧ (ys.map (nu ns)).Nodup, ?_, ?_⟩
    · refine ⟨_, rfl, p, rfl, ⟨_, SqT.of ep⟩, fun D nD => ?_⟩
      have sD := same_upd (o := TSetO P w D []) nD
      refine sx_it (k := txtK P w) (walk_tup (xs := ys.map V.str)) (fun i H' => Same H3 H' ∧ ∃ ws : List Str, H' D = some (TSetO P w D ws) ∧ ws.Nodup ∧ (∀ x, x ∈ ws ↔ x ∈ (ys.take i).map (nu ns)) ∧ ws.length ≤ i)
        ⟨sD, [], upd_same, List.nodup_nil, fun _ => Iff.rfl, Nat.le_refl _⟩ (fun i H' _ z => SqT.of (z.1 _ _ ep)) ?_ ?_
      · rintro i v H4 H5 hi ⟨s4, ws, e4, once, mem, lw⟩ ⟨rfl, hv⟩
        rw [List.length_map] at hi
        rw [List.getElem?_map, List.getElem?_eq_getElem hi] at hv
        obtain rfl : v = .str ys[i] := (Option.some.inj hv).symm
        have ed4 := s4 _ _ ed3
        refine ⟨rfl, tYes_ite ⟨_, rfl, dd, rfl, .inl ⟨_, .inl ed4⟩, _, rfl, _, rfl, _, DGet.k (k := Sum.inr ys[i]) ed4, ?_⟩⟩
        rw [nu_get]
        have nx : ys.take (i + 1) = ys.take i ++ [ys[i]] := by rw [List.take_succ, List.getElem?_eq_getElem hi]; rfl
        refine ⟨nu ns ys[i], ws, rfl, e4, by unfold scanBound; omega, fun ws1 once1 c1 c2 => ⟨same_set s4 nD, ws1, upd_same, once1, fun x => ?_, ?_⟩⟩
        · rw [nx, List.map_append, List.mem_append, ← mem x]
          have mn : x ∈ [ys[i]].map (nu ns) ↔ x = nu ns ys[i] := by simp
          rw [mn]
          by_cases c : nu ns ys[i] ∈ ws
          · rw [c1 c]
            exact ⟨Or.inl, fun z => z.elim id fun z => by rw [z]; exact c⟩
          · rw [(c2 c).mem_iff, List.mem_cons]
            exact Or.comm
        · by_cases c : nu ns ys[i] ∈ ws
          · rw [c1 c]
            omega
          · rw [(c2 c).length_eq, List.length_cons]
            omega
      · rintro H4 ⟨s4, ws, e4, once, mem, lw⟩
        rw [List.length_map, List.take_length] at mem
        have fw := fewer_iff once mem
        refine ⟨D, ws, rfl, e4, _, rfl, p, _, rfl, .inr (SqT.of (s4 _ _ ep)), _, _, rfl, rfl, _, rfl, ?_⟩
        have ei : ((ws.length : Nat) : Int) < (((ys.map V.str).length : Nat) : Int) ↔ ¬ (ys.map (nu ns)).Nodup := by
          rw [List.length_map, ← fw]
          omega
        show ite _ _ _
        rcases h with ⟨col, q⟩ | ⟨free, q⟩
        · refine ifT (decide_eq_true (ei.mpr col)) fun b t nb nt ne => ⟨b, cO, t, none, rfl, upd_same, fr0_none ((s3.trans s4).free nb), raises_X O.oc O.oty, ?_⟩
          show E (.ref cO) none (delH _ b)
          rw [delH_two nb ne]
          exact q _ ((s3.trans s4).trans (same_upd nt))
        · exact ifF (decide_eq_false (fun z => ei.mp z free)) ⟨rfl, s3.trans s4, free⟩
    rintro σ4 H4 ⟨rfl, s4, free⟩
    rcases h with ⟨col, _⟩ | ⟨_, q⟩
    · exact absurd free col
    · exact ⟨_, rfl, _, rfl, a, dd, m, ns, rfl, Kz.same s4 _ _ hm, ok, s4 _ _ ed, nms, fun H' p m' s' np N kz => q H' p m' (s4.trans s') (s4.free np) N kz⟩
end
end K03
/-! renamed_machine(machine, **names) -/
namespace K03
open PySem PySem.Spec PyProof.Rows L2 WD NS MC GL
open C8 (pss_cut tCut)
abbrev sRenM : Stmt := topS 23
abbrev nRm : List Str := ["machine", "names"]
theorem scRenM : FnScope nRm ["machine", "names"] (defScope sRenM) := ⟨rfl, rfl, rfl, by decide +kernel, rfl, by decide +kernel, by decide +kernel⟩
theorem bind_kw0 {name qual : Str} {kV doc pm cdv ct : Value} {an : Option Addr} (v : Value) :
    bindArgs (PySem.W.fnOf name qual (defArgs sRenM) (defBody sRenM) (defScope sRenM) .none kV doc pm an cdv ct) { pos := [v] } = (do
      let d ← alloc { cls := .type "dict", data := .dict #[] }
      pure [("machine", v), ("names", .ref d)]) := rfl
/-- what renamed_machine makes of what machine_renamed_by makes: the dict of names is new -/
def spRenM0 (K : PySem.W.Frag) (cM cO : Addr) : Sp := fun vs H Q E => ∃ v : V, vs = [v] ∧ ∀ d, H d = none → spMRB K cM cO [v, .ref d] (upd H d (.dK [])) Q E
section
variable {P : Program} {w : World} {K : PySem.W.Frag} {mg : Str → Option Value} {base : Heap} {fM cM cO : Addr} {dM : FuncData} {k : Nat}
theorem fn_RenM0 {f : Addr} {fd : FuncData} (F : Fun K "renamed_machine" "renamed_machine" sRenM f fd) (hM : Df K mg "machine_renamed_by" sMRB ["machine", "names"] fM dM)
    (GM : FnOk P w K mg base (L2.CX P w) k fM dM ["machine", "names"] (spMRB K cM cO)) : FnR P w K mg base (L2.CX P w) (k + 1) f (spRenM0 K cM cO) := by
  intro A outer s H us vs Q E hr e0 rv h
  obtain ⟨oc, od, kV, doc, pm, an, cdv, ct, osl, rfl, hl, hc⟩ := F.ex
  obtain ⟨v, rfl, q⟩ := h
  have n0 : H s.heap.objs.size = none := e0.hok.fresh (Nat.le_refl _)
  cases rv with
  | cons r1 rr =>
    cases rr
    rename_i u
    refine StX.run_bnd (N := nRm) (ps := ["machine", "names"]) (G := fun vs H2 => ∃ d, H d = none ∧ vs = [v, .ref d] ∧ H2 = upd H d (.dK [])) hl hc scRenM hr e0 ?_ ?_
    · intro A' Ex Q' h'
      rw [bind_kw0]
      refine wpAny_bind (wpAny_alloc (wpAny_pure ?_))
      have okD : ObjOk P w (upd H s.heap.objs.size (.dK [])) (s.heap.push { cls := .type "dict", data := .dict #[] }) s.heap.objs.size (.dK []) := by
        refine ⟨Nat.zero_le _, ?_, [], .nil, Heap.DictOf.new _⟩
        have b := StX.env0_big e0
        exact beq_false_of_ne (Nat.ne_of_gt b)
      refine h' _ (upd H s.heap.objs.size (.dK [])) [v, .ref s.heap.objs.size] [u, .ref s.heap.objs.size] (StX.env0_laid e0 okD) (StX.un_laid n0) rfl (fun e s' z => ?_) (.cons r1 (.cons rfl .nil)) rfl ⟨_, n0, rfl, rfl⟩
      exact StX.cxUp outer s H { s with heap := s.heap.push { cls := .type "dict", data := .dict #[] } } (upd H s.heap.objs.size (.dK [])) E e s' (StX.un_laid n0) (fun b o eb => Heap.get?_push_of_some _ eb) rfl z
    · rintro s2 H2 vs2 ⟨d, nd, rfl, rfl⟩ hr2
      refine ⟨_, pss_one (ps_ret (pe_callS GM hr2 (by rfl) hM.g hM.F.kp hM.b (passAt (takes_of rfl rfl rfl rfl)) (pa_cons (pv 0) (pa_cons (pv 1) pa_nil)))), ?_⟩
      exact ⟨_, rfl, _, rfl, q d nd⟩
end
end K03
/-! Machines under other names, on lists alone: what the new machine is, and back. -/
namespace K03
open PySem PySem.Spec PyProof.Rows L2 WD NS MC GL
theorem map_inj {f : Str → Str} : ∀ {ys : List Str}, (ys.map f).Nodup → ∀ a ∈ ys, ∀ b ∈ ys, f a = f b → a = b
  | [], _, a, h, _, _, _ => nomatch h
  | y :: ys, nd, a, ha, b, hb, e => by
    rw [List.map_cons, List.nodup_cons] at nd
    rcases List.mem_cons.mp ha with ea | ha
    · rcases List.mem_cons.mp hb with eb | hb
      · rw [ea, eb]
      · exact absurd (by rw [← ea, e]; exact List.mem_map_of_mem hb) nd.1
    · rcases List.mem_cons.mp hb with eb | hb
      · exact absurd (by rw [← eb, ← e]; exact List.mem_map_of_mem ha) nd.1
      · exact map_inj nd.2 a ha b hb e
theorem renR_inj {ns : List (Str × Str)} {m : MachM} {ys : List Str} (near : NearOf m ys) (nd : (ys.map (nu ns)).Nodup) {r s : RowM} (hr : r ∈ m.rows) (hs : s ∈ m.rows) (e : renR ns r = renR ns s) : r = s := by
  obtain ⟨b1, d1, a1⟩ := r
  obtain ⟨b2, d2, a2⟩ := s
  simp only [renR, RowM.mk.injEq] at e
  obtain ⟨rfl, e, rfl⟩ := e
  cases d1 with
  | step =>
    cases d2 with
    | step => rfl
    | ex b n l => exact nomatch e
  | ex b n l =>
    cases d2 with
    | step => exact nomatch e
    | ex b' n' l' =>
      simp only [renD, Deed.ex.injEq] at e
      obtain ⟨rfl, e, rfl⟩ := e
      rw [map_inj nd n ((near.mem n).mpr ⟨_, hr, b, l, rfl⟩) n' ((near.mem n').mpr ⟨_, hs, b, l, rfl⟩) e]
theorem NewOf.ok {ns : List (Str × Str)} {m m' : MachM} {ys : List Str} (N : NewOf ns m m') (ok : m.Ok) (nms : Nms ns) (near : NearOf m ys) (nd : (ys.map (nu ns)).Nodup) : m'.Ok := by
  have len : m'.rows.length = m.rows.length := N.perm.length_eq.trans (List.length_map _)
  refine ⟨N.size ▸ ok.s0, N.size ▸ ok.s1, fun k hk => ?_, N.fin ▸ ok.f2, N.fin ▸ ok.f3, fun r hr => ?_, ?_, len ▸ ok.r3⟩
  · rw [N.size]
    exact ok.f1 k (N.fin ▸ hk)
  · obtain ⟨s, hs, rfl⟩ := List.mem_map.mp (N.perm.mem_iff.mp hr)
    rw [N.size]
    exact renR_ok nms (ok.r1 s hs)
  · have d0 : m.rows.Pairwise (· ≠ ·) := ok.r2.imp fun {r s} h e => by
      subst e
      have h' : lexI (PySem.W.keyToks r.key.data) (PySem.W.keyToks r.key.data) = true := h
      rw [lex_asym _ _ h'] at h'
      exact nomatch h'
    have d1 : (m.rows.map (renR ns)).Nodup := List.pairwise_map.mpr (d0.imp_of_mem fun hr hs ne e => ne (renR_inj near nd hr hs e))
    have d2 : m'.rows.Nodup := (N.perm.nodup_iff).mpr d1
    refine (N.asc.and d2).imp fun {r s} h => ?_
    exact lt_of_le (row_alike r s) (fun e => h.2 (row_inj e)) h.1
theorem lt_le {r s : RowM} (h : rowLt r s) : rowLeM r s := by
  have h' : lexI (PySem.W.keyToks r.key.data) (PySem.W.keyToks s.key.data) = true := h
  exact lex_asym _ _ h'
/-- the names back -/
def back (ns : List (Str × Str)) (ys : List Str) : List (Str × Str) := ys.map fun y => (nu ns y, y)
theorem nu_back {ns : List (Str × Str)} : ∀ {ys : List Str}, (ys.map (nu ns)).Nodup → ∀ y ∈ ys, nu (back ns ys) (nu ns y) = y
  | [], _, y, h => nomatch h
  | z :: ys, nd, y, h => by
    rw [back, List.map_cons, nu]
    rw [List.map_cons, List.nodup_cons] at nd
    rcases List.mem_cons.mp h with e | h
    · rw [e, if_pos rfl]
    · rw [if_neg (show ¬ nu ns z = nu ns y from fun e => nd.1 (by rw [e]; exact List.mem_map_of_mem h))]
      exact nu_back nd.2 y h
theorem NewOf.near {ns : List (Str × Str)} {m m' : MachM} {ys zs : List Str} (N : NewOf ns m m') (near : NearOf m ys) (near' : NearOf m' zs) (x : Str) : x ∈ zs ↔ x ∈ ys.map (nu ns) := by
  rw [near'.mem, List.mem_map]
  constructor
  · rintro ⟨r, hr, b, l, e⟩
    obtain ⟨s, hs, rfl⟩ := List.mem_map.mp (N.perm.mem_iff.mp hr)
    have e' : renD ns s.deed = .ex b x l := e
    cases hd : s.deed with
    | step => rw [hd] at e'; exact nomatch e'
    | ex b2 n2 l2 =>
      rw [hd] at e'
      simp only [renD, Deed.ex.injEq] at e'
      exact ⟨n2, (near.mem n2).mpr ⟨s, hs, b2, l2, hd⟩, e'.2.1⟩
  · rintro ⟨y, hy, rfl⟩
    obtain ⟨s, hs, b, l, e⟩ := (near.mem y).mp hy
    refine ⟨renR ns s, N.perm.mem_iff.mpr (List.mem_map_of_mem hs), b, l, ?_⟩
    show renD ns s.deed = _
    rw [e]
    rfl
theorem NewOf.few {ns : List (Str × Str)} {m m' : MachM} {ys zs : List Str} (N : NewOf ns m m') (near : NearOf m ys) (near' : NearOf m' zs) : zs.length < ys.length ↔ ¬ (ys.map (nu ns)).Nodup := fewer_iff near'.once (N.near near near')
theorem NewOf.len {ns : List (Str × Str)} {m m' : MachM} (N : NewOf ns m m') : m'.rows.length = m.rows.length := N.perm.length_eq.trans (List.length_map _)
theorem NewOf.back {ns : List (Str × Str)} {m m' : MachM} {ys : List Str} (N : NewOf ns m m') (ok : m.Ok) (near : NearOf m ys) (nd : (ys.map (nu ns)).Nodup) : NewOf (back ns ys) m' m := by
  refine ⟨N.size.symm, N.fin.symm, ?_, ok.r2.imp lt_le⟩
  have e : (m.rows.map (renR ns)).map (renR (K03.back ns ys)) = m.rows := by
    rw [List.map_map]
    refine (List.map_congr_left fun r hr => ?_).trans (List.map_id _)
    obtain ⟨b, d, a⟩ := r
    cases d with
    | step => rfl
    | ex b2 n l =>
      show (⟨b, .ex b2 (nu (K03.back ns ys) (nu ns n)) l, a⟩ : RowM) = _
      rw [nu_back nd n ((near.mem n).mpr ⟨_, hr, b2, l, rfl⟩)]
      rfl
  have p := N.perm.map (renR (K03.back ns ys))
  rw [e] at p
  exact p.symm
theorem back_inj {ns : List (Str × Str)} {m m' : MachM} {ys zs : List Str} (N : NewOf ns m m') (near : NearOf m ys) (near' : NearOf m' zs) (nd : (ys.map (nu ns)).Nodup) : (zs.map (nu (back ns ys))).Nodup := by
  refine List.pairwise_map.mpr (near'.once.imp_of_mem fun {a b} ha hb ne e => ne ?_)
  obtain ⟨y, hy, rfl⟩ := List.mem_map.mp ((N.near near near' a).mp ha)
  obtain ⟨z, hz, rfl⟩ := List.mem_map.mp ((N.near near near' b).mp hb)
  rw [nu_back nd y hy, nu_back nd z hz] at e
  rw [e]
theorem back_keys {ns : List (Str × Str)} {ys : List Str} : (back ns ys).map (·.1) = ys.map (nu ns) := by
  rw [back, List.map_map]
  rfl
theorem back_nms {ns : List (Str × Str)} {ys : List Str} (nms : Nms ns) (h : ∀ y ∈ ys, Wd y) : Nms (back ns ys) := by
  intro p hp
  obtain ⟨y, hy, rfl⟩ := List.mem_map.mp hp
  exact ⟨nu_wd nms (h y hy), h y hy⟩
/-! dicts of texts -/
def putN (ns : List (Str × Str)) (a b : Str) : List (Str × Str) := if (ns.any fun p => decide (p.1 = a)) = true then ns.map (fun p => if p.1 = a then (p.1, b) else p) else ns ++ [(a, b)]
theorem putK_kvS (ns : List (Str × Str)) (a b : Str) : putK (kvS ns) (Sum.inr a) (V.str b) = kvS (putN ns a b) := by
  have e : ((kvS ns).any fun kv => decide (kv.1 = Sum.inr a)) = ns.any fun p => decide (p.1 = a) := by
    rw [kvS, List.any_map]
    congr 1
    funext p
    show decide ((Sum.inr p.1 : Key) = Sum.inr a) = _
    rw [key_rr]
  unfold putK putN
  rw [e]
  by_cases c : (ns.any fun p => decide (p.1 = a)) = true
  · rw [if_pos c, if_pos c, kvS, kvS, List.map_map, List.map_map]
    refine List.map_congr_left fun p _ => ?_
    show (if (Sum.inr p.1 : Key) = Sum.inr a then _ else _) = _
    by_cases c2 : p.1 = a
    · rw [if_pos (by rw [c2])]
      show _ = ((Sum.inr (if p.1 = a then (p.1, b) else p).1 : Key), V.str (if p.1 = a then (p.1, b) else p).2)
      rw [if_pos c2]
    · rw [if_neg fun z => c2 (Sum.inr.inj z)]
      show _ = ((Sum.inr (if p.1 = a then (p.1, b) else p).1 : Key), V.str (if p.1 = a then (p.1, b) else p).2)
      rw [if_neg c2]
  · rw [if_neg c, if_neg c, kvS, kvS, List.map_append]
    rfl
theorem putN_len (ns : List (Str × Str)) (a b : Str) : (putN ns a b).length ≤ ns.length + 1 := by
  unfold putN
  split
  · rw [List.length_map]; omega
  · rw [List.length_append]; exact Nat.le_refl _
theorem putN_nms {ns : List (Str × Str)} {a b : Str} (h : Nms ns) (ha : Wd a) (hb : Wd b) : Nms (putN ns a b) := by
  intro p hp
  unfold putN at hp
  split at hp
  · obtain ⟨q, hq, rfl⟩ := List.mem_map.mp hp
    by_cases c : q.1 = a
    · rw [if_pos c]
      exact ⟨(h q hq).1, hb⟩
    · rw [if_neg c]
      exact h q hq
  · rcases List.mem_append.mp hp with z | z
    · exact h p z
    · rw [List.mem_singleton.mp z]
      exact ⟨ha, hb⟩
theorem mergeK_new : ∀ (ns : List (Str × Str)) (kvs : List (Key × V)), (ns.map (·.1)).Nodup → (∀ p ∈ ns, ∀ q ∈ kvs, q.1 ≠ Sum.inr p.1) → mergeK kvs (kvS ns) = kvs ++ kvS ns
  | [], kvs, _, _ => (List.append_nil _).symm
  | p :: ns, kvs, nd, h => by
    rw [List.map_cons, List.nodup_cons] at nd
    have e : putK kvs (Sum.inr p.1) (V.str p.2) = kvs ++ [(Sum.inr p.1, V.str p.2)] := by
      unfold putK
      rw [if_neg]
      intro z
      obtain ⟨q, hq, e⟩ := List.any_eq_true.mp z
      exact h p List.mem_cons_self q hq (of_decide_eq_true e)
    show mergeK (putK kvs (Sum.inr p.1) (V.str p.2)) (kvS ns) = _
    rw [e, mergeK_new ns _ nd.2 fun q hq r hr => ?_, List.append_assoc]
    · rfl
    · rcases List.mem_append.mp hr with z | z
      · exact h q (List.mem_cons_of_mem _ hq) r z
      · rw [List.mem_singleton.mp z]
        intro y
        refine nd.1 ?_
        rw [Sum.inr.inj y]
        exact List.mem_map_of_mem hq
theorem mergeK_kvS {ns : List (Str × Str)} (nd : (ns.map (·.1)).Nodup) : mergeK [] (kvS ns) = kvS ns := mergeK_new ns [] nd fun _ _ _ z => nomatch z
end K03
/-! A name stored in a tracked dict of texts: what **names makes. -/
namespace NM
open PySem PySem.Spec PyProof.Rows L2
theorem pairs_mem {P : Program} {w : World} {es : List DictEntry} {vs : List (Key × Value)} (h : Pairs (mixKind P w) es vs) : ∀ e ∈ es, ∃ kv ∈ vs, (mixKind P w).is kv.1 e.key = true := by
  induction h with
  | nil => intro e he; exact nomatch he
  | @cons e0 kv es kvs h1 h2 _ ih =>
    intro e he
    rcases List.mem_cons.mp he with rfl | he
    · exact ⟨kv, List.mem_cons_self, h1⟩
    · obtain ⟨q, hq, z⟩ := ih e he
      exact ⟨q, List.mem_cons_of_mem _ hq, z⟩
theorem wpAny_nsSet_mix {P : Program} {w : World} {A : Around} {E : Value → Shared → Prop} {s : Shared} {a : Addr} {vs : List (Key × Value)} {name : Str} {v : Value} {Q : Unit → Shared → Prop}
    (dd : s.heap.DictOf (mixKind P w) a vs) (hn : (Sum.inr name : Key) ∉ vs.map (·.1)) (ht : ∀ kv ∈ vs, ∃ x : Str, kv.1 = Sum.inr x)
    (h : ∀ h', h'.DictOf (mixKind P w) a (vs ++ [(Sum.inr name, v)]) → Heap.SameBut a s.heap h' → Q () { s with heap := h', toks := s.toks + 1 }) :
    wpAny (model P w) A (nsSet a name v) Q E s := by
  obtain ⟨o, es, ep, ho, hx, hd, hk, hp, nd⟩ := dd
  have hkey : ∀ e ∈ es, ∃ (x : Str) (t : Tok), e.key = .str x t ∧ x ≠ name := fun e he => by
    obtain ⟨kv, hkv, z⟩ := pairs_mem hp e (Array.mem_toList_iff.mpr he)
    obtain ⟨x, ex⟩ := ht kv hkv
    rw [ex] at z
    rcases keyIs_shape (show keyIs (Sum.inr x) e.key = true from z) with ⟨i, t, e1, _⟩ | ⟨y, t, e1, e2⟩
    · exact nomatch e1
    · cases e1
      refine ⟨x, t, e2, fun e3 => hn ?_⟩
      rw [← e3, ← ex]
      exact List.mem_map_of_mem hkv
  have hany : es.any (·.refKey) = false := by
    rw [Array.any_eq_false']
    intro e he
    obtain ⟨x, t, ek, _⟩ := hkey e he
    simp [DictEntry.refKey, ek]
  have hidx : es.findIdx? (·.key.isStr name) = none := by
    rw [Array.findIdx?_eq_none_iff]
    intro e he
    obtain ⟨x, t, ek, ne⟩ := hkey e he
    simp [ek, Value.isStr, ne]
  unfold nsSet strHash
  refine wpAny_bind (wpAny_bind (wpAny_askSetting (wpAny_pure ?_)))
  refine wpAny_bind (wpAny_mkText ?_)
  refine wpAny_bind (wpAny_loadPart ho ?_)
  rw [hd]
  have hno : aRefKeyMayBeTheName name es = false := by
    rw [aRefKeyMayBeTheName_eq, aRefKeyMayBeTheNameByArray, hany, Bool.and_false]
  show wpAny _ _ (if aRefKeyMayBeTheName name es = true then _ else _) _ _ _
  rw [hno, if_neg Bool.false_ne_true]
  refine wpAny_updatePart ho ?_
  have hH : (if name.cps.isEmpty = true then 0 else reduceHash (w.params.strHash name.cps)) = (mixKind P w).hash (Sum.inr name) := rfl
  refine h _ ?_ (Heap.SameBut.update ..)
  obtain ⟨c, d, dt, sl⟩ := o
  subst hd
  refine ⟨_, es.push ⟨(mixKind P w).hash (Sum.inr name), .str name s.toks, v⟩, ep + 1, Heap.get?_update_self _ ho ?_, ?_, ?_, hk.push (k := (Sum.inr name : Key)) (mixKind_str P w name _) v, ?_, ?_⟩
  · simp only [Obj.putName_eq, Obj.putNameByArray, hidx]; rfl
  · simp only [Obj.putName_eq, Obj.putNameByArray, hidx]; exact hx
  · simp only [Obj.putName_eq, Obj.putNameByArray, hidx]; rfl
  · rw [Array.toList_push]
    exact hp.append (k := (Sum.inr name : Key)) (mixKind_str P w name _) _ v
  · rw [List.map_append, List.nodup_append]
    refine ⟨nd, by simp, fun x hx y hy => ?_⟩
    rw [List.map_singleton, List.mem_singleton] at hy
    subst hy
    rintro rfl
    exact hn hx
end NM
/-! What a def with one parameter and **kw binds, called with one value and written keywords. -/
namespace NM
open PySem PySem.Spec PyProof.Rows L2
theorem wpAny_setAll {P : Program} {w : World} {A : Around} {E : Value → Shared → Prop} {a : Addr} {g : Str × Value → PUnit → Sem (ForInStep PUnit)} (hg : ∀ kv u, g kv u = (nsSet a kv.1 kv.2 >>= fun _ => pure (.yield ⟨⟩))) :
    ∀ (kvs : List (Str × Value)) (s : Shared) (vs : List (Key × Value)) (Q : PUnit → Shared → Prop), s.heap.DictOf (mixKind P w) a vs → (∀ kv ∈ vs, ∃ x : Str, kv.1 = Sum.inr x) → (kvs.map (·.1)).Nodup → (∀ kv ∈ kvs, (Sum.inr kv.1 : Key) ∉ vs.map (·.1)) →
      (∀ h' t', h'.DictOf (mixKind P w) a (vs ++ kvs.map fun kv => ((Sum.inr kv.1 : Key), kv.2)) → Heap.SameBut a s.heap h' → Q ⟨⟩ { s with heap := h', toks := t' }) → wpAny (model P w) A (forIn kvs PUnit.unit g) Q E s
  | [], s, vs, Q, dd, _, _, _, h => by
    rw [List.forIn_nil]
    refine wpAny_pure (h s.heap s.toks ?_ (.refl ..))
    rw [List.map_nil, List.append_nil]
    exact dd
  | kv :: r, s, vs, Q, dd, ht, nd, hn, h => by
    rw [List.forIn_cons]
    rw [List.map_cons, List.nodup_cons] at nd
    refine wpAny_bind ?_
    rw [hg]
    refine wpAny_bind (wpAny_nsSet_mix dd (hn kv List.mem_cons_self) ht fun h' dd' sb => wpAny_pure ?_)
    refine wpAny_setAll hg r _ (vs ++ [(Sum.inr kv.1, kv.2)]) Q dd' (fun p hp => ?_) nd.2 (fun p hp z => ?_) (fun h2 t2 dd2 sb2 => ?_)
    · rcases List.mem_append.mp hp with hp | hp
      · exact ht p hp
      · rw [List.mem_singleton.mp hp]
        exact ⟨_, rfl⟩
    · rw [List.map_append, List.mem_append] at z
      rcases z with z | z
      · exact hn p (List.mem_cons_of_mem _ hp) z
      · rw [List.map_singleton, List.mem_singleton] at z
        refine nd.1 ?_
        rw [← Sum.inr.inj z]
        exact List.mem_map_of_mem hp
    · rw [List.append_assoc] at dd2
      exact h h2 t2 dd2 (sb.trans sb2)
variable {P : Program} {w : World} {A : Around} {Ex : Value → Shared → Prop} {s : Shared} {fd : FuncData} {x y : Str} {px py : Pos} {v : Value}
theorem bind_kw (hp : fd.params.posonlyargs = []) (ha : fd.params.args.map (·.arg) = [x]) (hv : fd.params.vararg = none) (hk : fd.params.kwonlyargs = []) (hw : fd.params.kwarg.map (·.arg) = some y) (hd : fd.defaults = .none)
    {kvs : List (Str × Value)} (nx : ∀ kv ∈ kvs, kv.1 ≠ x) (nd : (kvs.map (·.1)).Nodup) (few : kvs.length ≤ 64) {Q : List (Str × Value) → Shared → Prop}
    (h : ∀ h' t', h'.DictOf (mixKind P w) s.heap.objs.size (kvs.map fun kv => ((Sum.inr kv.1 : Key), kv.2)) → Heap.SameBut s.heap.objs.size (s.heap.push { cls := .type "dict", data := .dict #[] }) h' → Q [(x, v), (y, .ref s.heap.objs.size)] { s with heap := h', toks := t' }) :
    wpAny (model P w) A (bindArgs fd ⟨[v], kvs⟩) Q Ex s := by
  obtain ⟨ay, ey, eyy⟩ : ∃ a, fd.params.kwarg = some a ∧ a.arg = y := by
    cases e : fd.params.kwarg with
    | none => rw [e] at hw; exact nomatch hw
    | some a => rw [e] at hw; exact ⟨a, rfl, Option.some.inj hw⟩
  unfold bindArgs
  simp only [hp, ha, hv, hk, ey, hd, List.map_nil, List.nil_append, List.append_nil, List.length_singleton, List.zip_cons_cons, List.zip_nil_right, Option.isSome_some, Option.isNone_none, if_true]
  refine wpAny_bind (wpAny_forIn_list _ (fun rest b s' => s' = s ∧ b.1 = [(x, v)] ∧ b.2 ++ rest = kvs) _ ?_ ?_ _ _ ⟨rfl, rfl, rfl⟩)
  · rintro ⟨k, u⟩ rest b s' ⟨rfl, e1, e2⟩
    have ne : k ≠ x := nx (k, u) (by rw [← e2]; exact List.mem_append_right _ List.mem_cons_self)
    have c : ([x].contains k || [].contains k) = false := by simp [ne]
    rw [if_neg (by rw [c]; exact Bool.false_ne_true)]
    refine wpAny_pure ⟨rfl, e1, ?_⟩
    rw [List.append_assoc]
    exact e2
  · rintro ⟨b1, b2⟩ s' ⟨rfl, e1, e2⟩
    have e1' : b1 = [(x, v)] := e1
    have e2' : b2 = kvs := (List.append_nil b2).symm.trans e2
    clear e1 e2
    subst e1' e2'
    have z : seqItems? Value.none = pure none := rfl
    have few2 : ¬ (b2.length > sizeLine + 1) := by unfold sizeLine; omega
    have lk : List.lookup x [(x, v)] = some v := by simp [List.lookup]
    simp only [z, pure_bind, Option.getD_none, List.drop_nil, List.length_nil, Nat.sub_zero, List.take_one, List.drop_one, List.tail_cons, List.zip_nil_right, List.forIn_nil, lk, if_neg few2, List.head?_cons, Option.toList_some, List.isEmpty_nil, Bool.not_true, if_false, Bool.false_eq_true, List.filter_cons, List.filter_nil, Option.isNone_some, List.filterMap_cons, List.filterMap_nil, Option.map_some,
      decide_false, Bool.false_and, gt_iff_lt, Nat.lt_irrefl]
    refine wpAny_bind (wpAny_alloc (wpAny_bind (wpAny_setAll (fun _ _ => rfl) b2 _ [] _ (Heap.DictOf.new _) (fun _ z => nomatch z) nd (fun _ _ z => nomatch z) fun h' t' dd sb => wpAny_pure ?_)))
    rw [eyy]
    exact h h' t' dd sb

/-- what a def with one parameter and **kw promises of a call with these keywords -/
def FnKW (P : Program) (w : World) (K : PySem.W.Frag) (mg : Str → Option Value) (base : Heap) (CX : CXT) (k : Nat) (f : Addr) (ks : List Str) (sp : V → List V → Hp → VK → XK → Prop) : Prop :=
  ∀ (A : Around) (outer : List Env) (s : Shared) (H : Hp) (u : Value) (v : V) (ws : List Value) (zs : List V) (Q : VK) (E : XK), Room k A → Env0 P w K mg base A outer s H → RelV v u → Vals zs ws → zs.length = ks.length → sp v zs H Q E →
    codeAny (model P w) A (.call (.ref f) ⟨[u], ks.zip ws⟩) (CR CX outer P w H s Q E) s
def tCallW (ks : List Str) (sp : V → List V → Hp → VK → XK → Prop) (E : XK) (t tk : TA) : TE := fun σ H Q => t σ H fun vs H1 => ∃ v, vs = [v] ∧ tk σ H1 fun zs H2 => zs.length = ks.length ∧ sp v zs H2 Q E
theorem pe_callW {X : Cx} {CX : CXT} {k : Nat} {f : Addr} {ks : List Str} {sp : V → List V → Hp → VK → XK → Prop} {E : XK} {x : Str} {p pos : Pos} {e : Expr} {kws : List Keyword} {t tk : TA} (F : FnKW X.prog X.w X.K X.mg X.base CX k f ks sp) (hr : Room k X.A) (hg : Gl X x) (hm : X.mg x = some (.ref f)) (hk : PySem.W.keepIn X.K (.ref f) = true) (hx : Passes CX X E)
    (ha : PA X [e] t) (hkw : PK X kws tk) (hall : (backToKw pos (keywordEach kws X.env)).all (·.1.isSome) = true := by rfl) (hks : (backToKw pos (keywordEach kws X.env)).filterMap (·.1) = ks := by rfl)
    (hdb : (x == ("__debug__" : Str)) = false := by decide) (he : starEach [e] X.env = (false, eval e X.env) :: starEach [] X.env := by rfl)
    (hpl : ((backTo pos (starEach [e] X.env)).any (·.1) || (backToKw pos (keywordEach kws X.env)).any (·.1.isNone)) = false := by rfl) :
    PE X (.Call (.Name x p) [e] kws pos) (tCallW ks sp E t tk) := by
  refine ⟨fun pins s σ H Q I h => ?_⟩
  refine wpAny_Call_Name_kw (ld_glob I hg hm ?_ hdb)
  refine PySem.W.callWith_KW (h₀ := X.base) I.ok.mod.kin hk hall (thn (ha.run pos pins s σ H _ I h) fun us s1 ⟨vs, H1, I1, r, v, ev, q⟩ => ?_) hpl he
  subst ev
  refine thn (hkw.run pos pins s1 σ H1 _ I1 q) fun ws s2 ⟨zs, H2, I2, rz, l, q2⟩ => ⟨I2.kIn, ?_⟩
  rw [hks]
  cases r with
  | cons r1 rr =>
    cases rr
    refine wpAny_call (codeAny_mono (F X.A X.stack s2 H2 _ v ws zs Q E hr I2.env0 r1 rz l q2) fun r s' hq => ?_)
    cases r with
    | error e => exact hx pins σ H2 s2 e s' I2 hq
    | ok fl =>
      cases fl with
      | ret u => exact I2.after hq
      | next => exact False.elim hq
      | brk => exact False.elim hq
      | cont => exact False.elim hq
end NM
/-! renamed_machine(machine, a='b', ..) -/
namespace K03
open PySem PySem.Spec PyProof.Rows L2 WD NS MC GL
open C8 (pss_cut tCut)
theorem kv_zip : ∀ {ks : List Str} {zs : List V} {ws : List Value}, Vals zs ws → KV ((ks.zip zs).map fun p => ((Sum.inr p.1 : Key), p.2)) ((ks.zip ws).map fun p => ((Sum.inr p.1 : Key), p.2))
  | [], _, _, _ => .nil
  | _ :: _, _, _, .nil => .nil
  | _ :: _, _, _, .cons r t => .cons ⟨rfl, r⟩ (kv_zip t)
theorem zip_fst {ws : List Value} {ks : List Str} (h : ks.length = ws.length) : (ks.zip ws).map (·.1) = ks := List.map_fst_zip (by omega)
section
variable {P : Program} {w : World} {K : PySem.W.Frag} {mg : Str → Option Value} {base : Heap} {A : Around} {outer : List Env} {s : Shared} {H : Hp}
theorem env0_new {h2 : Heap} {t2 : Nat} {u : HO} (e0 : Env0 P w K mg base A outer s H) (kp : ∀ b x, s.heap.get? b = some x → h2.get? b = some x) (sz : s.heap.objs.size ≤ h2.objs.size) (new : ObjOk P w (upd H s.heap.objs.size u) h2 s.heap.objs.size u) :
    Env0 P w K mg base A outer { s with heap := h2, toks := t2 } (upd H s.heap.objs.size u) := by
  refine ⟨e0.frames, e0.mod, fun b x e => ⟨kp b x (e0.bs b x e).1, ?_⟩, Nat.le_trans e0.bsz sz, Heap.FunFrames.of_keeps (fun b x e _ => ⟨x, kp b x e, rfl⟩) e0.funs, fun b hb => ?_, e0.hok.laid kp (Nat.le_refl _) new, e0.bare⟩
  · rw [upd_ne (Nat.ne_of_lt (Heap.lt_size (e0.bs b x e).1))]
    exact (e0.bs b x e).2
  · obtain ⟨_, x, hx, _⟩ := e0.funs.mem hb
    rw [upd_ne (Nat.ne_of_lt (Heap.lt_size hx))]
    exact e0.frf b hb
end
abbrev kwV (ks : List Str) (zs : List V) : List (Key × V) := (ks.zip zs).map fun p => ((Sum.inr p.1 : Key), p.2)
def spRenMK (K : PySem.W.Frag) (cM cO : Addr) (ks : List Str) : V → List V → Hp → VK → XK → Prop := fun v zs H Q E => ∀ d, H d = none → spMRB K cM cO [v, .ref d] (upd H d (.dK (kwV ks zs))) Q E
section
variable {P : Program} {w : World} {K : PySem.W.Frag} {mg : Str → Option Value} {base : Heap} {fM cM cO : Addr} {dM : FuncData} {k : Nat}
theorem fn_RenMK {f : Addr} {fd : FuncData} (F : Fun K "renamed_machine" "renamed_machine" sRenM f fd) (hM : Df K mg "machine_renamed_by" sMRB ["machine", "names"] fM dM)
    (GM : FnOk P w K mg base (L2.CX P w) k fM dM ["machine", "names"] (spMRB K cM cO)) {ks : List Str} (nm : ∀ x ∈ ks, x ≠ "machine") (nd : ks.Nodup) (few : ks.length ≤ 64) : NM.FnKW P w K mg base (L2.CX P w) (k + 1) f ks (spRenMK K cM cO ks) := by
  intro A outer s H u v ws zs Q E hr e0 r1 rz lz q
  obtain ⟨oc, od, kV, doc, pm, an, cdv, ct, osl, rfl, hl, hc⟩ := F.ex
  have n0 : H s.heap.objs.size = none := e0.hok.fresh (Nat.le_refl _)
  have lw : ks.length = ws.length := lz.symm.trans rz.length
  refine StX.run_bnd (N := nRm) (ps := ["machine", "names"]) (args := ⟨[u], ks.zip ws⟩) (G := fun vs H2 => ∃ d, H d = none ∧ vs = [v, .ref d] ∧ H2 = upd H d (.dK (kwV ks zs))) hl hc scRenM hr e0 ?_ ?_
  · intro A' Ex Q' h'
    refine NM.bind_kw (x := "machine") (y := "names") rfl rfl rfl rfl rfl rfl (fun kv hkv => nm _ ?_) ?_ ?_ fun h2 t2 dd sb => ?_
    · have := List.mem_map_of_mem (f := (·.1)) hkv
      rw [zip_fst lw] at this
      exact this
    · rw [zip_fst lw]
      exact nd
    · rw [List.length_zip]
      omega
    have kp : ∀ b x, s.heap.get? b = some x → h2.get? b = some x := fun b x e => by
      have ne : b ≠ s.heap.objs.size := Nat.ne_of_lt (Heap.lt_size e)
      exact (sb.2 b ne).trans (Heap.get?_push_of_some _ e)
    have sz : s.heap.objs.size ≤ h2.objs.size := by
      obtain ⟨o, _, _, ho, _⟩ := dd
      exact Nat.le_of_lt (Heap.lt_size ho)
    have okD : ObjOk P w (upd H s.heap.objs.size (.dK (kwV ks zs))) h2 s.heap.objs.size (.dK (kwV ks zs)) := by
      refine ⟨?_, ?_, _, kv_zip rz, dd⟩
      · rw [List.length_map, List.length_zip, sizeLine_eq]
        omega
      · have b := StX.env0_big e0
        exact beq_false_of_ne (Nat.ne_of_gt b)
    have un : Un (frs outer) [] H (upd H s.heap.objs.size (.dK (kwV ks zs))) s.heap h2 := Un.laid kp (Nat.le_refl _) n0
    refine h' _ (upd H s.heap.objs.size (.dK (kwV ks zs))) [v, .ref s.heap.objs.size] [u, .ref s.heap.objs.size] (env0_new e0 kp sz okD) un rfl (fun e s' z => ?_) (.cons r1 (.cons rfl .nil)) rfl ⟨_, n0, rfl, rfl⟩
    exact StX.cxUp outer s H { s with heap := h2, toks := t2 } (upd H s.heap.objs.size (.dK (kwV ks zs))) E e s' un kp rfl z
  · rintro s2 H2 vs2 ⟨d, nd, rfl, rfl⟩ hr2
    refine ⟨_, pss_one (ps_ret (pe_callS GM hr2 (by rfl) hM.g hM.F.kp hM.b (passAt (takes_of rfl rfl rfl rfl)) (pa_cons (pv 0) (pa_cons (pv 1) pa_nil)))), ?_⟩
    exact ⟨_, rfl, _, rfl, q d nd⟩
end
end K03
/-! Data that may hold an empty dict, its repr; a list display that stands behind what the start has laid. -/
namespace GL
open PySem PySem.Spec PyProof.Rows L2
mutual
/-- data, all of it new -/
inductive Dz (H : Hp) : V → PyData → Prop
  | non : Dz H .non .none
  | bl (b : Bool) : Dz H (.bl b) (.bool b)
  | int (i : Int) : Dz H (.int i) (.int i)
  | str (x : Str) : Dz H (.str x) (.str x)
  | lst {a : Addr} {xs : List V} {ds : List PyData} : 4 ≤ a → H a = some (.lst xs) → DzAll H xs ds → Dz H (.ref a) (.list ds)
  | tup {a : Addr} {xs : List V} {ds : List PyData} : H a = some (.tup xs) → DzAll H xs ds → Dz H (.ref a) (.tuple ds)
  | emp {a : Addr} : H a = some (.dK []) → Dz H (.ref a) (.dict [])
inductive DzAll (H : Hp) : List V → List PyData → Prop
  | nil : DzAll H [] []
  | cons {v : V} {vs : List V} {d : PyData} {ds : List PyData} : Dz H v d → DzAll H vs ds → DzAll H (v :: vs) (d :: ds)
end
mutual
theorem Dz.same {H H' : Hp} (s : Same H H') : ∀ (d : PyData) (v : V), Dz H v d → Dz H' v d
  | .none, _, h => by cases h; exact .non
  | .bool b, _, h => by cases h; exact .bl b
  | .int i, _, h => by cases h; exact .int i
  | .str x, _, h => by cases h; exact .str x
  | .list ds, _, h => by cases h with | lst h4 e h => exact .lst h4 (s _ _ e) (DzAll.same s ds _ h)
  | .tuple ds, _, h => by cases h with | tup e h => exact .tup (s _ _ e) (DzAll.same s ds _ h)
  | .dict kvs, _, h => by cases h with | emp e => exact .emp (s _ _ e)
theorem DzAll.same {H H' : Hp} (s : Same H H') : ∀ (ds : List PyData) (vs : List V), DzAll H vs ds → DzAll H' vs ds
  | [], _, h => by cases h; exact .nil
  | d :: ds, _, h => by cases h with | cons h1 h2 => exact .cons (Dz.same s d _ h1) (DzAll.same s ds _ h2)
end
section
variable {X : Cx} {pins : List (Addr × Obj)} {σ : L2.St} {H : Hp} {s : Shared}
mutual
theorem Dz.reads (I : Inv X pins σ H s) : ∀ (d : PyData) (v : V) (u : Value), Dz H v d → RelV v u → ∃ as, Reads s.heap u d as ∧ sysModules ∉ as
  | .none, _, _, h, r => by cases h; cases r; exact ⟨_, .none, by simp⟩
  | .bool b, _, _, h, r => by cases h; cases r; exact ⟨_, .bool b, by simp⟩
  | .int i, _, _, h, r => by cases h; obtain ⟨t, rfl⟩ := r; exact ⟨_, .int i t, by simp⟩
  | .str x, _, _, h, r => by cases h; obtain ⟨t, rfl⟩ := r; exact ⟨_, .str x t, by simp⟩
  | .list ds, _, _, h, r => by
    cases h with
    | @lst a0 xs0 _ h4 e h =>
      cases r
      obtain ⟨_, its, n, rv, ho⟩ := (show ObjOk X.prog X.w H s.heap _ (.lst _) from I.hok _ _ e)
      obtain ⟨as, q, nas⟩ := DzAll.reads I ds _ its h rv
      refine ⟨_, .list ho rfl rfl (by simpa using q), ?_⟩
      intro z
      rcases List.mem_cons.mp z with z | z
      · have z1 : (1 : Nat) = a0 := z
        rw [← z1] at h4
        exact absurd h4 (by decide)
      · exact nas z
  | .tuple ds, _, _, h, r => by
    cases h with
    | tup e h =>
      cases r
      obtain ⟨_, its, rv, o, ho, hc, n, hd⟩ := (show ObjOk X.prog X.w H s.heap _ (.tup _) from I.hok _ _ e)
      obtain ⟨as, q, nas⟩ := DzAll.reads I ds _ its h rv
      exact ⟨_, .tuple ho hc hd (by simpa using q), nas⟩
  | .dict kvs, _, _, h, r => by
    cases h with
    | @emp a e =>
      cases r
      obtain ⟨_, ns, vs, kv, o, es, ep, ho, hx, hd, _, hes, _⟩ := (show ObjOk X.prog X.w H s.heap _ (.dK []) from I.hok _ _ e)
      cases kv
      have e0 : es.toList = [] := List.length_eq_zero_iff.mp (PySem.Pairs.length hes)
      refine ⟨[a] ++ [], .dict (as := []) (bs := []) ho hx.1 hd (by rw [e0]; exact .nil) (by rw [e0]; exact .nil), ?_⟩
      intro z
      have z' : sysModules = a := by simpa using z
      rw [← z'] at ns
      simp at ns
theorem DzAll.reads (I : Inv X pins σ H s) : ∀ (ds : List PyData) (vs : List V) (us : List Value), DzAll H vs ds → Vals vs us → ∃ as, ReadsAll s.heap us ds as ∧ sysModules ∉ as
  | [], _, _, h, r => by cases h; cases r; exact ⟨_, .nil, by simp⟩
  | d :: ds, _, _, h, r => by
    cases h with
    | cons h1 h2 =>
      cases r with
      | cons r1 r2 =>
        obtain ⟨as, q1, n1⟩ := Dz.reads I d _ _ h1 r1
        obtain ⟨bs, q2, n2⟩ := DzAll.reads I ds _ _ h2 r2
        refine ⟨_, .cons q1 q2, fun z => ?_⟩
        rcases List.mem_append.mp z with z | z
        · exact n1 z
        · exact n2 z
end
end
section
variable {X : Cx} {es : List Expr} {t : TA} {pos : Pos}
/-- what may be shown: little, and not deep -/
def small (d : PyData) : Bool := d.showable && decide (d.depth ≤ 60) && decide (d.shown.length ≤ 16777216)
def rReprZ : List V → Hp → VK → Prop := fun xs H Q => ∃ (a : Addr) (d : PyData), xs = [.ref a] ∧ Dz H (.ref a) d ∧ small d = true ∧ Q (.str d.shown) H
theorem call_repr_z (hgd : X.A.guards = some []) (hu : X.A.units + 64 < cLine) : CallR X (.builtin "repr") rReprZ := by
  intro pins s σ H xs us Q I r h
  obtain ⟨a, d, rfl, hd, hs, q⟩ := h
  unfold small at hs
  rw [Bool.and_eq_true, Bool.and_eq_true, decide_eq_true_eq, decide_eq_true_eq] at hs
  obtain ⟨⟨hs, hdp⟩, hz⟩ := hs
  cases r with
  | cons r1 r2 =>
    cases r2
    cases r1
    obtain ⟨as, rd, ns⟩ := Dz.reads I d (.ref a) (.ref a) hd rfl
    refine repr_of_reads' rd hs (fun _ => ns) hgd (by omega) (fun _ _ z => z) (fun h' u tk keep => ?_) (by rw [sizeLine_eq]; exact hz)
    exact ⟨.str d.shown, H, I.kept (t' := tk) keep, ⟨u, rfl⟩, q⟩
/-- [a, b, ..]: it lies behind what every start lays -/
def tLst4 (t : TA) : TE := fun σ H Q => t σ H fun xs H1 => xs.length ≤ sizeLine ∧ ∀ p, H1 p = none → 4 ≤ p → Q (.ref p) (upd H1 p (.lst xs))
theorem pe_lst4 (h : PA X es t) : PE X (.List es pos) (tLst4 t) := by
  constructor
  intro pins s σ H Q I hq
  refine wpAny_List_spliced (thn (h.run pos pins s σ H _ I hq) ?_)
  rintro us s1 ⟨xs, H1, J, r, z, q⟩
  refine ⟨r.length ▸ z, ?_⟩
  have four : 4 ≤ s1.heap.objs.size := by
    obtain ⟨o, es, ep, ho, _⟩ := J.ok.mod.glob
    have lt : (3 : Nat) < s1.heap.objs.size := Heap.lt_size (J.bk _ _ ho)
    exact lt
  refine ⟨.ref s1.heap.objs.size, upd H1 s1.heap.objs.size (.lst xs), J.laid (t' := s1.toks) (fun b u e => Heap.get?_push_of_some _ e) (Nat.le_refl _) ⟨z, us, 0, r, Heap.get?_push_size _ rfl⟩, rfl, q _ (J.hok.fresh (Nat.le_refl _)) four⟩
end
end GL
/-! try with several clauses, with and without a name: except A as e: .. except B: .. -/
namespace GL
open PySem PySem.Spec PyProof.Rows L2
/-- a clause: the class that it names, its suite's reading, the slot of its name -/
structure Clause where
  cls : Value
  ts : Addr → Value → Option Addr → TS
  at? : Option Nat
/-- the ends of a suite whose name goes -/
def gone (i : Nat) (D : Ends) : Ends := { nx := fun σ H => D.nx (σ.set i none) H, rt := D.rt, bk := fun σ H => D.bk (σ.set i none) H, ct := fun σ H => D.ct (σ.set i none) H }
/-- what the clause wishes of an error of this class and dict -/
def Clause.wish (l : Clause) (D : Ends) (a : Addr) (cls : Value) (d : Option Addr) (σ : L2.St) (H : Hp) : Prop :=
  match l.at? with
  | none => l.ts a cls d D σ H
  | some i => l.ts a cls d (gone i D) (σ.set i (some (.ref a))) H
def wMix (K : PySem.W.Frag) (n : Nat) (out : WX) (D : Ends) : List Clause → WX
  | [] => out
  | l :: r => fun cls d σ H => ∃ b, PySem.W.exmOne K cls l.cls = some b ∧ (b = true → σ.length = n → ∀ a, H a = none → l.wish D a cls d σ H) ∧ (b = false → wMix K n out D r cls d σ H)
inductive MixOk (X : Cx) : List ExceptHandler → List Clause → Prop
  | nil : MixOk X [] []
  | bare {x : Str} {c : Value} {ts : Addr → Value → Option Addr → TS} {b : Stmt} {suite : List Stmt} {p q : Pos} {hds : List ExceptHandler} {l : List Clause} (nc : Names X x c)
      (su : ∀ (a : Addr) (oe : Obj) (cls : Value) (d : Option Addr) (pn : List (Addr × Obj)), Zc cls d oe → (∃ vs, oe.data = .fields vs) → PSs (X.suite a ((a, oe) :: pn)) (b :: suite) (ts a cls d)) (r : MixOk X hds l) :
      MixOk X (.ExceptHandler (some (.Name x p)) none (b :: suite) q :: hds) (⟨c, ts, none⟩ :: l)
  | name {x n : Str} {i : Nat} {c : Value} {ts : Addr → Value → Option Addr → TS} {b : Stmt} {suite : List Stmt} {p q : Pos} {hds : List ExceptHandler} {l : List Clause} (hN : X.N.Nodup) (hi : X.N[i]? = some n) (hln : X.env.kindOf n = some .local) (nc : Names X x c)
      (su : ∀ (a : Addr) (oe : Obj) (cls : Value) (d : Option Addr) (pn : List (Addr × Obj)), Zc cls d oe → (∃ vs, oe.data = .fields vs) → PSs (X.suite a ((a, oe) :: pn)) (b :: suite) (ts a cls d)) (r : MixOk X hds l) :
      MixOk X (.ExceptHandler (some (.Name x p)) (some n) (b :: suite) q :: hds) (⟨c, ts, some i⟩ :: l)
section
variable {X : Cx} {pins : List (Addr × Obj)} {s1 sI : Shared} {h3 : Heap} {σ1 : L2.St} {H1 : Hp} {cls : Value} {d : Option Addr} {a : Addr} {B : Heap} {D : Ends} {out : WX}
/-- an error that has landed in the frame of the try -/
structure Landed (X : Cx) (pins : List (Addr × Obj)) (sI s1 : Shared) (h3 : Heap) (σ1 : L2.St) (H1 : Hp) (cls : Value) (d : Option Addr) (a : Addr) (B : Heap) : Prop where
  inv : Inv X pins σ1 H1 sI
  fly : HandSPX.FlyingZ B (X.env :: X.outer) a (Zc cls d) h3
  up : sI.heap.UpToSlots h3
  nb : ∀ b o, sI.heap.get? b = some o → b ∉ frs X.stack → B.get? b = some o
  os : s1.os = sI.os
  ag : AllBare s1.gens
  na : H1 a = none
  nL : a ≠ X.env.locals
  nF : a ∉ X.fs
theorem Landed.on (z : Landed X pins sI s1 h3 σ1 H1 cls d a B) : Inv X pins σ1 H1 { s1 with heap := h3 } := z.inv.landed z.nb z.fly.1 z.up z.os z.ag
theorem of_names {x : Str} {c : Value} {p : Pos} {pn : List (Addr × Obj)} {s : Shared} {σ : L2.St} {H : Hp} {Q : Value → Shared → Prop} {E : Value → Shared → Prop} (nc : Names X x c) (I : Inv (X.suite a pn) [] σ H s) (q : Q c s) :
    wpAny (model X.prog X.w) (X.A.mark (some (.ref a))) (eval (.Name x p) X.env) Q E s := by
  obtain ⟨g1, g2, g3 | ⟨g3, g4, g5⟩⟩ := nc
  · exact ld_glob (X := X.suite a pn) I g1 g3 q g2
  · exact ld_blt (X := X.suite a pn) I g1 g3 g4 q g5 g2
theorem mix_go (hf : X.env.frame = some X.env.locals) (hs : X.stack = X.env :: X.outer) (ok : X.Ok) (tk : Takes X out) (z : Landed X pins sI s1 h3 σ1 H1 cls d a B) {hds : List ExceptHandler} {l : List Clause} (m : MixOk X hds l) :
    wMix X.K X.N.length out D l cls d σ1 H1 → wpAny (model X.prog X.w) X.A (handleBy (.ref a) X.env hds) (SP X pins D) X.xe { s1 with heap := h3 } := by
  have hfr : X.A.frames = some (X.env :: X.outer) := by rw [ok.frames, hs]
  obtain ⟨oe, vs, he, hz, hd⟩ := z.fly.there
  have suite := z.on.suite he hd z.na z.nL z.nF
  have looks : PySem.W.Looks (model X.prog X.w) h3 (typeOf (.ref a)) cls := fun A Q E s k q => wpAny_typeOf_ref (k _ _ he) (by rw [hz.1]; exact q)
  induction m with
  | nil =>
    intro w
    refine wpAny_handleBy_nil ?_
    obtain ⟨k1, k2, k3, oe2, vs2, T, oT, t2, e1, e2, e3, e4, e5⟩ := id z.fly
    rw [PySem.passOn]
    refine wpAny_bind (wpAny_field e1 e3 e4 ?_)
    rw [if_neg (show ¬ ((Value.ref T == Value.none) = true) from by simp)]
    have last : wpAny (model X.prog X.w) X.A (setFlight (.ref a) X.env.frame) (fun _ s4 => wpAny (model X.prog X.w) X.A (throw (.ref a) : Sem Flow) (SP X pins D) X.xe s4) X.xe { s1 with heap := h3 } := by
      rw [hf]
      exact HandSPX.setFlight_upZ z.fly fun h4 fl4 up4 => wpAny_throw (tk _ _ ⟨a, B, sI, pins, σ1, H1, cls, d, rfl, z.inv, z.nb, z.up.trans up4, .inr (.inr (by rw [hs]; exact fl4)), z.na, z.os, z.ag, w⟩)
    first
      | exact wpAny_bind (wpAny_pure (wpAny_bind last))
      | exact wpAny_bind last
  | @bare x c ts b rest p q hds l nc su r ih =>
    rintro ⟨v, hv, yes, no⟩
    refine wpAny_handleBy_cons (codeAny_handlers_test (of_names nc suite ((PySem.W.exm_one (M := model X.prog X.w) z.on.kIn looks hv).here ?_))) (fun q => nomatch q)
    cases v with
    | false => exact (show wpAny _ X.A (handleBy (.ref a) X.env hds) _ _ _ from ih (no rfl))
    | true =>
      refine codeAny_handlers_suite (HandSPX.lands_againZ z.fly fun h4 fl4 up4 => ?_)
      obtain ⟨oe4, vs4, e4, z4, d4⟩ := fl4.there
      have on4 : Inv X pins σ1 H1 { s1 with heap := h4 } := z.inv.landed z.nb fl4.1 (z.up.trans up4) z.os z.ag
      refine wpAny_mono ((su a oe4 cls d (X.pn ++ pins) z4 ⟨_, d4⟩).run [] _ _ H1 _ (on4.suite e4 d4 z.na z.nL z.nF) (yes rfl z.inv.len a z.na)) (fun f s6 e => ?_) fun _ _ e => False.elim e
      cases f with
      | ret u => obtain ⟨v6, σ6, H6, S6, r6, q6⟩ := e; exact ⟨v6, σ6, H6, S6.unsuite ok, r6, q6⟩
      | next => obtain ⟨σ6, H6, S6, q6⟩ := e; exact ⟨σ6, H6, S6.unsuite ok, q6⟩
      | brk => obtain ⟨σ6, H6, S6, q6⟩ := e; exact ⟨σ6, H6, S6.unsuite ok, q6⟩
      | cont => obtain ⟨σ6, H6, S6, q6⟩ := e; exact ⟨σ6, H6, S6.unsuite ok, q6⟩
  | @name x n i c ts b rest p q hds l hN hi hln nc su r ih =>
    rintro ⟨v, hv, yes, no⟩
    refine wpAny_handleBy_cons (codeAny_handlers_test (of_names nc suite ((PySem.W.exm_one (M := model X.prog X.w) z.on.kIn looks hv).here ?_))) (fun q => nomatch q)
    cases v with
    | false => exact (show wpAny _ X.A (handleBy (.ref a) X.env hds) _ _ _ from ih (no rfl))
    | true =>
      refine codeAny_handlers_suite_as (HandSPX.lands_againZ z.fly fun h4 fl4 up4 => ?_)
      obtain ⟨oe4, vs4, e4, z4, d4⟩ := fl4.there
      have on4 : Inv X pins σ1 H1 { s1 with heap := h4 } := z.inv.landed z.nb fl4.1 (z.up.trans up4) z.os z.ag
      refine store_ok (X := X.suite a ((a, oe4) :: (X.pn ++ pins))) (v := .ref a) (on4.suite e4 d4 z.na z.nL z.nF) hN hi (.inl hln) rfl (fun s5 S5 => ?_) (.inr hln)
      refine wpAny_mono ((su a oe4 cls d (X.pn ++ pins) z4 ⟨_, d4⟩).run [] s5 _ H1 _ S5 (yes rfl z.inv.len a z.na)) (fun f s6 e => ?_) fun _ _ e => False.elim e
      have off : ∀ {σ6 : L2.St} {H6 : Hp} {G : Shared → Prop}, Inv (X.suite a ((a, oe4) :: (X.pn ++ pins))) [] σ6 H6 s6 → (∀ s7, Inv X pins (σ6.set i none) H6 s7 → G s7) → wpAny (model X.prog X.w) X.A (do bindName X.env n .none; unbindBehindTheSuite X.env n q) (fun _ s7 => G s7) X.xe s6 := fun S g => gone_ok (S.unsuite ok) hN hi hln g
      cases f with
      | ret u => obtain ⟨v6, σ6, H6, S6, r6, q6⟩ := e; exact off S6 fun s7 J7 => ⟨v6, _, H6, J7, r6, q6⟩
      | next => obtain ⟨σ6, H6, S6, q6⟩ := e; exact off S6 fun s7 J7 => ⟨_, H6, J7, q6⟩
      | brk => obtain ⟨σ6, H6, S6, q6⟩ := e; exact off S6 fun s7 J7 => ⟨_, H6, J7, q6⟩
      | cont => obtain ⟨σ6, H6, S6, q6⟩ := e; exact off S6 fun s7 J7 => ⟨_, H6, J7, q6⟩
end
section
variable {X : Cx} {body : List Stmt} {h0 : ExceptHandler} {hds : List ExceptHandler} {l : List Clause} {pos : Pos} {tb : WX → TS} {out : WX}
theorem ps_try_mix (hs : X.stack = X.env :: X.outer) (hf : X.env.frame = some X.env.locals) (tk : Takes X out)
    (hb : ∀ (W : WX) (pn : List (Addr × Obj)) (xe : Value → Shared → Prop), Takes (X.tr pn xe) W → PassesOwn (model X.prog X.w) X.A X.env xe → PSs (X.tr pn xe) body (tb W)) (m : MixOk X (h0 :: hds) l) :
    PS X (.Try body (h0 :: hds) [] [] pos) (fun D σ H => tb (wMix X.K X.N.length out D l) D σ H) := by
  constructor
  intro pins s σ H D I h
  have ok := I.ok
  have hfr : X.A.frames = some (X.env :: X.outer) := by rw [ok.frames, hs]
  refine wpAny_Try_except (wpAny_mono ((hb (wMix X.K X.N.length out D l) (X.pn ++ pins) (fun e s1 => wpAny (model X.prog X.w) X.A (noteFrame e X.env) (fun _ s2 => wpAny (model X.prog X.w) X.A (setFlight e none) (fun _ s3 =>
    wpAny (model X.prog X.w) X.A (handleBy e X.env (h0 :: hds)) (SP X pins D) X.xe s3) X.xe s2) X.xe s1) (fun u s1 e => ?_) PassesOwn.looking).run [] s σ H D (I.toTry _) h) (fun f s1 e => ?_) fun e s1 he => he)
  · obtain ⟨a, B, sI, pn, σ1, H1, cls, d, rfl, J1, nb, up, sky, na, os, ag, w⟩ := e
    have J : Inv X pins σ1 H1 sI := J1.ofTry ok
    rw [show (X.tr (X.pn ++ pins) _).stack = X.env :: X.outer from hs] at sky
    refine (show wpAny (model X.prog X.w) X.A (noteFrame (.ref a) X.env) _ _ _ from Sky.land Zc.steady hfr hf sky fun h3 fl3 up3 => ?_)
    obtain ⟨oe3, vs3, he3, hz3, hd3⟩ := fl3.there
    have nfr : a ∉ frs (X.env :: X.outer) := fun hm => by
      obtain ⟨_, o', e', hnf⟩ := fl3.2.2.1.mem hm
      rw [he3] at e'
      cases e'
      exact hnf _ hd3
    refine mix_go (sI := sI) (s1 := s1) hf hs ok tk ⟨J, fl3, up.trans up3, nb, os, ag, na, fun z => nfr (List.mem_filterMap.mpr ⟨X.env, List.mem_cons_self, by rw [hf, z]⟩), fun hm => ?_⟩ m w
    obtain ⟨e, he, q⟩ := List.mem_filterMap.mp hm
    exact nfr (List.mem_filterMap.mpr ⟨e, List.mem_cons_of_mem _ he, q⟩)
  · cases f with
    | ret u => obtain ⟨v, σ2, H2, J2, r, q⟩ := e; exact ⟨v, σ2, H2, J2.ofTry ok, r, q⟩
    | next => obtain ⟨σ2, H2, J2, q⟩ := e; exact wpAny_execs_nil ⟨σ2, H2, J2.ofTry ok, q⟩
    | brk => obtain ⟨σ2, H2, J2, q⟩ := e; exact ⟨σ2, H2, J2.ofTry ok, q⟩
    | cont => obtain ⟨σ2, H2, J2, q⟩ := e; exact ⟨σ2, H2, J2.ofTry ok, q⟩
end
end GL
namespace K03
open PySem PySem.Spec PyProof.Rows L2 GL
open LamX (GivesTo CodeO)
abbrev sMet : Stmt := topS 37
abbrev nMt : List Str := ["_law_call"]
theorem scMet : FnScope nMt ["_law_call"] (defScope sMet) := ⟨rfl, rfl, rfl, by decide +kernel, rfl, by decide +kernel, by decide +kernel⟩
/-- what _law_met makes of an error: its kind -/
def metWish (K : PySem.W.Frag) (cM cO : Addr) (Q : VK) : XK := fun cls d H =>
  (cls = .ref cM ∧ ∀ p, H p = none → 4 ≤ p → Q (.ref p) (upd H p (.lst [.str "machine"]))) ∨
  (cls = .ref cO ∧ ∀ p, H p = none → 4 ≤ p → Q (.ref p) (upd H p (.lst [.str "operation"])))
def metTT (K : PySem.W.Frag) (cM cO : Addr) : (XK → Hp → VK → Prop) → Hp → VK → Prop := fun tl H Q =>
  tl (metWish K cM cO Q) H fun v H1 => 2 ≤ sizeLine ∧ ∀ p, H1 p = none → 4 ≤ p → Q (.ref p) (upd H1 p (.lst [.str "returned", v]))
structure TxtMet (K : PySem.W.Frag) (mg : Str → Option Value) (cM cO : Addr) : Prop where
  gM : mg "InvalidMachine" = some (.ref cM)
  gO : mg "InvalidOperation" = some (.ref cO)
  e : ∀ b ∈ [(cM, cM, true), (cO, cM, false), (cO, cO, true)], PySem.W.exmOne K (.ref b.1) (.ref b.2.1) = some b.2.2
section
variable {X : Cx} {g cM cO : Addr} {cdg : Value} {q : Str}
theorem met_gives (T : TxtMet X.K X.mg cM cO) : GivesTo X nMt "_law_met" (defScope sMet) g cdg (defBody sMet) "_law_call" q (metTT X.K cM cO) := by
  intro f c' s H Q tl act hc h
  refine ⟨_, pss_one (ps_try_mix (X := (cxOf C8.CX0 X.prog X.w X.K X.mg X.base nMt "_law_met" (defScope sMet) g cdg X.A X.stack s H C8.E0).nox) (out := fun _ _ _ _ => False)
      (l := [⟨.ref cM, _, none⟩, ⟨.ref cO, _, none⟩])
      (tb := fun W D σ H => ∃ Ech : XK, (∀ cls d σ' H', Ech cls d H' → W cls d σ' H') ∧ σ[0]? = some (some (.ref f)) ∧ H c' = some (CodeO c' q) ∧ tl Ech H fun v H1 => 2 ≤ sizeLine ∧ ∀ p, H1 p = none → 4 ≤ p → D.rt (.ref p) (upd H1 p (.lst [.str "returned", v])))
      rfl rfl LamX.takes0 (fun W pn xe tk _ => ?_)
      (.bare ⟨by rfl, by decide, .inl T.gM⟩ (fun a oe cls d pn hz hv => pss_one (ps_ret (pe_lst4 (pa_cons pe_str pa_nil))))
      (.bare ⟨by rfl, by decide, .inl T.gO⟩ (fun a oe cls d pn hz hv => pss_one (ps_ret (pe_lst4 (pa_cons pe_str pa_nil)))) .nil))), ?_⟩
  · constructor
    intro pins s' σ H' D I h'
    obtain ⟨Ech, hW, h1, h2, h3⟩ := h'
    have call := fun p1 p2 => act W pn xe Ech p1 p2 tk hW
    refine PSs.run (pss_one (ps_ret (pe_lst4 (pa_cons pe_str (pa_cons (call _ _) pa_nil))))) pins s' σ H' D I ?_
    exact ⟨h1, h2, h3⟩
  · have ex := T.e
    simp only [List.forall_mem_cons, List.forall_mem_nil, and_true] at ex
    obtain ⟨e1, e2, e3, _⟩ := ex
    refine ⟨metWish X.K cM cO Q, fun cls d σ' H' z => ?_, rfl, hc, h⟩
    rcases z with ⟨rfl, z⟩ | ⟨rfl, z⟩
    · refine ⟨true, e1, fun _ len a na => ?_, fun h => nomatch h⟩
      exact ⟨(by show 1 ≤ sizeLine; decide), z⟩
    · refine ⟨false, e2, fun h => (nomatch h), fun _ => ⟨true, e3, fun _ len a na => ?_, fun h => nomatch h⟩⟩
      exact ⟨(by show 1 ≤ sizeLine; decide), z⟩
end
end K03
/-! The heap without the dice and without tables of code objects: what no draw and no lambda changes. -/
namespace K03
open PySem PySem.Spec PyProof.Rows L2 WD NS MC GL
open LamX (Tabs TabS CodeO ExtN)
def notT : HO → Bool
  | .tbl _ => false
  | _ => true
def hid (d : Addr) (H : Hp) : Hp := fun b => if b = d then none else match H b with
  | some o => if notT o = true then some o else none
  | none => none
theorem hid_get {d b : Addr} {H : Hp} {o : HO} (h : H b = some o) (n : b ≠ d) (t : notT o = true) : hid d H b = some o := by
  unfold hid
  rw [if_neg n, h]
  exact if_pos t
theorem hid_inv {d b : Addr} {H : Hp} {o : HO} (h : hid d H b = some o) : b ≠ d ∧ H b = some o ∧ notT o = true := by
  unfold hid at h
  by_cases n : b = d
  · rw [if_pos n] at h; exact nomatch h
  · rw [if_neg n] at h
    cases e : H b with
    | none => rw [e] at h; exact nomatch h
    | some o' =>
      rw [e] at h
      by_cases t : notT o' = true
      · have z : some o' = some o := (if_pos t).symm.trans h
        cases z
        exact ⟨n, rfl, t⟩
      · have z : none = some o := (if_neg t).symm.trans h
        exact nomatch z
theorem hid_up {d : Addr} {H : Hp} : Same (hid d H) H := fun b o e => (hid_inv e).2.1
def Rel (d : Addr) (H H' : Hp) : Prop := Same (hid d H) (hid d H')
theorem Rel.refl {d : Addr} {H : Hp} : Rel d H H := fun _ _ e => e
theorem Rel.trans {d : Addr} {H H1 H2 : Hp} (a : Rel d H H1) (b : Rel d H1 H2) : Rel d H H2 := fun c o e => b c o (a c o e)
theorem rel_same {d : Addr} {H H' : Hp} (s : Same H H') : Rel d H H' := fun b o e => by
  obtain ⟨n, e, t⟩ := hid_inv e
  exact hid_get (s _ _ e) n t
theorem rel_ds {d : Addr} {H H' : Hp} (s : DS d H H') : Rel d H H' := fun b o e => by
  obtain ⟨n, e, t⟩ := hid_inv e
  exact hid_get (s _ _ n e) n t
theorem rel_dice {d : Addr} {H : Hp} {o : HO} : Rel d H (upd H d o) := rel_ds fun b u n e => by rw [upd_ne n]; exact e
theorem rel_ext {d : Addr} {H H' : Hp} (s : ExtN H H') : Rel d H H' := fun b o e => by
  obtain ⟨n, e, t⟩ := hid_inv e
  exact hid_get (s _ _ e fun ps z => by rw [z] at t; exact nomatch t) n t
theorem rel_new {d p : Addr} {H : Hp} {o : HO} (h : H p = none) : Rel d H (upd H p o) := rel_same (same_upd h)
theorem dice_none {d : Addr} {H : Hp} {n : Nat} (D : Dice H d n) : H d ≠ none := fun z => by
  obtain ⟨g, s, i, e, _⟩ := D
  rw [e] at z
  cases z
theorem ne_dice {d p : Addr} {H : Hp} {n : Nat} (D : Dice H d n) (h : H p = none) : p ≠ d := fun z => dice_none D (z ▸ h)
theorem dice_new {d p : Addr} {H : Hp} {n : Nat} {o : HO} (D : Dice H d n) (h : H p = none) : Dice (upd H p o) d n := D.same (upd_ne (ne_dice D h).symm)
theorem dice_same {d : Addr} {H H' : Hp} {n : Nat} (D : Dice H d n) (s : Same H H') : Dice H' d n := by
  obtain ⟨g, y, i, e, r⟩ := D
  exact ⟨g, y, i, s _ _ e, r⟩
theorem dice_ext {d : Addr} {H H' : Hp} {n : Nat} (D : Dice H d n) (s : ExtN H H') : Dice H' d n := by
  obtain ⟨g, y, i, e, r⟩ := D
  exact ⟨g, y, i, s _ _ e (fun _ z => nomatch z), r⟩
theorem tabs_dice {T : List (Addr × Str)} {d : Addr} {H : Hp} {n : Nat} {o : HO} (D : Dice H d n) (t : Tabs T H) : Tabs T (upd H d o) := fun p hp => by
  obtain ⟨g, y, i, e, r⟩ := D
  obtain ⟨ps, h1, h2, h3⟩ := t p hp
  refine ⟨ps, ?_, h2, fun pos cv hc => ?_⟩
  · rw [upd_ne (fun z => by rw [z, e] at h1; cases h1)]
    exact h1
  · obtain ⟨c, e1, e2⟩ := h3 pos cv hc
    refine ⟨c, e1, ?_⟩
    rw [upd_ne (fun z => by rw [z, e] at e2; cases e2)]
    exact e2
theorem kz_hid {d : Addr} {H : Hp} {n : Nat} (D : Dice H d n) (k : NestedKey) (v : V) (h : Kz H v k) : Kz (hid d H) v k := by
  refine kz_tups (fun b xs e => hid_get e (fun z => ?_) rfl) k v h
  obtain ⟨g, y, i, e2, _⟩ := D
  rw [z, e2] at e
  cases e
theorem tabs_lst {T : List (Addr × Str)} {D : Addr} {H : Hp} {xs : List V} {o : HO} (e : H D = some (.lst xs)) (t : Tabs T H) : Tabs T (upd H D o) := fun p hp => by
  obtain ⟨ps, h1, h2, h3⟩ := t p hp
  refine ⟨ps, ?_, h2, fun pos cv hc => ?_⟩
  · rw [upd_ne (fun z => by rw [z, e] at h1; cases h1)]
    exact h1
  · obtain ⟨c, e1, e2⟩ := h3 pos cv hc
    refine ⟨c, e1, ?_⟩
    rw [upd_ne (fun z => by rw [z, e] at e2; cases e2)]
    exact e2
/-- what a part of _law_refused has kept, after k draws -/
structure St0 (T : List (Addr × Str)) (H0 H : Hp) (d : Addr) (n : Nat) : Prop where
  rel : Rel d H0 H
  dice : Dice H d n
  tabs : Tabs T H
variable {T : List (Addr × Str)} {H0 H : Hp} {d : Addr} {n : Nat}
theorem St0.new {p : Addr} {o : HO} (S : St0 T H0 H d n) (h : H p = none) : St0 T H0 (upd H p o) d n := ⟨S.rel.trans (rel_new h), dice_new S.dice h, S.tabs.ext (same_upd h)⟩
theorem St0.same {H' : Hp} (S : St0 T H0 H d n) (h : Same H H') : St0 T H0 H' d n := ⟨S.rel.trans (rel_same h), dice_same S.dice h, S.tabs.ext h⟩
theorem St0.roll {o : HO} (S : St0 T H0 H d n) (D : Dice (upd H d o) d (n + 1)) : St0 T H0 (upd H d o) d (n + 1) := ⟨S.rel.trans rel_dice, D, tabs_dice S.dice S.tabs⟩
theorem St0.lam {H' : Hp} (S : St0 T H0 H d n) (h : ExtN H H') (t : Tabs T H') : St0 T H0 H' d n := ⟨S.rel.trans (rel_ext h), dice_ext S.dice h, t⟩
/-- a list of one's own is changed -/
theorem St0.put {D : Addr} {xs : List V} {o : HO} (S : St0 T H0 H d n) (n0 : hid d H0 D = none) (nd : D ≠ d) (e : H D = some (.lst xs)) : St0 T H0 (upd H D o) d n := by
  refine ⟨fun b u eb => ?_, S.dice.same (upd_ne nd.symm), tabs_lst e S.tabs⟩
  obtain ⟨nb, e1, t⟩ := hid_inv (S.rel b u eb)
  have ne : b ≠ D := fun z => by
    rw [z, n0] at eb
    exact nomatch eb
  exact hid_get (by rw [upd_ne ne]; exact e1) nb t
theorem rel_put {d D : Addr} {H H' : Hp} {o : HO} (r : Rel d H H') (n0 : hid d H D = none) : Rel d H (upd H' D o) := fun b u eb => by
  obtain ⟨nb, e1, t⟩ := hid_inv (r b u eb)
  have ne : b ≠ D := fun z => by
    rw [z, n0] at eb
    exact nomatch eb
  exact hid_get (by rw [upd_ne ne]; exact e1) nb t
theorem hid_back {d D : Addr} {H H' : Hp} (r : Rel d H H') (h : hid d H' D = none) : hid d H D = none := by
  cases e : hid d H D with
  | none => rfl
  | some u => exact (nomatch (r _ _ e).symm.trans h)
theorem hid_none {d D : Addr} {H : Hp} (h : H D = none) : hid d H D = none := by
  unfold hid
  by_cases n : D = d
  · rw [if_pos n]
  · rw [if_neg n, h]
theorem rel_none {d D : Addr} {H H' : Hp} (r : Rel d H H') (h : H' D = none) : hid d H D = none := by
  cases e : hid d H D with
  | none => rfl
  | some u =>
    have y := (hid_inv (r _ _ e)).2.1
    rw [h] at y
    exact nomatch y
theorem ite_tvar {b : Bool} {i j : Nat} {σ : L2.St} {H : Hp} {Q : VK} {x y : V} (hx : σ[i]? = some (some x)) (hy : σ[j]? = some (some y)) (h : Q (if b = true then x else y) H) : if b = true then tVar i σ H Q else tVar j σ H Q := by
  cases b
  · exact iteF ⟨y, hy, h⟩
  · exact iteT ⟨x, hx, h⟩
/-- what all parts of _law_refused know: the machine, its neighbours, the bits -/
structure Bas (T : List (Addr × Str)) (H0 H : Hp) (d a p B : Addr) (m : MachM) (ys : List Str) (b0 b1 b2 b3 : Bool) (n : Nat) : Prop where
  st : St0 T H0 H d n
  hm : Kz (hid d H) (.ref a) m.key
  ep : hid d H p = some (.tup (ys.map V.str))
  eB : hid d H B = some (.lst [.bl b0, .bl b1, .bl b2, .bl b3])
section
variable {a p B : Addr} {m : MachM} {ys : List Str} {b0 b1 b2 b3 : Bool}
theorem Bas.go {H' : Hp} {n' : Nat} (S : Bas T H0 H d a p B m ys b0 b1 b2 b3 n) (r : Rel d H H') (s : St0 T H0 H' d n') : Bas T H0 H' d a p B m ys b0 b1 b2 b3 n' := ⟨s, Kz.same r _ _ S.hm, r _ _ S.ep, r _ _ S.eB⟩
theorem Bas.new {q : Addr} {o : HO} (S : Bas T H0 H d a p B m ys b0 b1 b2 b3 n) (h : H q = none) : Bas T H0 (upd H q o) d a p B m ys b0 b1 b2 b3 n := S.go (rel_new h) (S.st.new h)
theorem Bas.roll {o : HO} (S : Bas T H0 H d a p B m ys b0 b1 b2 b3 n) (D : Dice (upd H d o) d (n + 1)) : Bas T H0 (upd H d o) d a p B m ys b0 b1 b2 b3 (n + 1) := S.go rel_dice (S.st.roll D)
theorem Bas.kz (S : Bas T H0 H d a p B m ys b0 b1 b2 b3 n) : Kz H (.ref a) m.key := Kz.same hid_up _ _ S.hm
theorem Bas.pp (S : Bas T H0 H d a p B m ys b0 b1 b2 b3 n) : H p = some (.tup (ys.map V.str)) := hid_up _ _ S.ep
theorem Bas.BB (S : Bas T H0 H d a p B m ys b0 b1 b2 b3 n) : H B = some (.lst [.bl b0, .bl b1, .bl b2, .bl b3]) := hid_up _ _ S.eB
end
/-- what stands at a new place -/
theorem St0.at {p : Addr} {o : HO} (S : St0 T H0 H d n) (h : H p = none) (t : notT o = true) : hid d (upd H p o) p = some o := hid_get upd_same (ne_dice S.dice h) t
end K03
/-! What is little enough to be shown. -/
namespace K03
open PySem PySem.Spec PyProof.Rows L2 WD NS MC GL
theorem small_of {d : PyData} (c : d.canLay0 = true) (i : d.intsShort 40 = true) (p : d.depth ≤ 60) (w : d.weight ≤ 300000) (s : d.showable = true) : small d = true := by
  have h := PyData.shown_le 40 (by decide) d (PyData.leavesShort_of_canLay0 40 d c i)
  have h2 : d.shown.length ≤ 16777216 := by omega
  unfold small
  rw [s, decide_eq_true p, decide_eq_true h2]
  rfl
theorem weight_strs : ∀ ws : List Str, (∀ x ∈ ws, Wd x) → PyData.weightAll (ws.map PyData.str) ≤ 9 * ws.length
  | [], _ => Nat.le_refl _
  | x :: ws, h => by
    rw [List.map_cons, PyData.weightAll, PyData.weight, List.length_cons]
    have z := weight_strs ws fun y hy => h y (List.mem_cons_of_mem _ hy)
    have y : x.cps.size ≤ 8 := (h x List.mem_cons_self).le
    omega
theorem show_strs : ∀ ws : List Str, PyData.showableAll (ws.map PyData.str) = true
  | [] => rfl
  | x :: ws => by rw [List.map_cons, PyData.showableAll, show_strs ws, PyData.showable]; rfl
theorem short_strs : ∀ ws : List Str, PyData.intsShortAll 40 (ws.map PyData.str) = true
  | [] => rfl
  | x :: ws => by rw [List.map_cons, PyData.intsShortAll, short_strs ws, PyData.intsShort]; rfl
theorem int64 : ∀ i < 64, (PyData.intsShort 40 (.int ((i : Nat) : Int)) && PyData.showable (.int ((i : Nat) : Int)) && decide (PyData.weight (.int ((i : Nat) : Int)) ≤ 8)) = true := by decide +kernel
theorem int_facts {i : Int} (h0 : 0 ≤ i) (h1 : i < 64) : PyData.intsShort 40 (.int i) = true ∧ PyData.showable (.int i) = true ∧ PyData.weight (.int i) ≤ 8 := by
  obtain ⟨k, rfl⟩ : ∃ k : Nat, i = k := ⟨i.toNat, by omega⟩
  have z := int64 k (by omega)
  rw [Bool.and_eq_true, Bool.and_eq_true, decide_eq_true_eq] at z
  exact ⟨z.1.1, z.1.2, z.2⟩
theorem weight_ints : ∀ ns : List Int, (∀ i ∈ ns, 0 ≤ i ∧ i < 64) → PyData.weightAll (ns.map PyData.int) ≤ 9 * ns.length
  | [], _ => Nat.le_refl _
  | x :: ns, h => by
    rw [List.map_cons, PyData.weightAll, List.length_cons]
    have z := weight_ints ns fun y hy => h y (List.mem_cons_of_mem _ hy)
    have y := (int_facts (h x List.mem_cons_self).1 (h x List.mem_cons_self).2).2.2
    omega
theorem show_ints : ∀ ns : List Int, (∀ i ∈ ns, 0 ≤ i ∧ i < 64) → PyData.showableAll (ns.map PyData.int) = true
  | [], _ => rfl
  | x :: ns, h => by rw [List.map_cons, PyData.showableAll, show_ints ns fun y hy => h y (List.mem_cons_of_mem _ hy), (int_facts (h x List.mem_cons_self).1 (h x List.mem_cons_self).2).2.1]; rfl
theorem short_ints : ∀ ns : List Int, (∀ i ∈ ns, 0 ≤ i ∧ i < 64) → PyData.intsShortAll 40 (ns.map PyData.int) = true
  | [], _ => rfl
  | x :: ns, h => by rw [List.map_cons, PyData.intsShortAll, short_ints ns fun y hy => h y (List.mem_cons_of_mem _ hy), (int_facts (h x List.mem_cons_self).1 (h x List.mem_cons_self).2).1]; rfl
end K03
/-! repr of data that holds a dict of texts. -/
namespace K03
open PySem PySem.Spec PyProof.Rows L2 WD NS MC GL
abbrev dicD (ns : List (Str × Str)) : PyData := .dict (ns.map fun p => (PyData.str p.1, PyData.str p.2))
mutual
inductive Dq (H : Hp) : V → PyData → Prop
  | non : Dq H .non .none
  | int (i : Int) : Dq H (.int i) (.int i)
  | str (x : Str) : Dq H (.str x) (.str x)
  | tup {a : Addr} {xs : List V} {ds : List PyData} : H a = some (.tup xs) → DqAll H xs ds → Dq H (.ref a) (.tuple ds)
  | dic {a : Addr} {ns : List (Str × Str)} : H a = some (.dK (kvS ns)) → Dq H (.ref a) (dicD ns)
inductive DqAll (H : Hp) : List V → List PyData → Prop
  | nil : DqAll H [] []
  | cons {v : V} {vs : List V} {d : PyData} {ds : List PyData} : Dq H v d → DqAll H vs ds → DqAll H (v :: vs) (d :: ds)
end
mutual
theorem Kz.dq {H : Hp} : ∀ (k : NestedKey) (v : V), Kz H v k → Dq H v k.data
  | .none, _, h => by cases h; exact .non
  | .num i, _, h => by cases h; exact .int i
  | .text x, _, h => by cases h; exact .str x
  | .tup ks, _, h => by cases h with | tup e h => exact .tup e (KzAll.dq ks _ h)
theorem KzAll.dq {H : Hp} : ∀ (ks : List NestedKey) (vs : List V), KzAll H vs ks → DqAll H vs (NestedKey.datas ks)
  | [], _, h => by cases h; exact .nil
  | k :: ks, _, h => by cases h with | cons h1 h2 => exact .cons (Kz.dq k _ h1) (KzAll.dq ks _ h2)
end
theorem reads_keys {P : Program} {w : World} {h : Heap} : ∀ {es : List DictEntry} {ns : List (Str × Str)} {vs : List (Key × Value)}, KV (kvS ns) vs → Pairs (mixKind P w) es vs →
    ReadsAll h (es.map (·.key)) ((ns.map fun p => (PyData.str p.1, PyData.str p.2)).map (·.1)) [] ∧ ReadsAll h (es.map (·.val)) ((ns.map fun p => (PyData.str p.1, PyData.str p.2)).map (·.2)) []
  | _, [], _, rel, pr => by
    cases rel
    cases pr
    exact ⟨.nil, .nil⟩
  | es0, p :: ns, vs0, rel, pr => by
    obtain ⟨k, b⟩ := p
    rw [kvS, List.map_cons] at rel
    cases rel with
    | @cons _ q _ qs h1 t =>
      obtain ⟨qk, qv⟩ := q
      obtain ⟨e1, tk, e2⟩ := h1
      cases e1
      cases e2
      cases pr with
      | @cons e _ es _ is_ ev pr =>
        obtain ⟨r1, r2⟩ := reads_keys (h := h) (ns := ns) t pr
        rcases keyIs_shape (show keyIs (Sum.inr k) e.key = true from is_) with ⟨i, tt, z, _⟩ | ⟨y, tt, z, ek⟩
        · exact nomatch z
        · cases z
          rw [List.map_cons, List.map_cons, List.map_cons, List.map_cons, List.map_cons, ek, ev]
          exact ⟨.cons (as := []) (.str k tt) r1, .cons (as := []) (.str b tk) r2⟩
section
variable {X : Cx} {pins : List (Addr × Obj)} {σ : L2.St} {H : Hp} {s : Shared}
mutual
theorem Dq.reads (I : Inv X pins σ H s) : ∀ (d : PyData) (v : V) (u : Value), Dq H v d → RelV v u → ∃ as, Reads s.heap u d as ∧ sysModules ∉ as
  | .none, _, _, h, r => by cases h; cases r; exact ⟨_, .none, by simp⟩
  | .bool b, _, _, h, r => by cases h
  | .int i, _, _, h, r => by cases h; obtain ⟨t, rfl⟩ := r; exact ⟨_, .int i t, by simp⟩
  | .str x, _, _, h, r => by cases h; obtain ⟨t, rfl⟩ := r; exact ⟨_, .str x t, by simp⟩
  | .list ds, _, _, h, r => by cases h
  | .tuple ds, _, _, h, r => by
    cases h with
    | tup e h =>
      cases r
      obtain ⟨_, its, rv, o, ho, hc, n, hd⟩ := (show ObjOk X.prog X.w H s.heap _ (.tup _) from I.hok _ _ e)
      obtain ⟨as, q, nas⟩ := DqAll.reads I ds _ its h rv
      exact ⟨_, .tuple ho hc hd (by simpa using q), nas⟩
  | .dict kvs, _, _, h, r => by
    cases h with
    | @dic a ns e =>
      cases r
      obtain ⟨_, nsm, vs, kv, o, es, ep, ho, hx, hd, _, hes, _⟩ := (show ObjOk X.prog X.w H s.heap _ (.dK _) from I.hok _ _ e)
      obtain ⟨r1, r2⟩ := reads_keys (h := s.heap) kv hes
      refine ⟨[a] ++ [], .dict (as := []) (bs := []) ho hx.1 hd r1 r2, ?_⟩
      intro z
      have z' : sysModules = a := by simpa using z
      rw [← z'] at nsm
      simp at nsm
theorem DqAll.reads (I : Inv X pins σ H s) : ∀ (ds : List PyData) (vs : List V) (us : List Value), DqAll H vs ds → Vals vs us → ∃ as, ReadsAll s.heap us ds as ∧ sysModules ∉ as
  | [], _, _, h, r => by cases h; cases r; exact ⟨_, .nil, by simp⟩
  | d :: ds, _, _, h, r => by
    cases h with
    | cons h1 h2 =>
      cases r with
      | cons r1 r2 =>
        obtain ⟨as, q1, n1⟩ := Dq.reads I d _ _ h1 r1
        obtain ⟨bs, q2, n2⟩ := DqAll.reads I ds _ _ h2 r2
        refine ⟨_, .cons q1 q2, fun z => ?_⟩
        rcases List.mem_append.mp z with z | z
        · exact n1 z
        · exact n2 z
end
def rReprQ : List V → Hp → VK → Prop := fun xs H Q => ∃ (a : Addr) (d : PyData), xs = [.ref a] ∧ Dq H (.ref a) d ∧ small d = true ∧ Q (.str d.shown) H
theorem call_repr_q (hgd : X.A.guards = some []) (hu : X.A.units + 64 < cLine) : CallR X (.builtin "repr") rReprQ := by
  intro pins s σ H xs us Q I r h
  obtain ⟨a, d, rfl, hd, hs, q⟩ := h
  unfold small at hs
  rw [Bool.and_eq_true, Bool.and_eq_true, decide_eq_true_eq, decide_eq_true_eq] at hs
  obtain ⟨⟨hs, hdp⟩, hz⟩ := hs
  cases r with
  | cons r1 r2 =>
    cases r2
    cases r1
    obtain ⟨as, rd, ns⟩ := Dq.reads I d (.ref a) (.ref a) hd rfl
    refine repr_of_reads' rd hs (fun _ => ns) hgd (by omega) (fun _ _ z => z) (fun h' u tk keep => ?_) (by rw [sizeLine_eq]; exact hz)
    exact ⟨.str d.shown, H, I.kept (t' := tk) keep, ⟨u, rfl⟩, q⟩
end
/-! what a machine and a dict of names weigh -/
theorem kv_weight : ∀ ns : List (Str × Str), Nms ns → PyData.weightKv (ns.map fun p => (PyData.str p.1, PyData.str p.2)) ≤ 18 * ns.length
  | [], _ => Nat.le_refl _
  | p :: ns, h => by
    rw [List.map_cons, PyData.weightKv, PyData.weight, PyData.weight, List.length_cons]
    have z := kv_weight ns fun y hy => h y (List.mem_cons_of_mem _ hy)
    have y := h p List.mem_cons_self
    have y1 : p.1.cps.size ≤ 8 := y.1.le
    have y2 : p.2.cps.size ≤ 8 := y.2.le
    omega
theorem kv_show : ∀ ns : List (Str × Str), PyData.showableKv (ns.map fun p => (PyData.str p.1, PyData.str p.2)) = true
  | [] => rfl
  | p :: ns => by rw [List.map_cons, PyData.showableKv, kv_show ns, PyData.showable, PyData.showable]; rfl
theorem wd_short {x : Str} (h : Wd x) : PyData.leavesShort 40 (.str x) = true := by
  rw [PyData.leavesShort, List.all_eq_true]
  intro c hc
  have := h.low c hc
  rw [decide_eq_true_eq]
  omega
theorem kv_short : ∀ ns : List (Str × Str), Nms ns → PyData.leavesShortKv 40 (ns.map fun p => (PyData.str p.1, PyData.str p.2)) = true
  | [], _ => rfl
  | p :: ns, h => by
    rw [List.map_cons, PyData.leavesShortKv, kv_short ns fun y hy => h y (List.mem_cons_of_mem _ hy), wd_short (h p List.mem_cons_self).1, wd_short (h p List.mem_cons_self).2]
    rfl
theorem kv_depth : ∀ ns : List (Str × Str), PyData.depthKv (ns.map fun p => (PyData.str p.1, PyData.str p.2)) = 0
  | [] => rfl
  | p :: ns => by rw [List.map_cons, PyData.depthKv, kv_depth ns]; rfl
end K03
/-! a machine with a dict of names is little enough to be shown -/
namespace K03
open PySem PySem.Spec PyProof.Rows L2 WD NS MC GL
/-- short whole numbers, showable, of little weight -/
def lt3 (k : Nat) (d : PyData) : Prop := PyData.intsShort 40 d = true ∧ PyData.showable d = true ∧ PyData.weight d ≤ k ∧ PyData.depth d ≤ 5
theorem lt3_deed {d : Deed} (ok : d.Ok) : lt3 60 d.key.data ∧ PyData.depth d.key.data ≤ 1 := by
  cases d with
  | step => exact ⟨⟨rfl, rfl, by decide +kernel, by decide +kernel⟩, by decide +kernel⟩
  | ex b n l =>
    have h1 : n.cps.size ≤ 8 := ok.1.le
    have h2 : l.cps.size ≤ 8 := ok.2.le
    have h3 : (wordOf b).cps.size ≤ 8 := by cases b <;> decide +kernel
    refine ⟨⟨rfl, rfl, ?_, by show (1 : Nat) ≤ 5; decide⟩, Nat.le_refl _⟩
    show (wordOf b).cps.size + 1 + (n.cps.size + 1 + (l.cps.size + 1 + 0)) ≤ 60
    omega
theorem lt3_row {size : Nat} {r : RowM} (s : size ≤ 30) (ok : r.Ok size) : lt3 100 r.key.data ∧ PyData.depth r.key.data ≤ 2 := by
  obtain ⟨⟨d1, d2, d3, _⟩, d4⟩ := lt3_deed ok.dd
  have a1 := ok.b0; have a2 := ok.b1; have a3 := ok.a0; have a4 := ok.a1
  obtain ⟨b1, b2, b3⟩ := int_facts ok.b0 (by omega)
  obtain ⟨c1, c2, c3⟩ := int_facts ok.a0 (by omega)
  have dd : PyData.depth r.key.data ≤ 2 := by
    show max 0 (max (PyData.depth r.deed.key.data) (max 0 0)) + 1 ≤ 2
    omega
  refine ⟨⟨?_, ?_, ?_, by omega⟩, dd⟩
  · show (PyData.intsShort 40 (.int r.before) && (PyData.intsShort 40 r.deed.key.data && (PyData.intsShort 40 (.int r.after) && true))) = true
    rw [b1, d1, c1]
    rfl
  · show (PyData.showable (.int r.before) && (PyData.showable r.deed.key.data && (PyData.showable (.int r.after) && true))) = true
    rw [b2, d2, c2]
    rfl
  · show PyData.weight (.int r.before) + 1 + (PyData.weight r.deed.key.data + 1 + (PyData.weight (.int r.after) + 1 + 0)) ≤ 100
    omega
theorem lt3_rows {size : Nat} (s : size ≤ 30) : ∀ {rs : List RowM}, (∀ r ∈ rs, r.Ok size) → PyData.intsShortAll 40 (NestedKey.datas (rs.map RowM.key)) = true ∧ PyData.showableAll (NestedKey.datas (rs.map RowM.key)) = true ∧ PyData.weightAll (NestedKey.datas (rs.map RowM.key)) ≤ 101 * rs.length ∧ PyData.depthAll (NestedKey.datas (rs.map RowM.key)) ≤ 2
  | [], _ => ⟨rfl, rfl, Nat.le_refl _, Nat.zero_le _⟩
  | r :: rs, h => by
    obtain ⟨a1, a2, a3, a4⟩ := lt3_rows s fun q hq => h q (List.mem_cons_of_mem _ hq)
    obtain ⟨⟨b1, b2, b3, _⟩, b4⟩ := lt3_row s (h r List.mem_cons_self)
    refine ⟨?_, ?_, ?_, ?_⟩
    · show (PyData.intsShort 40 r.key.data && PyData.intsShortAll 40 (NestedKey.datas (rs.map RowM.key))) = true
      rw [a1, b1]; rfl
    · show (PyData.showable r.key.data && PyData.showableAll (NestedKey.datas (rs.map RowM.key))) = true
      rw [a2, b2]; rfl
    · show PyData.weight r.key.data + 1 + PyData.weightAll (NestedKey.datas (rs.map RowM.key)) ≤ _
      rw [List.length_cons]; omega
    · show max (PyData.depth r.key.data) (PyData.depthAll (NestedKey.datas (rs.map RowM.key))) ≤ 2
      omega
theorem lt3_ints : ∀ {ns : List Int}, (∀ i ∈ ns, 0 ≤ i ∧ i < 64) → PyData.intsShortAll 40 (NestedKey.datas (ns.map .num)) = true ∧ PyData.showableAll (NestedKey.datas (ns.map .num)) = true ∧ PyData.weightAll (NestedKey.datas (ns.map .num)) ≤ 9 * ns.length ∧ PyData.depthAll (NestedKey.datas (ns.map .num)) ≤ 0
  | [], _ => ⟨rfl, rfl, Nat.le_refl _, Nat.zero_le _⟩
  | i :: ns, h => by
    obtain ⟨a1, a2, a3, a4⟩ := lt3_ints fun q hq => h q (List.mem_cons_of_mem _ hq)
    obtain ⟨b1, b2, b3⟩ := int_facts (h i List.mem_cons_self).1 (h i List.mem_cons_self).2
    refine ⟨?_, ?_, ?_, ?_⟩
    · show (PyData.intsShort 40 (.int i) && PyData.intsShortAll 40 (NestedKey.datas (ns.map .num))) = true
      rw [a1, b1]; rfl
    · show (PyData.showable (.int i) && PyData.showableAll (NestedKey.datas (ns.map .num))) = true
      rw [a2, b2]; rfl
    · show PyData.weight (.int i) + 1 + PyData.weightAll (NestedKey.datas (ns.map .num)) ≤ _
      rw [List.length_cons]; omega
    · show max 0 (PyData.depthAll (NestedKey.datas (ns.map .num))) ≤ 0
      omega
theorem mach_small {m : MachM} (ok : m.Ok) : PyData.intsShort 40 m.key.data = true ∧ PyData.showable m.key.data = true ∧ PyData.weight m.key.data ≤ 8000 ∧ PyData.depth m.key.data ≤ 4 := by
  have s1 := ok.s1
  obtain ⟨a1, a2, a3, a4⟩ := lt3_rows ok.s1 ok.r1
  obtain ⟨b1, b2, b3, b4⟩ := lt3_ints (ns := m.finals) fun i hi => by
    have := ok.f1 i hi
    omega
  obtain ⟨c1, c2, c3⟩ := int_facts (i := m.size) (by omega) (by omega)
  have l1 := ok.r3
  have l2 := ok.f3
  refine ⟨?_, ?_, ?_, ?_⟩
  · show (PyData.intsShort 40 (.int m.size) && (PyData.intsShortAll 40 (NestedKey.datas (m.finals.map .num)) && (PyData.intsShortAll 40 (NestedKey.datas (m.rows.map RowM.key)) && true))) = true
    rw [a1, b1, c1]; rfl
  · show (PyData.showable (.int m.size) && (PyData.showableAll (NestedKey.datas (m.finals.map .num)) && (PyData.showableAll (NestedKey.datas (m.rows.map RowM.key)) && true))) = true
    rw [a2, b2, c2]; rfl
  · show PyData.weight (.int m.size) + 1 + (PyData.weightAll (NestedKey.datas (m.finals.map .num)) + 1 + (PyData.weightAll (NestedKey.datas (m.rows.map RowM.key)) + 1 + 0)) ≤ 8000
    omega
  · show max 0 (max (PyData.depthAll (NestedKey.datas (m.finals.map .num)) + 1) (max (PyData.depthAll (NestedKey.datas (m.rows.map RowM.key)) + 1) 0)) + 1 ≤ 4
    omega
theorem small_md {m : MachM} {ns : List (Str × Str)} (ok : m.Ok) (nms : Nms ns) (few : ns.length ≤ 64) : small (.tuple [m.key.data, dicD ns]) = true := by
  obtain ⟨a1, a2, a3, a4⟩ := mach_small ok
  have lv : PyData.leavesShort 40 (.tuple [m.key.data, dicD ns]) = true := by
    show (PyData.leavesShort 40 m.key.data && (PyData.leavesShortKv 40 (ns.map fun p => (PyData.str p.1, PyData.str p.2)) && true)) = true
    rw [PyData.leavesShort_of_canLay0 40 _ (shaped_can (mach_shaped ok)) a1, kv_short ns nms]
    rfl
  have w : PyData.weight (.tuple [m.key.data, dicD ns]) ≤ 10000 := by
    show PyData.weight m.key.data + 1 + (PyData.weightKv (ns.map fun p => (PyData.str p.1, PyData.str p.2)) + 1 + 0) ≤ 10000
    have := kv_weight ns nms
    omega
  have dp : PyData.depth (.tuple [m.key.data, dicD ns]) ≤ 60 := by
    show max (PyData.depth m.key.data) (max (PyData.depthKv (ns.map fun p => (PyData.str p.1, PyData.str p.2)) + 1) 0) + 1 ≤ 60
    rw [kv_depth]
    omega
  have sh : PyData.showable (.tuple [m.key.data, dicD ns]) = true := by
    show (PyData.showable m.key.data && (PyData.showableKv (ns.map fun p => (PyData.str p.1, PyData.str p.2)) && true)) = true
    rw [a2, kv_show]
    rfl
  have h := PyData.shown_le 40 (by decide) _ lv
  have h2 : (PyData.shown (.tuple [m.key.data, dicD ns])).length ≤ 16777216 := by omega
  unfold small
  rw [sh, decide_eq_true dp, decide_eq_true h2]
  rfl
/-! dicts that are changed, beside tables of code objects -/
section
open LamX (Tabs)
theorem tabs_dK {T : List (Addr × Str)} {D : Addr} {H : Hp} {kvs : List (Key × V)} {o : HO} (e : H D = some (.dK kvs)) (t : Tabs T H) : Tabs T (upd H D o) := fun p hp => by
  obtain ⟨ps, h1, h2, h3⟩ := t p hp
  refine ⟨ps, ?_, h2, fun pos cv hc => ?_⟩
  · rw [upd_ne (fun z => by rw [z, e] at h1; cases h1)]
    exact h1
  · obtain ⟨c, e1, e2⟩ := h3 pos cv hc
    refine ⟨c, e1, ?_⟩
    rw [upd_ne (fun z => by rw [z, e] at e2; cases e2)]
    exact e2
theorem St0.putD {T : List (Addr × Str)} {H0 H : Hp} {d D : Addr} {n : Nat} {kvs : List (Key × V)} {o : HO} (S : St0 T H0 H d n) (n0 : hid d H0 D = none) (nd : D ≠ d) (e : H D = some (.dK kvs)) : St0 T H0 (upd H D o) d n := by
  refine ⟨fun b u eb => ?_, S.dice.same (upd_ne nd.symm), tabs_dK e S.tabs⟩
  obtain ⟨nb, e1, t⟩ := hid_inv (S.rel b u eb)
  have ne : b ≠ D := fun z => by
    rw [z, n0] at eb
    exact nomatch eb
  exact hid_get (by rw [upd_ne ne]; exact e1) nb t
end
end K03
/-! A def whose code object is known by its place (for a def that makes lambdas), no repr under way. -/
namespace GL
open PySem PySem.Spec PyProof.Rows L2
structure FunC (K : PySem.W.Frag) (x qual : Str) (st : Stmt) (f c : Addr) (fd : FuncData) : Prop where
  ex : ∃ (oc : Value) (od : Option Addr) (kV doc pm : Value) (an : Option Addr) (ct : Value) (osl : Array (Option Value)),
    fd = PySem.W.fnOf x qual (defArgs st) (defBody st) (defScope st) .none kV doc pm an (.ref c) ct ∧ K.lookup f = some ⟨oc, od, .func fd, osl⟩ ∧ PySem.W.codeIn K (.ref c) qual = true
  kp : PySem.W.keepIn K (.ref f) = true
theorem FunC.fun {K : PySem.W.Frag} {x qual : Str} {st : Stmt} {f c : Addr} {fd : FuncData} (F : FunC K x qual st f c fd) : Fun K x qual st f fd := by
  obtain ⟨⟨oc, od, kV, doc, pm, an, ct, osl, e, l, cd⟩, kp⟩ := F
  exact ⟨⟨oc, od, kV, doc, pm, an, .ref c, ct, osl, e, l, cd⟩, kp⟩
theorem funC_mk {K : PySem.W.Frag} {x qual : Str} {st : Stmt} {f c : Addr} {oc : Value} {od an : Option Addr} {osl : Array (Option Value)} {kV doc pm ct : Value} (l : K.lookup f = some ⟨oc, od, .func (PySem.W.fnOf x qual (defArgs st) (defBody st) (defScope st) .none kV doc pm an (.ref c) ct), osl⟩)
    (h : PySem.W.codeIn K (.ref c) qual = true) (k : PySem.W.keepIn K (.ref f) = true) : FunC K x qual st f c (PySem.W.fnOf x qual (defArgs st) (defBody st) (defScope st) .none kV doc pm an (.ref c) ct) := ⟨⟨oc, od, kV, doc, pm, an, ct, osl, rfl, l, h⟩, k⟩
section
variable {P : Program} {w : World} {K : PySem.W.Frag} {mg : Str → Option Value} {base : Heap} {CX : CXT} {k : Nat} {f c : Addr} {fd : FuncData} {ps : List Str} {sp : Sp}
theorem fnGC_of {name qual : Str} {st : Stmt} {N : List Str} (F : FunC K name qual st f c fd) (S : FnScope N ps (defScope st)) (len : ∀ vs H Q E, sp vs H Q E → vs.length = ps.length)
    (hbody : ∀ (A : Around) (outer : List Env) (s : Shared) (H : Hp) (vs : List V) (Q : VK) (E : XK), (A.deeper (envOfC qual (defScope st) s.heap.objs.size f (.ref c))).guards = some [] →
      Room k (A.deeper (envOfC qual (defScope st) s.heap.objs.size f (.ref c))) → sp vs H Q E →
      ∃ t, PSs (cxOf CX P w K mg base N qual (defScope st) f (.ref c) A outer s H E) (defBody st) t ∧ t { nx := fun _ H' => Q .non H', rt := Q } (start N vs) H) : FnG P w K mg base CX (k + 1) f fd ps sp := by
  obtain ⟨oc, od, kV, doc, pm, an, ct, osl, rfl, lk, hcd⟩ := F.ex
  refine ⟨len, fun A outer s H args us vs Q E hgd hr e0 hb r hsp => ?_⟩
  have hvl : vs.length = ps.length := len _ _ _ _ hsp
  have inS : K.In s.heap := e0.mod.kin.keeps (fun b o e => And.left (e0.bs b o e))
  have noLim : s.heap.NoLimit := e0.mod.nolimit.keeps (fun b o e => And.left (e0.bs b o e))
  have kinds : ∀ y ∈ ps.zip us, (defScope st).names.lookup y.1 = some .local ∨
      ((defScope st).names.lookup y.1 = some .cell ∧ ((cellsFrom (s.heap.objs.size + 1) (defScope st).names []).lookup y.1).isSome = true) := by
    rintro ⟨n, v⟩ hy
    rcases S.par n (List.of_mem_zip hy).1 with q | q
    · exact Or.inl q
    · exact Or.inr (And.intro q (PySem.W.cellsFrom_some _ _ _ (Or.inl q)))
  obtain ⟨t, ht, hq⟩ := hbody A outer s H vs Q E hgd (hr.deeper _) hsp
  refine codeAny_call_function hr.depth (inS _ _ lk) rfl S.co S.gen rfl (PySem.W.codeRec_of inS hcd) (hb _ _ _ _ (wpAny_newFunctionEnv_cells S.kind kinds ?_))
  intro env he s1 x
  subst he
  have J := inv_start (CX := CX) (P := P) (mg := mg) (E := E) S hr.hd e0 hvl r x
  have out : ∀ {σ' : L2.St} {H' : Hp} {v : V} {u : Value} {s' : Shared}, Inv (cxOf CX P w K mg base N qual (defScope st) f (.ref c) A outer s H E) [] σ' H' s' → RelV v u → Q v H' → CE outer P w H s Q u s' := by
    intro σ' H' v u s' Z rv q
    exact ⟨v, H', Z.os, Z.bare, Z.base, Z.hok, rv, q⟩
  refine ⟨noLim.keeps x.toInCall.keep, codeAny_func (wpAny_mono (ht.run [] s1 _ H _ J hq) ?_ (fun e s' hs => hs))⟩
  intro fl s' hs
  cases fl with
  | ret u => obtain ⟨v, σ', H', Z, rv, q⟩ := hs; exact out Z rv q
  | next => obtain ⟨σ', H', Z, q⟩ := hs; exact out (v := V.non) (u := Value.none) Z rfl q
  | brk => obtain ⟨_, _, _, q⟩ := hs; exact q.elim
  | cont => obtain ⟨_, _, _, q⟩ := hs; exact q.elim
end
/-- no exception leaves the def -/
theorem fnGC_ok {P : Program} {w : World} {K : PySem.W.Frag} {mg : Str → Option Value} {base : Heap} {k : Nat} {f c : Addr} {fd : FuncData} {ps : List Str} {sp : Sp} {name qual : Str} {st : Stmt} {N : List Str} (F : FunC K name qual st f c fd) (S : FnScope N ps (defScope st))
    (len : ∀ vs H Q E, sp vs H Q E → vs.length = ps.length)
    (hbody : ∀ (A : Around) (outer : List Env) (s : Shared) (H : Hp) (vs : List V) (Q : VK) (E : XK), (A.deeper (envOfC qual (defScope st) s.heap.objs.size f (.ref c))).guards = some [] →
      Room k (A.deeper (envOfC qual (defScope st) s.heap.objs.size f (.ref c))) → sp vs H Q E →
      ∃ t, PSs (cxOf CX0 P w K mg base N qual (defScope st) f (.ref c) A outer s H E).nox (defBody st) t ∧ t { nx := fun _ H' => Q .non H', rt := Q } (start N vs) H) : FnG P w K mg base CX0 (k + 1) f fd ps sp :=
  fnGC_of F S len fun A outer s H vs Q E hg hr h => let ⟨t, p, q⟩ := hbody A outer s H vs Q E hg hr h; ⟨t, p.nox, q⟩
end GL
/-! _law_renamed_right -/
namespace K03
open PySem PySem.Spec PyProof.Rows L2 WD NS MC GL
open C8 (pss_cut tCut)
open LamX (Tabs TabS CodeO ExtN tLam pe_lamcall TabB lamS_by)
abbrev sRR : Stmt := topS 40
abbrev nRR : List Str := ["_law_dice_here", "_law_machine", "_law_words_here", "_law_near_here", "_law_word", "_law_held", "_law_told", "_law_made_here", "_law_name", "_law_back", "_law_found", "_law_bad", "_law_new_here"]
theorem scRR : FnScope nRR ["_law_dice_here", "_law_machine", "_law_words_here"] (defScope sRR) := ⟨rfl, rfl, rfl, by decide +kernel, rfl, by decide +kernel, by decide +kernel⟩
abbrev lamR : Str := "_law_renamed_right.<locals>.<lambda>"
theorem lamR_eq : lamR = ((("_law_renamed_right" : Str) ++ (".<locals>." : Str)) ++ ("<lambda>" : Str)) := by decide +kernel
def spRR (K : PySem.W.Frag) (T : List (Addr × Str)) : Sp := fun vs H Q _ => ∃ (d a W : Addr) (m : MachM) (ws : List Str) (n : Nat), vs = [.ref d, .ref a, .ref W] ∧ Dice H d n ∧ n ≤ 1000000 ∧ Kz H (.ref a) m.key ∧ m.Ok ∧ H W = some (.lst (ws.map V.str)) ∧ W ≠ d ∧ ws ≠ [] ∧ ws.length ≤ 8 ∧ (∀ x ∈ ws, Wd x) ∧ Tabs T H ∧
  ∀ H', St0 T H H' d (n + 2 * ws.length + 1) → Q (.bl true) H'
/-- x(e, ..), x a def of the module by a promise of its calls alone -/
def tCallR (sp : Sp) (E : XK) (t : TA) : TE := fun σ H Q => t σ H fun vs H1 => sp vs H1 Q E
theorem pe_callFR {X : Cx} {CX : CXT} {k : Nat} {f : Addr} {sp : Sp} {E : XK} {x : Str} {p pos : Pos} {e : Expr} {es : List Expr} {t : TA} (F : FnR X.prog X.w X.K X.mg X.base CX k f sp) (hr : Room k X.A) (hg : Gl X x) (hm : X.mg x = some (.ref f)) (hk : PySem.W.keepIn X.K (.ref f) = true) (hx : Passes CX X E) (ha : PA X (e :: es) t)
    (hd : (x == ("__debug__" : Str)) = false := by decide) (he : starEach (e :: es) X.env = (false, eval e X.env) :: starEach es X.env := by rfl) (hpl : (backTo pos (starEach es X.env)).any (·.1) = false := by rfl) :
    PE X (.Call (.Name x p) (e :: es) [] pos) (tCallR sp E t) := by
  refine ⟨fun pins s σ H Q I h => ?_⟩
  refine wpAny_Call_Name_kw (ld_glob I hg hm ?_ hd)
  refine PySem.W.callWith_K (h₀ := X.base) I.ok.mod.kin hk (thn (ha.run pos pins s σ H _ I h) fun us s1 ⟨vs, H1, I1, r, q⟩ => ⟨I1.kIn, ?_⟩) he hpl
  exact wpAny_call (run_fnR F hr hx I1 r q)
def tCallRS (sp : Sp) (E : L2.St → XK) (t : TA) : TE := fun σ H Q => t σ H fun vs H1 => sp vs H1 Q (E σ)
theorem pe_callFRS {X : Cx} {CX : CXT} {k : Nat} {f : Addr} {sp : Sp} {E : L2.St → XK} {x : Str} {p pos : Pos} {e : Expr} {es : List Expr} {t : TA} (F : FnR X.prog X.w X.K X.mg X.base CX k f sp) (hr : Room k X.A) (hg : Gl X x) (hm : X.mg x = some (.ref f)) (hk : PySem.W.keepIn X.K (.ref f) = true) (hx : ∀ σ, PassesAt CX X σ (E σ)) (ha : PA X (e :: es) t)
    (hd : (x == ("__debug__" : Str)) = false := by decide) (he : starEach (e :: es) X.env = (false, eval e X.env) :: starEach es X.env := by rfl) (hpl : (backTo pos (starEach es X.env)).any (·.1) = false := by rfl) :
    PE X (.Call (.Name x p) (e :: es) [] pos) (tCallRS sp E t) := by
  refine ⟨fun pins s σ H Q I h => ?_⟩
  refine wpAny_Call_Name_kw (ld_glob I hg hm ?_ hd)
  refine PySem.W.callWith_K (h₀ := X.base) I.ok.mod.kin hk (thn (ha.run pos pins s σ H _ I h) fun us s1 ⟨vs, H1, I1, r, q⟩ => ⟨I1.kIn, ?_⟩) he hpl
  refine wpAny_call (codeAny_mono (F X.A X.stack s1 H1 us vs Q (E σ) hr I1.env0 r q) fun r s' hq => ?_)
  cases r with
  | error e => exact hx σ pins H1 s1 e s' I1 hq
  | ok fl =>
    cases fl with
    | ret u => exact I1.after hq
    | next => exact False.elim hq
    | brk => exact False.elim hq
    | cont => exact False.elim hq
theorem near_wd {m : MachM} (ok : m.Ok) {ys : List Str} (a : NearOf m ys) : ∀ x ∈ ys, Wd x := fun x hx => by
  obtain ⟨r, hr, b, l, e⟩ := (a.mem x).mp hx
  have dd := (ok.r1 r hr).dd
  rw [e] at dd
  exact dd.1
theorem St0.mono {T : List (Addr × Str)} {H0 H : Hp} {d : Addr} {n n' : Nat} (S : St0 T H0 H d n) (h : n ≤ n') : St0 T H0 H d n' := ⟨S.rel, S.dice.mono h, S.tabs⟩
theorem shaped_ret {m : MachM} (ok : m.Ok) : SeqAt.shaped (.list [.str "returned", m.key.data]) = true := by
  have c := shaped_can (mach_shaped ok)
  have dp := (mach_small ok).2.2.2
  rw [SeqAt.shaped, Bool.and_eq_true]
  refine ⟨?_, ?_⟩
  · show (PyData.canLay0 (.str "returned") && (m.key.data.canLay0 && true)) = true
    rw [c]
    decide +kernel
  · rw [decide_eq_true_eq]
    show max 0 (max (PyData.depth m.key.data) 0) + 1 ≤ 64
    omega
/-- pairs of names, as tuples -/
def PrT (H : Hp) (q : Addr) (kv : Key × V) : Prop := H q = some (.tup [kV kv.1, kv.2])
theorem prt_mono {H H' : Hp} (s : ∀ b xs, H b = some (.tup xs) → H' b = some (.tup xs)) {L : List Addr} {ks : List (Key × V)} (h : Paired (PrT H) L ks) : Paired (PrT H') L ks := by
  induction h with
  | nil => exact .nil
  | cons a _ ih => exact .cons (s _ _ a) ih
theorem prt_snoc {H : Hp} {L : List Addr} {ks : List (Key × V)} {q : Addr} {kv : Key × V} (h : Paired (PrT H) L ks) (e : PrT H q kv) : Paired (PrT H) (L ++ [q]) (ks ++ [kv]) := by
  induction h with
  | nil => exact .cons e .nil
  | cons a _ ih => exact .cons a ih
theorem prt_sqt {K : PySem.W.Frag} {H : Hp} {L : List Addr} {ks : List (Key × V)} (h : Paired (PrT H) L ks) : Paired (fun p kv => SqT K H p [kV kv.1, kv.2]) L ks := by
  induction h with
  | nil => exact .nil
  | cons a _ ih => exact .cons (SqT.of a) ih
theorem back_next {ns : List (Str × Str)} {ys : List Str} {i : Nat} {y : Str} (h : ys[i]? = some y) : kvS (back ns (ys.take (i + 1))) = kvS (back ns (ys.take i)) ++ [(Sum.inr (nu ns y), V.str y)] := by
  rw [List.take_succ, h, Option.toList_some, back, back, List.map_append, kvS, List.map_append]
  rfl
theorem upd_swap {H : Hp} {a b : Addr} {x y z : HO} (n : a ≠ b) : upd (upd (upd H a x) b y) a z = upd (upd H b y) a z := by
  funext c
  by_cases e : c = a
  · rw [e, upd_same, upd_same]
  · rw [upd_ne e, upd_ne e]
    by_cases f : c = b
    · rw [f, upd_same, upd_same]
    · rw [upd_ne f, upd_ne f, upd_ne e]
theorem wd_a : Wd "a" := ⟨by show ∀ c ∈ ("a" : Str).cps.toList, 97 ≤ c ∧ c ≤ 122; decide +kernel, by decide +kernel, by decide +kernel⟩
theorem new_none {m : MachM} (ok : m.Ok) : NewOf [] m m := by
  refine ⟨rfl, rfl, ?_, ok.r2.imp lt_le⟩
  have e : m.rows.map (renR []) = m.rows := (List.map_congr_left fun r _ => by
    obtain ⟨b, d, a⟩ := r
    cases d <;> rfl).trans (List.map_id _)
  rw [e]
/-- what the parts of _law_renamed_right keep -/
structure C3 (T : List (Addr × Str)) (H0 H : Hp) (d a p D : Addr) (m : MachM) (ys : List Str) (ns : List (Str × Str)) (n : Nat) : Prop where
  st : St0 T H0 H d n
  hm : Kz (hid d H) (.ref a) m.key
  ep : hid d H p = some (.lst (ys.map V.str))
  eD : hid d H D = some (.dK (kvS ns))
section
variable {T : List (Addr × Str)} {H0 H : Hp} {d a p D : Addr} {m : MachM} {ys : List Str} {ns : List (Str × Str)} {n : Nat}
theorem C3.go {H' : Hp} {n' : Nat} (S : C3 T H0 H d a p D m ys ns n) (r : Rel d H H') (s : St0 T H0 H' d n') : C3 T H0 H' d a p D m ys ns n' := ⟨s, Kz.same r _ _ S.hm, r _ _ S.ep, r _ _ S.eD⟩
theorem C3.new {q : Addr} {o : HO} (S : C3 T H0 H d a p D m ys ns n) (h : H q = none) : C3 T H0 (upd H q o) d a p D m ys ns n := S.go (rel_new h) (S.st.new h)
theorem C3.same {H' : Hp} (S : C3 T H0 H d a p D m ys ns n) (h : Same H H') : C3 T H0 H' d a p D m ys ns n := S.go (rel_same h) (S.st.same h)
theorem C3.roll {o : HO} (S : C3 T H0 H d a p D m ys ns n) (D' : Dice (upd H d o) d (n + 1)) : C3 T H0 (upd H d o) d a p D m ys ns (n + 1) := S.go rel_dice (S.st.roll D')
theorem C3.put {fo : Addr} {xs : List V} {o : HO} (S : C3 T H0 H d a p D m ys ns n) (n0 : hid d H0 fo = none) (nd : fo ≠ d) (e : H fo = some (.lst xs)) (fp : p ≠ fo) : C3 T H0 (upd H fo o) d a p D m ys ns n := by
  refine ⟨S.st.put n0 nd e, kz_tups (fun b us eb => ?_) _ _ S.hm, ?_, ?_⟩
  · obtain ⟨nb, e1, t⟩ := hid_inv eb
    have ne : b ≠ fo := fun z => by
      rw [z, e] at e1
      exact nomatch e1
    exact hid_get (by rw [upd_ne ne]; exact e1) nb t
  · obtain ⟨nb, e1, t⟩ := hid_inv S.ep
    exact hid_get (by rw [upd_ne fp]; exact e1) nb t
  · obtain ⟨nb, e1, t⟩ := hid_inv S.eD
    have ne : D ≠ fo := fun z => by
      rw [z, e] at e1
      exact nomatch e1
    exact hid_get (by rw [upd_ne ne]; exact e1) nb t
theorem C3.kz (S : C3 T H0 H d a p D m ys ns n) : Kz H (.ref a) m.key := Kz.same hid_up _ _ S.hm
theorem C3.pp (S : C3 T H0 H d a p D m ys ns n) : H p = some (.lst (ys.map V.str)) := hid_up _ _ S.ep
theorem C3.dd (S : C3 T H0 H d a p D m ys ns n) : H D = some (.dK (kvS ns)) := hid_up _ _ S.eD
end
structure TxtRR (K : PySem.W.Frag) (mg : Str → Option Value) (fR fO fM fN fS fB fI fX cM cO : Addr) (dR dO dM dN dS dB dI dX : FuncData) : Prop where
  R : TxtR K mg fR fO dR dO
  met : Df K mg "_law_met" sMet ["_law_call"] fM dM
  M : TxtMet K mg cM cO
  near : Df K mg "_law_near" sNear ["_law_machine"] fN dN
  new : Df K mg "_law_new" sNew ["_law_machine", "_law_new_here"] fS dS
  mrb : Df K mg "machine_renamed_by" sMRB ["machine", "names"] fB dB
  isM : Df K mg "is_machine" sIsM ["value"] fI dI
  ren : Fun K "renamed_machine" "renamed_machine" sRenM fX dX
  gren : mg "renamed_machine" = some (.ref fX)
  dict : mg "dict" = none
  repr : mg "repr" = none
section
variable {P : Program} {w : World} {K : PySem.W.Frag} {mg : Str → Option Value} {base : Heap} {fR fO fM fN fS fB fI fX cM cO c Pt : Addr} {dR dO dM dN dS dB dI dX : FuncData} {k : Nat}
theorem ok_RR {f : Addr} {fd : FuncData} (F : FunC K "_law_renamed_right" "_law_renamed_right" sRR f c fd) (T : TxtRR K mg fR fO fM fN fS fB fI fX cM cO dR dO dM dN dS dB dI dX) (TD : TxtD mg) (TS : TxtS mg) (TB : TabB base mg c Pt) (h2 : 3 ≤ k) {Tb : List (Addr × Str)} (hT : (Pt, lamR) ∈ Tb) (hTu : ∀ p ∈ Tb, p.1 = Pt → p.2 = lamR)
    (GN : FnOk P w K mg base CX0 k fN dN ["_law_machine"] spNearL) (GS : FnOk P w K mg base CX0 k fS dS ["_law_machine", "_law_new_here"] spNew) (GB : FnOk P w K mg base (L2.CX P w) k fB dB ["machine", "names"] (spMRB K cM cO)) (GI : FnOk P w K mg base CX0 k fI dI ["value"] (spIsM K)) (GX : FnR P w K mg base (L2.CX P w) k fX (spRenM0 K cM cO)) :
    FnG P w K mg base CX0 (k + 3) f fd ["_law_dice_here", "_law_machine", "_law_words_here"] (spRR K Tb) := by
  have GR : FnOk P w K mg base CX0 1 fR dR ["_law_dice_here", "_law_total"] spRoll := ok_roll T.R.R
  have GO : FnOk P w K mg base CX0 2 fO dO ["_law_dice_here", "_law_items"] spOneOf := ok_oneOf T.R.O T.R.R T.R.bR T.R.gR TD
  obtain ⟨mOc, mOd, mKV, mDoc, mPm, mAn, mCdv, mCt, mOsl, rfl, mLk, mHcd⟩ := T.met.F.ex
  refine fnGC_ok F scRR (fun vs H Q E h => ?_) (fun A outer s H vs Q E hgd hr h => ?_)
  · obtain ⟨d, a, W, m, ws, n, rfl, _⟩ := h
    rfl
  · obtain ⟨d, a, W, m, ws, n, rfl, D0, hn, hm, ok, eW, Wd', wne, wlen, wwd, tabs, q⟩ := h
    have hu := hr.units
    have hu1 := Nat.lt_of_le_of_lt (Nat.add_le_add_left (by decide : 1 ≤ 64) _) hu
    have hrk : Room k _ := hr.mono (by omega)
    have hr1 : Room 1 _ := hrk.mono (by omega)
    have hr2 : Room 2 _ := hrk.mono (by omega)
    refine ⟨_, pss_cut (ps_asg (pe_tup (pa_cons (pe_call GN hrk (by rfl) T.near.g T.near.F.kp T.near.b .nil pass0 (pa_cons (pv 1) pa_nil)) (pa_cons pe_dnewK pa_nil)))
          (pg_tup rfl (pgs_cons (pg_name (i := 3) scRR.nd rfl (.inl rfl)) (pgs_cons (pg_name (i := 12) scRR.nd rfl (.inr rfl)) pgs_nil))))
      (pss_cut (ps_for PassesOwn.never rfl (pi_list (pv 2)) (pg_name (i := 4) scRR.nd rfl (.inl rfl))
        (pss_one (ps_if (pt_cmpR op_gt (pe_call GR hr1 (by rfl) T.R.gR T.R.R.kp T.R.bR .nil pass0 (pa_cons (pv 0) (pa_cons pe_int pa_nil))) pe_int (nomark _))
          (pss_one (ps_dput hu1 (pv 12) (pv 4) (pe_call GO hr2 (by rfl) T.R.gO T.R.O.kp T.R.bO .nil pass0 (pa_cons (pv 0) (pa_cons (pv 2) pa_nil))) (by rfl))) pss_nil)))
      (pss_cut (ps_set (i := 5) scRR.nd rfl (.inl rfl) (pe_callB (call_repr_q hgd hu) (by rfl) T.repr (by decide +kernel) (pa_cons (pe_tup (pa_cons (pv 1) (pa_cons (pv 12) pa_nil))) pa_nil)))
      (pss_cut (ps_par (i := 6) (j := 7) (by rfl) scRR.nd rfl rfl (by decide) rfl rfl (pa_cons
            (pe_lamcall (T := Tb) (TT := metTT K cM cO) (k := k) (t := fun E => tCallS (spMRB K cM cO) (fun _ => E) (tCons (tVar 1) (tCons (tVar 12) tNil))) (by rfl) T.met.g T.met.F.kp mLk mHcd T.met.b scMet rfl (.inl rfl) (met_gives T.M) TB rfl hT
              (fun p hp e => by rw [hTu p hp e]; exact lamR_eq) (hr.mono (by omega)) (show LamX.LamS (defScope sRR) _ from lamS_by (by decide +kernel)) rfl (fun _ _ _ _ _ => rfl)
              (fun A outer s H E f c' hrl => pe_callS GB hrl (by rfl) T.mrb.g T.mrb.F.kp T.mrb.b (passAt (takes_of rfl rfl rfl rfl)) (pa_cons (pv 1) (pa_cons (pv 12) pa_nil))))
            (pa_cons (pe_call GS hrk (by rfl) T.new.g T.new.F.kp T.new.b .nil pass0 (pa_cons (pv 1) (pa_cons (pv 12) pa_nil))) pa_nil)) (by rfl))
      (pss_cut (ps_if (pt_cmpR op_lt (pe_callB call_len_seq (by rfl) TD.len PySem.boot_len (pa_cons (pe_call GN hrk (by rfl) T.near.g T.near.F.kp T.near.b .nil pass0 (pa_cons (pv 7) pa_nil)) pa_nil)) (pe_callB call_len_seq (by rfl) TD.len PySem.boot_len (pa_cons (pv 3) pa_nil)) (nomark _))
          (pss_one (ps_ret (pe_and (pe_cmpR (show OpR _ (compareOp .Eq) (rEqD K) from op_eqD hu) (pv 6) (pe_lst (pa_cons pe_str pa_nil)) (nomark _))
            (pe_one (pe_cmpR op_eq (pe_callB (call_repr_q hgd hu) (by rfl) T.repr (by decide +kernel) (pa_cons (pe_tup (pa_cons (pv 1) (pa_cons (pv 12) pa_nil))) pa_nil)) (pv 5) (nomark _)))))) pss_nil)
      (pss_cut (ps_if (PW.pt (pw_or (pt_cmpR (show OpR _ (compareOp .NotEq) (rNeD K) from op_neD hu) (pv 6) (pe_lst (pa_cons pe_str (pa_cons (pv 7) pa_nil))) (nomark _))
          (pw_or (pt_cmpR op_isnot_bl (pe_call GI hrk (by rfl) T.isM.g T.isM.F.kp T.isM.b .nil pass0 (pa_cons (pv 7) pa_nil)) pe_bl (nomark _))
          (pw_or1 (pt_cmpR op_ne (pe_callB (call_repr_q hgd hu) (by rfl) T.repr (by decide +kernel) (pa_cons (pe_tup (pa_cons (pv 1) (pa_cons (pv 12) pa_nil))) pa_nil)) (pv 5) (nomark _)))))) (pss_one (ps_ret pe_bl)) pss_nil)
      (pss_cut (ps_set (i := 9) scRR.nd rfl (.inl rfl) (pe_callTy (call_dictP rfl) (by rfl) T.dict (by decide +kernel) (pa_cons (pe_lc (own := [("_law_name", 8)]) (g := gName 8) (tt := tYes) (te := tTup (tCons (tDGet2 (tVar 12) (tVar 8) (tVar 8)) (tCons (tVar 8) tNil))) rfl scRR.nd (pi_list (pv 3)) (blkOk_by (own := [("_law_name", 8)]) (N := nRR) (sc := defScope sRR) (by decide +kernel))
          (fun _ _ _ _ _ => pg_name (i := 8) scRR.nd rfl (.inl rfl)) (fun _ _ _ _ _ => pts_nil)
          (fun _ _ _ _ _ => pe_tup (pa_cons (pe_dget2 hu1 (pv 12) (pv 8) (pv 8) ⟨rfl, by rfl, rfl, rfl⟩) (pa_cons (pv 8) pa_nil)))) pa_nil)))
      (pss_cut (ps_if (pt_cmpR (show OpR _ (compareOp .NotEq) (rNeD K) from op_neD hu) (pe_call GB hrk (by rfl) T.mrb.g T.mrb.F.kp T.mrb.b .nil (passE0 rfl rfl) (pa_cons (pe_ix ix_list (pv 6) pe_int (fun _ _ => rfl)) (pa_cons (pv 9) pa_nil))) (pv 1) (nomark _)) (pss_one (ps_ret pe_bl)) pss_nil)
      (pss_cut (ps_set (i := 11) scRR.nd rfl (.inr rfl) (pe_call GO hr2 (by rfl) T.R.gO T.R.O.kp T.R.bO .nil pass0 (pa_cons (pv 0) (pa_cons (pe_lst
          (pa_cons pe_non (pa_cons (pe_lst pa_nil) (pa_cons (pe_tup (pa_cons pe_str (pa_cons pe_str pa_nil)))
          (pa_cons (pe_disp (pps_cons pe_str pe_str pps_nil) (by rfl) (by rfl) (by simp) (by decide))
          (pa_cons (pe_disp (pps_cons pe_int pe_str pps_nil) (by rfl) (by rfl) (by simp) (by decide))
          (pa_cons (pe_disp (pps_cons pe_str pe_non pps_nil) (by rfl) (by rfl) (by simp) (by decide))
          (pa_cons (pe_disp (pps_cons pe_str pe_str pps_nil) (by rfl) (by rfl) (by simp) (by decide))
          (pa_cons (pe_disp (pps_cons pe_str (pe_tup (pa_cons pe_str pa_nil)) pps_nil) (by rfl) (by rfl) (by simp) (by decide)) pa_nil))))))))) pa_nil))))
      (pss_cut (ps_set (i := 10) scRR.nd rfl (.inl rfl) (pe_lst4 (pa_cons
            (pe_lamcall (T := Tb) (TT := metTT K cM cO) (k := k) (t := fun E => tCallS (spMRB K cM cO) (fun _ => E) (tCons (tVar 1) (tCons (tVar 11) tNil))) (by rfl) T.met.g T.met.F.kp mLk mHcd T.met.b scMet rfl (.inl rfl) (met_gives T.M) TB rfl hT
              (fun p hp e => by rw [hTu p hp e]; exact lamR_eq) (hr.mono (by omega)) (show LamX.LamS (defScope sRR) _ from lamS_by (by decide +kernel)) rfl (fun _ _ _ _ _ => rfl)
              (fun A outer s H E f c' hrl => pe_callS GB hrl (by rfl) T.mrb.g T.mrb.F.kp T.mrb.b (passAt (takes_of rfl rfl rfl rfl)) (pa_cons (pv 1) (pa_cons (pv 11) pa_nil)))) pa_nil)))
      (pss_cut (ps_expr (pe_bm PySem.F.plainAttrs_list PySem.F.slot_list_append PySem.F.type_list_append mt_append (pv 10) (pa_cons
            (pe_lamcall (T := Tb) (TT := metTT K cM cO) (k := k) (t := fun E => tCallS (spMRB K cM cO) (fun _ => E) (tCons (tSl (rSlT K) (tVar 1) tNoPart (tPart (tC (.int 2)))) (tCons (tVar 11) tNil))) (by rfl) T.met.g T.met.F.kp mLk mHcd T.met.b scMet rfl (.inl rfl) (met_gives T.M) TB rfl hT
              (fun p hp e => by rw [hTu p hp e]; exact lamR_eq) (hr.mono (by omega)) (show LamX.LamS (defScope sRR) _ from lamS_by (by decide +kernel)) rfl (fun _ _ _ _ _ => rfl)
              (fun A outer s H E f c' hrl => pe_callS GB hrl (by rfl) T.mrb.g T.mrb.F.kp T.mrb.b (passAt (takes_of rfl rfl rfl rfl)) (pa_cons (pe_slice (show SlR _ (rSlT K) from sl_tup) (pv 1) po_none (po_some pe_int)) (pa_cons (pv 11) pa_nil)))) pa_nil)))
      (pss_cut (ps_expr (pe_bm PySem.F.plainAttrs_list PySem.F.slot_list_append PySem.F.type_list_append mt_append (pv 10) (pa_cons
            (pe_lamcall (T := Tb) (TT := metTT K cM cO) (k := k) (t := fun E => tCallRS (spRenM0 K cM cO) (fun _ => E) (tCons (tC .non) tNil)) (by rfl) T.met.g T.met.F.kp mLk mHcd T.met.b scMet rfl (.inl rfl) (met_gives T.M) TB rfl hT
              (fun p hp e => by rw [hTu p hp e]; exact lamR_eq) (hr.mono (by omega)) (show LamX.LamS (defScope sRR) _ from lamS_by (by decide +kernel)) rfl (fun _ _ _ _ _ => rfl)
              (fun A outer s H E f c' hrl => pe_callFRS GX hrl (by rfl) T.gren T.ren.kp (passAt (takes_of rfl rfl rfl rfl)) (pa_cons pe_non pa_nil))) pa_nil)))
      (pss_one (ps_ret (pe_and (pe_cmpR (show OpR _ (compareOp .Eq) (rEqD K) from op_eqD hu) (pv 10) (pe_lst (pa_cons (pe_lst (pa_cons pe_str pa_nil)) (pa_cons (pe_lst (pa_cons pe_str pa_nil)) (pa_cons (pe_lst (pa_cons pe_str pa_nil)) pa_nil)))) (nomark _))
          (pe_one (pe_cmpR (show OpR _ (compareOp .Eq) (rEqD K) from op_eqD hu) (pe_callFR GX hrk (by rfl) T.gren T.ren.kp (passE0 rfl rfl) (pa_cons (pv 1) pa_nil)) (pv 1) (nomark _))))))))))))))))), ?_⟩
    have wd0 : H d ≠ none := dice_none D0
    -- the neighbours, a dict
    refine ⟨fun σ' H' => ∃ (p D : Addr) (ys : List Str), σ' = [some (.ref d), some (.ref a), some (.ref W), some (.ref p), none, none, none, none, none, none, none, none, some (.ref D)] ∧
      C3 Tb H H' d a p D m ys [] n ∧ hid d H' W = some (.lst (ws.map V.str)) ∧ hid d H D = none ∧ D ≠ d ∧ D ≠ p ∧ NearOf m ys ∧ ys.length < 64, ?_, ?_⟩
    · refine ⟨_, rfl, a, m, rfl, hm, ok.r3, fun H1 p ys s1 np e1 near few => fun D nD => ⟨(by show 2 ≤ sizeLine; decide), fun t nt => ?_⟩⟩
      have S1 : St0 Tb H H1 d n := ⟨rel_same s1, dice_same D0 s1, tabs.ext s1⟩
      have S2 := S1.new (o := .dK []) nD
      have S3 := S2.new (o := .tup [.ref p, .ref D]) nt
      have Dd : D ≠ d := ne_dice S1.dice nD
      have pd : p ≠ d := ne_dice D0 np
      have Dp : D ≠ p := (ne_of_none e1 nD).symm
      have kD := same_upd (o := .dK []) nD
      have kt := same_upd (o := .tup [.ref p, .ref D]) nt
      refine ⟨t, _, rfl, SqT.of upd_same, rfl, _, _, rfl, _, _, rfl, rfl, p, D, ys, rfl, ⟨S3, Kz.same S3.rel _ _ (kz_hid D0 _ _ hm), hid_get (kt _ _ (kD _ _ e1)) pd rfl, hid_get (kt _ _ upd_same) Dd rfl⟩, hid_get ((s1.trans (kD.trans kt)) _ _ eW) Wd' rfl, hid_none (s1.free nD), Dd, Dp, near, few⟩
    rintro σ1 H1 ⟨p, D, ys, rfl, S1, eW1, nD, Dd, Dp, near, few⟩
    have wy : ∀ y ∈ ys, Wd y := near_wd ok near
    -- new names
    refine ⟨fun σ' H' => ∃ (u4 : Option V) (ns : List (Str × Str)), σ' = [some (.ref d), some (.ref a), some (.ref W), some (.ref p), u4, none, none, none, none, none, none, none, some (.ref D)] ∧
      C3 Tb H H' d a p D m ys ns (n + 2 * ws.length) ∧ ns.length ≤ ws.length ∧ Nms ns, ?_, ?_⟩
    · refine ⟨_, rfl, W, rfl, ⟨_, SqL.of (hid_up _ _ eW1)⟩, ?_⟩
      refine for_list (xs := ws.map V.str) (fun i σ' H' => ∃ (u4 : Option V) (ns : List (Str × Str)), σ' = [some (.ref d), some (.ref a), some (.ref W), some (.ref p), u4, none, none, none, none, none, none, none, some (.ref D)] ∧
        C3 Tb H H' d a p D m ys ns (n + 2 * i) ∧ hid d H' W = some (.lst (ws.map V.str)) ∧ ns.length ≤ i ∧ Nms ns) ⟨none, [], rfl, S1, eW1, Nat.le_refl _, fun _ z => nomatch z⟩ (fun i σ H' _ z => ?_) ?_ (fun σ' H' z => ?_)
      · obtain ⟨u4, ns, _, S, e, _⟩ := z
        exact SqL.of (hid_up _ _ e)
      · rintro i v σ2 H2 hv ⟨u4, ns, rfl, S2, eW2, ln, nms⟩
        obtain ⟨x, hx, rfl⟩ : ∃ x, x ∈ ws ∧ v = .str x := by
          obtain ⟨x, hx, e⟩ := List.mem_map.mp (List.mem_of_getElem? hv)
          exact ⟨x, hx, e.symm⟩
        have il : i < ws.length := by
          have z := (List.getElem?_eq_some_iff.mp hv).1
          rw [List.length_map] at z
          exact z
        refine ⟨_, rfl, d, 3, n + 2 * i, rfl, S2.st.dice, by omega, by decide, by decide, fun r o r0 r1 D4 => ⟨_, _, rfl, rfl, _, rfl, ?_⟩⟩
        have S4 := S2.roll D4
        have eW4 := rel_dice (o := o) _ _ eW2
        refine ifB (fun _ => ?_) fun _ => ⟨_, ns, rfl, ⟨S4.st.mono (by omega), S4.hm, S4.ep, S4.eD⟩, eW4, by omega, nms⟩
        refine ⟨_, rfl, _, rfl, d, W, n + 2 * i + 1, _, rfl, S4.st.dice, by omega, hid_up _ _ eW4, Wd', ?_, ?_, fun v o2 hv2 D5 => ?_⟩
        · rw [List.length_map]
          exact List.length_pos_iff.mpr wne
        · rw [List.length_map]
          omega
        have S5 := S4.roll D5
        have eW5 := rel_dice (o := o2) _ _ eW4
        obtain ⟨y, hy, rfl⟩ := List.mem_map.mp hv2
        have dd5 := S5.dd
        have put := DPut.k (k := Sum.inr x) (v := V.str y) dd5 (by rw [List.length_map, sizeLine_eq]; omega)
        refine ⟨_, rfl, _, rfl, D, _, rfl, put, some (.str x), putN ns x y, rfl, ?_, ?_, ?_, putN_nms nms (wwd x hx) (wwd y hy)⟩
        · have pD : p ≠ D := Dp.symm
          have st := S5.st.putD (o := .dK (putK (kvS ns) (Sum.inr x) (V.str y))) nD Dd dd5
          refine ⟨(st.mono (by omega)), ?_, ?_, ?_⟩
          · exact Kz.same st.rel _ _ (kz_hid D0 _ _ hm)
          · obtain ⟨pd, ep, _⟩ := hid_inv S5.ep
            exact hid_get (by rw [upd_ne pD]; exact ep) pd rfl
          · rw [putK_kvS]
            exact hid_get upd_same Dd rfl
        · obtain ⟨wd, e5, _⟩ := hid_inv eW5
          have WD : W ≠ D := fun z => by
            rw [z] at e5
            rw [dd5] at e5
            exact nomatch e5
          exact hid_get (by rw [upd_ne WD]; exact e5) wd rfl
        · have := putN_len ns x y
          omega
      · rw [List.length_map] at z
        obtain ⟨u4, ns, e, S, _, l, nm⟩ := z
        exact ⟨u4, ns, e, S, l, nm⟩
    rintro σ2 H2 ⟨u4, ns, rfl, S2, ln, nms⟩
    have few64 : ns.length < 64 := by omega
    have sm : small (.tuple [m.key.data, dicD ns]) = true := small_md ok nms (by omega)
    have wdn : ∀ {x : Str}, Wd x → Wd (nu ns x) := fun h => nu_wd nms h
    -- repr((machine, dict)), at any time
    have rep : ∀ {H' : Hp} {n' : Nat} {R : VK} {σ' : L2.St}, C3 Tb H H' d a p D m ys ns n' → σ'[1]? = some (some (.ref a)) → σ'[12]? = some (some (.ref D)) →
        (∀ t, H' t = none → R (.str (PyData.shown (.tuple [m.key.data, dicD ns]))) (upd H' t (.tup [.ref a, .ref D]))) → tCB rReprQ (tCons (tTup (tCons (tVar 1) (tCons (tVar 12) tNil))) tNil) σ' H' R := by
      intro H' n' R σ' S e1 e2 h
      refine ⟨_, e1, _, e2, (by show 2 ≤ sizeLine; decide), fun t nt => ⟨t, _, rfl, .tup upd_same (.cons (Kz.dq _ _ (Kz.same (same_upd nt) _ _ S.kz)) (.cons (.dic (same_upd nt _ _ S.dd)) .nil)), sm, h t nt⟩⟩
    refine ⟨fun σ' H' => σ' = [some (.ref d), some (.ref a), some (.ref W), some (.ref p), u4, some (.str (PyData.shown (.tuple [m.key.data, dicD ns]))), none, none, none, none, none, none, some (.ref D)] ∧ C3 Tb H H' d a p D m ys ns (n + 2 * ws.length), ?_, ?_⟩
    · exact rep S2 rfl rfl fun t nt => ⟨rfl, S2.new nt⟩
    rintro σ3 H3 ⟨rfl, S3⟩
    -- told, made
    refine ⟨fun σ' H' => ∃ (th mp : Addr) (m' : MachM), σ' = [some (.ref d), some (.ref a), some (.ref W), some (.ref p), u4, some (.str (PyData.shown (.tuple [m.key.data, dicD ns]))), some (.ref th), some (.ref mp), none, none, none, none, some (.ref D)] ∧
      C3 Tb H H' d a p D m ys ns (n + 2 * ws.length) ∧ NewOf ns m m' ∧ Kz (hid d H') (.ref mp) m'.key ∧
      ((¬ (ys.map (nu ns)).Nodup ∧ hid d H' th = some (.lst [.str "operation"])) ∨ ((ys.map (nu ns)).Nodup ∧ ∃ tp, hid d H' th = some (.lst [.str "returned", .ref tp]) ∧ Kz (hid d H') (.ref tp) m'.key)), ?_, ?_⟩
    · refine ⟨S3.st.tabs, fun Ha eN Ta => ?_⟩
      have rA := rel_ext (d := d) eN
      have SA := S3.go rA (S3.st.lam eN Ta)
      refine ⟨_, rfl, _, rfl, _, _, rfl, .inr ⟨a, m, rfl, SA.kz, ok, .inr ⟨D, ns, rfl, SA.dd, nms, few64, ys, near, ?_⟩⟩⟩
      by_cases nd : (ys.map (nu ns)).Nodup
      · refine .inr ⟨nd, fun H' tp m' s' np N kp => ⟨(by show 2 ≤ sizeLine; decide), fun th nth f4 => ⟨_, rfl, _, rfl, ?_⟩⟩⟩
        have SB := SA.same s'
        have SC := SB.new (o := .lst [.str "returned", .ref tp]) nth
        have eth := SB.st.at (o := .lst [.str "returned", .ref tp]) nth rfl
        have ktp := kz_hid SB.st.dice _ _ kp
        refine ⟨a, D, m, ns, rfl, SC.kz, ok, SC.dd, nms, fun H2 mp m2 s2 nq N2 k2 => ⟨_, _, rfl, th, mp, m', rfl, SC.same s2, N, ?_, .inr ⟨nd, tp, rel_same s2 _ _ eth, ?_⟩⟩⟩
        · rw [N.ext N2]
          exact kz_hid (dice_same SC.st.dice s2) _ _ k2
        · exact Kz.same ((rel_new nth).trans (rel_same s2)) _ _ ktp
      · refine .inl ⟨nd, fun H' s' => .inr ⟨rfl, fun th nth f4 => ⟨_, rfl, _, rfl, ?_⟩⟩⟩
        have SB := SA.same s'
        have SC := SB.new (o := .lst [.str "operation"]) nth
        have eth := SB.st.at (o := .lst [.str "operation"]) nth rfl
        exact ⟨a, D, m, ns, rfl, SC.kz, ok, SC.dd, nms, fun H2 mp m2 s2 nq N2 k2 => ⟨_, _, rfl, th, mp, m2, rfl, SC.same s2, N2, kz_hid (dice_same SC.st.dice s2) _ _ k2, .inl ⟨nd, rel_same s2 _ _ eth⟩⟩⟩
    rintro σ4 H4 ⟨th, mp, m', rfl, S4, N, kmp, told⟩
    have sh1 : SeqAt.shaped (.list [.str "operation"]) = true := by decide +kernel
    -- fewer neighbours?
    refine ⟨fun σ' H' => σ' = [some (.ref d), some (.ref a), some (.ref W), some (.ref p), u4, some (.str (PyData.shown (.tuple [m.key.data, dicD ns]))), some (.ref th), some (.ref mp), none, none, none, none, some (.ref D)] ∧
      C3 Tb H H' d a p D m ys ns (n + 2 * ws.length) ∧ Rel d H4 H' ∧ (ys.map (nu ns)).Nodup ∧ (∃ zs, NearOf m' zs) ∧ ∃ tp, hid d H4 th = some (.lst [.str "returned", .ref tp]) ∧ Kz (hid d H4) (.ref tp) m'.key, ?_, ?_⟩
    · refine ⟨_, rfl, mp, m', rfl, Kz.same hid_up _ _ kmp, (by rw [N.len]; exact ok.r3), fun H5 q5 zs s5 nq eq near' few' => ⟨q5, _, rfl, .inl (SqL.of eq), _, rfl, p, _, rfl, .inl (SqL.of (s5 _ _ S4.pp)), _, _, rfl, rfl, _, rfl, ?_⟩⟩
      have ei : (((zs.map V.str).length : Nat) : Int) < (((ys.map V.str).length : Nat) : Int) ↔ ¬ (ys.map (nu ns)).Nodup := by
        rw [List.length_map, List.length_map, ← N.few near near']
        omega
      have S5 := S4.same s5
      rcases told with ⟨col, eth⟩ | ⟨nd, tp, eth, ktp⟩
      · refine ifT (decide_eq_true (ei.mpr col)) ⟨_, rfl, (by show 1 ≤ sizeLine; decide), fun l nl => ?_⟩
        have S6 := S5.new (o := .lst [.str "operation"]) nl
        have eth6 := hid_up _ _ ((rel_same (d := d) (s5.trans (same_upd (o := .lst [.str "operation"]) nl))) _ _ eth)
        refine ⟨.list [.str "operation"], .list [.str "operation"], .lst (SqL.of eth6) (.cons (.str _) .nil), .lst (SqL.of upd_same) (.cons (.str _) .nil), sh1, sh1, _, rfl, ifT (eqv_self sh1) ?_⟩
        refine rep S6 rfl rfl fun t nt => ⟨_, rfl, rfl, ?_⟩
        rw [decide_eq_true rfl]
        exact q _ ((S6.new nt).st.mono (by omega))
      · exact ifF (decide_eq_false fun z => ei.mp z nd) ⟨rfl, S5, rel_same s5, nd, ⟨zs, near'⟩, tp, eth, ktp⟩
    rintro σ5 H5 ⟨rfl, S5, r45, nd, ⟨zs, near'⟩, tp, eth4, ktp4⟩
    have ok' : m'.Ok := N.ok ok nms near nd
    have eth5 := r45 _ _ eth4
    have ktp5 := Kz.same r45 _ _ ktp4
    have kmp5 := Kz.same r45 _ _ kmp
    -- all as it should be
    refine ⟨fun σ' H' => σ' = [some (.ref d), some (.ref a), some (.ref W), some (.ref p), u4, some (.str (PyData.shown (.tuple [m.key.data, dicD ns]))), some (.ref th), some (.ref mp), none, none, none, none, some (.ref D)] ∧
      C3 Tb H H' d a p D m ys ns (n + 2 * ws.length) ∧ Rel d H5 H', ?_, ?_⟩
    · refine ⟨_, rfl, _, rfl, (by show 2 ≤ sizeLine; decide), fun l nl => ?_⟩
      have kl := same_upd (o := .lst [.str "returned", .ref mp]) nl
      have S6 := S5.new (o := .lst [.str "returned", .ref mp]) nl
      refine ⟨.list [.str "returned", m'.key.data], .list [.str "returned", m'.key.data], .lst (SqL.of (kl _ _ (hid_up _ _ eth5))) (.cons (.str _) (.cons (kz_dp _ _ (Kz.same (rel_new nl) _ _ ktp5 |> Kz.same hid_up _ _)) .nil)), .lst (SqL.of upd_same) (.cons (.str _) (.cons (kz_dp _ _ (Kz.same (rel_new nl) _ _ kmp5 |> Kz.same hid_up _ _)) .nil)), shaped_ret ok', shaped_ret ok', ?_⟩
      rw [eqv_self (shaped_ret ok')]
      refine ⟨_, rfl, ifF rfl ?_⟩
      refine ⟨_, rfl, _, rfl, .inl ⟨mp, m', rfl, (Kz.same (rel_new nl) _ _ kmp5 |> Kz.same hid_up _ _), ok', fun H7 s7 => ⟨true, true, rfl, rfl, _, rfl, ifF (by decide) ?_⟩⟩⟩
      have S7 := S6.same s7
      refine rep S7 rfl rfl fun t nt => ⟨_, rfl, rfl, _, rfl, ifF ?_ ⟨rfl, S7.new nt, (rel_new nl).trans ((rel_same s7).trans (rel_new nt))⟩⟩
      rw [decide_eq_true rfl]
      rfl
    rintro σ6 H6 ⟨rfl, S6, r56⟩
    have eth6 := r56 _ _ eth5
    have ktp6 := Kz.same r56 _ _ ktp5
    -- the names back
    refine ⟨fun σ' H' => ∃ (u8 : Option V) (bk : Addr), σ' = [some (.ref d), some (.ref a), some (.ref W), some (.ref p), u4, some (.str (PyData.shown (.tuple [m.key.data, dicD ns]))), some (.ref th), some (.ref mp), u8, some (.ref bk), none, none, some (.ref D)] ∧
      C3 Tb H H' d a p D m ys ns (n + 2 * ws.length) ∧ Rel d H6 H' ∧ H' bk = some (.dK (kvS (back ns ys))), ?_, ?_⟩
    · refine ⟨_, rfl, p, rfl, ⟨_, SqL.of S6.pp⟩, fun C nC => ?_⟩
      have sC := same_upd (o := .lst []) nC
      refine lc_list (xs := ys.map V.str) (fun i H' => Same H6 H' ∧ ∃ L : List Addr, H' C = some (.lst (L.map V.ref)) ∧ L.length = i ∧ Paired (PrT H') L (kvS (back ns (ys.take i)))) ⟨sC, [], upd_same, rfl, .nil⟩ (fun i H' _ z => SqL.of (z.1 _ _ S6.pp)) ?_ ?_
      · rintro i v H7 hv ⟨s7, L, eL, lL, pL⟩
        rw [List.getElem?_map] at hv
        obtain ⟨y, hy, rfl⟩ := Option.map_eq_some_iff.mp hv
        have il : i < ys.length := (List.getElem?_eq_some_iff.mp hy).1
        have dd7 := s7 _ _ S6.dd
        refine ⟨rfl, tYes_ite ⟨_, rfl, D, rfl, .inl ⟨_, .inl dd7⟩, _, rfl, _, rfl, _, DGet.k (k := Sum.inr y) dd7, ?_⟩⟩
        rw [nu_get]
        refine ⟨_, rfl, (by show 2 ≤ sizeLine; decide), fun t nt => ?_⟩
        have kt := same_upd (o := .tup [.str (nu ns y), .str y]) nt
        have eL' := kt _ _ eL
        refine ⟨_, eL', ?_, same_set (s7.trans kt) nC, L ++ [t], ?_, ?_, ?_⟩
        · rw [List.length_map, lL, sizeLine_eq]
          omega
        · rw [upd_same, List.map_append]
          rfl
        · rw [List.length_append, lL]
          rfl
        · rw [back_next hy]
          have put : ∀ b xs, upd H7 t (.tup [.str (nu ns y), .str y]) b = some (.tup xs) → upd (upd H7 t (.tup [.str (nu ns y), .str y])) C (.lst (L.map V.ref ++ [.ref t])) b = some (.tup xs) := fun b xs e => by
            have ne : b ≠ C := fun z => by
              rw [z, eL'] at e
              exact nomatch e
            rw [upd_ne ne]
            exact e
          exact prt_snoc (prt_mono (fun b xs e => put b xs (kt _ _ e)) pL) (put _ _ upd_same)
      · rintro H7 ⟨s7, L, eL, lL, pL⟩
        rw [List.length_map, List.take_length] at pL
        refine ⟨C, L, kvS (back ns ys), rfl, SqL.of eL, prt_sqt pL, fun bk nb => ?_⟩
        rw [mergeK_kvS (by rw [back_keys]; exact nd)]
        exact ⟨_, bk, rfl, (S6.same s7).new nb, (rel_same s7).trans (rel_new nb), upd_same⟩
    rintro σ7 H7 ⟨u8, bk, rfl, S7, r67, ebk⟩
    have eth7 := r67 _ _ eth6
    have ktp7 := Kz.same r67 _ _ ktp6
    have l64 := ok.r3
    -- and the machine back
    refine ⟨fun σ' H' => σ' = [some (.ref d), some (.ref a), some (.ref W), some (.ref p), u4, some (.str (PyData.shown (.tuple [m.key.data, dicD ns]))), some (.ref th), some (.ref mp), u8, some (.ref bk), none, none, some (.ref D)] ∧
      C3 Tb H H' d a p D m ys ns (n + 2 * ws.length), ?_, ?_⟩
    · refine ⟨_, rfl, th, _, 1, .ref tp, rfl, rfl, SqL.of (hid_up _ _ eth7), atI_nat (j := 1) rfl, _, rfl, ?_⟩
      refine ⟨_, _, rfl, .inr ⟨tp, m', rfl, Kz.same hid_up _ _ ktp7, ok', .inr ⟨bk, back ns ys, rfl, ebk, back_nms nms wy, ?_, zs, near', .inr ⟨back_inj N near near' nd, fun H8 q8 m3 s8 n8 N3 k3 => ?_⟩⟩⟩⟩
      · rw [back, List.length_map]
        exact few
      cases N3.ext (N.back ok near nd)
      have S8 := S7.same s8
      exact ⟨_, rfl, ne_mach ok k3 S8.kz ⟨_, rfl, ifF rfl ⟨rfl, S8⟩⟩⟩
    rintro σ8 H8 ⟨rfl, S8⟩
    -- bad names
    refine ⟨fun σ' H' => ∃ bad : V, σ' = [some (.ref d), some (.ref a), some (.ref W), some (.ref p), u4, some (.str (PyData.shown (.tuple [m.key.data, dicD ns]))), some (.ref th), some (.ref mp), u8, some (.ref bk), none, some bad, some (.ref D)] ∧
      C3 Tb H H' d a p D m ys ns (n + 2 * ws.length + 1) ∧ BadNm K (hid d H') bad, ?_, ?_⟩
    · refine ⟨_, rfl, Nat.zero_le _, fun l1 nl1 => ?_⟩
      have Sa := S8.new (o := .lst []) nl1
      have e1 := S8.st.at (o := .lst []) nl1 rfl
      refine ⟨(by show 2 ≤ sizeLine; decide), fun t1 nt1 => ?_⟩
      have Sb := Sa.new (o := .tup [.str "a", .str "b"]) nt1
      have e2 := Sa.st.at (o := .tup [.str "a", .str "b"]) nt1 rfl
      have r2 := rel_new (d := d) (o := .tup [.str "a", .str "b"]) nt1
      intro d1 nd1
      refine ⟨upd_same, [(Sum.inr "a", .str "B")], rfl, by decide, ?_⟩
      rw [upd_upd]
      have Sc := Sb.new (o := .dK (mergeK [] [(Sum.inr "a", .str "B")])) nd1
      have e3 := Sb.st.at (o := .dK (mergeK [] [(Sum.inr "a", .str "B")])) nd1 rfl
      have r3 := rel_new (d := d) (o := .dK (mergeK [] [(Sum.inr "a", .str "B")])) nd1
      intro d2 nd2
      refine ⟨upd_same, [(Sum.inl 1, .str "a")], rfl, by decide, ?_⟩
      rw [upd_upd]
      have Sd := Sc.new (o := .dK (mergeK [] [(Sum.inl 1, .str "a")])) nd2
      have e4 := Sc.st.at (o := .dK (mergeK [] [(Sum.inl 1, .str "a")])) nd2 rfl
      have r4 := rel_new (d := d) (o := .dK (mergeK [] [(Sum.inl 1, .str "a")])) nd2
      intro d3 nd3
      refine ⟨upd_same, [(Sum.inr "a", .non)], rfl, by decide, ?_⟩
      rw [upd_upd]
      have Se := Sd.new (o := .dK (mergeK [] [(Sum.inr "a", .non)])) nd3
      have e5 := Sd.st.at (o := .dK (mergeK [] [(Sum.inr "a", .non)])) nd3 rfl
      have r5 := rel_new (d := d) (o := .dK (mergeK [] [(Sum.inr "a", .non)])) nd3
      intro d4 nd4
      refine ⟨upd_same, [(Sum.inr "A", .str "a")], rfl, by decide, ?_⟩
      rw [upd_upd]
      have Sf := Se.new (o := .dK (mergeK [] [(Sum.inr "A", .str "a")])) nd4
      have e6 := Se.st.at (o := .dK (mergeK [] [(Sum.inr "A", .str "a")])) nd4 rfl
      have r6 := rel_new (d := d) (o := .dK (mergeK [] [(Sum.inr "A", .str "a")])) nd4
      intro d5 nd5
      refine ⟨(by show 1 ≤ sizeLine; decide), fun t2 nt2 => ?_⟩
      have n52 : d5 ≠ t2 := fun z => by
        rw [← z, upd_same] at nt2
        exact nomatch nt2
      refine ⟨by rw [upd_ne n52]; exact upd_same, [(Sum.inr "a", .ref t2)], rfl, Nat.le_of_ble_eq_true rfl, ?_⟩
      rw [upd_swap n52]
      have nt2' := nt2
      rw [upd_ne n52.symm] at nt2'
      have Sg := Sf.new (o := .tup [.str "b"]) nt2'
      have eg := Sf.st.at (o := .tup [.str "b"]) nt2' rfl
      have rg := rel_new (d := d) (o := .tup [.str "b"]) nt2'
      have nd5' : upd (upd (upd (upd (upd (upd (upd H8 l1 (.lst [])) t1 (.tup [.str "a", .str "b"])) d1 (.dK (mergeK [] [(Sum.inr "a", .str "B")]))) d2 (.dK (mergeK [] [(Sum.inl 1, .str "a")]))) d3 (.dK (mergeK [] [(Sum.inr "a", .non)]))) d4 (.dK (mergeK [] [(Sum.inr "A", .str "a")]))) t2 (.tup [.str "b"]) d5 = none := by
        rw [upd_ne n52]
        exact nd5
      have Sh := Sg.new (o := .dK (mergeK [] [(Sum.inr "a", .ref t2)])) nd5'
      have e7 := Sg.st.at (o := .dK (mergeK [] [(Sum.inr "a", .ref t2)])) nd5' rfl
      have rh := rel_new (d := d) (o := .dK (mergeK [] [(Sum.inr "a", .ref t2)])) nd5'
      refine ⟨(by show 8 ≤ sizeLine; decide), fun L nL => ?_⟩
      have Si := Sh.new (o := .lst [.non, .ref l1, .ref t1, .ref d1, .ref d2, .ref d3, .ref d4, .ref d5]) nL
      have ri := rel_new (d := d) (o := .lst [.non, .ref l1, .ref t1, .ref d1, .ref d2, .ref d3, .ref d4, .ref d5]) nL
      refine ⟨d, L, n + 2 * ws.length, _, rfl, Si.st.dice, by omega, upd_same, ne_dice Sh.st.dice nL, Nat.zero_lt_succ _, (by show 8 < 1000000; decide), fun x o hx D4 => ⟨x, rfl, Si.roll D4, ?_⟩⟩
      have rj := ri.trans (rel_dice (o := o))
      have k7 := rj _ _ e7
      have kg := (rh.trans rj) _ _ eg
      have k6 := ((rg.trans rh).trans rj) _ _ e6
      have k5 := ((r6.trans (rg.trans rh)).trans rj) _ _ e5
      have k4 := ((r5.trans (r6.trans (rg.trans rh))).trans rj) _ _ e4
      have k3 := ((r4.trans (r5.trans (r6.trans (rg.trans rh)))).trans rj) _ _ e3
      have k2 := ((r3.trans (r4.trans (r5.trans (r6.trans (rg.trans rh))))).trans rj) _ _ e2
      have k1 := ((r2.trans (r3.trans (r4.trans (r5.trans (r6.trans (rg.trans rh)))))).trans rj) _ _ e1
      simp only [List.mem_cons, List.not_mem_nil, or_false] at hx
      rcases hx with rfl | rfl | rfl | rfl | rfl | rfl | rfl | rfl
      · exact .ty "NoneType" (by decide) (.base .non)
      · exact .ty "list" (by decide) (.base (.lst k1))
      · exact .ty "tuple" (by decide) (.base (.tup k2))
      · exact .dict k3 (.val wd_a (.upper (by decide +kernel) (by decide +kernel) (by decide +kernel) (by decide +kernel)))
      · exact .dict k4 .int
      · exact .dict k5 (.val wd_a .non)
      · exact .dict k6 (.key (by decide +kernel) (by decide +kernel) (by decide +kernel) (by decide +kernel))
      · exact .dict k7 (.val wd_a (.tup kg))
    rintro σ9 H9 ⟨bad, rfl, S9, hbad⟩
    -- the first
    refine ⟨fun σ' H' => ∃ fo q1 : Addr, σ' = [some (.ref d), some (.ref a), some (.ref W), some (.ref p), u4, some (.str (PyData.shown (.tuple [m.key.data, dicD ns]))), some (.ref th), some (.ref mp), u8, some (.ref bk), some (.ref fo), some bad, some (.ref D)] ∧
      C3 Tb H H' d a p D m ys ns (n + 2 * ws.length + 1) ∧ BadNm K (hid d H') bad ∧ hid d H fo = none ∧ fo ≠ d ∧ p ≠ fo ∧ q1 ≠ fo ∧ hid d H' fo = some (.lst [.ref q1]) ∧ hid d H' q1 = some (.lst [.str "operation"]), ?_, ?_⟩
    · refine ⟨S9.st.tabs, fun Ha eN Ta => ?_⟩
      have rA := rel_ext (d := d) eN
      have SA := S9.go rA (S9.st.lam eN Ta)
      have badA := hbad.same rA
      refine ⟨_, rfl, _, rfl, _, _, rfl, .inr ⟨a, m, rfl, SA.kz, ok, .inl ⟨badA.same hid_up, fun H' s' => .inr ⟨rfl, fun q1 nq1 f4 => ⟨(by show 1 ≤ sizeLine; decide), fun fo nfo f4' => ?_⟩⟩⟩⟩⟩
      have SB := SA.same s'
      have SC := SB.new (o := .lst [.str "operation"]) nq1
      have e1 := SB.st.at (o := .lst [.str "operation"]) nq1 rfl
      have SD := SC.new (o := .lst [.ref q1]) nfo
      have e2 := SC.st.at (o := .lst [.ref q1]) nfo rfl
      have r2 := rel_new (d := d) (o := .lst [.ref q1]) nfo
      exact ⟨fo, q1, rfl, SD, badA.same ((rel_same s').trans ((rel_new nq1).trans r2)), rel_none SC.st.rel nfo, ne_dice SC.st.dice nfo, ne_of_none SC.pp nfo, ne_of_none upd_same nfo, e2, r2 _ _ e1⟩
    rintro σA HA ⟨fo, q1, rfl, SA, badA, nfo, fd', pfo, q1f, efo, eq1⟩
    -- the second
    refine ⟨fun σ' H' => ∃ q2 : Addr, σ' = [some (.ref d), some (.ref a), some (.ref W), some (.ref p), u4, some (.str (PyData.shown (.tuple [m.key.data, dicD ns]))), some (.ref th), some (.ref mp), u8, some (.ref bk), some (.ref fo), some bad, some (.ref D)] ∧
      C3 Tb H H' d a p D m ys ns (n + 2 * ws.length + 1) ∧ q2 ≠ fo ∧ hid d H' fo = some (.lst [.ref q1, .ref q2]) ∧ hid d H' q1 = some (.lst [.str "operation"]) ∧ hid d H' q2 = some (.lst [.str "machine"]), ?_, ?_⟩
    · refine ⟨_, rfl, .inl ⟨rfl, _, SqL.of (hid_up _ _ efo)⟩, SA.st.tabs, fun Ha eN Ta => ?_⟩
      have rA := rel_ext (d := d) eN
      have SB := SA.go rA (SA.st.lam eN Ta)
      obtain ⟨M⟩ := mach_at SB.kz
      refine ⟨_, rfl, 2, rfl, a, _, rfl, SqT.of M.top, (by show ¬ (0 = 0 ∧ 2 = 3); decide), fun c1 nc1 => ?_⟩
      have SC := SB.new (o := .tup (cutV [.int m.size, .ref M.f, .ref M.t] none (some 2))) nc1
      have rC := rA.trans (rel_new (d := d) (o := .tup (cutV [.int m.size, .ref M.f, .ref M.t] none (some 2))) nc1)
      refine ⟨_, rfl, _, _, rfl, .inl ⟨BadM.len upd_same (by show ¬ 2 = 3; decide), fun H' s' => .inl ⟨rfl, fun q2 nq2 f4 => ?_⟩⟩⟩
      have SD := SC.same s'
      have SE := SD.new (o := .lst [.str "machine"]) nq2
      have e2 := SD.st.at (o := .lst [.str "machine"]) nq2 rfl
      have rE := rC.trans ((rel_same s').trans (rel_new (o := .lst [.str "machine"]) nq2))
      have efoE := rE _ _ efo
      have q2f : q2 ≠ fo := (ne_of_none (hid_up _ _ ((rC.trans (rel_same s')) _ _ efo)) nq2).symm
      refine ⟨fo, _, _, rfl, rfl, hid_up _ _ efoE, (by show 1 < sizeLine; decide), q2, rfl, SE.put nfo fd' (hid_up _ _ efoE) pfo, q2f, hid_get upd_same fd' rfl, ?_, ?_⟩
      · obtain ⟨nb, e1, t⟩ := hid_inv (rE _ _ eq1)
        exact hid_get (by rw [upd_ne q1f]; exact e1) nb t
      · obtain ⟨nb, e1, t⟩ := hid_inv e2
        exact hid_get (by rw [upd_ne q2f]; exact e1) nb t
    rintro σB HB ⟨q2, rfl, SB, q2f, efoB, eq1B, eq2B⟩
    -- the third
    refine ⟨fun σ' H' => ∃ q3 : Addr, σ' = [some (.ref d), some (.ref a), some (.ref W), some (.ref p), u4, some (.str (PyData.shown (.tuple [m.key.data, dicD ns]))), some (.ref th), some (.ref mp), u8, some (.ref bk), some (.ref fo), some bad, some (.ref D)] ∧
      C3 Tb H H' d a p D m ys ns (n + 2 * ws.length + 1) ∧ hid d H' fo = some (.lst [.ref q1, .ref q2, .ref q3]) ∧ hid d H' q1 = some (.lst [.str "operation"]) ∧ hid d H' q2 = some (.lst [.str "machine"]) ∧ hid d H' q3 = some (.lst [.str "machine"]), ?_, ?_⟩
    · refine ⟨_, rfl, .inl ⟨rfl, _, SqL.of (hid_up _ _ efoB)⟩, SB.st.tabs, fun Ha eN Ta => ?_⟩
      have rA := rel_ext (d := d) eN
      have SC := SB.go rA (SB.st.lam eN Ta)
      refine ⟨_, rfl, fun dx ndx => ?_⟩
      have SD := SC.new (o := .dK []) ndx
      have rD := rA.trans (rel_new (d := d) (o := .dK []) ndx)
      refine ⟨_, _, rfl, .inl ⟨.ty "NoneType" (by decide) (.base .non), fun H' s' => .inl ⟨rfl, fun q3 nq3 f4 => ?_⟩⟩⟩
      have SE := SD.same s'
      have SF := SE.new (o := .lst [.str "machine"]) nq3
      have e3 := SE.st.at (o := .lst [.str "machine"]) nq3 rfl
      have rF := rD.trans ((rel_same s').trans (rel_new (o := .lst [.str "machine"]) nq3))
      have efoF := rF _ _ efoB
      have q3f : q3 ≠ fo := (ne_of_none (hid_up _ _ ((rD.trans (rel_same s')) _ _ efoB)) nq3).symm
      refine ⟨fo, _, _, rfl, rfl, hid_up _ _ efoF, (by show 2 < sizeLine; decide), q3, rfl, SF.put nfo fd' (hid_up _ _ efoF) pfo, hid_get upd_same fd' rfl, ?_, ?_, ?_⟩
      · obtain ⟨nb, e1, t⟩ := hid_inv (rF _ _ eq1B)
        exact hid_get (by rw [upd_ne q1f]; exact e1) nb t
      · obtain ⟨nb, e1, t⟩ := hid_inv (rF _ _ eq2B)
        exact hid_get (by rw [upd_ne q2f]; exact e1) nb t
      · obtain ⟨nb, e1, t⟩ := hid_inv e3
        exact hid_get (by rw [upd_ne q3f]; exact e1) nb t
    rintro σC HC ⟨q3, rfl, SC, efoC, eq1C, eq2C, eq3C⟩
    -- at last
    refine ⟨_, rfl, (by show 1 ≤ sizeLine; decide), fun l1 n1 => ⟨(by show 1 ≤ sizeLine; decide), fun l2 n2 => ⟨(by show 1 ≤ sizeLine; decide), fun l3 n3 => ⟨(by show 3 ≤ sizeLine; decide), fun l4 n4 => ?_⟩⟩⟩⟩
    have k1 := same_upd (o := .lst [.str "operation"]) n1
    have k2 := same_upd (o := .lst [.str "machine"]) n2
    have k3 := same_upd (o := .lst [.str "machine"]) n3
    have k4 := same_upd (o := .lst [.ref l1, .ref l2, .ref l3]) n4
    have k34 := k3.trans k4
    have k24 := k2.trans k34
    have k14 := k1.trans k24
    have S1' := SC.same k14
    have sh3 : SeqAt.shaped (.list [.list [.str "operation"], .list [.str "machine"], .list [.str "machine"]]) = true := by decide +kernel
    refine ⟨.list [.list [.str "operation"], .list [.str "machine"], .list [.str "machine"]], .list [.list [.str "operation"], .list [.str "machine"], .list [.str "machine"]],
      .lst (SqL.of (k14 _ _ (hid_up _ _ efoC))) (.cons (.lst (SqL.of (k14 _ _ (hid_up _ _ eq1C))) (.cons (.str _) .nil)) (.cons (.lst (SqL.of (k14 _ _ (hid_up _ _ eq2C))) (.cons (.str _) .nil)) (.cons (.lst (SqL.of (k14 _ _ (hid_up _ _ eq3C))) (.cons (.str _) .nil)) .nil))),
      .lst (SqL.of upd_same) (.cons (.lst (SqL.of (k24 _ _ upd_same)) (.cons (.str _) .nil)) (.cons (.lst (SqL.of (k34 _ _ upd_same)) (.cons (.str _) .nil)) (.cons (.lst (SqL.of (k4 _ _ upd_same)) (.cons (.str _) .nil)) .nil))), sh3, sh3, _, rfl, ifT (eqv_self sh3) ?_⟩
    refine ⟨_, rfl, _, rfl, fun dx ndx => ?_⟩
    have S2' := S1'.new (o := .dK []) ndx
    refine ⟨_, _, rfl, .inr ⟨a, m, rfl, S2'.kz, ok, .inr ⟨dx, [], rfl, upd_same, (fun _ z => nomatch z), (by decide), ys, near, .inr ⟨?_, fun H' q' m2 s' nq N2 k2 => ?_⟩⟩⟩⟩
    · rw [show ys.map (nu []) = ys from List.map_id ys]
      exact near.once
    have S3' := S2'.same s'
    cases N2.ext (new_none ok)
    refine ⟨_, rfl, _, _, kz_dp _ _ k2, kz_dp _ _ S3'.kz, mach_shaped ok, mach_shaped ok, ?_⟩
    rw [eqv_self (mach_shaped ok)]
    exact q _ S3'.st
end
end K03
/-! The written machines of law. -/
namespace K03
open PySem PySem.Spec PyProof.Rows L2 WD NS MC GL
open LamX (ExtN)
theorem kz_ext {H H' : Hp} (e : ExtN H H') (k : NestedKey) (v : V) (h : Kz H v k) : Kz H' v k := kz_tups (fun b xs eb => e _ _ eb fun _ z => nomatch z) k v h
def mW (a b : Str) : MachM := ⟨1, [], [⟨0, .ex true a "x", 0⟩, ⟨0, .ex false b "x", 0⟩]⟩
theorem wd_x : Wd "x" := ⟨by show ∀ c ∈ ("x" : Str).cps.toList, 97 ≤ c ∧ c ≤ 122; decide +kernel, by decide +kernel, by decide +kernel⟩
theorem wd_b : Wd "b" := ⟨by show ∀ c ∈ ("b" : Str).cps.toList, 97 ≤ c ∧ c ≤ 122; decide +kernel, by decide +kernel, by decide +kernel⟩
theorem wd_c : Wd "c" := ⟨by show ∀ c ∈ ("c" : Str).cps.toList, 97 ≤ c ∧ c ≤ 122; decide +kernel, by decide +kernel, by decide +kernel⟩
theorem wd_machine : Wd "machine" := ⟨by show ∀ c ∈ ("machine" : Str).cps.toList, 97 ≤ c ∧ c ≤ 122; decide +kernel, by decide +kernel, by decide +kernel⟩
theorem wd_names : Wd "names" := ⟨by show ∀ c ∈ ("names" : Str).cps.toList, 97 ≤ c ∧ c ≤ 122; decide +kernel, by decide +kernel, by decide +kernel⟩
theorem mW_ok {a b : Str} (ha : Wd a) (hb : Wd b) (lt : (mW a b).rows.Pairwise rowLt) : (mW a b).Ok := by
  refine ⟨by show (0 : Nat) < 1; decide, by show (1 : Nat) ≤ 30; decide, fun k h => absurd h List.not_mem_nil, .nil, by show (0 : Nat) < 64; decide, fun r hr => ?_, lt, by show (2 : Nat) < 64; decide⟩
  have z : r = ⟨0, .ex true a "x", 0⟩ ∨ r = ⟨0, .ex false b "x", 0⟩ := by simpa [mW] using hr
  rcases z with rfl | rfl
  · exact ⟨Int.le_refl 0, by show (0 : Int) < ((1 : Nat) : Int); decide, ⟨ha, wd_x⟩, Int.le_refl 0, by show (0 : Int) < ((1 : Nat) : Int); decide⟩
  · exact ⟨Int.le_refl 0, by show (0 : Int) < ((1 : Nat) : Int); decide, ⟨hb, wd_x⟩, Int.le_refl 0, by show (0 : Int) < ((1 : Nat) : Int); decide⟩
theorem mW_near {a b : Str} (le : a.cps.toList ≤ b.cps.toList) (ne : a ≠ b) : NearOf (mW a b) [a, b] := by
  refine ⟨fun x => ?_, .cons (fun y hy => by rw [List.mem_singleton.mp hy]; exact le) (List.pairwise_singleton _ _), by simp [ne]⟩
  constructor
  · intro h
    rcases List.mem_cons.mp h with rfl | h
    · exact ⟨⟨0, .ex true x "x", 0⟩, by simp [mW], true, "x", rfl⟩
    · rw [List.mem_singleton.mp h]
      exact ⟨⟨0, .ex false b "x", 0⟩, by simp [mW], false, "x", rfl⟩
  · rintro ⟨r, hr, c, l, e⟩
    have z : r = ⟨0, .ex true a "x", 0⟩ ∨ r = ⟨0, .ex false b "x", 0⟩ := by simpa [mW] using hr
    rcases z with rfl | rfl
    · cases e; exact List.mem_cons_self
    · cases e; exact List.mem_cons_of_mem _ List.mem_cons_self
theorem mW_new {ns : List (Str × Str)} {a b c e : Str} (h1 : nu ns a = c) (h2 : nu ns b = e) (lt : (mW c e).rows.Pairwise rowLt) : NewOf ns (mW a b) (mW c e) := by
  subst h1 h2
  exact ⟨rfl, rfl, .refl _, lt.imp lt_le⟩
theorem nms_nil : Nms [] := fun _ z => nomatch z
theorem nms_cons {a b : Str} {ns : List (Str × Str)} (ha : Wd a) (hb : Wd b) (h : Nms ns) : Nms ((a, b) :: ns) := fun p hp => by
  rcases List.mem_cons.mp hp with rfl | hp
  · exact ⟨ha, hb⟩
  · exact h p hp
theorem lt_ab : (mW "a" "b").rows.Pairwise rowLt := by decide +kernel
theorem lt_ba : (mW "b" "a").rows.Pairwise rowLt := by decide +kernel
theorem lt_bc : (mW "b" "c").rows.Pairwise rowLt := by decide +kernel
theorem lt_mn : (mW "machine" "names").rows.Pairwise rowLt := by decide +kernel
theorem lt_bm : (mW "b" "machine").rows.Pairwise rowLt := by decide +kernel
theorem ok_ab : (mW "a" "b").Ok := mW_ok wd_a wd_b lt_ab
theorem ok_ba : (mW "b" "a").Ok := mW_ok wd_b wd_a lt_ba
theorem ok_bc : (mW "b" "c").Ok := mW_ok wd_b wd_c lt_bc
theorem ok_mn : (mW "machine" "names").Ok := mW_ok wd_machine wd_names lt_mn
theorem ok_bm : (mW "b" "machine").Ok := mW_ok wd_b wd_machine lt_bm
theorem near_ab : NearOf (mW "a" "b") ["a", "b"] := mW_near (by decide +kernel) (by decide +kernel)
theorem near_mn : NearOf (mW "machine" "names") ["machine", "names"] := mW_near (by decide +kernel) (by decide +kernel)
theorem near_bm : NearOf (mW "b" "machine") ["b", "machine"] := mW_near (by decide +kernel) (by decide +kernel)
/-- the display of such a machine -/
abbrev tRowW (wd a : Str) : TE := tTup (tCons (tC (.int 0)) (tCons (tTup (tCons (tC (.str wd)) (tCons (tC (.str a)) (tCons (tC (.str "x")) tNil)))) (tCons (tC (.int 0)) tNil)))
abbrev tMW (a b : Str) : TE := tTup (tCons (tC (.int 1)) (tCons (tTup tNil) (tCons (tTup (tCons (tRowW "send" a) (tCons (tRowW "take" b) tNil))) tNil)))
theorem disp_mW {a b : Str} {σ : L2.St} {H : Hp} {Q : VK} (h : ∀ H' S, Same H H' → H S = none → Kz H' (.ref S) (mW a b).key → Q (.ref S) H') : tMW a b σ H Q := by
  refine ⟨Nat.zero_le _, fun e0 ne0 => ⟨(by show 3 ≤ sizeLine; decide), fun t1 n1 => ⟨(by show 3 ≤ sizeLine; decide), fun w1 m1 => ⟨(by show 3 ≤ sizeLine; decide), fun t2 n2 => ⟨(by show 3 ≤ sizeLine; decide), fun w2 m2 => ⟨(by show 2 ≤ sizeLine; decide), fun R nR => ⟨(by show 3 ≤ sizeLine; decide), fun S nS => ?_⟩⟩⟩⟩⟩⟩⟩
  have a0 := same_upd (o := .tup []) ne0
  have a1 := same_upd (o := .tup [.str "send", .str a, .str "x"]) n1
  have b1 := same_upd (o := .tup [.int 0, .ref t1, .int 0]) m1
  have a2 := same_upd (o := .tup [.str "take", .str b, .str "x"]) n2
  have b2 := same_upd (o := .tup [.int 0, .ref t2, .int 0]) m2
  have r := same_upd (o := .tup [.ref w1, .ref w2]) nR
  have s := same_upd (o := .tup [.int 1, .ref e0, .ref R]) nS
  have s2 := b2.trans (r.trans s)
  have s3 := a2.trans s2
  have s4 := b1.trans s3
  have s5 := a1.trans s4
  have s6 := a0.trans s5
  refine h _ S s6 ((a0.trans (a1.trans (b1.trans (a2.trans (b2.trans r))))).free nS) ?_
  exact .tup upd_same (.cons (.int _) (.cons (.tup (s5 _ _ upd_same) .nil) (.cons (.tup (s _ _ upd_same) (.cons (.tup (s3 _ _ upd_same) (.cons (.int _) (.cons (.tup (s4 _ _ upd_same) (.cons (.str _) (.cons (.str _) (.cons (.str _) .nil)))) (.cons (.int _) .nil))))
    (.cons (.tup ((r.trans s) _ _ upd_same) (.cons (.int _) (.cons (.tup (s2 _ _ upd_same) (.cons (.str _) (.cons (.str _) (.cons (.str _) .nil)))) (.cons (.int _) .nil)))) .nil))) .nil)))
/-! the machine of steps -/
def stepRows (k : Int) (n : Nat) : List RowM := (List.range n).map fun t : Nat => (⟨(t : Int), .step, (t : Int) + k⟩ : RowM)
theorem stepRows_succ (k : Int) (n : Nat) : stepRows k (n + 1) = stepRows k n ++ [⟨(n : Int), .step, (n : Int) + k⟩] := by
  rw [stepRows, List.range_succ, List.map_append]
  rfl
def mS : MachM := ⟨30, [29], stepRows 2 28⟩
def mT : MachM := ⟨15, [], stepRows 1 14⟩
theorem step_ok {size n : Nat} {k : Int} (k0 : 0 ≤ k) (h : (n : Int) + k ≤ size) : ∀ r ∈ stepRows k n, r.Ok size := fun r hr => by
  obtain ⟨t, ht, rfl⟩ := List.mem_map.mp hr
  have := List.mem_range.mp ht
  exact ⟨by show (0 : Int) ≤ t; omega, by show (t : Int) < size; omega, True.intro, by show (0 : Int) ≤ t + k; omega, by show (t : Int) + k < size; omega⟩
theorem ok_S : mS.Ok := ⟨by decide, by decide, fun k h => by rw [show k = 29 from List.mem_singleton.mp h]; exact ⟨by decide, by decide⟩, List.pairwise_singleton _ _, by decide, step_ok (by decide) (by show ((28 : Nat) : Int) + 2 ≤ ((30 : Nat) : Int); decide), by show (stepRows 2 28).Pairwise rowLt; decide +kernel, by decide +kernel⟩
theorem ok_T : mT.Ok := ⟨by decide, by decide, fun k h => absurd h List.not_mem_nil, .nil, by decide, step_ok (by decide) (by show ((14 : Nat) : Int) + 1 ≤ ((15 : Nat) : Int); decide), by show (stepRows 1 14).Pairwise rowLt; decide +kernel, by decide +kernel⟩
def evens : List Int := (List.range 15).map fun t : Nat => 2 * (t : Int)
theorem rch_S : RchOf mS evens := by
  refine ⟨fun x => ⟨fun h => ?_, fun h => ?_⟩, by decide +kernel, by decide +kernel⟩
  · obtain ⟨t, ht, rfl⟩ := List.mem_map.mp h
    replace ht := List.mem_range.mp ht
    clear h
    induction t with
    | zero => exact .zero
    | succ t ih =>
      have z := ih (Nat.lt_of_succ_lt ht)
      have hr : (⟨2 * (t : Int), .step, 2 * (t : Int) + 2⟩ : RowM) ∈ mS.rows := List.mem_map.mpr ⟨2 * t, List.mem_range.mpr (by omega), by
        show (⟨((2 * t : Nat) : Int), .step, ((2 * t : Nat) : Int) + 2⟩ : RowM) = _
        rw [show ((2 * t : Nat) : Int) = 2 * (t : Int) by omega]⟩
      have y := Rch.step hr z
      rw [show 2 * ((t + 1 : Nat) : Int) = 2 * (t : Int) + 2 by omega]
      exact y
  · induction h with
    | zero => exact List.mem_map.mpr ⟨0, List.mem_range.mpr (by decide), rfl⟩
    | step hr _ ih =>
      obtain ⟨t, ht, e⟩ := List.mem_map.mp hr
      have ht := List.mem_range.mp ht
      obtain ⟨u, hu, e2⟩ := List.mem_map.mp ih
      have e2 : 2 * (u : Int) = _ := e2
      rw [← e] at e2 ⊢
      have e2 : 2 * (u : Int) = (t : Int) := e2
      exact List.mem_map.mpr ⟨u + 1, List.mem_range.mpr (by omega), by show 2 * ((u + 1 : Nat) : Int) = (t : Int) + 2; omega⟩
theorem trim_S : trimM mS evens = mT := by
  have e1 : ((mS.finals.filter fun k => decide (k ∈ evens)).map (numOf evens)) = [] := by decide +kernel
  have e2 : ((mS.rows.filter fun r => decide (r.before ∈ evens)).map fun r => (⟨numOf evens r.before, r.deed, numOf evens r.after⟩ : RowM)) = stepRows 1 14 := by decide +kernel
  rw [trimM, e1, e2]
  rfl
end K03
/-! law -/
namespace K03
open PySem PySem.Spec PyProof.Rows L2 WD NS MC GL
open C8 (pss_cut tCut)
open LamX (Tabs TabS CodeO ExtN tLam pe_lamcall TabB lamS_by)
abbrev sLaw : Stmt := topS 42
abbrev nLw : List Str := ["_law_script", "_law_at", "_law_dice_here", "_law_words_here", "_law_size", "_law_turn", "_law_rows_here", "_law_machine", "_law_some", "_law_made_here", "_law_found", "_law_odd", "_law_row_here", "_law_swap"]
theorem scLaw : FnScope nLw ["_law_script"] (defScope sLaw) := ⟨rfl, rfl, rfl, by decide +kernel, rfl, by decide +kernel, by decide +kernel⟩
abbrev lamL : Str := "law.<locals>.<lambda>"
theorem lamL_eq : lamL = ((("law" : Str) ++ (".<locals>." : Str)) ++ ("<lambda>" : Str)) := by decide +kernel
def spLaw (K : PySem.W.Frag) (T : List (Addr × Str)) : Sp := fun vs H Q _ => ∃ (a : Addr) (ns : List Int), vs = [.ref a] ∧ SqL K H a (ns.map V.int) ∧ ns.length ≤ 63 ∧ Tabs T H ∧ ∀ H', Q (.bl true) H'
def tCallWS (ks : List Str) (sp : V → List V → Hp → VK → XK → Prop) (E : L2.St → XK) (t tk : TA) : TE := fun σ H Q => t σ H fun vs H1 => ∃ v, vs = [v] ∧ tk σ H1 fun zs H2 => zs.length = ks.length ∧ sp v zs H2 Q (E σ)
theorem pe_callWS {X : Cx} {CX : CXT} {k : Nat} {f : Addr} {ks : List Str} {sp : V → List V → Hp → VK → XK → Prop} {E : L2.St → XK} {x : Str} {p pos : Pos} {e : Expr} {kws : List Keyword} {t tk : TA} (F : NM.FnKW X.prog X.w X.K X.mg X.base CX k f ks sp) (hr : Room k X.A) (hg : Gl X x) (hm : X.mg x = some (.ref f)) (hk : PySem.W.keepIn X.K (.ref f) = true) (hx : ∀ σ, PassesAt CX X σ (E σ))
    (ha : PA X [e] t) (hkw : PK X kws tk) (hall : (backToKw pos (keywordEach kws X.env)).all (·.1.isSome) = true := by rfl) (hks : (backToKw pos (keywordEach kws X.env)).filterMap (·.1) = ks := by rfl)
    (hdb : (x == ("__debug__" : Str)) = false := by decide) (he : starEach [e] X.env = (false, eval e X.env) :: starEach [] X.env := by rfl)
    (hpl : ((backTo pos (starEach [e] X.env)).any (·.1) || (backToKw pos (keywordEach kws X.env)).any (·.1.isNone)) = false := by rfl) :
    PE X (.Call (.Name x p) [e] kws pos) (tCallWS ks sp E t tk) := by
  refine ⟨fun pins s σ H Q I h => ?_⟩
  refine wpAny_Call_Name_kw (ld_glob I hg hm ?_ hdb)
  refine PySem.W.callWith_KW (h₀ := X.base) I.ok.mod.kin hk hall (thn (ha.run pos pins s σ H _ I h) fun us s1 ⟨vs, H1, I1, r, v, ev, q⟩ => ?_) hpl he
  subst ev
  refine thn (hkw.run pos pins s1 σ H1 _ I1 q) fun ws s2 ⟨zs, H2, I2, rz, l, q2⟩ => ⟨I2.kIn, ?_⟩
  rw [hks]
  cases r with
  | cons r1 rr =>
    cases rr
    refine wpAny_call (codeAny_mono (F X.A X.stack s2 H2 _ v ws zs Q (E σ) hr I2.env0 r1 rz l q2) fun r s' hq => ?_)
    cases r with
    | error e => exact hx σ pins H2 s2 e s' I2 hq
    | ok fl =>
      cases fl with
      | ret u => exact I2.after hq
      | next => exact False.elim hq
      | brk => exact False.elim hq
      | cont => exact False.elim hq
theorem tabs_ds {T : List (Addr × Str)} {d : Addr} {H H' : Hp} {n : Nat} (D : Dice H d n) (s : DS d H H') (t : Tabs T H) : Tabs T H' := fun p hp => by
  obtain ⟨g, y, i, e, r⟩ := D
  obtain ⟨ps, h1, h2, h3⟩ := t p hp
  refine ⟨ps, s _ _ (fun z => by rw [z, e] at h1; cases h1) h1, h2, fun pos cv hc => ?_⟩
  obtain ⟨c, e1, e2⟩ := h3 pos cv hc
  exact ⟨c, e1, s _ _ (fun z => by rw [z, e] at e2; cases e2) e2⟩
theorem St0.ds {T : List (Addr × Str)} {H0 H H' : Hp} {d : Addr} {n n' : Nat} (S : St0 T H0 H d n) (s : DS d H H') (D : Dice H' d n') : St0 T H0 H' d n' := ⟨S.rel.trans (rel_ds s), D, tabs_ds S.dice s S.tabs⟩
theorem sql_hid {K : PySem.W.Frag} {d a : Addr} {H0 H : Hp} {xs : List V} (nd : H0 d = none) (s : Same H0 H) (h : SqL K H0 a xs) : SqL K (hid d H) a xs := by
  have ne : ∀ {o : HO}, H0 a = some o → a ≠ d := fun e z => by
    rw [z, nd] at e
    cases e
  rcases h with (h | ⟨ob, h⟩) | h
  · exact Or.inl (Or.inl (hid_get (s _ _ h) (ne h) rfl))
  · exact Or.inl (Or.inr ⟨ob, hid_get (s _ _ h) (ne h) rfl⟩)
  · exact Or.inr h
theorem wd_other : Wd "other" := ⟨by show ∀ c ∈ ("other" : Str).cps.toList, 97 ≤ c ∧ c ≤ 122; decide +kernel, by decide +kernel, by decide +kernel⟩
structure TxtLw (K : PySem.W.Frag) (mg : Str → Option Value) (fD fW fP fE fI fJ fA fT : Addr) (dD dW dP dE dI dJ dA dT : FuncData) : Prop where
  dice : Df K mg "_law_dice" sDice ["_law_script", "_law_at"] fD dD
  words : Df K mg "_law_words" sWords ["_law_dice_here", "_law_total"] fW dW
  made : Df K mg "_law_made" sMade nMd fP dP
  row : Df K mg "_law_row" sRowL ["_law_dice_here", "_law_size", "_law_others"] fE dE
  right : Df K mg "_law_right" sRight ["_law_machine"] fI dI
  rr : Df K mg "_law_renamed_right" sRR ["_law_dice_here", "_law_machine", "_law_words_here"] fJ dJ
  reached : Df K mg "reached_states" sReached ["machine"] fA dA
  trim : Df K mg "trimmed" sTrim ["machine"] fT dT
  max : mg "max" = none
  min : mg "min" = none
  range : mg "range" = none
section
variable {P : Program} {w : World} {K : PySem.W.Frag} {mg : Str → Option Value} {base : Heap} {fR fO fM fN fS fB fI fX cM cO c Pt Pl fD fW fP fE fG fJ fA fT : Addr} {dR dO dM dN dS dB dI dX dD dW dP dE dG dJ dA dT : FuncData} {k : Nat}
abbrev lawTb (Pt Pl : Addr) : List (Addr × Str) := [(Pt, lamR), (Pl, lamL)]
theorem ok_Law {f : Addr} {fd : FuncData} (F : FunC K "law" "law" sLaw f c fd) (T : TxtRR K mg fR fO fM fN fS fB fI fX cM cO dR dO dM dN dS dB dI dX) (L : TxtLw K mg fD fW fP fE fG fJ fA fT dD dW dP dE dG dJ dA dT) (TD : TxtD mg) (TS : TxtS mg) (TB : TabB base mg c Pl) (hPt : Pl ≠ Pt) (h2 : 3 ≤ k)
    (GB : FnOk P w K mg base (L2.CX P w) k fB dB ["machine", "names"] (spMRB K cM cO)) (GX : ∀ ks : List Str, (∀ x ∈ ks, x ≠ "machine") → ks.Nodup → ks.length ≤ 64 → NM.FnKW P w K mg base (L2.CX P w) k fX ks (spRenMK K cM cO ks))
    (GG : FnOk P w K mg base CX0 (k + 3) fG dG ["_law_machine"] spRt) (GJ : FnG P w K mg base CX0 (k + 3) fJ dJ ["_law_dice_here", "_law_machine", "_law_words_here"] (spRR K (lawTb Pt Pl))) (GA : FnOk P w K mg base (L2.CX P w) k fA dA ["machine"] (spReached K cM)) (GT : FnOk P w K mg base (L2.CX P w) k fT dT ["machine"] (spTrim K cM)) :
    FnG P w K mg base CX0 (k + 4) f fd ["_law_script"] (spLaw K (lawTb Pt Pl)) := by
  have GR : FnOk P w K mg base CX0 1 fR dR ["_law_dice_here", "_law_total"] spRoll := ok_roll T.R.R
  have GD : FnOk P w K mg base CX0 1 fD dD ["_law_script", "_law_at"] (spDice K) := ok_dice L.dice.F TD
  have GW : FnOk P w K mg base CX0 2 fW dW ["_law_dice_here", "_law_total"] spWords := ok_Words L.words.F ⟨T.R.R, T.R.bR, T.R.gR, L.range⟩
  have GP : FnOk P w K mg base CX0 1 fP dP nMd (spMade K) := ok_Made L.made.F TS
  have GE : FnOk P w K mg base CX0 3 fE dE ["_law_dice_here", "_law_size", "_law_others"] (spRowL K) := ok_RowL L.row.F T.R TD
  obtain ⟨mOc, mOd, mKV, mDoc, mPm, mAn, mCdv, mCt, mOsl, rfl, mLk, mHcd⟩ := T.met.F.ex
  have hT : (Pl, lamL) ∈ lawTb Pt Pl := List.mem_cons_of_mem _ List.mem_cons_self
  have hTu : ∀ p ∈ lawTb Pt Pl, p.1 = Pl → p.2 = lamL := fun p hp e => by
    rcases List.mem_cons.mp hp with rfl | hp
    · exact absurd e.symm hPt
    · rw [List.mem_singleton.mp hp]
  refine fnGC_ok F scLaw (fun vs H Q E h => ?_) (fun A outer s H vs Q E hgd hr h => ?_)
  · obtain ⟨a, ns, rfl, _⟩ := h
    rfl
  · obtain ⟨a, ns, rfl, hS, hlen, tabs, q⟩ := h
    have hu := hr.units
    have hrk : Room k _ := hr.mono (by omega)
    have hr1 : Room 1 _ := hrk.mono (by omega)
    have hr2 : Room 2 _ := hrk.mono (by omega)
    have hr3 : Room 3 _ := hrk.mono (by omega)
    refine ⟨_, pss_cut (ps_for PassesOwn.never rfl (pi_range1 rfl L.range (pa_cons (pe_callB (call_max2 rfl) (by rfl) L.max (by decide +kernel) (pa_cons pe_int (pa_cons (pe_callB (call_min2 rfl) (by rfl) L.min (by decide +kernel) (pa_cons pe_int (pa_cons (pe_callB call_len_seq (by rfl) TD.len PySem.boot_len (pa_cons (pv 0) pa_nil)) pa_nil))) pa_nil))) pa_nil)) (pg_name (i := 1) scLaw.nd rfl (.inl rfl))
 (pss_cut (ps_set (i := 2) scLaw.nd rfl (.inr rfl) (pe_call GD hr1 (by rfl) L.dice.g L.dice.F.kp L.dice.b .nil pass0 (pa_cons (pv 0) (pa_cons (pv 1) pa_nil))))
      (pss_cut (ps_asg (pe_tup (pa_cons (pe_call GW hr2 (by rfl) L.words.g L.words.F.kp L.words.b .nil pass0 (pa_cons (pv 2) (pa_cons pe_int pa_nil))) (pa_cons (pe_op op_add pe_int (pe_call GR hr1 (by rfl) T.R.gR T.R.R.kp T.R.bR .nil pass0 (pa_cons (pv 2) (pa_cons pe_int pa_nil)))) pa_nil))) (pg_tup rfl (pgs_cons (pg_name (i := 3) scLaw.nd rfl (.inr rfl)) (pgs_cons (pg_name (i := 4) scLaw.nd rfl (.inr rfl)) pgs_nil))))
      (pss_one (ps_for PassesOwn.never rfl (pi_range1 rfl L.range (pa_cons pe_int pa_nil)) (pg_name (i := 5) scLaw.nd rfl (.inl rfl))
 (pss_cut (ps_setLc (i := 6) (own := [("_law_turn", 5)]) (g := gName 5) (tt := tYes) (te := tCall (spRowL K) [] C8.E0 (tCons (tVar 2) (tCons (tVar 4) (tCons (tVar 3) tNil)))) rfl scLaw.nd rfl rfl (sw_true rfl rfl rfl (by decide +kernel)) (pi_range1 rfl L.range (pa_cons (pe_call GR hr1 (by rfl) T.R.gR T.R.R.kp T.R.bR .nil pass0 (pa_cons (pv 2) (pa_cons pe_int pa_nil))) pa_nil)) (blkOk_by (own := [("_law_turn", 5)]) (N := nLw) (sc := defScope sLaw) (by decide +kernel)) (fun _ _ _ _ _ => pg_name (i := 5) scLaw.nd rfl (.inl rfl)) (fun _ _ _ _ _ => pts_nil) (fun _ _ _ _ _ => pe_call GE hr3 (by rfl) L.row.g L.row.F.kp L.row.b .nil pass0 (pa_cons (pv 2) (pa_cons (pv 4) (pa_cons (pv 3) pa_nil)))))
      (pss_cut (ps_set (i := 7) scLaw.nd rfl (.inl rfl) (pe_call GP hr1 (by rfl) L.made.g L.made.F.kp L.made.b .nil pass0 (pa_cons (pv 4) (pa_cons (pe_lst (pa_cons (pe_call GR hr1 (by rfl) T.R.gR T.R.R.kp T.R.bR .nil pass0 (pa_cons (pv 2) (pa_cons (pv 4) pa_nil))) (pa_cons (pe_call GR hr1 (by rfl) T.R.gR T.R.R.kp T.R.bR .nil pass0 (pa_cons (pv 2) (pa_cons (pv 4) pa_nil))) pa_nil))) (pa_cons (pv 6) pa_nil)))))
      (pss_cut (ps_if (pt_not (pt_val (pe_call GG (hr.mono (by omega)) (by rfl) L.right.g L.right.F.kp L.right.b .nil pass0 (pa_cons (pv 7) pa_nil)))) (pss_one (ps_ret pe_bl)) pss_nil)
      (pss_one (ps_for PassesOwn.never rfl (pi_tup (pe_tup (pa_cons (pv 3) (pa_cons (pe_op op_cat (pv 3) (pe_lst (pa_cons pe_str pa_nil))) pa_nil)))) (pg_name (i := 8) scLaw.nd rfl (.inl rfl)) (pss_one (ps_if (pt_not (pt_val (pe_callG GJ hgd (hr.mono (by omega)) (by rfl) L.rr.g L.rr.F.kp L.rr.b .nil pass0 (pa_cons (pv 2) (pa_cons (pv 7) (pa_cons (pv 8) pa_nil)))))) (pss_one (ps_ret pe_bl)) pss_nil))))))))))))
      (pss_cut (ps_set (i := 13) scLaw.nd rfl (.inr rfl) (pe_tup (pa_cons pe_int (pa_cons (pe_tup pa_nil) (pa_cons (pe_tup (pa_cons (pe_tup (pa_cons pe_int (pa_cons (pe_tup (pa_cons pe_str (pa_cons pe_str (pa_cons pe_str pa_nil)))) (pa_cons pe_int pa_nil)))) (pa_cons (pe_tup (pa_cons pe_int (pa_cons (pe_tup (pa_cons pe_str (pa_cons pe_str (pa_cons pe_str pa_nil)))) (pa_cons pe_int pa_nil)))) pa_nil))) pa_nil)))))
      (pss_cut (ps_set (i := 9) scLaw.nd rfl (.inl rfl) (NM.pe_callW (GX ["a", "b", "c"] (by decide +kernel) (by decide +kernel) (by decide)) hrk (by rfl) T.gren T.ren.kp (passE0 rfl rfl) (pa_cons (pv 13) pa_nil) (pk_cons pe_str (pk_cons pe_str (pk_cons pe_str pk_nil)))))
      (pss_cut (ps_set (i := 10) scLaw.nd rfl (.inl rfl) (pe_lst (pa_cons (pv 9) (pa_cons (NM.pe_callW (GX ["a", "b"] (by decide +kernel) (by decide +kernel) (by decide)) hrk (by rfl) T.gren T.ren.kp (passE0 rfl rfl) (pa_cons (pv 13) pa_nil) (pk_cons pe_str (pk_cons pe_str pk_nil))) pa_nil))))
      (pss_cut (ps_if (pt_cmpR (show OpR _ (compareOp .NotEq) (rNeD K) from op_neD hu) (pe_ix ix_list (pv 10) pe_int (fun _ _ => rfl)) (pe_tup (pa_cons pe_int (pa_cons (pe_tup pa_nil) (pa_cons (pe_tup (pa_cons (pe_tup (pa_cons pe_int (pa_cons (pe_tup (pa_cons pe_str (pa_cons pe_str (pa_cons pe_str pa_nil)))) (pa_cons pe_int pa_nil)))) (pa_cons (pe_tup (pa_cons pe_int (pa_cons (pe_tup (pa_cons pe_str (pa_cons pe_str (pa_cons pe_str pa_nil)))) (pa_cons pe_int pa_nil)))) pa_nil))) pa_nil)))) (nomark _)) (pss_one (ps_ret pe_bl)) pss_nil)
      (pss_cut (ps_if (pt_cmpR (show OpR _ (compareOp .NotEq) (rNeD K) from op_neD hu) (pe_ix ix_list (pv 10) pe_int (fun _ _ => rfl)) (pe_tup (pa_cons pe_int (pa_cons (pe_tup pa_nil) (pa_cons (pe_tup (pa_cons (pe_tup (pa_cons pe_int (pa_cons (pe_tup (pa_cons pe_str (pa_cons pe_str (pa_cons pe_str pa_nil)))) (pa_cons pe_int pa_nil)))) (pa_cons (pe_tup (pa_cons pe_int (pa_cons (pe_tup (pa_cons pe_str (pa_cons pe_str (pa_cons pe_str pa_nil)))) (pa_cons pe_int pa_nil)))) pa_nil))) pa_nil)))) (nomark _)) (pss_one (ps_ret pe_bl)) pss_nil)
      (pss_cut (ps_if (pt_cmpR (show OpR _ (compareOp .NotEq) (rNeD K) from op_neD hu) (pe_lamcall (T := lawTb Pt Pl) (TT := metTT K cM cO) (k := k) (t := fun E => tCallWS ["a"] (spRenMK K cM cO ["a"]) (fun _ => E) (tCons (tVar 13) tNil) (tCons (tC (.str "b")) tNil)) (by rfl) T.met.g T.met.F.kp mLk mHcd T.met.b scMet rfl (.inl rfl) (met_gives T.M) TB rfl hT (fun p hp e => by rw [hTu p hp e]; exact lamL_eq) (hr.mono (by omega)) (show LamX.LamS (defScope sLaw) _ from lamS_by (by decide +kernel)) rfl (fun _ _ _ _ _ => rfl) (fun A outer s H E f c' hrl => pe_callWS (GX ["a"] (by decide +kernel) (by decide +kernel) (by decide)) hrl (by rfl) T.gren T.ren.kp (passAt (takes_of rfl rfl rfl rfl)) (pa_cons (pv 13) pa_nil) (pk_cons pe_str pk_nil))) (pe_lst (pa_cons pe_str pa_nil)) (nomark _)) (pss_one (ps_ret pe_bl)) pss_nil)
      (pss_cut (ps_set (i := 11) scLaw.nd rfl (.inl rfl) (pe_tup (pa_cons pe_int (pa_cons (pe_tup pa_nil) (pa_cons (pe_tup (pa_cons (pe_tup (pa_cons pe_int (pa_cons (pe_tup (pa_cons pe_str (pa_cons pe_str (pa_cons pe_str pa_nil)))) (pa_cons pe_int pa_nil)))) (pa_cons (pe_tup (pa_cons pe_int (pa_cons (pe_tup (pa_cons pe_str (pa_cons pe_str (pa_cons pe_str pa_nil)))) (pa_cons pe_int pa_nil)))) pa_nil))) pa_nil)))))
      (pss_cut (ps_set (i := 9) scLaw.nd rfl (.inl rfl) (pe_call GB hrk (by rfl) T.mrb.g T.mrb.F.kp T.mrb.b .nil (passE0 rfl rfl) (pa_cons (pv 11) (pa_cons (pe_disp (pps_cons pe_str pe_str (pps_cons pe_str pe_str pps_nil)) (by rfl) (by rfl) (by simp) (by decide)) pa_nil))))
      (pss_cut (ps_if (pt_cmpR (show OpR _ (compareOp .NotEq) (rNeD K) from op_neD hu) (pv 9) (pe_tup (pa_cons pe_int (pa_cons (pe_tup pa_nil) (pa_cons (pe_tup (pa_cons (pe_tup (pa_cons pe_int (pa_cons (pe_tup (pa_cons pe_str (pa_cons pe_str (pa_cons pe_str pa_nil)))) (pa_cons pe_int pa_nil)))) (pa_cons (pe_tup (pa_cons pe_int (pa_cons (pe_tup (pa_cons pe_str (pa_cons pe_str (pa_cons pe_str pa_nil)))) (pa_cons pe_int pa_nil)))) pa_nil))) pa_nil)))) (nomark _)) (pss_one (ps_ret pe_bl)) pss_nil)
      (pss_cut (ps_if (pt_cmpR (show OpR _ (compareOp .NotEq) (rNeD K) from op_neD hu) (pe_call GB hrk (by rfl) T.mrb.g T.mrb.F.kp T.mrb.b .nil (passE0 rfl rfl) (pa_cons (pv 9) (pa_cons (pe_disp (pps_cons pe_str pe_str (pps_cons pe_str pe_str pps_nil)) (by rfl) (by rfl) (by simp) (by decide)) pa_nil))) (pv 11) (nomark _)) (pss_one (ps_ret pe_bl)) pss_nil)
      (pss_cut (ps_set (i := 12) scLaw.nd rfl (.inl rfl) (pe_tup (pa_cons pe_int (pa_cons (pe_tup (pa_cons pe_int pa_nil)) (pa_cons (pe_callTy call_tuple_of (by rfl) TS.tuple (by decide +kernel) (pa_cons (pe_lc (own := [("_law_at", 1)]) (g := gName 1) (tt := tYes) (te := tTup (tCons (tVar 1) (tCons (tTup (tCons (tC (.str "step")) tNil)) (tCons (tOp (rI0 fun i j => .int (i + j)) (tVar 1) (tC (.int 2))) tNil)))) rfl scLaw.nd (pi_range1 rfl L.range (pa_cons pe_int pa_nil)) (blkOk_by (own := [("_law_at", 1)]) (N := nLw) (sc := defScope sLaw) (by decide +kernel)) (fun _ _ _ _ _ => pg_name (i := 1) scLaw.nd rfl (.inl rfl)) (fun _ _ _ _ _ => pts_nil) (fun _ _ _ _ _ => pe_tup (pa_cons (pv 1) (pa_cons (pe_tup (pa_cons pe_str pa_nil)) (pa_cons (pe_op op_add (pv 1) pe_int) pa_nil))))) pa_nil)) pa_nil)))))
      (pss_cut (ps_if (pt_cmpR (show OpR _ (compareOp .NotEq) (rNeD K) from op_neD hu) (pe_call GT hrk (by rfl) L.trim.g L.trim.F.kp L.trim.b .nil (passE0 rfl rfl) (pa_cons (pv 12) pa_nil)) (pe_tup (pa_cons pe_int (pa_cons (pe_tup pa_nil) (pa_cons (pe_callTy call_tuple_of (by rfl) TS.tuple (by decide +kernel) (pa_cons (pe_lc (own := [("_law_at", 1)]) (g := gName 1) (tt := tYes) (te := tTup (tCons (tVar 1) (tCons (tTup (tCons (tC (.str "step")) tNil)) (tCons (tOp (rI0 fun i j => .int (i + j)) (tVar 1) (tC (.int 1))) tNil)))) rfl scLaw.nd (pi_range1 rfl L.range (pa_cons pe_int pa_nil)) (blkOk_by (own := [("_law_at", 1)]) (N := nLw) (sc := defScope sLaw) (by decide +kernel)) (fun _ _ _ _ _ => pg_name (i := 1) scLaw.nd rfl (.inl rfl)) (fun _ _ _ _ _ => pts_nil) (fun _ _ _ _ _ => pe_tup (pa_cons (pv 1) (pa_cons (pe_tup (pa_cons pe_str pa_nil)) (pa_cons (pe_op op_add (pv 1) pe_int) pa_nil))))) pa_nil)) pa_nil)))) (nomark _)) (pss_one (ps_ret pe_bl)) pss_nil)
      (pss_cut (ps_set (i := 10) scLaw.nd rfl (.inl rfl) (pe_lst4 (pa_cons (pe_lamcall (T := lawTb Pt Pl) (TT := metTT K cM cO) (k := k) (t := fun E => tCallS (spReached K cM) (fun _ => E) (tCons (tSl (rSlT K) (tVar 13) tNoPart (tPart (tC (.int 2)))) tNil)) (by rfl) T.met.g T.met.F.kp mLk mHcd T.met.b scMet rfl (.inl rfl) (met_gives T.M) TB rfl hT (fun p hp e => by rw [hTu p hp e]; exact lamL_eq) (hr.mono (by omega)) (show LamX.LamS (defScope sLaw) _ from lamS_by (by decide +kernel)) rfl (fun _ _ _ _ _ => rfl) (fun A outer s H E f c' hrl => pe_callS GA hrl (by rfl) L.reached.g L.reached.F.kp L.reached.b (passAt (takes_of rfl rfl rfl rfl)) (pa_cons (pe_slice (show SlR _ (rSlT K) from sl_tup) (pv 13) po_none (po_some pe_int)) pa_nil))) pa_nil)))
      (pss_cut (ps_expr (pe_bm PySem.F.plainAttrs_list PySem.F.slot_list_append PySem.F.type_list_append mt_append (pv 10) (pa_cons (pe_lamcall (T := lawTb Pt Pl) (TT := metTT K cM cO) (k := k) (t := fun E => tCallS (spTrim K cM) (fun _ => E) (tCons (tC .non) tNil)) (by rfl) T.met.g T.met.F.kp mLk mHcd T.met.b scMet rfl (.inl rfl) (met_gives T.M) TB rfl hT (fun p hp e => by rw [hTu p hp e]; exact lamL_eq) (hr.mono (by omega)) (show LamX.LamS (defScope sLaw) _ from lamS_by (by decide +kernel)) rfl (fun _ _ _ _ _ => rfl) (fun A outer s H E f c' hrl => pe_callS GT hrl (by rfl) L.trim.g L.trim.F.kp L.trim.b (passAt (takes_of rfl rfl rfl rfl)) (pa_cons pe_non pa_nil))) pa_nil)))
      (pss_one (ps_ret (pe_cmpR (show OpR _ (compareOp .Eq) (rEqD K) from op_eqD hu) (pv 10) (pe_op op_rep (pe_lst (pa_cons (pe_lst (pa_cons pe_str pa_nil)) pa_nil)) pe_int) (nomark _)))))))))))))))))), ?_⟩
    have hlt : (ns.map V.int).length ≤ 63 := by rw [List.length_map]; exact hlen
    -- the drawn ones
    refine ⟨fun σ' H' => (∃ u1 u2 u3 u4 u5 u6 u7 u8 : Option V, σ' = [some (.ref a), u1, u2, u3, u4, u5, u6, u7, u8, none, none, none, none, none]) ∧ Tabs (lawTb Pt Pl) H', ?_, ?_⟩
    · refine ⟨_, rfl, a, _, rfl, .inl hS, _, _, rfl, _, _, rfl, ?_⟩
      obtain ⟨n, hn, hn6⟩ : ∃ n : Nat, (let m : Int := (if ((ns.map V.int).length : Int) < 5 then ((ns.map V.int).length : Int) else 5); if m > 1 then m else 1) = (n : Int) ∧ n ≤ 5 := by
        dsimp only
        by_cases c : ((ns.map V.int).length : Int) < 5
        · rw [if_pos c]
          by_cases c2 : ((ns.map V.int).length : Int) > 1
          · rw [if_pos c2]; exact ⟨_, rfl, by omega⟩
          · rw [if_neg c2]; exact ⟨1, rfl, by omega⟩
        · rw [if_neg c]; exact ⟨5, rfl, by omega⟩
      refine ⟨(n : Int), congrArg (fun z => [V.int z]) hn, by omega, by omega, ?_⟩
      rw [Int.toNat_natCast]
      refine for_range (lo := 0) (n := n) (fun i σ' H' => (∃ u1 u2 u3 u4 u5 u6 u7 u8 : Option V, σ' = [some (.ref a), u1, u2, u3, u4, u5, u6, u7, u8, none, none, none, none, none]) ∧ Tabs (lawTb Pt Pl) H' ∧ SqL K H' a (ns.map V.int)) ⟨⟨none, none, none, none, none, none, none, none, rfl⟩, tabs, hS⟩ ?_ (fun _ _ z => ⟨z.1, z.2.1⟩)
      rintro i σ0 H0 hi ⟨⟨u1, u2, u3, u4, u5, u6, u7, u8, rfl⟩, T0, S0⟩
      rw [Int.zero_add]
      -- dice
      refine ⟨fun σ' H' => ∃ d : Addr, σ' = [some (.ref a), some (.int i), some (.ref d), u3, u4, u5, u6, u7, u8, none, none, none, none, none] ∧ Dice H' d 0 ∧ Tabs (lawTb Pt Pl) H' ∧ SqL K (hid d H') a (ns.map V.int), ?_, ?_⟩
      · exact ⟨_, rfl, _, rfl, a, ns, i, rfl, S0, hlen, by omega, fun H1 d s1 hd D => ⟨d, rfl, D, T0.ext s1, sql_hid hd s1 S0⟩⟩
      rintro σ1 H1 ⟨d, rfl, D1, T1, hS1⟩
      have St1 : St0 (lawTb Pt Pl) H1 H1 d 0 := ⟨Rel.refl, D1, T1⟩
      -- words, size
      refine ⟨fun σ' H' => ∃ (p : Addr) (ws : List Str) (size : Nat), σ' = [some (.ref a), some (.int i), some (.ref d), some (.ref p), some (.int size), u5, u6, u7, u8, none, none, none, none, none] ∧ St0 (lawTb Pt Pl) H1 H' d 37 ∧ hid d H' p = some (.lst (ws.map V.str)) ∧ 0 < size ∧ size ≤ 6 ∧ ws.length = 3 ∧ ∀ x ∈ ws, Wd x, ?_, ?_⟩
      · refine ⟨_, rfl, d, 3, 0, rfl, D1, by decide, by decide, fun H2 p ws ds np D2 ep l3 wws => ?_⟩
        have St2 := St1.ds ds D2
        have pd := ne_dice D1 np
        refine ⟨_, rfl, d, 6, 36, rfl, D2, by decide, by decide, by decide, fun r o r0 r1 D3 => ?_⟩
        have St3 := St2.roll D3
        refine ⟨_, _, rfl, rfl, (by show 2 ≤ sizeLine; decide), fun t nt => ?_⟩
        obtain ⟨size, hs⟩ : ∃ size : Nat, 1 + r = (size : Int) := ⟨(1 + r).toNat, by omega⟩
        refine ⟨t, _, rfl, SqT.of upd_same, rfl, _, _, rfl, _, _, rfl, rfl, p, ws, size, ?_, St3.new nt, hid_get ((same_upd nt) _ _ ?_) pd rfl, by omega, by omega, l3, wws⟩
        · rw [← hs]
          rfl
        · rw [upd_ne pd]
          exact ep
      rintro σ2 H2 ⟨p, ws, size, rfl, St2, ep, z0, z6, l3, wws⟩
      have pd : p ≠ d := (hid_inv ep).1
      -- two machines
      refine ⟨2, rfl, by decide, by decide, ?_⟩
      refine for_range (lo := 0) (n := 2) (fun j σ' H' => (∃ v5 v6 v7 v8 : Option V, σ' = [some (.ref a), some (.int i), some (.ref d), some (.ref p), some (.int size), v5, v6, v7, v8, none, none, none, none, none]) ∧ St0 (lawTb Pt Pl) H1 H' d (37 + 50 * j) ∧ hid d H' p = some (.lst (ws.map V.str))) ⟨⟨u5, u6, u7, u8, rfl⟩, St2, ep⟩ ?_ ?_
      rotate_left
      · rintro σ6 H6 ⟨⟨v5, v6, v7, v8, rfl⟩, St6, _⟩
        exact ⟨⟨_, _, _, _, _, _, _, _, rfl⟩, St6.tabs, Same.seq hid_up (Same.seq St6.rel hS1)⟩
      rintro j σ3 H3 hj ⟨⟨v5, v6, v7, v8, rfl⟩, St3, ep3⟩
      -- rows
      refine ⟨fun σ' H' => ∃ (w5 : Option V) (lr : Addr) (L : List NS.Row), σ' = [some (.ref a), some (.int i), some (.ref d), some (.ref p), some (.int size), w5, some (.ref lr), v7, v8, none, none, none, none, none] ∧ St0 (lawTb Pt Pl) H1 H' d (63 + 50 * j) ∧ lr ≠ d ∧ H' lr = some (.lst (L.map fun p => V.ref p.1)) ∧ L.length ≤ 8 ∧ (∀ p ∈ L, Kz H' (.ref p.1) p.2 ∧ ∃ r : RowM, r.Ok size ∧ p.2 = r.key) ∧ hid d H' p = some (.lst (ws.map V.str)), ?_, ?_⟩
      · refine ⟨_, rfl, d, 9, 37 + 50 * j, rfl, St3.dice, by omega, by decide, by decide, fun r o r0 r1 D4 => ?_⟩
        have St4 := St3.roll D4
        have ep4 := rel_dice (o := o) _ _ ep3
        obtain ⟨kk, rfl⟩ : ∃ kk : Nat, r = kk := ⟨r.toNat, by omega⟩
        refine ⟨(kk : Int), rfl, by omega, by omega, ?_⟩
        rw [Int.toNat_natCast]
        intro D nD
        have Dd := ne_dice St4.dice nD
        have pD : p ≠ D := ne_of_none (hid_up _ _ ep4) nD
        refine lc_range (lo := 0) (n := kk) (fun t H' => St0 (lawTb Pt Pl) (upd H3 d o) H' d (38 + 50 * j + 3 * t) ∧ ∃ L : List NS.Row, L.length = t ∧ H' D = some (.lst (L.map fun p => V.ref p.1)) ∧ ∀ p ∈ L, Kz H' (.ref p.1) p.2 ∧ ∃ r : RowM, r.Ok size ∧ p.2 = r.key)
          ⟨(⟨Rel.refl, St4.dice.mono (by omega), St4.tabs⟩ : St0 (lawTb Pt Pl) (upd H3 d o) (upd H3 d o) d (38 + 50 * j)).new nD, [], rfl, upd_same, fun _ z => (nomatch z)⟩ (fun t H' ht z => ?_) (fun H6 z => ?_)
        · obtain ⟨S, L, lL, eL, hL⟩ := z
          have e2' : H' p = some (.lst (ws.map V.str)) := hid_up _ _ (S.rel _ _ ep4)
          refine ⟨rfl, tYes_ite ⟨_, rfl, _, rfl, _, rfl, d, p, size, 38 + 50 * j + 3 * t, ws, rfl, S.dice, by omega, z0, by omega, pd, SqL.of e2', by omega, wws, fun H5 pr r5 ds npr tps D5 okr kzr => ?_⟩⟩
          have S5 := S.ds ds D5
          have eL5 := ds _ _ Dd eL
          refine ⟨_, eL5, ?_, S5.put (hid_none nD) Dd eL5, L ++ [(pr, r5.key)], ?_, ?_, fun q hq => ?_⟩
          · rw [List.length_map]
            exact small1000 (by omega)
          · rw [List.length_append, lL]
            rfl
          · rw [upd_same, List.map_append]
            rfl
          · rcases List.mem_append.mp hq with z | z
            · exact ⟨kz_tups (tps.trans (tups_list eL5)) _ _ (hL q z).1, (hL q z).2⟩
            · rw [List.mem_singleton.mp z]
              exact ⟨kz_tups (tups_list eL5) _ _ kzr, r5, okr, rfl⟩
        · obtain ⟨S, L, lL, eL, hL⟩ := z
          exact ⟨_, D, L, rfl, ⟨St4.rel.trans S.rel, S.dice.mono (by omega), S.tabs⟩, Dd, eL, by omega, hL, S.rel _ _ ep4⟩
      rintro σ4 H4 ⟨w5, lr, L, rfl, St4, lrd, elr, lL, hL, ep4⟩
      -- machine
      refine ⟨fun σ' H' => ∃ (pm : Addr) (m : MachM), σ' = [some (.ref a), some (.int i), some (.ref d), some (.ref p), some (.int size), w5, some (.ref lr), some (.ref pm), v8, none, none, none, none, none] ∧ St0 (lawTb Pt Pl) H1 H' d (65 + 50 * j) ∧ Kz (hid d H') (.ref pm) m.key ∧ m.Ok ∧ m.rows.length ≤ 30 ∧ hid d H' p = some (.lst (ws.map V.str)), ?_, ?_⟩
      · refine ⟨_, rfl, _, rfl, _, rfl, d, size, 63 + 50 * j, rfl, St4.dice, by omega, by omega, by omega, fun r o r0 r1 D5 => ?_⟩
        have St5 := St4.roll D5
        refine ⟨_, rfl, _, rfl, d, size, 63 + 50 * j + 1, rfl, St5.dice, by omega, by omega, by omega, fun r2 o2 r20 r21 D6 => ?_⟩
        have St6 := St5.roll D6
        have ep6 := ((rel_dice (d := d) (H := H4) (o := o)).trans (rel_dice (o := o2))) _ _ ep4
        refine ⟨(by show 2 ≤ sizeLine; decide), fun lf nlf => ?_⟩
        have St7 := St6.new (o := .lst [.int r, .int r2]) nlf
        have ep7 := rel_new (d := d) (o := .lst [.int r, .int r2]) nlf _ _ ep6
        have tp := ((tups_dice (o := o) St4.dice).trans (tups_dice (o := o2) St5.dice)).trans (tups_same (same_upd (o := .lst [.int r, .int r2]) nlf))
        have elr' : upd (upd (upd H4 d o) d o2) lf (.lst [.int r, .int r2]) lr = some (.lst (L.map fun p => V.ref p.1)) := (same_upd nlf) _ _ (by rw [upd_ne lrd, upd_ne lrd]; exact elr)
        refine ⟨_, rfl, lf, lr, size, [r, r2], L, rfl, z0, by omega, SqL.of upd_same, (by show 2 < 64; decide), fun k hk => ?_, SqL.of elr', by omega, fun q hq => ⟨kz_tups tp _ _ (hL q hq).1, (hL q hq).2⟩, fun H' pm m s' npm em rl okm km => ?_⟩
        · simp only [List.mem_cons, List.not_mem_nil, or_false] at hk
          rcases hk with rfl | rfl
          · exact ⟨r0, r1⟩
          · exact ⟨r20, r21⟩
        · have St8 := St7.same s'
          exact ⟨pm, m, rfl, St8.mono (by omega), kz_hid St8.dice _ _ km, okm, by omega, rel_same s' _ _ ep7⟩
      rintro σ5 H5 ⟨pm, m, rfl, St5, km, okm, r30, ep5⟩
      -- _law_right
      refine ⟨fun σ' H' => σ' = [some (.ref a), some (.int i), some (.ref d), some (.ref p), some (.int size), w5, some (.ref lr), some (.ref pm), v8, none, none, none, none, none] ∧ St0 (lawTb Pt Pl) H1 H' d (65 + 50 * j) ∧ Kz (hid d H') (.ref pm) m.key ∧ hid d H' p = some (.lst (ws.map V.str)), ?_, ?_⟩
      · exact ⟨_, rfl, pm, m, rfl, Kz.same hid_up _ _ km, okm, r30, fun H' s' => ⟨_, rfl, ifF rfl ⟨rfl, St5.same s', Kz.same (rel_same s') _ _ km, rel_same s' _ _ ep5⟩⟩⟩
      rintro σ6 H6 ⟨rfl, St6, km6, ep6⟩
      -- both lists of words
      have lw : (ws.map V.str).length = 3 := by rw [List.length_map]; exact l3
      refine ⟨_, rfl, _, rfl, (by show 1 ≤ sizeLine; decide), fun l1 n1 => ?_⟩
      have St7 := St6.new (o := .lst [.str "other"]) n1
      have r7 := rel_new (d := d) (o := .lst [.str "other"]) n1
      refine ⟨p, l1, _, _, rfl, rfl, hid_up _ _ (r7 _ _ ep6), upd_same, (by rw [lw]; show 3 + 1 ≤ sizeLine; decide), fun l2 n2 => ?_⟩
      have el2 : ws.map V.str ++ [.str "other"] = (ws ++ [("other" : Str)]).map V.str := by rw [List.map_append]; rfl
      rw [el2]
      have St8 := St7.new (o := .lst ((ws ++ [("other" : Str)]).map V.str)) n2
      have r8 := r7.trans (rel_new (d := d) (o := .lst ((ws ++ [("other" : Str)]).map V.str)) n2)
      have e8 := St7.at (o := .lst ((ws ++ [("other" : Str)]).map V.str)) n2 rfl
      refine ⟨(by show 2 ≤ sizeLine; decide), fun tt ntt => ⟨tt, rfl, ⟨_, SqT.of upd_same⟩, ?_⟩⟩
      have St9 := St8.new (o := .tup [.ref p, .ref l2]) ntt
      have r9 := r8.trans (rel_new (d := d) (o := .tup [.ref p, .ref l2]) ntt)
      have e9 := rel_new (d := d) (o := .tup [.ref p, .ref l2]) ntt _ _ e8
      have et9 := St8.at (o := .tup [.ref p, .ref l2]) ntt rfl
      refine for_tup (xs := [.ref p, .ref l2]) (fun t σ' H' => (∃ x8 : Option V, σ' = [some (.ref a), some (.int i), some (.ref d), some (.ref p), some (.int size), w5, some (.ref lr), some (.ref pm), x8, none, none, none, none, none]) ∧ St0 (lawTb Pt Pl) H1 H' d (65 + 50 * j + 9 * t) ∧ Kz (hid d H') (.ref pm) m.key ∧ hid d H' p = some (.lst (ws.map V.str)) ∧ hid d H' l2 = some (.lst ((ws ++ [("other" : Str)]).map V.str)) ∧ hid d H' tt = some (.tup [.ref p, .ref l2]))
        ⟨⟨_, rfl⟩, St9, Kz.same r9 _ _ km6, r9 _ _ ep6, e9, et9⟩ (fun t σ' H' _ z => SqT.of (hid_up _ _ z.2.2.2.2.2)) ?_ (fun σ' H' z => ⟨⟨w5, some (.ref lr), some (.ref pm), z.1.choose, z.1.choose_spec⟩, z.2.1.mono (by show 65 + 50 * j + 9 * 2 ≤ _; omega), z.2.2.2.1⟩)
      rintro t v σ7 H7 hv ⟨⟨x8, rfl⟩, St, kmt, ept, elt, ett⟩
      obtain ⟨wl, ww, rfl, ew, wne, wlen, wwd⟩ : ∃ (wl : Addr) (ww : List Str), v = .ref wl ∧ hid d H7 wl = some (.lst (ww.map V.str)) ∧ ww ≠ [] ∧ ww.length ≤ 4 ∧ ∀ x ∈ ww, Wd x := by
        match t, hv with
        | 0, hv =>
          cases Option.some.inj hv
          exact ⟨p, ws, rfl, ept, (fun z => by rw [z] at l3; exact nomatch l3), by omega, wws⟩
        | 1, hv =>
          cases Option.some.inj hv
          refine ⟨l2, _, rfl, elt, by simp, by rw [List.length_append, l3]; decide, fun x hx => ?_⟩
          rcases List.mem_append.mp hx with z | z
          · exact wws x z
          · rw [List.mem_singleton.mp z]
            exact wd_other
        | t + 2, hv => exact nomatch hv
      have t2 : t < 2 := (List.getElem?_eq_some_iff.mp hv).1
      refine ⟨_, rfl, _, rfl, _, rfl, d, pm, wl, m, ww, 65 + 50 * j + 9 * t, rfl, St.dice, by omega, Kz.same hid_up _ _ kmt, okm, hid_up _ _ ew, (hid_inv ew).1, wne, by omega, wwd, St.tabs, fun H8 S8 => ⟨_, rfl, ifF rfl ?_⟩⟩
      exact ⟨⟨_, rfl⟩, ⟨St.rel.trans S8.rel, S8.dice.mono (by omega), S8.tabs⟩, Kz.same S8.rel _ _ kmt, S8.rel _ _ ept, S8.rel _ _ elt, S8.rel _ _ ett⟩
    rintro σZ HZ ⟨⟨u1, u2, u3, u4, u5, u6, u7, u8, rfl⟩, tabsZ⟩
    -- the written ones
    refine ⟨fun σ' H' => ∃ S : Addr, σ' = [some (.ref a), u1, u2, u3, u4, u5, u6, u7, u8, none, none, none, none, some (.ref S)] ∧ Tabs (lawTb Pt Pl) H' ∧ Kz H' (.ref S) (mW "a" "b").key, ?_, ?_⟩
    · exact disp_mW (a := "a") (b := "b") fun H' S s' nS kS => ⟨S, rfl, tabsZ.ext s', kS⟩
    rintro σ1 H1 ⟨S, rfl, tb1, kS1⟩
    refine ⟨fun σ' H' => ∃ M1 : Addr, σ' = [some (.ref a), u1, u2, u3, u4, u5, u6, u7, u8, some (.ref M1), none, none, none, some (.ref S)] ∧ Same H1 H' ∧ Kz H' (.ref M1) (mW "b" "a").key, ?_, ?_⟩
    · refine ⟨_, rfl, _, rfl, rfl, fun dx ndx => ⟨_, _, rfl, .inr ⟨S, mW "a" "b", rfl, Kz.same (same_upd ndx) _ _ kS1, ok_ab, .inr ⟨dx, [("a", "b"), ("b", "a"), ("c", "a")], rfl, upd_same, nms_cons wd_a wd_b (nms_cons wd_b wd_a (nms_cons wd_c wd_a nms_nil)), by decide, _, near_ab, .inr ⟨by decide +kernel, fun H' p m' s' np N kz => ?_⟩⟩⟩⟩⟩
      cases N.ext (mW_new (c := "b") (e := "a") (by decide +kernel) (by decide +kernel) lt_ba)
      exact ⟨p, rfl, (same_upd ndx).trans s', kz⟩
    rintro σ2 H2 ⟨M1, rfl, s12, kM1⟩
    refine ⟨fun σ' H' => ∃ fo M2 : Addr, σ' = [some (.ref a), u1, u2, u3, u4, u5, u6, u7, u8, some (.ref M1), some (.ref fo), none, none, some (.ref S)] ∧ Same H2 H' ∧ H' fo = some (.lst [.ref M1, .ref M2]) ∧ Kz H' (.ref M2) (mW "b" "c").key, ?_, ?_⟩
    · refine ⟨_, rfl, _, rfl, _, rfl, rfl, fun dx ndx => ⟨_, _, rfl, .inr ⟨S, mW "a" "b", rfl, Kz.same (s12.trans (same_upd ndx)) _ _ kS1, ok_ab, .inr ⟨dx, [("a", "b"), ("b", "c")], rfl, upd_same, nms_cons wd_a wd_b (nms_cons wd_b wd_c nms_nil), by decide, _, near_ab, .inr ⟨by decide +kernel, fun H' p m' s' np N kz => ?_⟩⟩⟩⟩⟩
      cases N.ext (mW_new (c := "b") (e := "c") (by decide +kernel) (by decide +kernel) lt_bc)
      refine ⟨(by show 2 ≤ sizeLine; decide), fun fo nfo => ⟨fo, p, rfl, ((same_upd ndx).trans s').trans (same_upd nfo), upd_same, Kz.same (same_upd nfo) _ _ kz⟩⟩
    rintro σ3 H3 ⟨fo, M2, rfl, s23, efo, kM2⟩
    have tb3 := tb1.ext (s12.trans s23)
    have kS3 := Kz.same (s12.trans s23) _ _ kS1
    have kM13 := Kz.same s23 _ _ kM1
    refine ⟨fun σ' H' => σ' = [some (.ref a), u1, u2, u3, u4, u5, u6, u7, u8, some (.ref M1), some (.ref fo), none, none, some (.ref S)] ∧ Same H3 H', ?_, ?_⟩
    · refine ⟨_, rfl, fo, _, 0, .ref M1, rfl, rfl, SqL.of efo, atI_nat (j := 0) rfl, disp_mW (a := "b") (b := "a") fun H' D s' nD kD => ?_⟩
      exact ne_mach ok_ba (Kz.same s' _ _ kM13) kD ⟨_, rfl, ifF rfl ⟨rfl, s'⟩⟩
    rintro σ4 H4 ⟨rfl, s34⟩
    refine ⟨fun σ' H' => σ' = [some (.ref a), u1, u2, u3, u4, u5, u6, u7, u8, some (.ref M1), some (.ref fo), none, none, some (.ref S)] ∧ Same H3 H', ?_, ?_⟩
    · refine ⟨_, rfl, fo, _, 1, .ref M2, rfl, rfl, SqL.of (s34 _ _ efo), atI_nat (j := 1) rfl, disp_mW (a := "b") (b := "c") fun H' D s' nD kD => ?_⟩
      exact ne_mach ok_bc (Kz.same (s34.trans s') _ _ kM2) kD ⟨_, rfl, ifF rfl ⟨rfl, s34.trans s'⟩⟩
    rintro σ5 H5 ⟨rfl, s35⟩
    have tb5 := tb3.ext s35
    have kS5 := Kz.same s35 _ _ kS3
    have sh1 : SeqAt.shaped (.list [.str "operation"]) = true := by decide +kernel
    refine ⟨fun σ' H' => σ' = [some (.ref a), u1, u2, u3, u4, u5, u6, u7, u8, some (.ref M1), some (.ref fo), none, none, some (.ref S)] ∧ Tabs (lawTb Pt Pl) H' ∧ Kz H' (.ref S) (mW "a" "b").key, ?_, ?_⟩
    · refine ⟨tb5, fun Ha eN Ta => ?_⟩
      have kSa := kz_ext eN _ _ kS5
      refine ⟨_, rfl, _, rfl, rfl, fun dx ndx => ⟨_, _, rfl, .inr ⟨S, mW "a" "b", rfl, Kz.same (same_upd ndx) _ _ kSa, ok_ab, .inr ⟨dx, [("a", "b")], rfl, upd_same, nms_cons wd_a wd_b nms_nil, by decide, _, near_ab, .inl ⟨by decide +kernel, fun H' s' => .inr ⟨rfl, fun q1 nq1 f4 => ?_⟩⟩⟩⟩⟩⟩
      refine ⟨(by show 1 ≤ sizeLine; decide), fun l nl => ?_⟩
      have kq := same_upd (o := .lst [.str "operation"]) nq1
      have kl := same_upd (o := .lst [.str "operation"]) nl
      refine ⟨.list [.str "operation"], .list [.str "operation"], .lst (SqL.of (kl _ _ upd_same)) (.cons (.str _) .nil), .lst (SqL.of upd_same) (.cons (.str _) .nil), sh1, sh1, ?_⟩
      rw [eqv_self sh1]
      have ss := (same_upd ndx).trans (s'.trans (kq.trans kl))
      exact ⟨_, rfl, ifF rfl ⟨rfl, Ta.ext ss, Kz.same ss _ _ kSa⟩⟩
    rintro σ6 H6 ⟨rfl, tb6, kS6⟩
    refine ⟨fun σ' H' => ∃ O : Addr, σ' = [some (.ref a), u1, u2, u3, u4, u5, u6, u7, u8, some (.ref M1), some (.ref fo), some (.ref O), none, some (.ref S)] ∧ Same H6 H' ∧ Kz H' (.ref O) (mW "machine" "names").key, ?_, ?_⟩
    · exact disp_mW (a := "machine") (b := "names") fun H' O s' nO kO => ⟨O, rfl, s', kO⟩
    rintro σ7 H7 ⟨O, rfl, s67, kO⟩
    refine ⟨fun σ' H' => ∃ M3 : Addr, σ' = [some (.ref a), u1, u2, u3, u4, u5, u6, u7, u8, some (.ref M3), some (.ref fo), some (.ref O), none, some (.ref S)] ∧ Same H7 H' ∧ Kz H' (.ref M3) (mW "b" "machine").key, ?_, ?_⟩
    · refine ⟨_, rfl, fun dx ndx => ⟨upd_same, [(Sum.inr "machine", .str "b"), (Sum.inr "names", .str "machine")], rfl, by decide, ?_⟩⟩
      rw [upd_upd]
      refine ⟨_, _, rfl, .inr ⟨O, mW "machine" "names", rfl, Kz.same (same_upd ndx) _ _ kO, ok_mn, .inr ⟨dx, [("machine", "b"), ("names", "machine")], rfl, ?_, nms_cons wd_machine wd_b (nms_cons wd_names wd_machine nms_nil), by decide, _, near_mn, .inr ⟨by decide +kernel, fun H' p m' s' np N kz => ?_⟩⟩⟩⟩
      · rw [← mergeK_kvS (by decide +kernel)]
        exact upd_same
      cases N.ext (mW_new (c := "b") (e := "machine") (by decide +kernel) (by decide +kernel) lt_bm)
      exact ⟨p, rfl, (same_upd ndx).trans s', kz⟩
    rintro σ8 H8 ⟨M3, rfl, s78, kM3⟩
    refine ⟨fun σ' H' => σ' = [some (.ref a), u1, u2, u3, u4, u5, u6, u7, u8, some (.ref M3), some (.ref fo), some (.ref O), none, some (.ref S)] ∧ Same H8 H', ?_, ?_⟩
    · exact ⟨_, rfl, disp_mW (a := "b") (b := "machine") fun H' D s' nD kD => ne_mach ok_bm (Kz.same s' _ _ kM3) kD ⟨_, rfl, ifF rfl ⟨rfl, s'⟩⟩⟩
    rintro σ9 H9 ⟨rfl, s89⟩
    refine ⟨fun σ' H' => σ' = [some (.ref a), u1, u2, u3, u4, u5, u6, u7, u8, some (.ref M3), some (.ref fo), some (.ref O), none, some (.ref S)] ∧ Same H8 H', ?_, ?_⟩
    · refine ⟨_, rfl, fun dx ndx => ⟨upd_same, [(Sum.inr "b", .str "machine"), (Sum.inr "machine", .str "names")], rfl, by decide, ?_⟩⟩
      rw [upd_upd]
      refine ⟨_, _, rfl, .inr ⟨M3, mW "b" "machine", rfl, Kz.same (s89.trans (same_upd ndx)) _ _ kM3, ok_bm, .inr ⟨dx, [("b", "machine"), ("machine", "names")], rfl, ?_, nms_cons wd_b wd_machine (nms_cons wd_machine wd_names nms_nil), by decide, _, near_bm, .inr ⟨by decide +kernel, fun H' p m' s' np N kz => ?_⟩⟩⟩⟩
      · rw [← mergeK_kvS (by decide +kernel)]
        exact upd_same
      cases N.ext (mW_new (c := "machine") (e := "names") (by decide +kernel) (by decide +kernel) lt_mn)
      have ss := s89.trans ((same_upd ndx).trans s')
      exact ⟨_, rfl, ne_mach ok_mn kz (Kz.same (s78.trans ss) _ _ kO) ⟨_, rfl, ifF rfl ⟨rfl, ss⟩⟩⟩
    rintro σA HA ⟨rfl, s8A⟩
    have s6A := s67.trans (s78.trans s8A)
    have tbA := tb6.ext s6A
    have kSA := Kz.same s6A _ _ kS6
    -- the machine of steps
    refine ⟨fun σ' H' => ∃ R : Addr, σ' = [some (.ref a), u1, u2, u3, u4, u5, u6, u7, u8, some (.ref M3), some (.ref fo), some (.ref O), some (.ref R), some (.ref S)] ∧ Same HA H' ∧ Kz H' (.ref R) mS.key, ?_, ?_⟩
    · refine ⟨(by show 1 ≤ sizeLine; decide), fun f n29 => ?_⟩
      have kf := same_upd (o := .tup [.int 29]) n29
      refine ⟨28, rfl, by decide, by decide, fun D nD => ?_⟩
      refine lc_range (lo := 0) (n := 28) (fun j H' => Same (upd HA f (.tup [.int 29])) H' ∧ ∃ L : List (Addr × RowM), H' D = some (.lst (L.map fun p => V.ref p.1)) ∧ L.map (·.2) = stepRows 2 j ∧ ∀ p ∈ L, Kz H' (.ref p.1) p.2.key) ⟨same_upd nD, [], upd_same, rfl, fun _ z => nomatch z⟩ (fun j H' hj z => ?_) (fun H' z => ?_)
      · obtain ⟨s', L, eL, mL, kL⟩ := z
        refine ⟨rfl, tYes_ite ⟨_, rfl, (by show 1 ≤ sizeLine; decide), fun t1 nt1 => ⟨_, rfl, _, _, rfl, rfl, (by show 3 ≤ sizeLine; decide), fun t2 nt2 => ?_⟩⟩⟩
        have k1 := same_upd (o := .tup [.str "step"]) nt1
        have k2 := same_upd (o := .tup [.int (0 + j), .ref t1, .int (0 + j + 2)]) nt2
        have k12 := k1.trans k2
        have eL' := k12 _ _ eL
        have sT := SameT.lst (ys := L.map (fun p => V.ref p.1) ++ [.ref t2]) eL'
        have lL : L.length = j := by
          have z := congrArg List.length mL
          rw [List.length_map, stepRows, List.length_map, List.length_range] at z
          exact z
        refine ⟨_, eL', ?_, same_set (s'.trans k12) nD, L ++ [(t2, ⟨(j : Int), .step, (j : Int) + 2⟩)], ?_, ?_, fun p hp => ?_⟩
        · rw [List.length_map, lL, sizeLine_eq]
          omega
        · rw [upd_same, List.map_append]
          rfl
        · rw [List.map_append, mL, stepRows_succ]
          rfl
        · rcases List.mem_append.mp hp with z | z
          · exact Kz.tups ((SameT.of k12).trans sT) _ _ (kL p z)
          · rw [List.mem_singleton.mp z]
            refine .tup (sT _ _ ?_) (.cons (.int _) (.cons (.tup (sT _ _ (k2 _ _ upd_same)) (.cons (.str _) .nil)) (.cons (.int _) .nil)))
            rw [upd_same, Int.zero_add]
      · obtain ⟨s', L, eL, mL, kL⟩ := z
        refine ⟨D, _, rfl, .inl ⟨SqL.of eL, fun p4 n4 => ⟨(by show 3 ≤ sizeLine; decide), fun R nR => ?_⟩⟩⟩
        have k4 := same_upd (o := .tup (L.map fun p => V.ref p.1)) n4
        have kR := same_upd (o := .tup [.int 30, .ref f, .ref p4]) nR
        have kU := kzL fun p hp => Kz.same (k4.trans kR) _ _ (kL p hp)
        rw [mL] at kU
        exact ⟨R, rfl, (kf.trans s').trans (k4.trans kR), .tup upd_same (.cons (.int _) (.cons (.tup ((s'.trans (k4.trans kR)) _ _ upd_same) (.cons (.int _) .nil)) (.cons (.tup (kR _ _ upd_same) kU) .nil)))⟩
    rintro σB HB ⟨R, rfl, sAB, kR⟩
    refine ⟨fun σ' H' => σ' = [some (.ref a), u1, u2, u3, u4, u5, u6, u7, u8, some (.ref M3), some (.ref fo), some (.ref O), some (.ref R), some (.ref S)] ∧ Same HB H', ?_, ?_⟩
    · refine ⟨_, rfl, _, rfl, .inr ⟨R, mS, rfl, kR, ok_S, fun HC cT ys sC nC Ro kC => ?_⟩⟩
      cases Ro.ext rch_S
      rw [trim_S] at kC
      refine ⟨Nat.zero_le _, fun f n0 => ?_⟩
      have kf := same_upd (o := .tup []) n0
      refine ⟨14, rfl, by decide, by decide, fun D nD => ?_⟩
      refine lc_range (lo := 0) (n := 14) (fun j H' => Same (upd HC f (.tup [])) H' ∧ ∃ L : List (Addr × RowM), H' D = some (.lst (L.map fun p => V.ref p.1)) ∧ L.map (·.2) = stepRows 1 j ∧ ∀ p ∈ L, Kz H' (.ref p.1) p.2.key) ⟨same_upd nD, [], upd_same, rfl, fun _ z => nomatch z⟩ (fun j H' hj z => ?_) (fun H' z => ?_)
      · obtain ⟨s', L, eL, mL, kL⟩ := z
        refine ⟨rfl, tYes_ite ⟨_, rfl, (by show 1 ≤ sizeLine; decide), fun t1 nt1 => ⟨_, rfl, _, _, rfl, rfl, (by show 3 ≤ sizeLine; decide), fun t2 nt2 => ?_⟩⟩⟩
        have k1 := same_upd (o := .tup [.str "step"]) nt1
        have k2 := same_upd (o := .tup [.int (0 + j), .ref t1, .int (0 + j + 1)]) nt2
        have k12 := k1.trans k2
        have eL' := k12 _ _ eL
        have sT := SameT.lst (ys := L.map (fun p => V.ref p.1) ++ [.ref t2]) eL'
        have lL : L.length = j := by
          have z := congrArg List.length mL
          rw [List.length_map, stepRows, List.length_map, List.length_range] at z
          exact z
        refine ⟨_, eL', ?_, same_set (s'.trans k12) nD, L ++ [(t2, ⟨(j : Int), .step, (j : Int) + 1⟩)], ?_, ?_, fun p hp => ?_⟩
        · rw [List.length_map, lL, sizeLine_eq]
          omega
        · rw [upd_same, List.map_append]
          rfl
        · rw [List.map_append, mL, stepRows_succ]
          rfl
        · rcases List.mem_append.mp hp with z | z
          · exact Kz.tups ((SameT.of k12).trans sT) _ _ (kL p z)
          · rw [List.mem_singleton.mp z]
            refine .tup (sT _ _ ?_) (.cons (.int _) (.cons (.tup (sT _ _ (k2 _ _ upd_same)) (.cons (.str _) .nil)) (.cons (.int _) .nil)))
            rw [upd_same, Int.zero_add]
      · obtain ⟨s', L, eL, mL, kL⟩ := z
        refine ⟨D, _, rfl, .inl ⟨SqL.of eL, fun p4 n4 => ⟨(by show 3 ≤ sizeLine; decide), fun R2 nR => ?_⟩⟩⟩
        have k4 := same_upd (o := .tup (L.map fun p => V.ref p.1)) n4
        have kR := same_upd (o := .tup [.int 15, .ref f, .ref p4]) nR
        have kU := kzL fun p hp => Kz.same (k4.trans kR) _ _ (kL p hp)
        rw [mL] at kU
        have ss := (kf.trans s').trans (k4.trans kR)
        have k2 : Kz _ (.ref R2) mT.key := .tup upd_same (.cons (.int _) (.cons (.tup ((s'.trans (k4.trans kR)) _ _ upd_same) .nil) (.cons (.tup (kR _ _ upd_same) kU) .nil)))
        exact ne_mach ok_T (Kz.same ss _ _ kC) k2 ⟨_, rfl, ifF rfl ⟨rfl, sC.trans ss⟩⟩
    rintro σC HC ⟨rfl, sBC⟩
    have tbC := tbA.ext (sAB.trans sBC)
    have kSC := Kz.same (sAB.trans sBC) _ _ kSA
    -- what is refused
    refine ⟨fun σ' H' => ∃ fa q1 : Addr, σ' = [some (.ref a), u1, u2, u3, u4, u5, u6, u7, u8, some (.ref M3), some (.ref fa), some (.ref O), some (.ref R), some (.ref S)] ∧ Tabs (lawTb Pt Pl) H' ∧ H' fa = some (.lst [.ref q1]) ∧ H' q1 = some (.lst [.str "machine"]) ∧ q1 ≠ fa, ?_, ?_⟩
    · refine ⟨tbC, fun Ha eN Ta => ?_⟩
      obtain ⟨M⟩ := mach_at (kz_ext eN _ _ kSC)
      refine ⟨_, rfl, 2, rfl, S, _, rfl, SqT.of M.top, (by show ¬ (0 = 0 ∧ 2 = 3); decide), fun c1 nc1 => ⟨_, rfl, .inl ⟨BadM.len upd_same (by show ¬ 2 = 3; decide), fun H' s' => .inl ⟨rfl, fun q1 nq1 f4 => ⟨(by show 1 ≤ sizeLine; decide), fun fa nfa f4' => ?_⟩⟩⟩⟩⟩
      have kq := same_upd (o := .lst [.str "machine"]) nq1
      have kf := same_upd (o := .lst [.ref q1]) nfa
      exact ⟨fa, q1, rfl, Ta.ext ((same_upd nc1).trans (s'.trans (kq.trans kf))), upd_same, kf _ _ upd_same, ne_of_none upd_same nfa⟩
    rintro σD HD ⟨fa, q1, rfl, tbD, efa, eq1, q1f⟩
    refine ⟨fun σ' H' => ∃ q2 : Addr, σ' = [some (.ref a), u1, u2, u3, u4, u5, u6, u7, u8, some (.ref M3), some (.ref fa), some (.ref O), some (.ref R), some (.ref S)] ∧ H' fa = some (.lst [.ref q1, .ref q2]) ∧ H' q1 = some (.lst [.str "machine"]) ∧ H' q2 = some (.lst [.str "machine"]), ?_, ?_⟩
    · refine ⟨_, rfl, .inl ⟨rfl, _, SqL.of efa⟩, tbD, fun Ha eN Ta => ?_⟩
      have efa1 := eN _ _ efa fun _ z => nomatch z
      have eq11 := eN _ _ eq1 fun _ z => nomatch z
      refine ⟨_, rfl, .inl ⟨.ty "NoneType" (by decide) (.base .non), fun H' s' => .inl ⟨rfl, fun q2 nq2 f4 => ?_⟩⟩⟩
      have kq := same_upd (o := .lst [.str "machine"]) nq2
      have efa2 := kq _ _ (s' _ _ efa1)
      have q2f : q2 ≠ fa := (ne_of_none (s' _ _ efa1) nq2).symm
      refine ⟨fa, _, _, rfl, rfl, efa2, (by show 1 < sizeLine; decide), q2, rfl, upd_same, ?_, ?_⟩
      · rw [upd_ne q1f]
        exact kq _ _ (s' _ _ eq11)
      · rw [upd_ne q2f]
        exact upd_same
    rintro σE HE ⟨q2, rfl, efaE, eq1E, eq2E⟩
    refine ⟨_, rfl, (by show 1 ≤ sizeLine; decide), fun l1 n1 => ⟨(by show 1 ≤ sizeLine; decide), fun l2 n2 => ⟨l2, 2, _, rfl, rfl, upd_same, by decide, by decide, (by show 1 * 2 ≤ sizeLine; decide), fun l3 n3 => ?_⟩⟩⟩
    have k1 := same_upd (o := .lst [.str "machine"]) n1
    have k2 := same_upd (o := .lst [.ref l1]) n2
    have k3 := same_upd (o := .lst (List.replicate (2 : Int).toNat [V.ref l1]).flatten) n3
    have k23 := k2.trans k3
    have k13 := k1.trans k23
    have sh3 : SeqAt.shaped (.list [.list [.str "machine"], .list [.str "machine"]]) = true := by decide +kernel
    refine ⟨.list [.list [.str "machine"], .list [.str "machine"]], .list [.list [.str "machine"], .list [.str "machine"]],
      .lst (SqL.of (k13 _ _ efaE)) (.cons (.lst (SqL.of (k13 _ _ eq1E)) (.cons (.str _) .nil)) (.cons (.lst (SqL.of (k13 _ _ eq2E)) (.cons (.str _) .nil)) .nil)),
      .lst (xs := [.ref l1, .ref l1]) (SqL.of upd_same) (.cons (.lst (SqL.of (k23 _ _ upd_same)) (.cons (.str _) .nil)) (.cons (.lst (SqL.of (k23 _ _ upd_same)) (.cons (.str _) .nil)) .nil)), sh3, sh3, ?_⟩
    rw [eqv_self sh3]
    exact q _
end
end K03
/-! The end of a law whose def keeps its promise where no repr is under way. -/
namespace GL
open PySem PySem.Spec PyProof.Rows L2
section
variable {P : Program} {w : World} {K : PySem.W.Frag} {mg mb : Str → Option Value} {k : Nat} {fa a : Addr} {fd : FuncData} {x : Str} {sp : Sp} {s₁ : Shared} {vs : List Value} {ns : List Int}
/-- the law's call from one abstract heap, in which nothing but the script may be tracked -/
theorem law_core (KX : K.In s₁.heap) (hns : s₁.heap.Ns mainGlobals mg) (hb : s₁.heap.Ns builtinsNs mb) (hbb : ∀ x : Str, x ≠ "__name__" → mb x = bootBuiltins x) (hlim : s₁.heap.NoLimit) (hg : s₁.gens = #[])
    (ha : s₁.heap.get? a = some { cls := .type "list", data := .seq vs.toArray }) (hr : Room k callerA) (F : ∀ base : Heap, K.In base → base.Ns mainGlobals mg → FnG P w K mg base CX0 k fa fd [x] sp)
    (hbind : ∀ (s : Shared) (u : Value), BindsTo s fd ⟨[u], []⟩ [(x, u)]) {H : Hp} (only : Only H) (want : sp [.ref a] H (fun v _ => v = .bl true) fun _ _ _ => False) (hok : HOk P w H s₁.heap) (hA : ∀ b, H b ≠ none → b = a) (hK : H a ≠ none → K.lookup a = none) :
    codeAny (model P w) callerA (.call (.ref fa) ⟨[.ref a], []⟩) (fun r s' => r = .ok (.ret (.bool true)) ∧ OldK s₁.heap s'.heap ∧ s'.os = s₁.os ∧ AllBare s'.gens) s₁ := by
  have lay : ∀ {b : Addr} {o : Obj}, s₁.heap.get? b = some o → H b = none → (hidT s₁.heap H).get? b = some o := fun e n => hidT_get e n
  have away : ∀ {b : Addr} {o : Obj}, s₁.heap.get? b = some o → (b = a → False) → H b = none := fun {b o} _ na => by
    cases q : H b with
    | none => rfl
    | some u => exact (na (hA b (by rw [q]; exact fun z => nomatch z))).elim
  have names : ∀ {b : Addr} {m : Str → Option Value}, s₁.heap.Ns b m → (hidT s₁.heap H).Ns b m := by
    rintro b m ⟨o, es, ep, e, d, r⟩
    refine ⟨o, es, ep, lay e (away e fun z => ?_), d, r⟩
    subst z
    rw [ha] at e
    cases e
    exact nomatch d
  have part : K.In (hidT s₁.heap H) := fun b o e => lay (KX b o e) (by
    cases q : H b with
    | none => rfl
    | some u =>
      have z := hA b (by rw [q]; exact fun z => nomatch z)
      subst z
      have y := hK (by rw [q]; exact fun z => nomatch z)
      rw [y] at e
      cases e)
  have M : Mod K mg (hidT s₁.heap H) := ⟨part, names hns, ⟨mb, names hb, hbb⟩, let ⟨mc, h1, h2⟩ := hlim; ⟨mc, names h1, h2⟩⟩
  have env : Env0 P w K mg (hidT s₁.heap H) callerA [] s₁ H := ⟨rfl, M, fun b o e => of_hidT e, Nat.le_of_eq (hidT_size _ _), True.intro, fun b z => absurd (show b ∈ ([] : List Addr) from z) List.not_mem_nil, hok, .of_eq hg⟩
  refine codeAny_mono ((F _ part (names hns)).run callerA [] s₁ H ⟨[.ref a], []⟩ [.ref a] [.ref a] _ _ rfl hr env (hbind s₁ (.ref a)) (.cons rfl .nil) want) ?_
  intro r s' h
  match r, h with
  | .error e, h => exact h.elim
  | .ok (.ret u), h =>
    obtain ⟨v, H', os, bare, un, hok', rv, q⟩ := h
    have q' : v = .bl true := q
    subst q'
    cases rv
    refine ⟨rfl, OldK.of_keep fun b o e => ?_, os, bare⟩
    cases q : H b with
    | none => exact un.keep b o e q (fun z => absurd (show b ∈ ([] : List Addr) from z) List.not_mem_nil) List.not_mem_nil
    | some u =>
      rcases only b with z | ⟨ob, xs, z⟩
      · rw [q] at z; exact nomatch z
      · have c1 := (show ObjOk P w H s₁.heap b (.frz ob (.lst xs)) from hok b _ z).1
        have c2 := (show ObjOk P w H' s'.heap b (.frz ob (.lst xs)) from hok' b _ (un.frzs b ob _ z)).1
        rw [e] at c1
        cases c1
        exact c2
theorem law_callG (KX : K.In s₁.heap) (hns : s₁.heap.Ns mainGlobals mg) (hb : s₁.heap.Ns builtinsNs mb) (hbb : ∀ x : Str, x ≠ "__name__" → mb x = bootBuiltins x) (hlim : s₁.heap.NoLimit) (hg : s₁.gens = #[])
    (ha : s₁.heap.get? a = some { cls := .type "list", data := .seq vs.toArray }) (hi : IntsAre vs ns) (hl : ns.length ≤ sizeLine) (hr : Room k callerA) (F : ∀ base : Heap, K.In base → base.Ns mainGlobals mg → FnG P w K mg base CX0 k fa fd [x] sp)
    (hbind : ∀ (s : Shared) (u : Value), BindsTo s fd ⟨[u], []⟩ [(x, u)]) (hsp : ∀ H : Hp, Only H → SqL K H a (ns.map V.int) → sp [.ref a] H (fun v _ => v = .bl true) fun _ _ _ => False) :
    codeAny (model P w) callerA (.call (.ref fa) ⟨[.ref a], []⟩) (fun r s' => r = .ok (.ret (.bool true)) ∧ OldK s₁.heap s'.heap ∧ s'.os = s₁.os ∧ AllBare s'.gens) s₁ := by
  have go := fun (H : Hp) (o : Only H) (q : SqL K H a (ns.map V.int)) => law_core KX hns hb hbb hlim hg ha hr F hbind o (hsp H o q)
  cases hk : K.lookup a with
  | some o =>
    have e := KX a o hk
    rw [ha] at e
    cases e
    have lenV : vs.toArray.size = ns.length := by rw [List.size_toArray]; exact hi.length
    refine go (fun _ => none) (fun _ => Or.inl rfl) (Or.inr ⟨_, vs.toArray, _, hk, rfl, rfl, rfl, lenV ▸ hl, by simpa using vals_ints hi⟩) (fun b u z => nomatch z) (fun b z => (z rfl).elim) fun z => (z rfl).elim
  | none =>
    let G : Hp := fun b => if b = a then some (.frz { cls := .type "list", data := .seq vs.toArray } (.lst (ns.map V.int))) else none
    have Ga : G a = some (.frz { cls := .type "list", data := .seq vs.toArray } (.lst (ns.map V.int))) := if_pos rfl
    have Gn : ∀ {b : Addr}, b ≠ a → G b = none := fun h => if_neg h
    refine go G (fun b => ?_) (Or.inl (Or.inr ⟨_, Ga⟩)) (fun b u z => ?_) (fun b z => ?_) fun _ => hk
    · by_cases h : b = a
      · subst h; exact Or.inr ⟨_, _, Ga⟩
      · exact Or.inl (Gn h)
    · by_cases h : b = a
      · subst h
        rw [Ga] at z
        cases z
        exact ⟨ha, by rw [List.length_map]; exact hl, vs, _, vals_ints hi, ha⟩
      · rw [Gn h] at z
        exact nomatch z
    · by_cases h : b = a
      · exact h
      · exact (z (Gn h)).elim
end
/-- the goal behind the head, from the law's promise -/
theorem walk_ofG {l : PySem.W.OpenLaw} {n k : Nat} {q : Program} {loose : List Str} {XP : (Str → Option Value) → Heap → Prop} {YP : World → Heap → Prop} {d : DefRec} {K : Params → PySem.W.Frag} {sp : PySem.W.Frag → Sp} {x : Str}
    (hn : l.most = some n) (hn2 : n ≤ sizeLine) (hdf : d.params.defaults = []) (hr : Room k callerA) (hY : ∀ (w : World) (h : Heap), YP w h → (K w.params).In h)
    (F : ∀ (w : World) (mg : Str → Option Value) (fa : Addr) (h : Heap), (K w.params).In h → h.Ns mainGlobals mg → mg d.name = some (.ref fa) → ∃ fd : FuncData, (∀ (s : Shared) (u : Value), BindsTo s fd ⟨[u], []⟩ [(x, u)]) ∧
      ∀ base : Heap, (K w.params).In base → base.Ns mainGlobals mg → FnG l.prog w (K w.params) mg base CX0 k fa fd [x] (sp (K w.params)))
    (hsp : ∀ (K : PySem.W.Frag) (H : Hp) (a : Addr) (ns : List Int), ns.length ≤ n → SqL K H a (ns.map V.int) → sp K [.ref a] H (fun v _ => v = .bl true) fun _ _ _ => False) :
    PySem.W.WalkO q loose XP YP l.row.toRowW d [] (fun f vs => PySem.call f vs) := by
  refine Att.attach_call hn hdf ?_
  intro w s₀ s₁ mg mb fa o pm cd doc a vs ns G Y ho hd hcd hmg hobj hints hlen hg
  obtain ⟨fd, hbind, hF⟩ := F w mg fa _ (hY w _ Y) G.T.g hmg
  exact law_callG (hY w _ Y) G.T.g G.T.b G.T.builtins G.T.nolimit hg hobj hints (Nat.le_trans hlen hn2) hr hF hbind fun H _ hS => hsp (K w.params) H a ns hlen hS
end GL
/-! The end of a law whose defs make lambdas (tables of code objects grow), no repr under way. -/
namespace GL
open PySem PySem.Spec PyProof.Rows L2
open LamX (TabB)
section
variable {P : Program} {w : World} {K : PySem.W.Frag} {mg mb : Str → Option Value} {k : Nat} {fa a : Addr} {fd : FuncData} {x : Str} {sp : Sp} {s₁ : Shared} {vs : List Value} {ns : List Int} {cs : List (Addr × Addr)}
abbrev emptyT : Obj := { cls := .none, data := .fields #[] }
/-- what may be tracked when the law begins: the script, frozen, and the tables -/
def OnlyT (T : List Addr) (H : Hp) : Prop := ∀ b, H b = none ∨ (b ∈ T ∧ H b = some (.tbl #[])) ∨ ∃ ob xs, H b = some (.frz ob (.lst xs))
theorem law_coreT (KX : K.In s₁.heap) (hns : s₁.heap.Ns mainGlobals mg) (hb : s₁.heap.Ns builtinsNs mb) (hbb : ∀ x : Str, x ≠ "__name__" → mb x = bootBuiltins x) (hlim : s₁.heap.NoLimit) (hg : s₁.gens = #[])
    (tabs : ∀ p ∈ cs, s₁.heap.get? p.2 = some emptyT) (notK : ∀ p ∈ cs, K.lookup p.2 = none) (codes : ∀ p ∈ cs, PySem.W.CodeHd s₁.heap p.1 p.2)
    (main : ∃ (bm : Addr) (ob : Obj), mg "__builtins__" = some (.ref bm) ∧ bm ≠ builtinsNs ∧ s₁.heap.get? bm = some ob ∧ ob.cls = .type "module" ∧ ob.dict = some builtinsNs ∧ ob.data = .plain)
    (ha : s₁.heap.get? a = some { cls := .type "list", data := .seq vs.toArray }) (hr : Room k callerA) (F : ∀ base : Heap, K.In base → base.Ns mainGlobals mg → (∀ p ∈ cs, TabB base mg p.1 p.2) → FnG P w K mg base CX0 k fa fd [x] sp)
    (hbind : ∀ (s : Shared) (u : Value), BindsTo s fd ⟨[u], []⟩ [(x, u)]) {H : Hp} (only : OnlyT (cs.map Prod.snd) H) (want : sp [.ref a] H (fun v _ => v = .bl true) fun _ _ _ => False) (hok : HOk P w H s₁.heap) (hA : ∀ b, H b ≠ none → b = a ∨ b ∈ cs.map Prod.snd)
    (hK : H a ≠ none → K.lookup a = none) (hT : ∀ b ∈ cs.map Prod.snd, H b = some (.tbl #[])) :
    codeAny (model P w) callerA (.call (.ref fa) ⟨[.ref a], []⟩) (fun r s' => r = .ok (.ret (.bool true)) ∧ OldK s₁.heap s'.heap ∧ s'.os = s₁.os ∧ AllBare s'.gens) s₁ := by
  have tab_at : ∀ b ∈ cs.map Prod.snd, s₁.heap.get? b = some emptyT := fun b mb => by
    obtain ⟨p, mp, rfl⟩ := List.mem_map.mp mb
    exact tabs p mp
  have lay : ∀ {b : Addr} {o : Obj}, s₁.heap.get? b = some o → H b = none → (hidT s₁.heap H).get? b = some o := fun e n => hidT_get e n
  have away : ∀ {b : Addr} {o : Obj}, s₁.heap.get? b = some o → (∀ xs n, o.data ≠ .seq xs n) → o.data ≠ .fields #[] → H b = none := fun {b o} e d1 d2 => by
    cases q : H b with
    | none => rfl
    | some u =>
      exfalso
      rcases hA b (by rw [q]; exact fun z => nomatch z) with z | z
      · rw [z, ha] at e
        cases e
        exact d1 _ _ rfl
      · rw [tab_at b z] at e
        cases e
        exact d2 rfl
  have names : ∀ {b : Addr} {m : Str → Option Value}, s₁.heap.Ns b m → (hidT s₁.heap H).Ns b m := by
    rintro b m ⟨o, es, ep, e, d, r⟩
    exact ⟨o, es, ep, lay e (away e (fun xs n z => by rw [d] at z; cases z) fun z => by rw [d] at z; cases z), d, r⟩
  have part : K.In (hidT s₁.heap H) := fun b o e => lay (KX b o e) (by
    cases q : H b with
    | none => rfl
    | some u =>
      exfalso
      rcases hA b (by rw [q]; exact fun z => nomatch z) with z | z
      · subst z
        rw [hK (by rw [q]; exact fun z => nomatch z)] at e
        cases e
      · obtain ⟨p, mp, rfl⟩ := List.mem_map.mp z
        rw [notK p mp] at e
        cases e)
  have M : Mod K mg (hidT s₁.heap H) := ⟨part, names hns, ⟨mb, names hb, hbb⟩, let ⟨mc, h1, h2⟩ := hlim; ⟨mc, names h1, h2⟩⟩
  have tb : ∀ p ∈ cs, TabB (hidT s₁.heap H) mg p.1 p.2 := fun p mp => by
    have at2 := tabs p mp
    constructor
    · obtain ⟨o, us, file, tf, flags, tg, inF, text, tt, e1, r1, r2, r3, r⟩ := codes p mp
      refine ⟨o, us, file, tf, flags, tg, inF, text, tt, lay e1 (away e1 (fun xs n z => by rw [r2] at z; cases z) fun z => ?_), r1, r2, r3, r⟩
      rw [r2] at z
      cases z
      exact nomatch r3
    · obtain ⟨bm, ob, b1, b2, b3, b4, b5, b6⟩ := main
      refine ⟨bm, ob, b1, b2, fun q => ?_, fun q => ?_, lay b3 (away b3 (fun xs n z => by rw [b6] at z; cases z) fun z => by rw [b6] at z; cases z), b4, b5, b6⟩
      · obtain ⟨o, es, ep, e, d, _⟩ := hns
        rw [q, e] at b3
        cases b3
        rw [d] at b6
        cases b6
      · rw [q, at2] at b3
        cases b3
        cases b6
    · intro z
      obtain ⟨o, es, ep, e, d, _⟩ := hns
      rw [z, at2] at e
      cases e
      cases d
  have env : Env0 P w K mg (hidT s₁.heap H) callerA [] s₁ H := ⟨rfl, M, fun b o e => of_hidT e, Nat.le_of_eq (hidT_size _ _), True.intro, fun b z => absurd (show b ∈ ([] : List Addr) from z) List.not_mem_nil, hok, .of_eq hg⟩
  refine codeAny_mono ((F _ part (names hns) tb).run callerA [] s₁ H ⟨[.ref a], []⟩ [.ref a] [.ref a] _ _ rfl hr env (hbind s₁ (.ref a)) (.cons rfl .nil) want) ?_
  intro r s' h
  match r, h with
  | .error e, h => exact h.elim
  | .ok (.ret u), h =>
    obtain ⟨v, H', os, bare, un, hok', rv, q⟩ := h
    have q' : v = .bl true := q
    subst q'
    cases rv
    have other : ∀ b o, b ∉ cs.map Prod.snd → s₁.heap.get? b = some o → s'.heap.get? b = some o := fun b o nb e => by
      cases q : H b with
      | none => exact un.keep b o e q (fun z => absurd (show b ∈ ([] : List Addr) from z) List.not_mem_nil) List.not_mem_nil
      | some u =>
        rcases only b with z | ⟨z, _⟩ | ⟨ob, xs, z⟩
        · rw [q] at z; exact nomatch z
        · exact absurd z nb
        · have c1 := (show ObjOk P w H s₁.heap b (.frz ob (.lst xs)) from hok b _ z).1
          have c2 := (show ObjOk P w H' s'.heap b (.frz ob (.lst xs)) from hok' b _ (un.frzs b ob _ z)).1
          rw [e] at c1
          cases c1
          exact c2
    have grew : ∀ b ∈ cs.map Prod.snd, ∃ more : Array Value, s'.heap.get? b = some { cls := .none, data := .fields more } := fun b mb => by
      obtain ⟨more, z⟩ := un.tbls b #[] (hT b mb)
      exact ⟨_, hok' b _ z⟩
    refine ⟨rfl, ⟨fun b o e => ?_, fun b o e => ?_⟩, os, bare⟩
    · by_cases mb : b ∈ cs.map Prod.snd
      · obtain ⟨more, hm⟩ := grew b mb
        obtain ⟨p, mp, rfl⟩ := List.mem_map.mp mb
        rw [tabs p mp] at e
        cases e
        exact .inr (.inl ⟨((codes p mp).tab (tabs p mp)).isCodeTable, rfl, #[], more, rfl, by rw [Array.empty_append]; exact hm⟩)
      · exact .inl (other b o mb e)
    · by_cases mb : b ∈ cs.map Prod.snd
      · obtain ⟨more, hm⟩ := grew b mb
        exact ⟨_, hm⟩
      · exact ⟨o, other b o mb e⟩
theorem law_callGT (KX : K.In s₁.heap) (hns : s₁.heap.Ns mainGlobals mg) (hb : s₁.heap.Ns builtinsNs mb) (hbb : ∀ x : Str, x ≠ "__name__" → mb x = bootBuiltins x) (hlim : s₁.heap.NoLimit) (hg : s₁.gens = #[])
    (tabs : ∀ p ∈ cs, s₁.heap.get? p.2 = some emptyT) (notK : ∀ p ∈ cs, K.lookup p.2 = none) (codes : ∀ p ∈ cs, PySem.W.CodeHd s₁.heap p.1 p.2)
    (main : ∃ (bm : Addr) (ob : Obj), mg "__builtins__" = some (.ref bm) ∧ bm ≠ builtinsNs ∧ s₁.heap.get? bm = some ob ∧ ob.cls = .type "module" ∧ ob.dict = some builtinsNs ∧ ob.data = .plain)
    (ha : s₁.heap.get? a = some { cls := .type "list", data := .seq vs.toArray }) (hi : IntsAre vs ns) (hl : ns.length ≤ sizeLine) (hr : Room k callerA) (F : ∀ base : Heap, K.In base → base.Ns mainGlobals mg → (∀ p ∈ cs, TabB base mg p.1 p.2) → FnG P w K mg base CX0 k fa fd [x] sp)
    (hbind : ∀ (s : Shared) (u : Value), BindsTo s fd ⟨[u], []⟩ [(x, u)]) (hsp : ∀ H : Hp, (∀ b ∈ cs.map Prod.snd, H b = some (.tbl #[])) → SqL K H a (ns.map V.int) → sp [.ref a] H (fun v _ => v = .bl true) fun _ _ _ => False) :
    codeAny (model P w) callerA (.call (.ref fa) ⟨[.ref a], []⟩) (fun r s' => r = .ok (.ret (.bool true)) ∧ OldK s₁.heap s'.heap ∧ s'.os = s₁.os ∧ AllBare s'.gens) s₁ := by
  have tab_at : ∀ b ∈ cs.map Prod.snd, s₁.heap.get? b = some emptyT := fun b mb => by
    obtain ⟨p, mp, rfl⟩ := List.mem_map.mp mb
    exact tabs p mp
  have aT : a ∉ cs.map Prod.snd := fun m => by
    have z := tab_at a m
    rw [ha] at z
    cases z
  cases hk : K.lookup a with
  | some o =>
    have e := KX a o hk
    rw [ha] at e
    cases e
    have lenV : vs.toArray.size = ns.length := by rw [List.size_toArray]; exact hi.length
    let G : Hp := fun b => if b ∈ cs.map Prod.snd then some (.tbl #[]) else none
    have Gt : ∀ b ∈ cs.map Prod.snd, G b = some (.tbl #[]) := fun b m => if_pos m
    have Gn : ∀ {b : Addr}, b ∉ cs.map Prod.snd → G b = none := fun m => if_neg m
    refine law_coreT KX hns hb hbb hlim hg tabs notK codes main ha hr F hbind (H := G) (fun b => ?_) (hsp G Gt (Or.inr ⟨_, vs.toArray, _, hk, rfl, rfl, rfl, lenV ▸ hl, by simpa using vals_ints hi⟩)) (fun b u z => ?_) (fun b z => ?_) (fun z => absurd (Gn aT) z) Gt
    · by_cases m : b ∈ cs.map Prod.snd
      · exact Or.inr (Or.inl ⟨m, Gt b m⟩)
      · exact Or.inl (Gn m)
    · by_cases m : b ∈ cs.map Prod.snd
      · rw [Gt b m] at z
        cases z
        exact tab_at b m
      · rw [Gn m] at z
        exact nomatch z
    · by_cases m : b ∈ cs.map Prod.snd
      · exact Or.inr m
      · exact absurd (Gn m) z
  | none =>
    let G : Hp := fun b => if b = a then some (.frz { cls := .type "list", data := .seq vs.toArray } (.lst (ns.map V.int))) else if b ∈ cs.map Prod.snd then some (.tbl #[]) else none
    have Ga : G a = some (.frz { cls := .type "list", data := .seq vs.toArray } (.lst (ns.map V.int))) := if_pos rfl
    have Gt : ∀ b ∈ cs.map Prod.snd, G b = some (.tbl #[]) := fun b m => (if_neg (show ¬ b = a from fun z => aT (z ▸ m))).trans (if_pos m)
    have Gn : ∀ {b : Addr}, b ≠ a → b ∉ cs.map Prod.snd → G b = none := fun h m => (if_neg h).trans (if_neg m)
    refine law_coreT KX hns hb hbb hlim hg tabs notK codes main ha hr F hbind (H := G) (fun b => ?_) (hsp G Gt (Or.inl (Or.inr ⟨_, Ga⟩))) (fun b u z => ?_) (fun b z => ?_) (fun _ => hk) Gt
    · by_cases h : b = a
      · subst h; exact Or.inr (Or.inr ⟨_, _, Ga⟩)
      · by_cases m : b ∈ cs.map Prod.snd
        · exact Or.inr (Or.inl ⟨m, Gt b m⟩)
        · exact Or.inl (Gn h m)
    · by_cases h : b = a
      · subst h
        rw [Ga] at z
        cases z
        exact ⟨ha, by rw [List.length_map]; exact hl, vs, _, vals_ints hi, ha⟩
      · by_cases m : b ∈ cs.map Prod.snd
        · rw [Gt b m] at z
          cases z
          exact tab_at b m
        · rw [Gn h m] at z
          exact nomatch z
    · by_cases h : b = a
      · exact Or.inl h
      · by_cases m : b ∈ cs.map Prod.snd
        · exact Or.inr m
        · exact absurd (Gn h m) z
end
/-- what is known of a law with lambdas where its head ends -/
def LawT (l : PySem.W.OpenLaw) (w : World) (K : PySem.W.Frag) (k n : Nat) (x : Str) (mg : Str → Option Value) (fa : Addr) (h : Heap) : Prop :=
  ∃ (fd : FuncData) (cs : List (Addr × Addr)) (sp : Sp), (∀ p ∈ cs, h.get? p.2 = some emptyT) ∧ (∀ p ∈ cs, K.lookup p.2 = none) ∧ (∀ p ∈ cs, PySem.W.CodeHd h p.1 p.2) ∧ (∀ (s : Shared) (u : Value), BindsTo s fd ⟨[u], []⟩ [(x, u)]) ∧
    (∀ (H : Hp) (a : Addr) (ns : List Int), ns.length ≤ n → (∀ b ∈ cs.map Prod.snd, H b = some (.tbl #[])) → SqL K H a (ns.map V.int) → sp [.ref a] H (fun v _ => v = .bl true) fun _ _ _ => False) ∧
    ∀ base : Heap, K.In base → base.Ns mainGlobals mg → (∀ p ∈ cs, TabB base mg p.1 p.2) → FnG l.prog w K mg base CX0 k fa fd [x] sp
/-- the goal behind the head, from such a law's promise -/
theorem walk_ofGT {l : PySem.W.OpenLaw} {n k : Nat} {q : Program} {loose : List Str} {XP : (Str → Option Value) → Heap → Prop} {YP : World → Heap → Prop} {d : DefRec} {K : Params → PySem.W.Frag} {x : Str}
    (hn : l.most = some n) (hn2 : n ≤ sizeLine) (hdf : d.params.defaults = []) (hr : Room k callerA) (hY : ∀ (w : World) (h : Heap), YP w h → (K w.params).In h)
    (F : ∀ (w : World) (mg : Str → Option Value) (fa : Addr) (h : Heap), YP w h → (K w.params).In h → h.Ns mainGlobals mg → mg d.name = some (.ref fa) → LawT l w (K w.params) k n x mg fa h) :
    PySem.W.WalkO q loose XP YP l.row.toRowW d [] (fun f vs => PySem.call f vs) := by
  refine Att.attach_callB hn hdf ?_
  intro w s₀ s₁ mg mb fa o pm cd doc a vs ns G Y ho hd hcd hmg hobj hints hlen hbits hg
  obtain ⟨fd, cs, sp, t1, t2, t3, bind, say, def'⟩ := F w mg fa _ Y (hY w _ Y) G.T.g hmg
  exact law_callGT (hY w _ Y) G.T.g G.T.b G.T.builtins G.T.nolimit hg t1 t2 t3 G.T.bmain hobj hints (Nat.le_trans hlen hn2) hr def' bind fun H hT hS => say H a ns hlen hT hS
end GL
namespace K03
open PySem PySem.Spec PyProof.Rows L2 WD NS MC GL
open LamX (TabB Tabs TabS)
theorem txtE_s {K : PySem.W.Frag} {tE : Addr} {od : Option Addr} {n : Nat} {osl : Array (Option Value)} {t1 t2 : Tok} (l : K.lookup tE = some ⟨.type "tuple", od, .seq #[.str "send" t1, .str "take" t2] n, osl⟩) :
    ∃ (o : Obj) (its : Array Value) (n : Nat), K.lookup tE = some o ∧ o.cls = .type "tuple" ∧ o.data = .seq its n ∧ its.size ≤ sizeLine ∧ Vals exV its.toList :=
  ⟨_, _, _, l, rfl, rfl, by show 2 ≤ sizeLine; decide, .cons ⟨_, rfl⟩ (.cons ⟨_, rfl⟩ .nil)⟩
theorem all_mk {l : PySem.W.OpenLaw} {w : World} {K : PySem.W.Frag} {h : Heap} {mg : Str → Option Value} {fa tE cR cL Pt Pl fW fNm fI fRn fS fT fX fC fB fRc fSr fTm fMB fWN fRD fNg fDi fRo fOo fWo fMa fRw fBe fRs fAl fMe fNw fNe fRi fRM fRR fLa cM cO : Addr} {dW dNm dI dRn dS dT dX dC dB dRc dSr dTm dMB dWN dRD dNg dDi dRo dOo dWo dMa dRw dBe dRs dAl dMe dNw dNe dRi dRM dRR dLa : FuncData} {tLN tMS tMT : Tok} (X : K.In h) (G : h.Ns mainGlobals mg) (hfa : mg "law" = some (.ref fa))
    (tabsR : h.get? Pt = some emptyT) (tabsL : h.get? Pl = some emptyT)
    (aW : PySem.W.nsIn K mainGlobals "is_whole" = some (some (.ref fW)))
    (aNm : PySem.W.nsIn K mainGlobals "is_name" = some (some (.ref fNm)))
    (aI : PySem.W.nsIn K mainGlobals "is_machine" = some (some (.ref fI)))
    (aRn : PySem.W.nsIn K mainGlobals "is_machine_near" = some (some (.ref fRn)))
    (aS : PySem.W.nsIn K mainGlobals "are_states" = some (some (.ref fS)))
    (aT : PySem.W.nsIn K mainGlobals "are_transitions" = some (some (.ref fT)))
    (aX : PySem.W.nsIn K mainGlobals "is_exchange" = some (some (.ref fX)))
    (aC : PySem.W.nsIn K mainGlobals "check_machine" = some (some (.ref fC)))
    (aB : PySem.W.nsIn K mainGlobals "neighbours_in" = some (some (.ref fB)))
    (aRc : PySem.W.nsIn K mainGlobals "reached_states" = some (some (.ref fRc)))
    (aSr : PySem.W.nsIn K mainGlobals "states_reached_in" = some (some (.ref fSr)))
    (aTm : PySem.W.nsIn K mainGlobals "trimmed" = some (some (.ref fTm)))
    (aMB : PySem.W.nsIn K mainGlobals "machine_renamed_by" = some (some (.ref fMB)))
    (aWN : PySem.W.nsIn K mainGlobals "with_neighbours_named" = some (some (.ref fWN)))
    (aRD : PySem.W.nsIn K mainGlobals "renamed_deed" = some (some (.ref fRD)))
    (aNg : PySem.W.nsIn K mainGlobals "is_naming" = some (some (.ref fNg)))
    (aDi : PySem.W.nsIn K mainGlobals "_law_dice" = some (some (.ref fDi)))
    (aRo : PySem.W.nsIn K mainGlobals "_law_roll" = some (some (.ref fRo)))
    (aOo : PySem.W.nsIn K mainGlobals "_law_one_of" = some (some (.ref fOo)))
    (aWo : PySem.W.nsIn K mainGlobals "_law_words" = some (some (.ref fWo)))
    (aMa : PySem.W.nsIn K mainGlobals "_law_made" = some (some (.ref fMa)))
    (aRw : PySem.W.nsIn K mainGlobals "_law_row" = some (some (.ref fRw)))
    (aBe : PySem.W.nsIn K mainGlobals "_law_behind" = some (some (.ref fBe)))
    (aRs : PySem.W.nsIn K mainGlobals "_law_rows" = some (some (.ref fRs)))
    (aAl : PySem.W.nsIn K mainGlobals "_law_all" = some (some (.ref fAl)))
    (aMe : PySem.W.nsIn K mainGlobals "_law_met" = some (some (.ref fMe)))
    (aNw : PySem.W.nsIn K mainGlobals "_law_new" = some (some (.ref fNw)))
    (aNe : PySem.W.nsIn K mainGlobals "_law_near" = some (some (.ref fNe)))
    (aRi : PySem.W.nsIn K mainGlobals "_law_right" = some (some (.ref fRi)))
    (aRM : PySem.W.nsIn K mainGlobals "renamed_machine" = some (some (.ref fRM)))
    (aRR : PySem.W.nsIn K mainGlobals "_law_renamed_right" = some (some (.ref fRR)))
    (aLa : PySem.W.nsIn K mainGlobals "law" = some (some (.ref fLa)))
    (acM : PySem.W.nsIn K mainGlobals "InvalidMachine" = some (some (.ref cM)))
    (acO : PySem.W.nsIn K mainGlobals "InvalidOperation" = some (some (.ref cO)))
    (aE : PySem.W.nsIn K mainGlobals "EXCHANGES" = some (some (.ref tE)))
    (aLN : PySem.W.nsIn K mainGlobals "LONGEST_NAME" = some (some (.int 8 tLN)))
    (aMS : PySem.W.nsIn K mainGlobals "MAX_STATES" = some (some (.int 30 tMS)))
    (aMT : PySem.W.nsIn K mainGlobals "MAX_TRANSITIONS" = some (some (.int 90 tMT)))
    (zisinstance : PySem.W.nsIn K mainGlobals "isinstance" = some none)
    (zint : PySem.W.nsIn K mainGlobals "int" = some none)
    (zbool : PySem.W.nsIn K mainGlobals "bool" = some none)
    (zstr : PySem.W.nsIn K mainGlobals "str" = some none)
    (zlen : PySem.W.nsIn K mainGlobals "len" = some none)
    (ztuple : PySem.W.nsIn K mainGlobals "tuple" = some none)
    (ztype : PySem.W.nsIn K mainGlobals "type" = some none)
    (zset : PySem.W.nsIn K mainGlobals "set" = some none)
    (zsorted : PySem.W.nsIn K mainGlobals "sorted" = some none)
    (zabs : PySem.W.nsIn K mainGlobals "abs" = some none)
    (zenumerate : PySem.W.nsIn K mainGlobals "enumerate" = some none)
    (zrange : PySem.W.nsIn K mainGlobals "range" = some none)
    (zrepr : PySem.W.nsIn K mainGlobals "repr" = some none)
    (zlist : PySem.W.nsIn K mainGlobals "list" = some none)
    (zmax : PySem.W.nsIn K mainGlobals "max" = some none)
    (zmin : PySem.W.nsIn K mainGlobals "min" = some none)
    (zdict : PySem.W.nsIn K mainGlobals "dict" = some none)
    (zall : PySem.W.nsIn K mainGlobals "all" = some none)
    (FW : Fun K "is_whole" "is_whole" sIsWh fW dW)
    (FNm : Fun K "is_name" "is_name" sName fNm dNm)
    (FI : Fun K "is_machine" "is_machine" sIsM fI dI)
    (FRn : Fun K "is_machine_near" "is_machine_near" sNearM fRn dRn)
    (FS : Fun K "are_states" "are_states" sAreSt fS dS)
    (FT : Fun K "are_transitions" "are_transitions" sAreTr fT dT)
    (FX : Fun K "is_exchange" "is_exchange" sIsEx fX dX)
    (FC : Fun K "check_machine" "check_machine" sChkM fC dC)
    (FB : Fun K "neighbours_in" "neighbours_in" sNbIn fB dB)
    (FRc : Fun K "reached_states" "reached_states" sReached fRc dRc)
    (FSr : Fun K "states_reached_in" "states_reached_in" sSRI fSr dSr)
    (FTm : Fun K "trimmed" "trimmed" sTrim fTm dTm)
    (FMB : Fun K "machine_renamed_by" "machine_renamed_by" sMRB fMB dMB)
    (FWN : Fun K "with_neighbours_named" "with_neighbours_named" sWNN fWN dWN)
    (FRD : Fun K "renamed_deed" "renamed_deed" sRenD fRD dRD)
    (FNg : Fun K "is_naming" "is_naming" sNaming fNg dNg)
    (FDi : Fun K "_law_dice" "_law_dice" sDice fDi dDi)
    (FRo : Fun K "_law_roll" "_law_roll" sRoll fRo dRo)
    (FOo : Fun K "_law_one_of" "_law_one_of" sOneOf fOo dOo)
    (FWo : Fun K "_law_words" "_law_words" sWords fWo dWo)
    (FMa : Fun K "_law_made" "_law_made" sMade fMa dMa)
    (FRw : Fun K "_law_row" "_law_row" sRowL fRw dRw)
    (FBe : Fun K "_law_behind" "_law_behind" sBeh fBe dBe)
    (FRs : Fun K "_law_rows" "_law_rows" sRowsL fRs dRs)
    (FAl : Fun K "_law_all" "_law_all" sAll fAl dAl)
    (FMe : Fun K "_law_met" "_law_met" sMet fMe dMe)
    (FNw : Fun K "_law_new" "_law_new" sNew fNw dNw)
    (FNe : Fun K "_law_near" "_law_near" sNear fNe dNe)
    (FRi : Fun K "_law_right" "_law_right" sRight fRi dRi)
    (FRM : Fun K "renamed_machine" "renamed_machine" sRenM fRM dRM)
    (FRR : FunC K "_law_renamed_right" "_law_renamed_right" sRR fRR cR dRR)
    (FLa : FunC K "law" "law" sLaw fLa cL dLa)
    (chR : PySem.W.codeHdIn K cR Pt = true)
    (chL : PySem.W.codeHdIn K cL Pl = true)
    (nkR : K.lookup Pt = none)
    (nkL : K.lookup Pl = none)
    (ckM : ErrC K cM veC "ValueError.__new__")
    (ckO : ErrC K cO veC "ValueError.__new__")
    (tyM : PySem.W.typeIn K (.ref cM) = some (.type "type"))
    (tyO : PySem.W.typeIn K (.ref cO) = some (.type "type"))
    (iniM : PySem.W.findIn K (.ref cM) "__init__" = some (some (.builtin "ValueError.__init__")))
    (iniO : PySem.W.findIn K (.ref cO) "__init__" = some (some (.builtin "ValueError.__init__")))
    (xMM : PySem.W.exmOne K (.ref cM) (.ref cM) = some true)
    (xOM : PySem.W.exmOne K (.ref cO) (.ref cM) = some false)
    (xOO : PySem.W.exmOne K (.ref cO) (.ref cO) = some true)
    (eE : ∃ (o : Obj) (its : Array Value) (n : Nat), K.lookup tE = some o ∧ o.cls = .type "tuple" ∧ o.data = .seq its n ∧ its.size ≤ sizeLine ∧ Vals exV its.toList)
    (ne : Pl ≠ Pt)
    : LawT l w K 11 63 "_law_script" mg fa h := by
  have e := hfa.symm.trans (PySem.W.mg_of X G aLa)
  cases e
  have bW := FW.binds (ps := ["value"]) fun _ _ _ _ _ _ us hl => match us, hl with | [_], _ => rfl
  have bNm := FNm.binds (ps := ["value"]) fun _ _ _ _ _ _ us hl => match us, hl with | [_], _ => rfl
  have bI := FI.binds (ps := ["value"]) fun _ _ _ _ _ _ us hl => match us, hl with | [_], _ => rfl
  have bRn := FRn.binds (ps := ["value", "near"]) fun _ _ _ _ _ _ us hl => match us, hl with | [_, _], _ => rfl
  have bS := FS.binds (ps := ["value", "size"]) fun _ _ _ _ _ _ us hl => match us, hl with | [_, _], _ => rfl
  have bT := FT.binds (ps := ["value", "size", "near"]) fun _ _ _ _ _ _ us hl => match us, hl with | [_, _, _], _ => rfl
  have bX := FX.binds (ps := ["word"]) fun _ _ _ _ _ _ us hl => match us, hl with | [_], _ => rfl
  have bC := FC.binds (ps := ["machine"]) fun _ _ _ _ _ _ us hl => match us, hl with | [_], _ => rfl
  have bB := FB.binds (ps := ["machine"]) fun _ _ _ _ _ _ us hl => match us, hl with | [_], _ => rfl
  have bRc := FRc.binds (ps := ["machine"]) fun _ _ _ _ _ _ us hl => match us, hl with | [_], _ => rfl
  have bSr := FSr.binds (ps := ["machine"]) fun _ _ _ _ _ _ us hl => match us, hl with | [_], _ => rfl
  have bTm := FTm.binds (ps := ["machine"]) fun _ _ _ _ _ _ us hl => match us, hl with | [_], _ => rfl
  have bMB := FMB.binds (ps := ["machine", "names"]) fun _ _ _ _ _ _ us hl => match us, hl with | [_, _], _ => rfl
  have bWN := FWN.binds (ps := ["machine", "names"]) fun _ _ _ _ _ _ us hl => match us, hl with | [_, _], _ => rfl
  have bRD := FRD.binds (ps := ["deed", "names"]) fun _ _ _ _ _ _ us hl => match us, hl with | [_, _], _ => rfl
  have bNg := FNg.binds (ps := ["value"]) fun _ _ _ _ _ _ us hl => match us, hl with | [_], _ => rfl
  have bDi := FDi.binds (ps := ["_law_script", "_law_at"]) fun _ _ _ _ _ _ us hl => match us, hl with | [_, _], _ => rfl
  have bRo := FRo.binds (ps := ["_law_dice_here", "_law_total"]) fun _ _ _ _ _ _ us hl => match us, hl with | [_, _], _ => rfl
  have bOo := FOo.binds (ps := ["_law_dice_here", "_law_items"]) fun _ _ _ _ _ _ us hl => match us, hl with | [_, _], _ => rfl
  have bWo := FWo.binds (ps := ["_law_dice_here", "_law_total"]) fun _ _ _ _ _ _ us hl => match us, hl with | [_, _], _ => rfl
  have bMa := FMa.binds (ps := ["_law_size", "_law_finals", "_law_rows_here"]) fun _ _ _ _ _ _ us hl => match us, hl with | [_, _, _], _ => rfl
  have bRw := FRw.binds (ps := ["_law_dice_here", "_law_size", "_law_others"]) fun _ _ _ _ _ _ us hl => match us, hl with | [_, _, _], _ => rfl
  have bBe := FBe.binds (ps := ["_law_machine", "_law_states", "_law_deed"]) fun _ _ _ _ _ _ us hl => match us, hl with | [_, _, _], _ => rfl
  have bRs := FRs.binds (ps := ["_law_machine", "_law_longest"]) fun _ _ _ _ _ _ us hl => match us, hl with | [_, _], _ => rfl
  have bAl := FAl.binds (ps := ["_law_machine"]) fun _ _ _ _ _ _ us hl => match us, hl with | [_], _ => rfl
  have bMe := FMe.binds (ps := ["_law_call"]) fun _ _ _ _ _ _ us hl => match us, hl with | [_], _ => rfl
  have bNw := FNw.binds (ps := ["_law_machine", "_law_new_here"]) fun _ _ _ _ _ _ us hl => match us, hl with | [_, _], _ => rfl
  have bNe := FNe.binds (ps := ["_law_machine"]) fun _ _ _ _ _ _ us hl => match us, hl with | [_], _ => rfl
  have bRi := FRi.binds (ps := ["_law_machine"]) fun _ _ _ _ _ _ us hl => match us, hl with | [_], _ => rfl
  have bRR := FRR.fun.binds (ps := ["_law_dice_here", "_law_machine", "_law_words_here"]) fun _ _ _ _ _ _ us hl => match us, hl with | [_, _, _], _ => rfl
  have gW := PySem.W.mg_of X G aW
  have gNm := PySem.W.mg_of X G aNm
  have gI := PySem.W.mg_of X G aI
  have gRn := PySem.W.mg_of X G aRn
  have gS := PySem.W.mg_of X G aS
  have gT := PySem.W.mg_of X G aT
  have gX := PySem.W.mg_of X G aX
  have gC := PySem.W.mg_of X G aC
  have gB := PySem.W.mg_of X G aB
  have gRc := PySem.W.mg_of X G aRc
  have gSr := PySem.W.mg_of X G aSr
  have gTm := PySem.W.mg_of X G aTm
  have gMB := PySem.W.mg_of X G aMB
  have gWN := PySem.W.mg_of X G aWN
  have gRD := PySem.W.mg_of X G aRD
  have gNg := PySem.W.mg_of X G aNg
  have gDi := PySem.W.mg_of X G aDi
  have gRo := PySem.W.mg_of X G aRo
  have gOo := PySem.W.mg_of X G aOo
  have gWo := PySem.W.mg_of X G aWo
  have gMa := PySem.W.mg_of X G aMa
  have gRw := PySem.W.mg_of X G aRw
  have gBe := PySem.W.mg_of X G aBe
  have gRs := PySem.W.mg_of X G aRs
  have gAl := PySem.W.mg_of X G aAl
  have gMe := PySem.W.mg_of X G aMe
  have gNw := PySem.W.mg_of X G aNw
  have gNe := PySem.W.mg_of X G aNe
  have gRi := PySem.W.mg_of X G aRi
  have gRM := PySem.W.mg_of X G aRM
  have gRR := PySem.W.mg_of X G aRR
  have gcM := PySem.W.mg_of X G acM
  have gcO := PySem.W.mg_of X G acO
  have gE := PySem.W.mg_of X G aE
  have gLN := PySem.W.mg_of X G aLN
  have gMS := PySem.W.mg_of X G aMS
  have gMT := PySem.W.mg_of X G aMT
  have nisinstance := PySem.W.mg_none_of X G zisinstance
  have nint := PySem.W.mg_none_of X G zint
  have nbool := PySem.W.mg_none_of X G zbool
  have nstr := PySem.W.mg_none_of X G zstr
  have nlen := PySem.W.mg_none_of X G zlen
  have ntuple := PySem.W.mg_none_of X G ztuple
  have ntype := PySem.W.mg_none_of X G ztype
  have nset := PySem.W.mg_none_of X G zset
  have nsorted := PySem.W.mg_none_of X G zsorted
  have nabs := PySem.W.mg_none_of X G zabs
  have nenumerate := PySem.W.mg_none_of X G zenumerate
  have nrange := PySem.W.mg_none_of X G zrange
  have nrepr := PySem.W.mg_none_of X G zrepr
  have nlist := PySem.W.mg_none_of X G zlist
  have nmax := PySem.W.mg_none_of X G zmax
  have nmin := PySem.W.mg_none_of X G zmin
  have ndict := PySem.W.mg_none_of X G zdict
  have nall := PySem.W.mg_none_of X G zall
  have TI : TxtI K mg fW fW dW dW := ⟨nisinstance, nint, nbool, FW, bW, gW⟩
  have TE : ∃ tE, TxtE K mg tE := ⟨tE, gE, eE⟩
  have TX : TxtX K mg fX dX := ⟨TE, FX, bX, gX⟩
  have TD : TxtD mg := ⟨nlen, nabs, nint, nenumerate⟩
  have TS : TxtS mg := ⟨nset, nsorted, ntuple⟩
  have TQ : TxtQ mg := ⟨nlist, ndict, nrange⟩
  have TNm : TxtNm K mg := ⟨nisinstance, nstr, nlen, ntuple, _, gLN⟩
  have TT : TxtT K mg fNm dNm := ⟨ntype, TE, FNm, bNm, gNm⟩
  have TM : TxtM K mg fS fT fRn fI fC cM dS dT dRn dI dC := ⟨⟨_, gMS⟩, ⟨_, gMT⟩, FS, bS, gS, FT, bT, gT, FRn, bRn, gRn, FI, bI, gI, FC, bC, gC, ckM, iniM, tyM, gcM⟩
  have TG : TxtG3 K mg fSr dSr := ⟨FSr, bSr, gSr⟩
  have TB3 : TxtB3 K mg fBe dBe := ⟨FBe, bBe, gBe⟩
  have TRr : TxtRr K mg fRc fTm fAl fI fRs dRc dTm dAl dI dRs := ⟨⟨FRc, bRc, gRc⟩, ⟨FTm, bTm, gTm⟩, ⟨FAl, bAl, gAl⟩, ⟨FI, bI, gI⟩, ⟨FRs, bRs, gRs⟩⟩
  have TD3 : TxtD3 K mg fRD dRD := ⟨FRD, bRD, gRD⟩
  have TNg : TxtNg K mg fNm dNm := ⟨nisinstance, ndict, nall, FNm, bNm, gNm⟩
  have TO : TxtO3 K mg cO fNg fB fWN dNg dB dWN := ⟨ckO, iniO, tyO, gcO, ⟨FNg, bNg, gNg⟩, ⟨FB, bB, gB⟩, ⟨FWN, bWN, gWN⟩⟩
  have TR : TxtR K mg fRo fOo dRo dOo := ⟨FRo, bRo, gRo, FOo, bOo, gOo⟩
  have TMe : TxtMet K mg cM cO := ⟨gcM, gcO, by
    simp only [List.forall_mem_cons, List.forall_mem_nil, and_true]
    exact ⟨xMM, xOM, xOO, fun _ z => absurd z List.not_mem_nil⟩⟩
  have TRR : TxtRR K mg fRo fOo fMe fNe fNw fMB fI fRM cM cO dRo dOo dMe dNe dNw dMB dI dRM := ⟨TR, ⟨FMe, bMe, gMe⟩, TMe, ⟨FNe, bNe, gNe⟩, ⟨FNw, bNw, gNw⟩, ⟨FMB, bMB, gMB⟩, ⟨FI, bI, gI⟩, FRM, gRM, ndict, nrepr⟩
  have TL : TxtLw K mg fDi fWo fMa fRw fRi fRR fRc fTm dDi dWo dMa dRw dRi dRR dRc dTm := ⟨⟨FDi, bDi, gDi⟩, ⟨FWo, bWo, gWo⟩, ⟨FMa, bMa, gMa⟩, ⟨FRw, bRw, gRw⟩, ⟨FRi, bRi, gRi⟩, ⟨FRR.fun, bRR, gRR⟩, ⟨FRc, bRc, gRc⟩, ⟨FTm, bTm, gTm⟩, nmax, nmin, nrange⟩
  have two : ∀ {R : Addr × Addr → Prop}, R (cR, Pt) → R (cL, Pl) → ∀ p ∈ [(cR, Pt), (cL, Pl)], R p := fun h1 h2 p hp => by
    rcases List.mem_cons.mp hp with e | hp
    · rw [e]; exact h1
    · rw [List.mem_singleton.mp hp]; exact h2
  refine ⟨dLa, [(cR, Pt), (cL, Pl)], spLaw K (lawTb Pt Pl), two (R := fun p => h.get? p.2 = some emptyT) tabsR tabsL, two (R := fun p => K.lookup p.2 = none) nkR nkL, two (R := fun p => PySem.W.CodeHd h p.1 p.2) (PySem.W.codeHd_of_K X chR) (PySem.W.codeHd_of_K X chL), ?_, fun H a ns hl hT hS => ?_, fun base _ _ hTB => ?_⟩
  · obtain ⟨oc, od, kV, doc, pm, an, ct, osl, rfl, _, _⟩ := FLa.ex
    exact fun s v => .of_eq rfl
  · refine ⟨a, ns, rfl, hS, hl, fun p hp => ?_, fun _ => rfl⟩
    rcases List.mem_cons.mp hp with e | hp
    · rw [e]
      exact LamX.TabS.nil (hT Pt List.mem_cons_self)
    · rw [List.mem_singleton.mp hp]
      exact LamX.TabS.nil (hT Pl (List.mem_cons_of_mem _ List.mem_cons_self))
  · have GC : FnOk l.prog w K mg base (L2.CX l.prog w) 5 fC dC ["machine"] (spChkM K (BadM K) cM) := ok_ChkM (k := 0) FC TI TNm TT TM
    have GNg : FnOk l.prog w K mg base CX0 5 fNg dNg ["value"] (spNaming K) := ok_Naming (k := 3) FNg TNg TNm
    have GNb : FnOk l.prog w K mg base CX0 5 fB dB ["machine"] spNear := ok_NbIn (k := 3) FB TS TX
    have GWN : FnOk l.prog w K mg base CX0 5 fWN dWN ["machine", "names"] spNew := ok_WNN (k := 2) FWN TS TX TD3
    have GMB6 : FnOk l.prog w K mg base (L2.CX l.prog w) 6 fMB dMB ["machine", "names"] (spMRB K cM cO) := ok_MRB FMB ⟨FC, bC, gC⟩ TO TD GC GNg GNb GWN
    have GMB : FnOk l.prog w K mg base (L2.CX l.prog w) 7 fMB dMB ["machine", "names"] (spMRB K cM cO) := GMB6.mono (by decide)
    have GX0 : FnR l.prog w K mg base (L2.CX l.prog w) 7 fRM (spRenM0 K cM cO) := fn_RenM0 FRM ⟨FMB, bMB, gMB⟩ GMB6
    have GXK : ∀ ks : List Str, (∀ x ∈ ks, x ≠ "machine") → ks.Nodup → ks.length ≤ 64 → NM.FnKW l.prog w K mg base (L2.CX l.prog w) 7 fRM ks (spRenMK K cM cO ks) := fun ks h1 h2 h3 => fn_RenMK FRM ⟨FMB, bMB, gMB⟩ GMB6 h1 h2 h3
    have GN : FnOk l.prog w K mg base CX0 7 fNe dNe ["_law_machine"] spNearL := ok_Near (k := 6) FNe TS TD
    have GS : FnOk l.prog w K mg base CX0 7 fNw dNw ["_law_machine", "_law_new_here"] spNew := ok_New (k := 6) FNw TS TD
    have GI4 : FnOk l.prog w K mg base CX0 7 fI dI ["value"] (spIsM K) := ok_IsM (k := 3) FI TI TNm TT TM
    have GRR := ok_RR (k := 7) FRR TRR TD TS (hTB _ List.mem_cons_self) (by decide) (Tb := lawTb Pt Pl) List.mem_cons_self (fun p hp e => by
      rcases List.mem_cons.mp hp with z | hp
      · rw [z]
      · rw [List.mem_singleton.mp hp] at e
        exact absurd e ne) GN GS GMB GI4 GX0
    have GA : FnOk l.prog w K mg base (L2.CX l.prog w) 7 fRc dRc ["machine"] (spReached K cM) := ok_Reached (k := 1) FRc TI TNm TT TM TS TQ TG
    have GT : FnOk l.prog w K mg base (L2.CX l.prog w) 7 fTm dTm ["machine"] (spTrim K cM) := ok_Trim (k := 1) FTm TI TNm TT TM TS TQ TD TG
    have GAl : FnOk l.prog w K mg base CX0 7 fAl dAl ["_law_machine"] spAll := ok_All (k := 6) FAl TS TQ
    have GRs : FnOk l.prog w K mg base CX0 7 fRs dRs ["_law_machine", "_law_longest"] (spRows l.prog w K) := ok_Rows (k := 5) FRs TS TD TQ TB3
    have GG : FnOk l.prog w K mg base CX0 10 fRi dRi ["_law_machine"] spRt := (ok_Right (k := 7) FRi TRr TD TS TQ GA GT GAl GI4 GRs).mono (by decide)
    exact ok_Law (k := 7) FLa TRR TL TD TS (hTB _ (List.mem_cons_of_mem _ List.mem_cons_self)) ne (by decide) GMB GXK GG GRR GA GT
end K03
set_option maxHeartbeats 0
open PySem PySem.W PyProof.Rows
open_top hd for PySem.Challenge.rw_halflink_k03_whole_reached_and_renamed_m
theorem PySem.Challenge.cw_halflink_k03_whole_reached_and_renamed_m_holds : PySem.Challenge.rw_halflink_k03_whole_reached_and_renamed_m.Holds :=
  hd (by
  k_fill
  refine GL.walk_ofGT (l := PySem.Challenge.rw_halflink_k03_whole_reached_and_renamed_m) (n := 63) (k := 11) (x := "_law_script") rfl (by decide) rfl ⟨rfl, by decide, by decide⟩ (fun w h Y => PySem.W.km_in_of Y) ?F
  case F =>
    intro w mg fa h Y KX G hmg
    refine' K03.all_mk KX G hmg (Pt := 239) (Pl := 249) (PySem.W.km_tabs_of Y _ (List.mem_cons_self)) (PySem.W.km_tabs_of Y _ (List.mem_cons_of_mem _ List.mem_cons_self)) ?aW ?aNm ?aI ?aRn ?aS ?aT ?aX ?aC ?aB ?aRc ?aSr ?aTm ?aMB ?aWN ?aRD ?aNg ?aDi ?aRo ?aOo ?aWo ?aMa ?aRw ?aBe ?aRs ?aAl ?aMe ?aNw ?aNe ?aRi ?aRM ?aRR ?aLa ?acM ?acO ?aE ?aLN ?aMS ?aMT ?zisinstance ?zint ?zbool ?zstr ?zlen ?ztuple ?ztype ?zset ?zsorted ?zabs ?zenumerate ?zrange ?zrepr ?zlist ?zmax ?zmin ?zdict ?zall ?FW ?FNm ?FI ?FRn ?FS ?FT ?FX ?FC ?FB ?FRc ?FSr ?FTm ?FMB ?FWN ?FRD ?FNg ?FDi ?FRo ?FOo ?FWo ?FMa ?FRw ?FBe ?FRs ?FAl ?FMe ?FNw ?FNe ?FRi ?FRM ?FRR ?FLa ?chR ?chL ?nkR ?nkL ?ckM ?ckO ?tyM ?tyO ?iniM ?iniO ?xMM ?xOM ?xOO ?eE ?ne
    (case aW => k_is)
    (case aNm => k_is)
    (case aI => k_is)
    (case aRn => k_is)
    (case aS => k_is)
    (case aT => k_is)
    (case aX => k_is)
    (case aC => k_is)
    (case aB => k_is)
    (case aRc => k_is)
    (case aSr => k_is)
    (case aTm => k_is)
    (case aMB => k_is)
    (case aWN => k_is)
    (case aRD => k_is)
    (case aNg => k_is)
    (case aDi => k_is)
    (case aRo => k_is)
    (case aOo => k_is)
    (case aWo => k_is)
    (case aMa => k_is)
    (case aRw => k_is)
    (case aBe => k_is)
    (case aRs => k_is)
    (case aAl => k_is)
    (case aMe => k_is)
    (case aNw => k_is)
    (case aNe => k_is)
    (case aRi => k_is)
    (case aRM => k_is)
    (case aRR => k_is)
    (case aLa => k_is)
    (case acM => k_is)
    (case acO => k_is)
    (case aE => k_is)
    (case aLN => k_is)
    (case aMS => k_is)
    (case aMT => k_is)
    (case zisinstance => k_is)
    (case zint => k_is)
    (case zbool => k_is)
    (case zstr => k_is)
    (case zlen => k_is)
    (case ztuple => k_is)
    (case ztype => k_is)
    (case zset => k_is)
    (case zsorted => k_is)
    (case zabs => k_is)
    (case zenumerate => k_is)
    (case zrange => k_is)
    (case zrepr => k_is)
    (case zlist => k_is)
    (case zmax => k_is)
    (case zmin => k_is)
    (case zdict => k_is)
    (case zall => k_is)
    (case FW => refine' L2.fun_mk ?l ?c ?k; (case l => k_is); (case c => k_is); (case k => k_is))
    (case FNm => refine' L2.fun_mk ?l ?c ?k; (case l => k_is); (case c => k_is); (case k => k_is))
    (case FI => refine' L2.fun_mk ?l ?c ?k; (case l => k_is); (case c => k_is); (case k => k_is))
    (case FRn => refine' L2.fun_mk ?l ?c ?k; (case l => k_is); (case c => k_is); (case k => k_is))
    (case FS => refine' L2.fun_mk ?l ?c ?k; (case l => k_is); (case c => k_is); (case k => k_is))
    (case FT => refine' L2.fun_mk ?l ?c ?k; (case l => k_is); (case c => k_is); (case k => k_is))
    (case FX => refine' L2.fun_mk ?l ?c ?k; (case l => k_is); (case c => k_is); (case k => k_is))
    (case FC => refine' L2.fun_mk ?l ?c ?k; (case l => k_is); (case c => k_is); (case k => k_is))
    (case FB => refine' L2.fun_mk ?l ?c ?k; (case l => k_is); (case c => k_is); (case k => k_is))
    (case FRc => refine' L2.fun_mk ?l ?c ?k; (case l => k_is); (case c => k_is); (case k => k_is))
    (case FSr => refine' L2.fun_mk ?l ?c ?k; (case l => k_is); (case c => k_is); (case k => k_is))
    (case FTm => refine' L2.fun_mk ?l ?c ?k; (case l => k_is); (case c => k_is); (case k => k_is))
    (case FMB => refine' L2.fun_mk ?l ?c ?k; (case l => k_is); (case c => k_is); (case k => k_is))
    (case FWN => refine' L2.fun_mk ?l ?c ?k; (case l => k_is); (case c => k_is); (case k => k_is))
    (case FRD => refine' L2.fun_mk ?l ?c ?k; (case l => k_is); (case c => k_is); (case k => k_is))
    (case FNg => refine' L2.fun_mk ?l ?c ?k; (case l => k_is); (case c => k_is); (case k => k_is))
    (case FDi => refine' L2.fun_mk ?l ?c ?k; (case l => k_is); (case c => k_is); (case k => k_is))
    (case FRo => refine' L2.fun_mk ?l ?c ?k; (case l => k_is); (case c => k_is); (case k => k_is))
    (case FOo => refine' L2.fun_mk ?l ?c ?k; (case l => k_is); (case c => k_is); (case k => k_is))
    (case FWo => refine' L2.fun_mk ?l ?c ?k; (case l => k_is); (case c => k_is); (case k => k_is))
    (case FMa => refine' L2.fun_mk ?l ?c ?k; (case l => k_is); (case c => k_is); (case k => k_is))
    (case FRw => refine' L2.fun_mk ?l ?c ?k; (case l => k_is); (case c => k_is); (case k => k_is))
    (case FBe => refine' L2.fun_mk ?l ?c ?k; (case l => k_is); (case c => k_is); (case k => k_is))
    (case FRs => refine' L2.fun_mk ?l ?c ?k; (case l => k_is); (case c => k_is); (case k => k_is))
    (case FAl => refine' L2.fun_mk ?l ?c ?k; (case l => k_is); (case c => k_is); (case k => k_is))
    (case FMe => refine' L2.fun_mk ?l ?c ?k; (case l => k_is); (case c => k_is); (case k => k_is))
    (case FNw => refine' L2.fun_mk ?l ?c ?k; (case l => k_is); (case c => k_is); (case k => k_is))
    (case FNe => refine' L2.fun_mk ?l ?c ?k; (case l => k_is); (case c => k_is); (case k => k_is))
    (case FRi => refine' L2.fun_mk ?l ?c ?k; (case l => k_is); (case c => k_is); (case k => k_is))
    (case FRM => refine' L2.fun_mk ?l ?c ?k; (case l => k_is); (case c => k_is); (case k => k_is))
    (case FRR => refine' GL.funC_mk ?l ?c ?k; (case l => k_is); (case c => k_is); (case k => k_is))
    (case FLa => refine' GL.funC_mk ?l ?c ?k; (case l => k_is); (case c => k_is); (case k => k_is))
    (case chR => kernel_rfl)
    (case chL => kernel_rfl)
    (case nkR => kernel_rfl)
    (case nkL => kernel_rfl)
    (case ckM => refine' ⟨?m1, ?m2, ?m3, ?m4, ?m5, ?m6, ?m7, ?m8⟩; (case m1 => kx_is); (case m2 => k_is); (case m3 => k_is); (case m4 => k_is); (case m5 => k_is); (case m6 => k_is); (case m7 => k_is); (case m8 => k_is))
    (case ckO => refine' ⟨?m1, ?m2, ?m3, ?m4, ?m5, ?m6, ?m7, ?m8⟩; (case m1 => kx_is); (case m2 => k_is); (case m3 => k_is); (case m4 => k_is); (case m5 => k_is); (case m6 => k_is); (case m7 => k_is); (case m8 => k_is))
    (case tyM => k_is)
    (case tyO => k_is)
    (case iniM => k_is)
    (case iniO => k_is)
    (case xMM => kts_exm)
    (case xOM => kts_exm)
    (case xOO => kts_exm)
    (case eE => refine' K03.txtE_s ?l; (case l => k_is))
    (case ne => decide))
