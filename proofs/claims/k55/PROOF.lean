import PyProof.Rows.All
import Wide.All
import OpenK.AllK
import Wide.FinOn
import HandS.Base
import HandS.Call
import HandS.Codes
import HandS.Comp
import HandS.Conv
import HandS.Deep
import HandS.DictComp
import HandS.Ends
import HandS.Exc
import HandS.ExcField
import HandS.ExcInit
import HandS.ExcOwn
import HandS.ExcValue
import HandS.IsInst
import HandS.Iter
import HandS.List
import HandS.SetBool
import HandS.SetFor
import HandS.Star
import HandS.StrMore
import HandS.Strs
import HandS.Text
import HandS.TryMany
import HandS.TryOnly
import HandS.TupAny
import HandS.TupMul
import HandS.TupSets
import HandS.Walk
import HandS.Wide
import HandS.Words
import HandS.WordsExc
import HandS.WordsList
import HandS.Zip
import HandS.Zip0
import KE.GoesMore
import KE.GoesZip
import KE.KExcInit
import KE.KExcIs
import KE.KExcLine
import KE.KExcStr
import KE.KIsAll
import KE.KNestM
import KE.KeyNested
import KE.LtData
import KE.RegKIsAll
import KE.RegKTryMore
import KE.SortData
import PyProof.ExcClass
import PyProof.FactsTree
import PyProof.MinMaxWalk
import PyProof.NeKinds
import PyProof.PureStr
import PyProof.ReprLen
import PyProof.ReprRoads
import PyProof.Rows.RuleB_pow
import PyProof.Rows.SeqMore
import PyProof.RulesRaise
import PyProof.WalksMore
import PySem.Challenge.RW_halflink_k55_rests
set_option Elab.async false
set_option linter.all false
set_option maxRecDepth 100000
set_option maxHeartbeats 8000000
namespace K55
open PySem PySem.Spec PyProof.Rows L2
open C8 (pss_cut tCut)
def topS (i : Nat) : Stmt := PySem.Challenge.pw_halflink_k55_rests.main.body.getD i (.Pass ⟨0, 0, 0, 0⟩)
abbrev sDice : Stmt := topS 57
abbrev sRoll : Stmt := topS 58
abbrev sOneOf : Stmt := topS 59
theorem same_upd {H : Hp} {p : Addr} {o : HO} (h : H p = none) : Same H (upd H p o) := fun b x e => by
  rw [upd_ne (ne_of_none e h)]
  exact e
section
variable {X : Cx}
theorem op_powW : OpR X (binaryOp .Pow) (rI (fun i j => 0 ≤ j ∧ (Builtin.Int.intBits i : Int) * j ≤ 2 ^ 27) fun i j => .int (i ^ j.toNat)) := opI fun _ _ _ _ _ _ _ hc q => pow_int hc.1 hc.2 q
end
/-- the source of draws at d: at most n times asked without great digits -/
def Dice (H : Hp) (d : Addr) (n : Nat) : Prop := ∃ g s c : Int, H d = some (.lst [.int g, .int s, .int c]) ∧ 0 ≤ g ∧ 0 ≤ s ∧ s < 4611686018427387904 ∧ 0 ≤ c ∧ c ≤ n
theorem Dice.same {H H' : Hp} {d : Addr} {n : Nat} (h : Dice H d n) (s : H' d = H d) : Dice H' d n := by
  obtain ⟨g, s', c, e, r⟩ := h
  exact ⟨g, s', c, s.trans e, r⟩
theorem Dice.mono {H : Hp} {d : Addr} {n m : Nat} (h : Dice H d n) (s : n ≤ m) : Dice H d m := by
  obtain ⟨g, s', c, e, h1, h2, h3, h4, h5⟩ := h
  exact ⟨g, s', c, e, h1, h2, h3, h4, by omega⟩
structure TxtD (mg : Str → Option Value) : Prop where
  len : mg "len" = none
  abs : mg "abs" = none
  int : mg "int" = none
  enumerate : mg "enumerate" = none
section
variable {P : Program} {w : World} {K : PySem.W.Frag} {mg : Str → Option Value} {base : Heap}
def spDice (K : PySem.W.Frag) : Sp := fun vs H Q _ => ∃ (a : Addr) (ns : List Int) (k : Nat), vs = [.ref a, .int k] ∧ SqL K H a (ns.map V.int) ∧ ns.length ≤ 63 ∧ k ≤ 1000 ∧
  ∀ H' p, Same H H' → H p = none → Dice H' p 0 → Q (.ref p) H'
theorem scDice : FnScope ["_law_script", "_law_at", "_law_cell", "_law_great", "_law_seed", "_law_place", "_law_other"] ["_law_script", "_law_at"] (defScope sDice) := ⟨rfl, rfl, rfl, by decide +kernel, rfl, by decide +kernel, by decide +kernel⟩
theorem ok_dice {f : Addr} {fd : FuncData} {k : Nat} (F : Fun K "_law_dice" "_law_dice" sDice f fd) (T : TxtD mg) : FnOk P w K mg base CX0 (k + 1) f fd ["_law_script", "_law_at"] (spDice K) := by
  refine F.ok scDice (fun vs H Q E h => ?_) (fun cdv A outer s H vs Q E hr h => ?_)
  · obtain ⟨a, ns, k, rfl, _⟩ := h
    rfl
  · obtain ⟨a, ns, k, rfl, hS, hlen, hk, q⟩ := h
    refine ⟨_, pss_cut (ps_set (i := 2) scDice.nd rfl (.inl rfl) (pe_ifExp (pt_cmpR op_lt (pv 1) (pe_callB call_len_seq (by rfl) T.len PySem.boot_len (pa_cons (pv 0) pa_nil)) (nomark _)) (pe_ix ix_list (pv 0) (pv 1) (fun _ _ => rfl)) (pe_op op_add (pe_op op_mul pe_int (pv 1)) pe_int)))
      (pss_cut (ps_set (i := 3) scDice.nd rfl (.inl rfl) (pe_op op_mod (pe_callB call_abs (by rfl) T.abs (by decide +kernel) (pa_cons (pv 2) pa_nil)) (pe_op op_powW (pe_op op_pow pe_int pe_int) pe_int)))
      (pss_cut (ps_set (i := 4) scDice.nd rfl (.inl rfl) (pe_op op_add (pe_op op_add (pe_op op_add (pe_op op_mod (pv 3) pe_int) (pe_op op_mul pe_int (pv 1))) (pe_op op_mul pe_int (pe_callTy call_int1 (by rfl) T.int (by decide +kernel) (pa_cons (pe_cmpR op_lt (pv 2) pe_int (nomark _)) pa_nil)))) pe_int))
      (pss_cut (ps_for PassesOwn.never rfl (pi_enum (by rfl) T.enumerate (pa_cons (pv 0) pa_nil)) (pg_tup rfl (pgs_cons (pg_name (i := 5) scDice.nd rfl (.inl rfl)) (pgs_cons (pg_name (i := 6) scDice.nd rfl (.inl rfl)) pgs_nil)))
        (pss_one (ps_if (pt_cmpR op_ne (pv 5) (pv 1) (nomark _)) (pss_one (ps_set (i := 4) scDice.nd rfl (.inl rfl) (pe_op op_mod (pe_op op_add (pe_op op_add (pe_op op_mul pe_int (pv 4)) (pv 6)) (pv 5)) pe_int))) pss_nil)))
      (pss_cut (ps_set (i := 4) scDice.nd rfl (.inl rfl) (pe_op op_mod (pe_op op_pow (pv 4) pe_int) pe_int))
      (pss_one (ps_ret (pe_lst (pa_cons (pe_op op_mul (pe_op op_fdivW (pv 3) (pe_op op_pow pe_int pe_int)) (pe_callTy call_int1 (by rfl) T.int (by decide +kernel) (pa_cons (pe_cmpR op_ge (pv 3) (pe_op op_pow pe_int pe_int) (nomark _)) pa_nil))) (pa_cons (pv 4) (pa_cons pe_int pa_nil))))))))))
      , ?_⟩
    -- the cell
    refine ⟨fun σ' H' => ∃ z : Int, σ' = [some (.ref a), some (.int k), some (.int z), none, none, none, none] ∧ H' = H, ?_, ?_⟩
    · refine ⟨_, rfl, _, rfl, a, _, rfl, .inl hS, _, _, rfl, rfl, _, rfl, ite2 (fun c => ?_) (fun c => ?_)⟩
      · have c1 : (k : Int) < ((ns.map V.int).length : Nat) := of_decide_eq_true c
        rw [List.length_map] at c1
        have c2 : k < ns.length := by omega
        have hz : (ns.map V.int)[k]? = some (.int ns[k]) := by
          rw [List.getElem?_map, List.getElem?_eq_getElem c2]
          rfl
        exact ⟨_, rfl, _, rfl, a, _, _, _, rfl, rfl, hS, atI_nat hz, _, rfl, rfl⟩
      · exact ⟨_, rfl, _, _, rfl, rfl, .inl (by omega), _, _, rfl, rfl, _, rfl, rfl⟩
    rintro σ1 H1 ⟨z, rfl, rfl⟩
    -- great
    refine ⟨fun σ' H' => ∃ g : Int, 0 ≤ g ∧ g < 10 ^ 780 ∧ σ' = [some (.ref a), some (.int k), some (.int z), some (.int g), none, none, none] ∧ H' = H1, ?_, ?_⟩
    · have hp : (0 : Int) < 10 ^ 780 := by decide +kernel
      have e60 : ((10 : Int) ^ (60 : Int).toNat) ^ (13 : Int).toNat = 10 ^ 780 := by decide +kernel
      refine ⟨_, rfl, _, rfl, _, _, rfl, rfl, ⟨by decide, by decide, by decide⟩, _, _, rfl, rfl, ⟨by decide, by decide +kernel⟩, _, _, rfl, rfl, ?_, _, Int.emod_nonneg _ ?_, ?_, rfl, rfl⟩
      · rw [e60]; exact hp
      · rw [e60]; omega
      · rw [e60]; exact Int.emod_lt_of_pos _ hp
    rintro σ1 H2 ⟨g, g0, g1, rfl, rfl⟩
    -- seed
    refine ⟨fun σ' H' => ∃ y : Int, 0 ≤ y ∧ y < 4611686018427387904 ∧ σ' = [some (.ref a), some (.int k), some (.int z), some (.int g), some (.int y), none, none] ∧ H' = H2, ?_, ?_⟩
    · refine ⟨_, rfl, _, _, rfl, rfl, (by show (0 : Int) < 2305843009213693907; decide), _, rfl, _, _, rfl, rfl, .inl (by decide), _, _, rfl, rfl, _, rfl, _, _, rfl, rfl, .inr ⟨_, rfl, _, _, rfl, rfl, .inl (by decide), _, _, rfl, rfl, _, _, rfl, rfl, _, ?_, ?_, rfl, rfl⟩⟩
      · have h1 := Int.emod_nonneg g (show (2305843009213693907 : Int) ≠ 0 by decide)
        split <;> omega
      · have h1 := Int.emod_lt_of_pos g (show (0 : Int) < 2305843009213693907 by decide)
        split <;> omega
    rintro σ1 H3 ⟨y, y0, y1, rfl, rfl⟩
    -- for place, other in enumerate(script)
    refine ⟨fun σ' H' => ∃ (y : Int) (u v : Option V), 0 ≤ y ∧ y < 4611686018427387904 ∧ σ' = [some (.ref a), some (.int k), some (.int z), some (.int g), some (.int y), u, v] ∧ Same H3 H', ?_, ?_⟩
    · refine ⟨_, rfl, a, _, rfl, hS, ?_⟩
      refine for_it (walk_enum (xs := ns.map V.int)) (fun i σ H' => ∃ (y : Int) (u v : Option V), 0 ≤ y ∧ y < 4611686018427387904 ∧ σ = [some (.ref a), some (.int k), some (.int z), some (.int g), some (.int y), u, v] ∧ Same H3 H') ⟨y, none, none, y0, y1, rfl, fun _ _ e => e⟩ (fun i σ H' _ ⟨_, _, _, _, _, _, s5⟩ => s5.seq hS) ?_ ?_
      · rintro i x σ H4 H5 hi ⟨y, u, v, y0, y1, rfl, s5⟩ ⟨T, x1, x2, rfl, nT, rfl, e1, e2⟩
        have x1e : x1 = .int (i : Nat) := (Option.some.inj e1).symm
        obtain ⟨m, hm⟩ : ∃ m : Int, x2 = .int m := by
          have e2' : (ns.map V.int)[i]? = some x2 := e2
          rw [List.getElem?_map] at e2'
          cases e : ns[i]? with
          | none => rw [e] at e2'; cases e2'
          | some m => rw [e] at e2'; exact ⟨m, (Option.some.inj e2').symm⟩
        subst x1e hm
        have s6 : Same H3 (upd H4 T (.tup [.int (i : Nat), .int m])) := s5.trans (same_upd nT)
        refine ⟨T, _, rfl, .inl (.inl upd_same), rfl, _, _, rfl, _, _, rfl, rfl, ?_⟩
        refine ⟨_, rfl, _, rfl, rfl, _, rfl, ite2 (fun c => ?_) (fun c => ?_)⟩
        · refine ⟨_, rfl, _, _, rfl, rfl, .inl (by decide), _, rfl, _, _, rfl, rfl, _, rfl, _, _, rfl, rfl, _, _, rfl, rfl, (by show (0 : Int) < 2305843009213693907; decide), _, _, _, ?_, ?_, rfl, s6⟩
          · exact Int.emod_nonneg _ (by decide)
          · exact Int.lt_trans (Int.emod_lt_of_pos _ (by decide)) (by decide)
        · exact ⟨y, _, _, y0, y1, rfl, s6⟩
      · rintro σ H' ⟨y, u, v, y0, y1, rfl, s5⟩
        exact ⟨y, u, v, y0, y1, rfl, s5⟩
    rintro σ1 H4 ⟨y, u, v, y0, y1, rfl, s5⟩
    -- seed ** 3 % ..
    refine ⟨fun σ' H' => ∃ (y : Int), 0 ≤ y ∧ y < 2305843009213693921 ∧ σ' = [some (.ref a), some (.int k), some (.int z), some (.int g), some (.int y), u, v] ∧ H' = H4, ?_, ?_⟩
    · refine ⟨_, rfl, _, _, rfl, rfl, ⟨by decide, by decide, by omega⟩, _, _, rfl, rfl, (by show (0 : Int) < 2305843009213693921; decide), _, Int.emod_nonneg _ (by decide), Int.emod_lt_of_pos _ (by decide), rfl, rfl⟩
    rintro σ1 H5 ⟨y, y0, y1, rfl, rfl⟩
    -- the list
    have e18 : (10 : Int) ^ (18 : Int).toNat = 1000000000000000000 := by decide +kernel
    refine ⟨_, rfl, _, _, rfl, rfl, ⟨by decide, by decide, by decide⟩, _, _, rfl, rfl, (by rw [e18]; exact wide_div (b := 60) (by decide) (by decide +kernel) (by decide) (by decide)), _, rfl, _, _, rfl, rfl, ⟨by decide, by decide, by decide⟩, _, _, rfl, rfl, .inr ⟨_, rfl, _, _, rfl, rfl, .inr ?_, _, rfl, (by show 3 ≤ sizeLine; decide), fun p hp => ?_⟩⟩
    · split <;> decide
    · refine q _ p (s5.trans (same_upd hp)) (s5.free hp) ⟨_, _, _, upd_same, ?_, y0, ?_, Int.le_refl _, Int.le_refl _⟩
      · have h1 : 0 ≤ g / (10 : Int) ^ (18 : Int).toNat := Int.ediv_nonneg g0 (by decide)
        split
        · rw [Int.mul_one]; exact h1
        · rw [Int.mul_zero]; exact Int.le_refl _
      · omega
def spRoll : Sp := fun vs H Q _ => ∃ (d : Addr) (m : Int) (n : Nat), vs = [.ref d, .int m] ∧ Dice H d n ∧ n ≤ 1000000000 ∧ 0 < m ∧ m < 1073741824 ∧
  ∀ (r : Int) (o : HO), 0 ≤ r → r < m → Dice (upd H d o) d (n + 1) → Q (.int r) (upd H d o)
theorem scRoll : FnScope ["_law_dice_here", "_law_total", "_law_found", "_law_one", "_law_two"] ["_law_dice_here", "_law_total"] (defScope sRoll) := ⟨rfl, rfl, rfl, by decide +kernel, rfl, by decide +kernel, by decide +kernel⟩
theorem ok_roll {f : Addr} {fd : FuncData} {k : Nat} (F : Fun K "_law_roll" "_law_roll" sRoll f fd) : FnOk P w K mg base CX0 (k + 1) f fd ["_law_dice_here", "_law_total"] spRoll := by
  refine F.ok scRoll (fun vs H Q E h => ?_) (fun cdv A outer s H vs Q E hr h => ?_)
  · obtain ⟨d, m, n, rfl, _⟩ := h
    rfl
  · obtain ⟨d, m, n, rfl, ⟨g, y, c, hd, g0, y0, y1, c0, c1⟩, hn, m0, m1, q⟩ := h
    have I0 : atI [V.int g, V.int y, V.int c] 0 = some (V.int g) := atI_nat (j := 0) rfl
    have I1 : atI [V.int g, V.int y, V.int c] 1 = some (V.int y) := atI_nat (j := 1) rfl
    have I2 : atI [V.int g, V.int y, V.int c] 2 = some (V.int c) := atI_nat (j := 2) rfl
    have I1' : ∀ z : Int, atI [V.int g, V.int y, V.int z] 1 = some (V.int y) := fun z => atI_nat (j := 1) rfl
    have I2' : ∀ z : Int, atI [V.int g, V.int y, V.int z] 2 = some (V.int z) := fun z => atI_nat (j := 2) rfl
    refine ⟨_, pss_cons (ps_if (pt_cmpR op_gt (pe_ix ix_list (pv 0) pe_int (fun _ _ => rfl)) pe_int (nomark _))
        (pss_cons (ps_set (i := 2) scRoll.nd rfl (.inl rfl) (pe_op op_mod (pe_ix ix_list (pv 0) pe_int (fun _ _ => rfl)) (pv 1)))
        (pss_cons (ps_asg (pe_op op_fdiv (pe_ix ix_list (pv 0) pe_int (fun _ _ => rfl)) (pv 1)) (pg_sub (pv 0) pe_int set_list))
        (pss_one (ps_ret (pv 2))))) pss_nil)
      (pss_cons (ps_asg (pe_op op_add (pe_ix ix_list (pv 0) pe_int (fun _ _ => rfl)) pe_int) (pg_sub (pv 0) pe_int set_list))
      (pss_cons (ps_set (i := 3) scRoll.nd rfl (.inl rfl) (pe_op op_mod (pe_op op_pow (pe_op op_add (pe_ix ix_list (pv 0) pe_int (fun _ _ => rfl)) (pe_op op_mul pe_int (pe_ix ix_list (pv 0) pe_int (fun _ _ => rfl)))) pe_int) pe_int))
      (pss_cons (ps_set (i := 4) scRoll.nd rfl (.inl rfl) (pe_op op_mod (pe_op op_pow (pe_op op_add (pe_op op_add (pv 3) (pe_op op_mod (pe_ix ix_list (pv 0) pe_int (fun _ _ => rfl)) pe_int)) (pe_op op_mul pe_int (pe_ix ix_list (pv 0) pe_int (fun _ _ => rfl)))) pe_int) pe_int))
      (pss_one (ps_ret (pe_op op_mod (pe_op op_fdiv (pv 4) pe_int) (pv 1))))))), ?_⟩
    refine ⟨_, rfl, d, _, _, _, rfl, rfl, SqL.of hd, I0, _, _, rfl, rfl, _, rfl, ite2 (fun _ => ?_) (fun _ => ?_)⟩
    · refine ⟨_, rfl, d, _, _, _, rfl, rfl, SqL.of hd, I0, _, rfl, _, _, rfl, rfl, m0, ?_⟩
      refine ⟨_, rfl, d, _, _, _, rfl, rfl, SqL.of hd, I0, _, rfl, _, _, rfl, rfl, ⟨m0, m1⟩, ?_⟩
      refine ⟨_, rfl, d, _, _, 0, rfl, rfl, hd, rfl, ?_⟩
      exact ⟨_, rfl, q _ _ (Int.emod_nonneg _ (by omega)) (Int.emod_lt_of_pos _ m0) ⟨_, y, _, upd_same, Int.ediv_nonneg g0 (by omega), y0, y1, c0, by omega⟩⟩
    · refine ⟨_, rfl, d, _, _, _, rfl, rfl, SqL.of hd, I2, _, _, rfl, rfl, ?_⟩
      refine ⟨_, rfl, d, _, _, 2, rfl, rfl, hd, rfl, ?_⟩
      have hd2 : upd H d (.lst ([V.int g, V.int y, V.int c].set 2 (V.int (c + 1)))) d = some (.lst [V.int g, V.int y, V.int (c + 1)]) := upd_same
      refine ⟨_, rfl, d, _, _, _, rfl, rfl, SqL.of hd2, I1' _, _, rfl, d, _, _, _, rfl, rfl, SqL.of hd2, I2' _, _, _, rfl, rfl, .inl (by decide), _, _, rfl, rfl, _, _, rfl, rfl, ⟨by decide, by decide, by omega⟩, _, _, rfl, rfl, (by show (0 : Int) < 2305843009213693951; decide), ?_⟩
      have a0 := Int.emod_nonneg ((y + 15485867 * (c + 1)) ^ (3 : Int).toNat) (show (2305843009213693951 : Int) ≠ 0 by decide)
      have a1 := Int.emod_lt_of_pos ((y + 15485867 * (c + 1)) ^ (3 : Int).toNat) (show (0 : Int) < 2305843009213693951 by decide)
      have b0 := Int.emod_nonneg y (show (1000081 : Int) ≠ 0 by decide)
      have b1 := Int.emod_lt_of_pos y (show (0 : Int) < 1000081 by decide)
      refine ⟨_, rfl, _, rfl, d, _, _, _, rfl, rfl, SqL.of hd2, I1' _, _, _, rfl, rfl, (by show (0 : Int) < 1000081; decide), _, _, rfl, rfl, _, rfl, d, _, _, _, rfl, rfl, SqL.of hd2, I2' _, _, _, rfl, rfl, .inl (by decide), _, _, rfl, rfl, _, _, rfl, rfl, ⟨by decide, by decide, by omega⟩, _, _, rfl, rfl, (by show (0 : Int) < 2305843009213693907; decide), ?_⟩
      refine ⟨_, rfl, _, _, rfl, rfl, ⟨by decide, by decide⟩, _, rfl, _, _, rfl, rfl, m0, ?_⟩
      exact q _ _ (Int.emod_nonneg _ (by omega)) (Int.emod_lt_of_pos _ m0) ⟨g, y, c + 1, upd_same, g0, y0, y1, by omega, by omega⟩
def spOneOf : Sp := fun vs H Q _ => ∃ (d l : Addr) (n : Nat) (xs : List V), vs = [.ref d, .ref l] ∧ Dice H d n ∧ n ≤ 1000000000 ∧ H l = some (.lst xs) ∧ l ≠ d ∧ 0 < xs.length ∧ xs.length < 1000000 ∧
  ∀ (x : V) (o : HO), x ∈ xs → Dice (upd H d o) d (n + 1) → Q x (upd H d o)
theorem scOneOf : FnScope ["_law_dice_here", "_law_items"] ["_law_dice_here", "_law_items"] (defScope sOneOf) := ⟨rfl, rfl, rfl, by decide +kernel, rfl, by decide +kernel, by decide +kernel⟩
theorem ok_oneOf {f fR : Addr} {fd fdR : FuncData} {k : Nat} (F : Fun K "_law_one_of" "_law_one_of" sOneOf f fd) (FR : Fun K "_law_roll" "_law_roll" sRoll fR fdR) (bR : Binds K fdR ["_law_dice_here", "_law_total"] []) (gR : mg "_law_roll" = some (.ref fR)) (T : TxtD mg) :
    FnOk P w K mg base CX0 (k + 2) f fd ["_law_dice_here", "_law_items"] spOneOf := by
  have GR : FnOk P w K mg base CX0 (k + 1) fR fdR ["_law_dice_here", "_law_total"] spRoll := ok_roll FR
  refine F.ok scOneOf (fun vs H Q E h => ?_) (fun cdv A outer s H vs Q E hr h => ?_)
  · obtain ⟨d, l, n, xs, rfl, _⟩ := h
    rfl
  · obtain ⟨d, l, n, xs, rfl, hd, hn, hl, ne, x0, x1, q⟩ := h
    refine ⟨_, pss_one (ps_ret (pe_ix ix_list (pv 1) (pe_call GR hr (by rfl) gR FR.kp bR .nil pass0 (pa_cons (pv 0) (pa_cons (pe_callB call_len_seq (by rfl) T.len PySem.boot_len (pa_cons (pv 1) pa_nil)) pa_nil))) (fun _ _ => rfl))), ?_⟩
    refine ⟨_, rfl, _, rfl, _, rfl, l, _, rfl, .inl (SqL.of hl), d, _, n, rfl, hd, hn, by omega, by omega, fun r o r0 r1 D => ?_⟩
    obtain ⟨j, rfl⟩ : ∃ j : Nat, r = j := ⟨r.toNat, by omega⟩
    have hj : j < xs.length := by omega
    have hl' : upd H d o l = some (.lst xs) := by rw [upd_ne ne]; exact hl
    exact ⟨l, _, _, _, rfl, rfl, SqL.of hl', atI_nat (List.getElem?_eq_getElem hj), q _ o (List.getElem_mem hj) D⟩
end
end K55
/-! The words that laws draw: one to eight signs from a to z. -/
namespace WD
open PySem PySem.Spec PyProof.Rows L2
/-- signs a to z alone -/
def Low (x : Str) : Prop := ∀ c ∈ x.cps.toList, 97 ≤ c ∧ c ≤ 122
structure Wd (x : Str) : Prop where
  low : Low x
  pos : 0 < x.length
  le : x.length ≤ 8
abbrev abc : Str := "abcdefghijklmnopqrstuvwxyz"
theorem abc_len : abc.length = 26 := by decide +kernel
theorem abc_all : ∀ i < 26, abc.cps.toList[i]? = some (97 + i) := by decide +kernel
theorem len_list {x : Str} : x.cps.toList.length = x.length := by rw [Array.length_toList]; rfl
theorem low_nil : Low "" := fun c h => by
  have e : (("" : Str).cps.toList : List Nat) = [] := by decide +kernel
  rw [e] at h
  cases h
theorem low_one {c : Nat} (h1 : 97 ≤ c) (h2 : c ≤ 122) : Low ⟨#[c]⟩ := fun d h => by
  have e : d = c := by simpa using h
  rw [e]
  exact ⟨h1, h2⟩
theorem app_list {x y : Str} : (x ++ y).cps.toList = x.cps.toList ++ y.cps.toList := by
  show (x.cps ++ y.cps).toList = _
  exact Array.toList_append
theorem app_len {x y : Str} : (x ++ y).length = x.length + y.length := by
  rw [← len_list, app_list, List.length_append, len_list, len_list]
theorem low_app {x y : Str} (a : Low x) (b : Low y) : Low (x ++ y) := fun c h => by
  rw [app_list] at h
  exact (List.mem_append.mp h).elim (a c) (b c)
theorem cut_list (x : Str) (lo hi : Option Int) : (cutS x lo hi).cps.toList = (x.cps.toList.drop (HT.sIx x.length 0 lo)).take (HT.sIx x.length x.length hi - HT.sIx x.length 0 lo) := by
  rw [cutS]
theorem low_cut {x : Str} (a : Low x) (lo hi : Option Int) : Low (cutS x lo hi) := fun c h => by
  rw [cut_list] at h
  exact a c (List.mem_of_mem_drop (List.mem_of_mem_take h))
theorem cut8_len {x : Str} : (cutS x none (some 8)).length = min 8 x.length := by
  rw [← len_list, cut_list, List.length_take, List.length_drop, len_list]
  show min (HT.sIx x.length x.length (some ((8 : Nat) : Int)) - 0) (x.length - 0) = _
  rw [HT.sIx_nat]
  omega
theorem cut1_len {x : Str} (h : 0 < x.length) : (cutS x (some 1) none).length = x.length - 1 := by
  rw [← len_list, cut_list, List.length_take, List.length_drop, len_list]
  show min (x.length - HT.sIx x.length 0 (some ((1 : Nat) : Int))) (x.length - HT.sIx x.length 0 (some ((1 : Nat) : Int))) = _
  rw [HT.sIx_nat]
  omega
/-- the first sign of a word, found again among the letters -/
theorem at_first {x : Str} (h : Wd x) : ∃ c, atI x.cps.toList 0 = some c ∧ 97 ≤ c ∧ c ≤ 122 := by
  have p := h.pos
  rw [← len_list] at p
  obtain ⟨c, l, e⟩ : ∃ c l, x.cps.toList = c :: l := by
    cases z : x.cps.toList with
    | nil => rw [z] at p; exact absurd p (by decide)
    | cons c l => exact ⟨c, l, rfl⟩
  refine ⟨c, ?_, h.low c (by rw [e]; exact List.mem_cons_self)⟩
  rw [e]
  exact atI_nat (j := 0) rfl
theorem found_all : ∀ c, 97 ≤ c ∧ c ≤ 122 → Txt.index0 abc ⟨#[c]⟩ = some (c - 97) := by
  intro c h
  have all : ∀ i < 26, Txt.index0 abc ⟨#[97 + i]⟩ = some i := by decide +kernel
  have z := all (c - 97) (by omega)
  rw [show 97 + (c - 97) = c by omega] at z
  exact z
theorem takes_none {X : Cx} : Takes X fun _ _ _ _ => False := fun _ _ ⟨_, _, _, _, _, _, _, _, _, _, _, _, _, _, _, _, w⟩ => w.elim
/-- all but d stays -/
def DS (d : Addr) (H H' : Hp) : Prop := ∀ b o, b ≠ d → H b = some o → H' b = some o
theorem DS.rfl {d : Addr} {H : Hp} : DS d H H := fun _ _ _ e => e
theorem DS.trans {d : Addr} {H H1 H2 : Hp} (a : DS d H H1) (b : DS d H1 H2) : DS d H H2 := fun c o n e => b c o n (a c o n e)
theorem Same.ds {d : Addr} {H H' : Hp} (s : Same H H') : DS d H H' := fun b o _ e => s b o e
end WD
namespace K55
open PySem PySem.Spec PyProof.Rows L2 WD
open C8 (pss_cut tCut)
abbrev sWords : Stmt := topS 60
structure TxtW (K : PySem.W.Frag) (mg : Str → Option Value) (fR : Addr) (dR : FuncData) : Prop where
  R : Fun K "_law_roll" "_law_roll" sRoll fR dR
  bR : L2.Binds K dR ["_law_dice_here", "_law_total"] []
  gR : mg "_law_roll" = some (.ref fR)
  range : mg "range" = none
theorem ifF {c : Bool} {A B : Prop} (hc : c = false) (h : B) : if c = true then A else B := by
  subst hc
  exact iteF h
theorem ifT {c : Bool} {A B : Prop} (hc : c = true) (h : A) : if c = true then A else B := by
  subst hc
  exact iteT h
theorem ifB {c : Bool} {A B : Prop} (ht : c = true → A) (hf : c = false → B) : if c = true then A else B := by
  cases c
  · exact ifF rfl (hf rfl)
  · exact ifT rfl (ht rfl)
theorem dp_strs {K : PySem.W.Frag} {H : Hp} : ∀ ws : List Str, DpAll K H (ws.map V.str) (ws.map PyData.str)
  | [] => .nil
  | x :: ws => .cons (.str x) (dp_strs ws)
theorem low_ok {x : Str} (h : Low x) : PyData.canLay0 (.str x) = true := by
  show x.cps.all (fun c => decide (c < 0x110000)) = true
  rw [← Array.all_toList, List.all_eq_true]
  exact fun c m => decide_eq_true (Nat.lt_of_le_of_lt (h c m).2 (by decide))
theorem can_strs : ∀ ws : List Str, (∀ x ∈ ws, Wd x) → PyData.canLayAll0 (ws.map PyData.str) = true
  | [], _ => rfl
  | x :: ws, h => by rw [List.map_cons, PyData.canLayAll0, low_ok (h x List.mem_cons_self).low, can_strs ws fun y hy => h y (List.mem_cons_of_mem _ hy)]; rfl
theorem depth_strs : ∀ ws : List Str, PyData.depthAll (ws.map PyData.str) = 0
  | [] => rfl
  | x :: ws => by rw [List.map_cons, PyData.depthAll, depth_strs ws]; rfl
theorem shaped_strs (ws : List Str) (h : ∀ x ∈ ws, Wd x) : SeqAt.shaped (.list (ws.map PyData.str)) = true := by
  rw [SeqAt.shaped, PyData.canLay0, can_strs ws h, PyData.depth, depth_strs]
  rfl
theorem flat_strs : ∀ ws : List Str, (ws.map V.str).all flatV = true
  | [] => rfl
  | x :: ws => by rw [List.map_cons, List.all_cons, flat_strs ws]; rfl
/-- what a law's def that fills a list at p has kept: all but the dice and the list -/
structure Kept (H : Hp) (d p : Addr) (c : Nat) (xs : List V) (H' : Hp) : Prop where
  ds : DS d H H'
  dice : Dice H' d c
  lst : H' p = some (.lst xs)
theorem Kept.roll {H H' : Hp} {d p : Addr} {c c' : Nat} {xs : List V} {o : HO} (k : Kept H d p c xs H') (ne : p ≠ d) (D : Dice (upd H' d o) d c') : Kept H d p c' xs (upd H' d o) := by
  refine ⟨fun b u n e => ?_, D, ?_⟩
  · rw [upd_ne n]; exact k.ds b u n e
  · rw [upd_ne ne]; exact k.lst
theorem Kept.new {H H' : Hp} {d p l : Addr} {c : Nat} {xs : List V} {o : HO} (k : Kept H d p c xs H') (n : H' l = none) : Kept H d p c xs (upd H' l o) ∧ l ≠ d ∧ l ≠ p := by
  have nd : l ≠ d := fun z => by
    obtain ⟨g, s, i, e, _⟩ := k.dice
    rw [z, e] at n
    cases n
  have np : l ≠ p := fun z => by
    rw [z, k.lst] at n
    cases n
  refine ⟨⟨fun b u m e => same_upd n b u (k.ds b u m e), k.dice.same (upd_ne nd.symm), same_upd n p _ k.lst⟩, nd, np⟩
theorem Kept.put {H H' : Hp} {d p : Addr} {c : Nat} {xs ys : List V} (k : Kept H d p c xs H') (ne : p ≠ d) (n : H p = none) : Kept H d p c ys (upd H' p (.lst ys)) := by
  refine ⟨fun b u m e => ?_, k.dice.same (upd_ne ne.symm), upd_same⟩
  rw [upd_ne (ne_of_none e n)]
  exact k.ds b u m e
theorem Kept.more {H H' : Hp} {d p : Addr} {c c' : Nat} {xs : List V} (k : Kept H d p c xs H') (h : c ≤ c') : Kept H d p c' xs H' := ⟨k.ds, k.dice.mono h, k.lst⟩
theorem turns_cases {r : Int} (h0 : 0 ≤ r) (h1 : r < 4) : ∃ k : Nat, 1 ≤ k ∧ k ≤ 8 ∧ atI [V.int 1, V.int 1, V.int 2, V.int 8] r = some (.int k) := by
  have z : r = 0 ∨ r = 1 ∨ r = 2 ∨ r = 3 := by omega
  rcases z with rfl | rfl | rfl | rfl
  · exact ⟨1, by decide, by decide, atI_nat (j := 0) rfl⟩
  · exact ⟨1, by decide, by decide, atI_nat (j := 1) rfl⟩
  · exact ⟨2, by decide, by decide, atI_nat (j := 2) rfl⟩
  · exact ⟨8, by decide, by decide, atI_nat (j := 3) rfl⟩
theorem abc_at {r : Int} (h0 : 0 ≤ r) (h1 : r < 26) : ∃ c, atI abc.cps.toList r = some c ∧ 97 ≤ c ∧ c ≤ 122 := by
  obtain ⟨j, rfl⟩ : ∃ j : Nat, r = j := ⟨r.toNat, by omega⟩
  exact ⟨97 + j, atI_nat (abc_all j (by omega)), by omega, by omega⟩
theorem abc_fits : abc.length ≤ sizeLine := by rw [abc_len, sizeLine_eq]; decide
abbrev nW : List Str := ["_law_dice_here", "_law_total", "_law_letters", "_law_found", "_law_at", "_law_word", "_law_turn"]
theorem scWords : FnScope nW ["_law_dice_here", "_law_total"] (defScope sWords) := ⟨rfl, rfl, rfl, by decide +kernel, rfl, by decide +kernel, by decide +kernel⟩
/-- m words, the dice asked at most twelve times for each -/
theorem str_same {x y : Str} (h : x.cps.toList = y.cps.toList) : x = y := by
  cases x
  cases y
  congr
  exact Array.toList_inj.mp h
theorem at_head {a c : Nat} {r : List Nat} (h : atI (a :: r) 0 = some c) : c = a := by
  have z : atI (a :: r) 0 = some a := atI_nat (j := 0) rfl
  rw [z] at h
  exact (Option.some.inj h).symm
def wAt (t : Str) (n : Nat) : Str := (⟨#[97 + n % 26]⟩ : Str) ++ t
theorem wAt_list {t : Str} {n : Nat} : (wAt t n).cps.toList = (97 + n % 26) :: t.cps.toList := by
  rw [wAt, app_list]
  rfl
theorem wAt_inj {t : Str} {a b : Nat} (h : wAt t a = wAt t b) : a % 26 = b % 26 := by
  have z := congrArg (fun x : Str => x.cps.toList) h
  simp only [wAt_list, List.cons.injEq] at z
  omega
theorem cut_wAt {t : Str} {n : Nat} : cutS (wAt t n) (some 1) none = t := by
  refine str_same ?_
  have e : (wAt t n).length = t.length + 1 := by rw [wAt, app_len]; exact Nat.add_comm _ _
  have l : t.cps.toList.length = t.length := WD.len_list
  rw [cut_list, wAt_list, e]
  have z : t.cps.toList.take t.cps.size = t.cps.toList := List.take_of_length_le (by rw [Array.length_toList]; exact Nat.le_refl _)
  simp [HT.sIx, ← l, z]
theorem wd_at {x : Str} (h : Wd x) : ∃ t n, x = wAt t n ∧ n < 26 := by
  obtain ⟨c, ec, c1, c2⟩ := at_first h
  have p := h.pos
  rw [← WD.len_list] at p
  cases hl : x.cps.toList with
  | nil => rw [hl] at p; exact absurd p (by decide)
  | cons a r =>
    rw [hl] at ec
    have e := at_head ec
    subst e
    refine ⟨⟨r.toArray⟩, c - 97, str_same ?_, by omega⟩
    rw [wAt_list, hl, show 97 + (c - 97) % 26 = c by omega]
theorem few_shifts {t : Str} {ws : List Str} {o m : Nat} (hm : m ≤ 10) (h : ∀ i < m, wAt t (o + i) ∈ ws) : m ≤ ws.length := by
  have z := List.Nodup.length_le_of_subset (l₁ := (List.range m).map fun i => wAt t (o + i)) (l₂ := ws) (by
    refine List.pairwise_map.mpr (List.pairwise_lt_range.imp_of_mem fun {a b} ha hb lt e => ?_)
    have := wAt_inj e
    have := List.mem_range.mp ha
    have := List.mem_range.mp hb
    omega) (fun x hx => by
    obtain ⟨i, hi, rfl⟩ := List.mem_map.mp hx
    exact h i (List.mem_range.mp hi))
  rw [List.length_map, List.length_range] at z
  exact z
def spWords : Sp := fun vs H Q _ => ∃ (d : Addr) (m n : Nat), vs = [.ref d, .int m] ∧ Dice H d n ∧ n ≤ 1000000 ∧ m ≤ 10 ∧
  ∀ H' p (ws : List Str), DS d H H' → H p = none → Dice H' d (n + 12 * m) → H' p = some (.lst (ws.map V.str)) → ws.length = m → (∀ x ∈ ws, Wd x) → ws.Nodup → Q (.ref p) H'
section
variable {P : Program} {w : World} {K : PySem.W.Frag} {mg : Str → Option Value} {base : Heap} {fR : Addr} {dR : FuncData}
theorem ok_Words {f : Addr} {fd : FuncData} (F : Fun K "_law_words" "_law_words" sWords f fd) (W : TxtW K mg fR dR) : FnOk P w K mg base CX0 2 f fd ["_law_dice_here", "_law_total"] spWords := by
  have GR : FnOk P w K mg base CX0 1 fR dR ["_law_dice_here", "_law_total"] spRoll := ok_roll W.R
  refine F.ok scWords (fun vs H Q E h => ?_) (fun cdv A outer s H vs Q E hr h => ?_)
  · obtain ⟨d, m, n, rfl, _⟩ := h
    rfl
  · obtain ⟨d, m, n, rfl, D, hn, hm, q⟩ := h
    have hu := hr.units
    refine ⟨_, pss_cut (ps_par (i := 2) (j := 3) (by rfl) scWords.nd rfl rfl (by decide) rfl rfl (pa_cons pe_str (pa_cons (pe_lst pa_nil) pa_nil)) (by rfl))
      (pss_cut (ps_for PassesOwn.never rfl (pi_range1 rfl W.range (pa_cons (pv 1) pa_nil)) (pg_name (i := 4) scWords.nd rfl (.inl rfl))
        (pss_cut (ps_set (i := 5) scWords.nd rfl (.inl rfl) pe_str)
        (pss_cut (ps_for PassesOwn.never rfl (pi_range1 rfl W.range (pa_cons (pe_ix ix_list (pe_lst (pa_cons pe_int (pa_cons pe_int (pa_cons pe_int (pa_cons pe_int pa_nil))))) (pe_call GR hr (by rfl) W.gR W.R.kp W.bR .nil pass0 (pa_cons (pv 0) (pa_cons pe_int pa_nil))) (fun _ _ => rfl)) pa_nil)) (pg_name (i := 6) scWords.nd rfl (.inl rfl))
          (pss_one (ps_set (i := 5) scWords.nd rfl (.inl rfl) (pe_op op_add_str (pv 5) (pe_ix ix_str (pv 2) (pe_call GR hr (by rfl) W.gR W.R.kp W.bR .nil pass0 (pa_cons (pv 0) (pa_cons pe_int pa_nil))) (fun _ _ => rfl))))))
        (pss_cut (ps_if (PW.pt (pw_and (pt_cmpR (op_neD hu) (pv 3) (pe_lst pa_nil) (nomark _)) (pw_and1 (pt_cmpR op_eq (pe_call GR hr (by rfl) W.gR W.R.kp W.bR .nil pass0 (pa_cons (pv 0) (pa_cons pe_int pa_nil))) pe_int (nomark _)))))
            (pss_one (ps_set (i := 5) scWords.nd rfl (.inl rfl) (pe_slice sl_str (pe_op op_add_str (pe_ix ix_list (pv 3) (pe_un un_neg pe_int) (fun _ _ => rfl)) pe_str) po_none (po_some pe_int)))) pss_nil)
        (pss_cut (ps_for PassesOwn.never rfl (pi_range1 rfl W.range (pa_cons (pv 1) pa_nil)) (pg_name (i := 6) scWords.nd rfl (.inl rfl))
          (pss_one (ps_if (pt_cmpR op_in_seq (pv 5) (pv 3) (by rfl))
            (pss_one (ps_set (i := 5) scWords.nd rfl (.inl rfl) (pe_op op_add_str (pe_ix ix_str (pv 2) (pe_op op_mod (pe_op op_add (pe_bmS PySem.F.plainAttrs_str PySem.F.slot_str_index PySem.F.type_str_index (mt_indexX rfl takes_none) (pv 2) (pa_cons (pe_ix ix_str (pv 5) pe_int (fun _ _ => rfl)) pa_nil)) pe_int) pe_int) (fun _ _ => rfl)) (pe_slice sl_str (pv 5) (po_some pe_int) po_none)))) pss_nil)))
        (pss_one (ps_expr (pe_bm PySem.F.plainAttrs_list PySem.F.slot_list_append PySem.F.type_list_append mt_append (pv 3) (pa_cons (pv 5) pa_nil)))))))))
      (pss_one (ps_ret (pv 3)))), ?_⟩
    refine ⟨fun σ' H' => ∃ p, σ' = [some (.ref d), some (.int m), some (.str abc), some (.ref p), none, none, none] ∧ H p = none ∧ p ≠ d ∧ Kept H d p n [] H', ?_, ?_⟩
    · refine ⟨(by show 0 ≤ sizeLine; decide), fun p hp => ⟨_, _, rfl, p, rfl, hp, ?_, ⟨fun b o _ e => same_upd hp b o e, ?_, upd_same⟩⟩⟩
      · intro z
        obtain ⟨g, s, i, e, _⟩ := D
        rw [z, e] at hp
        cases hp
      · refine D.same (upd_ne ?_)
        intro z
        obtain ⟨g, s, i, e, _⟩ := D
        rw [← z, e] at hp
        cases hp
    rintro σ1 H1 ⟨p, rfl, np, nd, k1⟩
    refine ⟨fun σ' H' => ∃ (ws : List Str) (u4 u5 u6 : Option V), σ' = [some (.ref d), some (.int m), some (.str abc), some (.ref p), u4, u5, u6] ∧ Kept H d p (n + 12 * m) (ws.map V.str) H' ∧ ws.length = m ∧ (∀ x ∈ ws, Wd x) ∧ ws.Nodup, ?_, ?_⟩
    rotate_left
    · rintro σ2 H2 ⟨ws, u4, u5, u6, rfl, k2, l2, w2, d2⟩
      exact ⟨_, rfl, q H2 p ws k2.ds np k2.dice k2.lst l2 w2 d2⟩
    refine ⟨_, rfl, (m : Int), rfl, by omega, by omega, ?_⟩
    rw [Int.toNat_natCast]
    refine for_range (lo := 0) (n := m) (fun i σ' H' => ∃ (ws : List Str) (u4 u5 u6 : Option V), σ' = [some (.ref d), some (.int m), some (.str abc), some (.ref p), u4, u5, u6] ∧ Kept H d p (n + 12 * i) (ws.map V.str) H' ∧ ws.length = i ∧ (∀ x ∈ ws, Wd x) ∧ ws.Nodup)
      ⟨[], none, none, none, rfl, k1, rfl, (fun _ z => nomatch z), List.nodup_nil⟩ ?_ (fun σ' H' z => z)
    rintro i σ2 H2 hi ⟨ws, u4, u5, u6, rfl, k2, l2, w2, d2⟩
    rw [Int.zero_add]
    -- word = ''
    refine ⟨fun σ' H' => σ' = [some (.ref d), some (.int m), some (.str abc), some (.ref p), some (.int i), some (.str ""), u6] ∧ H' = H2, ⟨rfl, rfl⟩, ?_⟩
    rintro σ3 H3 ⟨rfl, rfl⟩
    -- its signs
    refine ⟨fun σ' H' => ∃ (x : Str) (u6 : Option V), σ' = [some (.ref d), some (.int m), some (.str abc), some (.ref p), some (.int i), some (.str x), u6] ∧ Wd x ∧ Kept H d p (n + 12 * i + 9) (ws.map V.str) H', ?_, ?_⟩
    · refine ⟨(by show 4 ≤ sizeLine; decide), fun l nl => ?_⟩
      obtain ⟨k3, ld, lp⟩ := k2.new (o := .lst [.int 1, .int 1, .int 2, .int 8]) nl
      refine ⟨_, rfl, d, 4, _, rfl, k3.dice, by omega, by decide, by decide, fun r o r0 r1 D4 => ?_⟩
      have k4 := k3.roll nd D4
      obtain ⟨t, t1, t8, et⟩ := turns_cases r0 r1
      refine ⟨l, _, r, _, rfl, rfl, SqL.of (xs := [.int 1, .int 1, .int 2, .int 8]) (by rw [upd_ne ld]; exact upd_same), et, (t : Int), rfl, by omega, by omega, ?_⟩
      rw [Int.toNat_natCast]
      refine for_range (lo := 0) (n := t) (fun j σ' H' => ∃ (x : Str) (u6 : Option V), σ' = [some (.ref d), some (.int m), some (.str abc), some (.ref p), some (.int i), some (.str x), u6] ∧ Low x ∧ x.length = j ∧ Kept H d p (n + 12 * i + 1 + j) (ws.map V.str) H')
        ⟨"", u6, rfl, low_nil, by decide +kernel, k4⟩ ?_ ?_
      · rintro j σ5 H5 hj ⟨x, v6, rfl, lx, ex, k5⟩
        refine ⟨_, rfl, _, rfl, _, rfl, d, 26, _, rfl, k5.dice, by omega, by decide, by decide, fun r o r0 r1 D6 => ?_⟩
        obtain ⟨c, ec, c1, c2⟩ := abc_at r0 r1
        refine ⟨abc, r, c, rfl, rfl, abc_fits, ec, x, _, rfl, rfl, ?_, x ++ ⟨#[c]⟩, some (.int (0 + (j : Int))), rfl, low_app lx (low_one c1 c2), ?_, k5.roll nd D6⟩
        · rw [ex, sizeLine_eq]
          show j + 1 ≤ _
          omega
        · rw [app_len, ex]
          rfl
      · rintro σ5 H5 ⟨x, v6, rfl, lx, ex, k5⟩
        exact ⟨x, v6, rfl, ⟨lx, by omega, by omega⟩, k5.more (by omega)⟩
    rintro σ3 H4 ⟨x, v6, rfl, wx, k4⟩
    -- a sign behind the word before
    refine ⟨fun σ' H' => ∃ (x : Str), σ' = [some (.ref d), some (.int m), some (.str abc), some (.ref p), some (.int i), some (.str x), v6] ∧ Wd x ∧ Kept H d p (n + 12 * i + 10) (ws.map V.str) H', ?_, ?_⟩
    · refine ⟨_, rfl, (by show 0 ≤ sizeLine; decide), fun l nl => ?_⟩
      obtain ⟨k5, ld, lp⟩ := k4.new (o := .lst []) nl
      refine ⟨_, _, .lst (SqL.of k5.lst) (dp_strs ws), .lst (SqL.of upd_same) .nil, shaped_strs ws w2, rfl, _, rfl, ifB (fun e => ?_) fun _ => ?_⟩
      · refine ⟨_, rfl, d, 4, _, rfl, k5.dice, by omega, by decide, by decide, fun r o r0 r1 D6 => ?_⟩
        have k6 := k5.roll nd D6
        refine ⟨rfl, _, rfl, ifB (fun _ => ?_) fun _ => ?_⟩
        · obtain ⟨w0, y, rfl⟩ : ∃ w0 y, ws = w0 ++ [y] := by
            rcases List.eq_nil_or_concat ws with z | ⟨w0, y, z⟩
            · rw [z] at e
              exact absurd e (by decide)
            · exact ⟨w0, y, by rw [z, List.concat_eq_append]⟩
          have wy : Wd y := w2 y (by simp)
          refine ⟨_, rfl, 1, rfl, p, _, -1, .str y, rfl, rfl, SqL.of k6.lst, ?_, y, "a", rfl, rfl, ?_, 8, rfl, y ++ "a", rfl, ?_, ?_⟩
          · rw [List.map_append]
            exact atI_last _ _
          · have := wy.le
            rw [sizeLine_eq]
            show y.length + 1 ≤ _
            omega
          · have := wy.le
            rw [app_len, sizeLine_eq]
            show y.length + 1 ≤ _
            omega
          · have ya : (y ++ "a").length = y.length + 1 := app_len
            have la : Low "a" := by
              have z : ("a" : Str) = ⟨#[97]⟩ := by decide +kernel
              rw [z]
              exact low_one (by decide) (by decide)
            exact ⟨cutS (y ++ "a") none (some 8), rfl, ⟨low_cut (low_app wy.low la) _ _, by rw [cut8_len, ya]; omega, by rw [cut8_len]; omega⟩, k6⟩
        · exact ⟨x, rfl, wx, k6⟩
      · exact ⟨x, rfl, wx, k5.more (by omega)⟩
    rintro σ4 H5 ⟨x, rfl, wx, k5⟩
    -- another first sign while the word is there
    obtain ⟨t0, n0, ex0, n26⟩ := wd_at wx
    refine ⟨fun σ' H' => ∃ (x : Str) (u6 : Option V), σ' = [some (.ref d), some (.int m), some (.str abc), some (.ref p), some (.int i), some (.str x), u6] ∧ Wd x ∧ x ∉ ws ∧ H' = H5, ?_, ?_⟩
    · refine ⟨_, rfl, (m : Int), rfl, by omega, by omega, ?_⟩
      rw [Int.toNat_natCast]
      refine for_range (lo := 0) (n := m) (fun j σ' H' => ∃ (x : Str) (u6 : Option V) (c : Nat), σ' = [some (.ref d), some (.int m), some (.str abc), some (.ref p), some (.int i), some (.str x), u6] ∧ Wd x ∧ H' = H5 ∧ x = wAt t0 (n0 + c) ∧ c ≤ j ∧ (∀ e < c, wAt t0 (n0 + e) ∈ ws) ∧ (c = j ∨ x ∉ ws)) ⟨x, v6, 0, rfl, wx, rfl, ex0, Nat.le_refl _, (fun _ z => nomatch z), .inl rfl⟩ ?_ ?_
      · rintro j σ6 H6 hj ⟨x, u6, sh, rfl, wx, rfl, ex, cj, bef, cur⟩
        refine ⟨_, rfl, _, rfl, p, _, rfl, .inl (SqL.of k5.lst), rfl, flat_strs ws, _, rfl, ifB (fun hin => ?_) fun hin => ?_⟩
        · have inn : x ∈ ws := by
            have z : inV (.str x) (ws.map V.str) = true := hin
            unfold inV at z
            rw [List.any_eq_true] at z
            obtain ⟨v, hv, ev⟩ := z
            obtain ⟨y, hy, rfl⟩ := List.mem_map.mp hv
            have e2 : y = x := by simpa [eqV] using ev
            exact e2 ▸ hy
          have cj' : sh = j := cur.resolve_right fun z => z inn
          obtain ⟨c, ec, c1, c2⟩ := at_first wx
          have cv : c = 97 + (n0 + sh) % 26 := by
            have z := ec
            rw [ex, wAt_list] at z
            exact at_head z
          refine ⟨_, rfl, _, rfl, rfl, _, rfl, x, 0, c, rfl, rfl, ?_, ec, abc, _, rfl, rfl, fun k ek => ?_, fun en => ?_⟩
          · have := wx.le
            rw [sizeLine_eq]
            omega
          · have kv : k = c - 97 := by
              rw [found_all c ⟨c1, c2⟩] at ek
              cases ek
              omega
            have kc : k < 26 := by omega
            have er : ((k : Int) + 1) % 26 = (((n0 + (sh + 1)) % 26 : Nat) : Int) := by omega
            have ec' : atI abc.cps.toList (((k : Int) + 1) % 26) = some (97 + (n0 + (sh + 1)) % 26) := by
              rw [er]
              exact atI_nat (abc_all _ (by omega))
            have d1 : 97 ≤ 97 + (n0 + (sh + 1)) % 26 := by omega
            have d2 : 97 + (n0 + (sh + 1)) % 26 ≤ 122 := by omega
            have cl := cut1_len wx.pos
            have xl := wx.le
            have new : (⟨#[97 + (n0 + (sh + 1)) % 26]⟩ : Str) ++ cutS x (some 1) none = wAt t0 (n0 + (sh + 1)) := by
              rw [ex, cut_wAt]
              rfl
            refine ⟨_, _, rfl, rfl, _, _, rfl, rfl, (by show (0 : Int) < 26; decide), abc, _, 97 + (n0 + (sh + 1)) % 26, rfl, rfl, abc_fits, ec', _, rfl, 1, rfl, x, rfl, by rw [sizeLine_eq]; omega, _, _, rfl, rfl, ?_, _, _, sh + 1, rfl, ⟨low_app (low_one d1 d2) (low_cut wx.low _ _), ?_, ?_⟩, rfl, new, by omega, fun e he => ?_, .inl (by omega)⟩
            · rw [cl, sizeLine_eq]
              show 1 + (x.length - 1) ≤ _
              omega
            · rw [app_len, cl]
              show 0 < 1 + (x.length - 1)
              omega
            · rw [app_len, cl]
              show 1 + (x.length - 1) ≤ 8
              omega
            · by_cases z : e = sh
              · rw [z, ← ex]
                exact inn
              · exact bef e (by omega)
          · rw [found_all c ⟨c1, c2⟩] at en
            exact nomatch en
        · have nin : x ∉ ws := fun z => by
            have y : inV (.str x) (ws.map V.str) = true := by
              unfold inV
              rw [List.any_eq_true]
              exact ⟨_, List.mem_map.mpr ⟨x, z, rfl⟩, by simp [eqV]⟩
            have y' : inV (.str x) (ws.map V.str) = false := hin
            rw [y] at y'
            exact nomatch y'
          exact ⟨x, _, sh, rfl, wx, rfl, ex, by omega, bef, .inr nin⟩
      · rintro σ' H' ⟨x, u6, sh, rfl, wx, rfl, ex, cj, bef, cur⟩
        refine ⟨x, u6, rfl, wx, fun z => ?_, rfl⟩
        have e : sh = m := cur.resolve_right fun n => n z
        have := few_shifts hm (fun i hi => bef i (by omega))
        omega
    rintro σ5 H6 ⟨x, u6, rfl, wx, nin, rfl⟩
    refine ⟨_, rfl, .inl ⟨rfl, _, SqL.of k5.lst⟩, _, rfl, p, _, _, rfl, rfl, k5.lst, ?_, ?_⟩
    · rw [List.length_map, l2, sizeLine_eq]
      omega
    · refine ⟨ws ++ [x], _, _, _, rfl, ?_, by rw [List.length_append, l2]; rfl, fun y hy => ?_, ?_⟩
      · rw [List.map_append]
        exact (k5.put nd np).more (by omega)
      · rcases List.mem_append.mp hy with z | z
        · exact w2 y z
        · rw [List.mem_singleton.mp z]; exact wx
      · rw [List.nodup_append]
        refine ⟨d2, by simp, fun u hu' v hv => ?_⟩
        rw [List.mem_singleton.mp hv]
        exact fun e => nin (e ▸ hu')
end
end K55
/-! Sets of nested keys (tuples of numbers, texts, tuples ..): what a table asks of its items. -/
namespace NS
open PySem PySem.Spec PyProof.Rows L2
section
variable {P : Program} {w : World}
/-- hashByValue answers, one way or the other -/
def AnyHash (P : Program) (w : World) (n : Nat) (s : Shared) (v : Value) : Prop := ∀ (A : Around) (E : Value → Shared → Prop) (Q : Bool → Shared → Prop), (∀ b, Q b s) → wpAny (model P w) A (hashByValue n v) Q E s
def NoClass (P : Program) (w : World) (n : Nat) (s : Shared) (v : Value) : Prop := ∀ (A : Around) (E : Value → Shared → Prop) (Q : Bool → Shared → Prop), Q false s → wpAny (model P w) A (ofAClassStatement n v) Q E s
theorem AnyHash.of_eq {n : Nat} {s : Shared} {v : Value} {b : Bool} (e : hashByValue n v = pure b) : AnyHash P w n s v := fun A E Q q => by
  rw [e]
  exact wpAny_pure (q b)
theorem NoClass.of_eq {n : Nat} {s : Shared} {v : Value} (e : ofAClassStatement n v = pure false) : NoClass P w n s v := fun A E Q q => by
  rw [e]
  exact wpAny_pure q
theorem AnyHash.tup {n : Nat} {s : Shared} {a : Addr} {o : Obj} {vs : Array Value} {m : Nat} (ho : s.heap.get? a = some o) (hc : o.cls = .type "tuple") (hd : o.data = .seq vs m) (all : ∀ v ∈ vs.toList, AnyHash P w n s v) : AnyHash P w (n + 1) s (.ref a) := fun A E Q q => by
  have ty : s.TypeIs (.ref a) "tuple" := ⟨o, ho, hc⟩
  rw [hashByValue]
  refine wpAny_bind (wpAny_specialOf ty F.slot_tuple_hash.lookup (show wpAny _ _ (seqItems? (.ref a) >>= _) _ _ s from wpAny_bind (wpAny_seqItems ho hd (wpAny_bind ?_))))
  show wpAny _ _ (forIn vs _ _) _ _ s
  rw [← Array.forIn_toList]
  refine wpAny_forIn_list _ (fun l r s1 => s1 = s ∧ r.1 = none ∧ ∀ v ∈ l, AnyHash P w n s v) _ (fun v l r s1 i => ?_) (fun r s1 i => ?_) _ _ ⟨rfl, rfl, all⟩
  · obtain ⟨rfl, e, al⟩ := i
    refine wpAny_bind (al v List.mem_cons_self _ _ _ fun b => ?_)
    cases b
    · exact wpAny_pure (wpAny_pure (q false))
    · exact wpAny_pure ⟨rfl, rfl, fun u hu => al u (List.mem_cons_of_mem _ hu)⟩
  · obtain ⟨r1, r2⟩ := r
    obtain ⟨rfl, e, _⟩ := i
    cases e
    exact wpAny_pure (q true)
theorem NoClass.tup {n : Nat} {s : Shared} {a : Addr} {o : Obj} {vs : Array Value} {m : Nat} (ho : s.heap.get? a = some o) (hc : o.cls = .type "tuple") (hd : o.data = .seq vs m) (all : ∀ v ∈ vs.toList, NoClass P w n s v) : NoClass P w (n + 1) s (.ref a) := fun A E Q q => by
  have ty : s.TypeIs (.ref a) "tuple" := ⟨o, ho, hc⟩
  rw [ofAClassStatement]
  refine wpAny_bind (wpAny_typeOf ty ?_)
  dsimp only
  rw [show (("tuple" : String) == "tuple") = true from rfl]
  simp only [if_true, Bool.not_true, Bool.false_eq_true, if_false]
  try refine wpAny_bind (wpAny_pure ?_)
  try simp only [Bool.not_true, Bool.false_eq_true, if_false]
  refine (show wpAny _ _ (seqItems? (.ref a) >>= _) _ _ s from wpAny_bind (wpAny_seqItems ho hd (wpAny_bind ?_)))
  show wpAny _ _ (forIn vs _ _) _ _ s
  rw [← Array.forIn_toList]
  refine wpAny_forIn_list _ (fun l r s1 => s1 = s ∧ r.1 = none ∧ ∀ v ∈ l, NoClass P w n s v) _ (fun v l r s1 i => ?_) (fun r s1 i => ?_) _ _ ⟨rfl, rfl, all⟩
  · obtain ⟨rfl, e, al⟩ := i
    exact wpAny_bind (al v List.mem_cons_self _ _ _ (wpAny_pure ⟨rfl, rfl, fun u hu => al u (List.mem_cons_of_mem _ hu)⟩))
  · obtain ⟨r1, r2⟩ := r
    obtain ⟨rfl, e, _⟩ := i
    cases e
    exact wpAny_pure q
mutual
theorem hash_key : ∀ (k : NestedKey) (v : Value) (n : Nat) (s : Shared), NestedIs s.heap k v → AnyHash P w n s v
  | .none, _, n, s, x => by cases x; cases n <;> exact .of_eq (b := true) rfl
  | .num i, _, n, s, x => by cases x <;> cases n <;> exact .of_eq (b := true) rfl
  | .text y, _, n, s, x => by cases x; cases n <;> exact .of_eq (b := false) rfl
  | .tup ks, _, n, s, x => by
    cases x with
    | tup a1 a2 a3 a4 =>
      cases n with
      | zero => exact .of_eq (b := false) rfl
      | succ n => exact .tup a1 a2 a3 (hash_keys ks _ n s a4)
theorem hash_keys : ∀ (ks : List NestedKey) (vs : List Value) (n : Nat) (s : Shared), NestedAll s.heap ks vs → ∀ v ∈ vs, AnyHash P w n s v
  | [], _, n, s, x, v, m => by cases x; exact nomatch m
  | k :: ks, _, n, s, x, v, m => by
    cases x with
    | cons x1 x2 => exact (List.mem_cons.mp m).elim (fun e => e ▸ hash_key k _ n s x1) (hash_keys ks _ n s x2 v)
end
mutual
theorem class_key : ∀ (k : NestedKey) (v : Value) (n : Nat) (s : Shared), NestedIs s.heap k v → k.depth ≤ n → NoClass P w n s v
  | .none, _, n, s, x, _ => by cases x; cases n <;> exact .of_eq rfl
  | .num i, _, n, s, x, _ => by cases x <;> cases n <;> exact .of_eq rfl
  | .text y, _, n, s, x, _ => by cases x; cases n <;> exact .of_eq rfl
  | .tup ks, _, n, s, x, d => by
    cases x with
    | tup a1 a2 a3 a4 =>
      rw [NestedKey.depth] at d
      cases n with
      | zero => exact absurd d (Nat.not_succ_le_zero _)
      | succ n => exact .tup a1 a2 a3 (class_keys ks _ n s a4 (Nat.le_of_succ_le_succ d))
theorem class_keys : ∀ (ks : List NestedKey) (vs : List Value) (n : Nat) (s : Shared), NestedAll s.heap ks vs → NestedKey.depthAll ks ≤ n → ∀ v ∈ vs, NoClass P w n s v
  | [], _, n, s, x, _, v, m => by cases x; exact nomatch m
  | k :: ks, _, n, s, x, d, v, m => by
    cases x with
    | cons x1 x2 =>
      rw [NestedKey.depthAll] at d
      exact (List.mem_cons.mp m).elim (fun e => e ▸ class_key k _ n s x1 (by omega)) (class_keys ks _ n s x2 (by omega) v)
end
/-- what a set may hold here: the tuple at a is the key k, at most eight deep -/
structure Nk (h : Heap) (k : NestedKey) (a : Addr) : Prop where
  is : NestedIs h k (.ref a)
  dp : k.depth ≤ 8
theorem Nk.inj {h : Heap} {x y : NestedKey} {a : Addr} (p : Nk h x a) (q : Nk h y a) : x = y := NestedIs.inj x y _ p.is q.is
theorem Nk.keep {h h' : Heap} {k : NestedKey} {a : Addr} (p : Nk h k a) (f : ∀ b o, h.get? b = some o → h'.get? b = some o) : Nk h' k a := ⟨NestedIs.at (fun b o _ _ e _ => f b o e) k _ p.is, p.dp⟩
theorem Nk.but {h h' : Heap} {k : NestedKey} {a b : Addr} {o : Obj} {es : Array (Int × Value)} {ep : Nat} {t : SetTable} (p : Nk h k b) (ho : h.get? a = some o) (hd : o.data = .set es ep t) (sb : Heap.SameBut a h h') : Nk h' k b := by
  refine ⟨NestedIs.at (fun c oc vs n e ec => (sb.2 c fun z => ?_).trans e) k _ p.is, p.dp⟩
  subst z
  rw [ho] at e
  cases e
  rw [hd] at ec
  cases ec
variable {A : Around} {E : Value → Shared → Prop} {s : Shared}
/-- a search among keys shows nothing -/
theorem hidden {k : NestedKey} {a : Addr} {Q : Bool → Shared → Prop} (x : Nk s.heap k a) {ys : List Value} (hy : ∀ y ∈ ys, ∃ j b, y = Value.ref b ∧ Nk s.heap j b) (q : Q false s) : wpAny (model P w) A (searchCouldBeSeen (.ref a) ys) Q E s := by
  rw [searchCouldBeSeen]
  refine wpAny_bind (wpAny_forIn_list _ (fun l r s1 => s1 = s ∧ r.1 = none ∧ ∀ y ∈ l, ∃ j b, y = Value.ref b ∧ Nk s.heap j b) _ (fun v l r s1 i => ?_) (fun r s1 i => ?_) _ _ ⟨rfl, rfl, hy⟩)
  · obtain ⟨rfl, e, al⟩ := i
    obtain ⟨j, b, rfl, xb⟩ := al v List.mem_cons_self
    have nx : s1 = s1 ∧ (none : Option Bool) = none ∧ ∀ y ∈ l, ∃ j b, y = Value.ref b ∧ Nk s1.heap j b := ⟨rfl, rfl, fun u hu => al u (List.mem_cons_of_mem _ hu)⟩
    by_cases c : (a == b || (carriedByValue (.ref a) && carriedByValue (.ref b))) = true
    · exact wp_if_pos c (wpAny_pure nx)
    · refine wp_if_neg c (wpAny_bind (quiet_key k _ 8 s1 x.is x.dp _ _ _ ?_))
      refine wpAny_bind (quiet_key j _ 8 s1 xb.is xb.dp _ _ _ ?_)
      refine wpAny_bind (class_key k _ 8 s1 x.is x.dp _ _ _ ?_)
      refine wpAny_bind (class_key j _ 8 s1 xb.is xb.dp _ _ _ ?_)
      exact wpAny_pure nx
  · obtain ⟨r1, r2⟩ := r
    obtain ⟨rfl, e, _⟩ := i
    cases e
    exact wpAny_pure q
end
end NS
/-! Sets of nested keys: the set at an address, looking for a key in it, putting one in. -/
namespace NS
open PySem PySem.Spec PyProof.Rows L2
abbrev Row := Addr × NestedKey
/-- what the set keeps of its rows -/
def kept (w : World) (L : List Row) : List (Int × Value) := L.map fun p => (p.2.hash w, Value.ref p.1)
theorem kept_len {w : World} {L : List Row} : (kept w L).length = L.length := List.length_map _
theorem kept_get {w : World} {L : List Row} {i : Nat} {p : Row} (e : L[i]? = some p) : (kept w L)[i]? = some (p.2.hash w, Value.ref p.1) := by
  rw [kept, List.getElem?_map, e]
  rfl
/-- the keys of the rows -/
abbrev keysOf (L : List Row) : List NestedKey := L.map Prod.snd
abbrev hashesOf (w : World) (L : List Row) : List Int := L.map fun p => p.2.hash w
structure NSet (P : Program) (w : World) (h : Heap) (a : Addr) (L : List Row) (es : Array (Int × Value)) (ep : Nat) (t : SetTable) : Prop where
  here : ∃ o, h.get? a = some o ∧ o.ExactSet ∧ o.data = .set es ep t
  es : es.toList = kept w L
  tab : TabOk t (hashesOf w L)
  once : (keysOf L).Nodup
  keys : ∀ p ∈ L, Nk h p.2 p.1
  led : w.params.followText "set-order" = true ∨ t.led = true
  space : L.length * 5 < t.mask * 3
  few : L.length < 64
/-- the c-th stand of the search for the hash g -/
abbrev stand (t : SetTable) (g : Int) (c : Nat) : SetTable.Probe := nth t.mask (runAt t.mask (SetTable.bits g % (t.mask + 1)) (SetTable.bits g)) c
theorem stand_on (t : SetTable) (g : Int) (c q : Nat) : nth t.mask (stand t g c) q = stand t g (c + q) := (nth_add t.mask c _ q).symm
theorem adv_dummy {m : Nat} {p : SetTable.Probe} (e : p.dummy = none) : (adv m p).dummy = none := by
  unfold adv
  split
  · exact e
  · exact e
theorem nth_dummy {m : Nat} : ∀ (n : Nat) {p : SetTable.Probe}, p.dummy = none → (nth m p n).dummy = none
  | 0, _, e => e
  | n + 1, _, e => nth_dummy n (adv_dummy e)
theorem stand_dummy (t : SetTable) (g : Int) (c : Nat) : (stand t g c).dummy = none := nth_dummy c rfl
section
variable {P : Program} {w : World} {A : Around} {E : Value → Shared → Prop} {s : Shared} {a : Addr} {L : List Row} {es : Array (Int × Value)} {ep : Nat} {t : SetTable}
theorem NSet.size (R : NSet P w s.heap a L es ep t) : es.size = L.length := by
  rw [← Array.length_toList, R.es, kept_len]
theorem NSet.places (R : NSet P w s.heap a L es ep t) : t.place.size = L.length := R.tab.sz.trans (List.length_map _)
theorem NSet.fits (R : NSet P w s.heap a L es ep t) : t.fits es.size = true := by
  have n1 := R.places
  have n2 := R.size
  have n3 := R.space
  have n4 : t.fill = L.length := by
    show t.place.size + t.dummies.size = L.length
    rw [R.tab.dm, n1]
    rfl
  rw [SetTable.fits, n4, n1, n2, beq_self_eq_true, Bool.true_and, decide_eq_true_eq]
  omega
theorem NSet.at (R : NSet P w s.heap a L es ep t) {i : Nat} {p : Row} (e : L[i]? = some p) : es[i]? = some (p.2.hash w, Value.ref p.1) := by
  rw [← Array.getElem?_toList, R.es, kept_get e]
theorem NSet.keptHash (R : NSet P w s.heap a L es ep t) {i : Nat} {p : Row} (e : L[i]? = some p) : (es[i]?.map (·.1)).getD 0 = p.2.hash w := by
  rw [R.at e]
  rfl
theorem NSet.still (R : NSet P w s.heap a L es ep t) : ¬ t.gaveWay = true := by
  rw [SetTable.gaveWay, mask_odd R.tab.mok]
  decide
/-- the search for k, from its c-th stand on; N is the first stand at an empty slot -/
theorem look (R : NSet P w s.heap a L es ep t) {x : Addr} {k : NestedKey} (hx : Nk s.heap k x) (hu : A.units + 8 < cLine) {N : Nat} (bound : N < 10 * SetTable.turns t.mask)
    (free : way t.mask (k.hash w) N ∉ t.place.toList) (full : ∀ c, c < N → way t.mask (k.hash w) c ∈ t.place.toList) {Q : SetFound → Shared → Prop}
    (yes : k ∈ keysOf L → Q (.there none) s) (no : k ∉ keysOf L → Q (.free (way t.mask (k.hash w) N) false) s) (fuel : Nat) :
    ∀ (c : Nat) (from? : Option SetTable.Probe), from?.getD (t.probeStart (k.hash w)) = stand t (k.hash w) c → c ≤ N → N < fuel + c →
      (∀ (i : Nat) (p : Row), L[i]? = some p → p.2 = k → ∃ d, c ≤ d ∧ d < N ∧ t.place.toList[i]? = some (way t.mask (k.hash w) d)) →
      wpAny (model P w) A (setSearchFrom a (.ref x) (k.hash w) true fuel from?) Q E s := by
  induction fuel with
  | zero => intro c _ _ h1 h2; omega
  | succ fuel ih =>
    intro c from? hfrom hc hfuel ahead
    obtain ⟨o, ho, hex, hd⟩ := R.here
    generalize hg : k.hash w = g at *
    have onj : ∀ q, (nth t.mask (stand t g c) q).j = way t.mask g (c + q) := fun q => congrArg SetTable.Probe.j (stand_on t g c q)
    have eN : c + (N - c) = N := by omega
    have found := go_spec t R.tab.ris R.tab.dm (fun i => (es[i]?.map (·.1)).getD 0) g (10 * SetTable.turns t.mask) (N - c) (stand t g c) (stand_dummy t g c) (by omega)
      (fun q hq => by rw [onj]; exact full _ (by omega)) (by rw [onj, eN]; exact free)
    rw [setSearchFrom_succ]
    refine wpAny_bind (wpAny_setState_of ho hd R.fits (wp_if_neg R.still ?_))
    try refine wpAny_bind (wpAny_pure ?_)
    rcases found with ⟨q, i, hq, hi, hh, early, ans⟩ | ⟨none, ans⟩
    · -- an entry of the same hash
      have ans2 : t.probe (fun i => (es[i]?.map (·.1)).getD 0) g (from?.getD (t.probeStart g)) = some (.candidate (way t.mask g (c + q)) i (stand t g (c + (q + 1)))) := by
        rw [hfrom, ← onj, ← stand_on]
        exact ans
      rw [onj] at hi
      have hil : i < L.length := by
        have z := (List.getElem?_eq_some_iff.mp hi).1
        rw [Array.length_toList, R.places] at z
        exact z
      obtain ⟨p, hp⟩ : ∃ p, L[i]? = some p := ⟨_, List.getElem?_eq_getElem hil⟩
      have mp : p ∈ L := List.mem_of_getElem? hp
      have here : t.slot (way t.mask g (c + q)) = .live i := slot_live R.tab.ris hi
      have go : wpAny (model P w) A (searchRest a (.ref x) g true fuel es t (way t.mask g (c + q)) i (stand t g (c + (q + 1)))) Q E s := by
        rw [searchRest, R.at hp]
        refine wpAny_bind (wpAny_holding (eqAt_key p.2 k A s _ _ (R.keys p mp).is hx.is (by have := hx.dp; omega) _ _ _ _ ?_))
        refine wpAny_bind (wpAny_setState_of ho hd R.fits ?_)
        by_cases same : p.2 = k
        · have eb : NestedKey.beq p.2 k = true := by rw [same]; exact NestedKey.beq_self k
          rw [eb]
          exact wpAny_pure (yes (List.mem_map.mpr ⟨p, mp, same⟩))
        · have eb : NestedKey.beq p.2 k = false := by rw [← NestedKey.decide_eq]; exact decide_eq_false same
          rw [eb]
          simp only [Bool.and_false, Bool.false_eq_true, if_false]
          try refine wpAny_bind (wpAny_pure ?_)
          rw [sameMem]
          simp only [if_true, here, R.at hp]
          refine wpAny_bind (wpAny_isSame_ref_self (wpAny_bind (wpAny_pure ?_)))
          simp only [if_true, Bool.false_eq_true, if_false]
          refine ih (c + (q + 1)) _ rfl (by omega) (by omega) fun i2 p2 h2 e2 => ?_
          obtain ⟨d, d1, d2, d3⟩ := ahead i2 p2 h2 e2
          refine ⟨d, ?_, d2, d3⟩
          rcases Nat.lt_trichotomy d (c + q) with z | z | z
          · refine absurd ((R.keptHash h2).trans (by rw [e2]; exact hg)) (early (d - c) i2 (by omega) ?_)
            rw [onj, show c + (d - c) = d by omega]
            exact d3
          · rw [z] at d3
            have l2 := slot_live R.tab.ris d3
            rw [here] at l2
            injection l2 with l2
            rw [← l2, hp] at h2
            cases h2
            exact absurd e2 same
          · omega
      rw [ans2]
      by_cases hl : t.led = true
      · refine wp_if_neg (by rw [hl]; decide) ?_
        try refine wpAny_bind (wpAny_pure ?_)
        exact go
      · refine wp_if_pos (by cases z : t.led with | true => exact absurd z hl | false => rfl) ?_
        refine wpAny_bind (hidden hx (fun y hy => ?_) ?_)
        · obtain ⟨e, he, ee⟩ := List.mem_map.mp hy
          have he1 : e ∈ es.toList := by
            have z : e ∈ es ∧ e.1 = g := by simpa using he
            simpa using z.1
          rw [R.es] at he1
          obtain ⟨p2, m2, e2⟩ := List.mem_map.mp he1
          exact ⟨p2.2, p2.1, by rw [← ee, ← e2], R.keys p2 m2⟩
        · simp only [Bool.false_eq_true, if_false]
          try refine wpAny_bind (wpAny_pure ?_)
          exact go
    · -- the empty slot
      have ans2 : t.probe (fun i => (es[i]?.map (·.1)).getD 0) g (from?.getD (t.probeStart g)) = some (.empty (way t.mask g N) Option.none) := by
        rw [hfrom, show way t.mask g N = (nth t.mask (stand t g c) (N - c)).j by rw [onj, eN]]
        exact ans
      rw [ans2]
      refine wpAny_pure (no fun m => ?_)
      obtain ⟨p, mp, e⟩ := List.mem_map.mp m
      obtain ⟨i, hi, ei⟩ := List.getElem_of_mem mp
      have hp : L[i]? = some p := by rw [List.getElem?_eq_getElem hi, ei]
      obtain ⟨d, d1, d2, d3⟩ := ahead i p hp e
      refine none (d - c) i (by omega) ?_ ((R.keptHash hp).trans (by rw [e]; exact hg))
      rw [onj, show c + (d - c) = d by omega]
      exact d3
theorem lookup (R : NSet P w s.heap a L es ep t) {x : Addr} {k : NestedKey} (hx : Nk s.heap k x) (hu : A.units + 8 < cLine) {Q : SetFound → Shared → Prop} (yes : k ∈ keysOf L → Q (.there none) s)
    (no : ∀ N, k ∉ keysOf L → way t.mask (k.hash w) N ∉ t.place.toList → (∀ c, c < N → way t.mask (k.hash w) c ∈ t.place.toList) → Q (.free (way t.mask (k.hash w) N) false) s) :
    wpAny (model P w) A (setSearch a (.ref x) (k.hash w) true) Q E s := by
  have sp := R.space
  obtain ⟨N, n1, n2, n3⟩ := R.tab.first (by rw [List.length_map]; omega) (k.hash w)
  have small : N < 100000 := by
    have z : 10 * SetTable.turns t.mask ≤ 1420 := by
      unfold SetTable.turns
      rcases R.tab.mok with e | e | e <;> omega
    omega
  refine look R hx hu n1 n2 n3 yes (fun m => no N m n2 n3) 100000 0 none rfl (Nat.zero_le _) (by omega) fun i p hp e => ?_
  have hi : (hashesOf w L)[i]? = some (k.hash w) := by
    rw [List.getElem?_map, hp, ← e]
    rfl
  have il : i < t.place.toList.length := by
    rw [Array.length_toList, R.places]
    exact (List.getElem?_eq_some_iff.mp hp).1
  obtain ⟨d, d1, d2⟩ := R.tab.before n2 hi (List.getElem?_eq_getElem il)
  exact ⟨d, Nat.zero_le _, d1, by rw [List.getElem?_eq_getElem il, d2]⟩
end
end NS
/-! Sets of nested keys: laying the table anew, adding. -/
namespace NS
open PySem PySem.Spec PyProof.Rows L2
theorem range_get {α : Type} : ∀ l : List α, (List.range l.length).filterMap (fun i => l[i]?) = l
  | [] => rfl
  | x :: l => by
    rw [List.length_cons, List.range_succ_eq_map, List.filterMap_cons, List.filterMap_map]
    have e : (List.range l.length).filterMap ((fun i => (x :: l)[i]?) ∘ Nat.succ) = (List.range l.length).filterMap fun i => l[i]? := by
      congr 1
    rw [e, range_get l]
    rfl
section
variable {P : Program} {w : World}
theorem reordered {L : List Row} {es : Array (Int × Value)} {order : Array Nat} (he : es.toList = kept w L) (hp : order.toList.Perm (List.range L.length)) :
    ∃ L2, (order.filterMap (es[·]?)).toList = kept w L2 ∧ L2.Perm L ∧ hashesOf w L2 = order.toList.map fun i => (es.map (·.1)).getD i 0 := by
  have at' : ∀ i, es[i]? = (L[i]?).map fun p : Row => (p.2.hash w, Value.ref p.1) := fun i => by
    rw [← Array.getElem?_toList, he, kept, List.getElem?_map]
  refine ⟨order.toList.filterMap fun i => L[i]?, ?_, ?_, ?_⟩
  · rw [kept, List.map_filterMap]
    have e : (fun i => es[i]?) = fun i => (L[i]?).map fun p : Row => (p.2.hash w, Value.ref p.1) := funext at'
    rw [e]
    simp
  · have z := hp.filterMap fun i => L[i]?
    rw [range_get] at z
    exact z
  · show List.map _ _ = _
    rw [List.map_filterMap]
    have e : ∀ i ∈ order.toList, ((L[i]?).map fun p => p.2.hash w) = some ((es.map (·.1)).getD i 0) := fun i hi => by
      have il : i < L.length := List.mem_range.mp (hp.mem_iff.mp hi)
      have q : (es.map (·.1))[i]? = some (L[i].2.hash w) := by
        rw [Array.getElem?_map, at', List.getElem?_eq_getElem il]
        rfl
      rw [List.getElem?_eq_getElem il, Array.getD_eq_getD_getElem?, q]
      rfl
    have go : ∀ l : List Nat, (∀ i ∈ l, ((L[i]?).map fun p => p.2.hash w) = some ((es.map (·.1)).getD i 0)) → l.filterMap (fun i => (L[i]?).map fun p => p.2.hash w) = l.map fun i => (es.map (·.1)).getD i 0 := by
      intro l
      induction l with
      | nil => intro _; rfl
      | cons i l ih => intro h; rw [List.filterMap_cons, h i List.mem_cons_self, List.map_cons, ← ih fun j hj => h j (List.mem_cons_of_mem _ hj)]
    exact go _ e
variable {A : Around} {E : Value → Shared → Prop} {s : Shared} {a : Addr} {L : List Row} {es : Array (Int × Value)} {ep : Nat} {t : SetTable}
/-- what stands at a while its table is too full: as NSet, but for the space -/
structure Tight (P : Program) (w : World) (h : Heap) (a : Addr) (L : List Row) (es : Array (Int × Value)) (ep : Nat) (t : SetTable) : Prop where
  here : ∃ o, h.get? a = some o ∧ o.ExactSet ∧ o.data = .set es ep t
  es : es.toList = kept w L
  tab : TabOk t (hashesOf w L)
  once : (keysOf L).Nodup
  keys : ∀ p ∈ L, Nk h p.2 p.1
  led : w.params.followText "set-order" = true ∨ t.led = true
  few : L.length < 64
  in' : L.length ≤ t.mask
theorem relay (R : Tight P w s.heap a L es ep t) {wanted M : Nat} (e1 : SetTable.sizeAbove wanted - 1 = M) (e2 : MaskOk M) (e3 : SetTable.sizeAbove wanted ≤ 128) (e4 : L.length * 5 < M * 3) {Q : Unit → Shared → Prop}
    (q : ∀ h1 L1 es1 ep1 t1, Heap.SameBut a s.heap h1 → NSet P w h1 a L1 es1 ep1 t1 → L1.Perm L → Q () { s with heap := h1 }) : wpAny (model P w) A (setRelay a wanted) Q E s := by
  obtain ⟨o, ho, hex, hd⟩ := R.here
  have sz : es.size = L.length := by rw [← Array.length_toList, R.es, kept_len]
  have pl : t.place.size = L.length := R.tab.sz.trans (List.length_map _)
  have fit : t.fits es.size = true := by
    have fl : t.fill = L.length := by
      show t.place.size + t.dummies.size = L.length
      rw [R.tab.dm, pl]
      rfl
    rw [SetTable.fits, fl, pl, sz, beq_self_eq_true, Bool.true_and, decide_eq_true_eq]
    exact R.in'
  obtain ⟨t1, order, r1, r2, r3, r4, r5, _, r7⟩ := relaid_ok t (hs := es.map (·.1)) (wanted := wanted) e1 e2 (by rw [Array.size_map, sz]; omega)
  rw [Array.size_map, sz] at r2
  obtain ⟨L1, m1, m2, m3⟩ := reordered R.es r2
  rw [← m3] at r3
  have sz1 : (order.filterMap (es[·]?)).size = es.size := by rw [← Array.length_toList, m1, kept_len, m2.length_eq, sz]
  rw [setRelay_eq]
  refine wpAny_bind (wpAny_setState_of ho hd fit (wp_if_neg (by rw [sizeLine_eq]; omega) ?_))
  try refine wpAny_bind (wpAny_pure ?_)
  rw [r1]
  refine wpAny_bind (wp_if_neg (by rw [sz1]; simp) ?_)
  try refine wpAny_bind (wpAny_pure ?_)
  refine wpAny_pure (wpAny_storeSet_of ho hd ?_ (by rw [sz1, sz, sizeLine_eq]; have := R.few; omega))
  have sb : Heap.SameBut a s.heap (s.heap.update a (Obj.putSet (order.filterMap (es[·]?)) t1)) := Heap.SameBut.update ..
  refine q _ L1 _ (ep + 1) t1 sb ⟨⟨_, store_at ho hd, ⟨hex.1, hex.2.1, hex.2.2⟩, rfl⟩, m1, r3, ?_, fun p mp => (R.keys p (m2.mem_iff.mp mp)).but ho hd sb, ?_, ?_, ?_⟩ m2
  · exact (m2.map Prod.snd).nodup_iff.mpr R.once
  · rw [r5]; exact R.led
  · rw [m2.length_eq, r4]; exact e4
  · rw [m2.length_eq]; exact R.few
/-- one more row -/
theorem put_in (R : NSet P w s.heap a L es ep t) {x : Addr} {k : NestedKey} (hx : Nk s.heap k x) (hu : A.units + 8 < cLine) (few : L.length + 1 < 64) {Q : Bool → Shared → Prop}
    (q : ∀ b h1 L1 es1 ep1 t1, Heap.SameBut a s.heap h1 → NSet P w h1 a L1 es1 ep1 t1 → (k ∈ keysOf L → L1 = L) → (k ∉ keysOf L → L1.Perm ((x, k) :: L)) → Q b { s with heap := h1 }) :
    wpAny (model P w) A (setAddHashed a (.ref x) (k.hash w)) Q E s := by
  obtain ⟨o, ho, hex, hd⟩ := R.here
  have sz := R.size
  have sp := R.space
  rw [setAddHashed]
  refine wpAny_holding ?_
  rw [show (100000 : Nat) = 99999 + 1 from rfl, setAddHashedIn_succ]
  refine wpAny_bind (wpAny_setState_of ho hd R.fits (wp_if_neg (by simp [byScan, Value.scannable]) ?_))
  try refine wpAny_bind (wpAny_pure ?_)
  refine wpAny_bind (lookup R hx hu (fun m => ?_) fun N m n1 n2 => ?_)
  · exact wpAny_pure (q false s.heap L es ep t (Heap.SameBut.refl a s.heap) R (fun _ => rfl) fun z => absurd m z)
  · refine wpAny_bind (wpAny_setState_of ho hd R.fits ?_)
    obtain ⟨q1, q2, q3, q4, q5, q6, q7, q8, q9⟩ := R.tab.put n1 n2
    dsimp only
    generalize way t.mask (k.hash w) N = j at q1 q2 q3 q4 q5 q6 q7 q8 q9 ⊢
    generalize hpt : t.put j = pt at q1 q3 q4 q5 q6 q7 q8 q9 ⊢
    obtain ⟨t1, at1⟩ := pt
    dsimp only at q1 q3 q4 q5 q6 q7 q8 q9 ⊢
    subst q1
    generalize hb : SetTable.below t.place j = b at q2 q3 ⊢
    have rows1 : (SetTable.insertAt es b (k.hash w, Value.ref x)).toList = kept w (L.take b ++ (x, k) :: L.drop b) := by
      rw [SetTable.toList_insertAt, R.es, kept, kept, List.map_append, List.map_cons, List.map_take, List.map_drop]
    have hash1 : (hashesOf w L).take b ++ k.hash w :: (hashesOf w L).drop b = hashesOf w (L.take b ++ (x, k) :: L.drop b) := by
      rw [hashesOf, hashesOf, List.map_append, List.map_cons, List.map_take, List.map_drop]
    rw [hash1] at q3
    have pm := put_perm L b (x, k)
    generalize L.take b ++ (x, k) :: L.drop b = L1 at pm rows1 q3
    have n1 : L1.length = L.length + 1 := pm.length_eq
    have once1 : (keysOf L1).Nodup := (pm.map Prod.snd).nodup_iff.mpr (by rw [List.map_cons]; exact List.nodup_cons.mpr ⟨m, R.once⟩)
    generalize SetTable.insertAt es b (k.hash w, Value.ref x) = es1 at rows1 ⊢
    have sz1 : es1.size = L.length + 1 := by rw [← Array.length_toList, rows1, kept_len, n1]
    -- the rest, whatever the flag says
    have rest : ∀ t2 : SetTable, t2.place = t1.place → t2.dummies = t1.dummies → t2.mask = t1.mask → t2.led = t1.led →
        wpAny (model P w) A (storeSet a es1 t2 >>= fun _ => if (!false && t2.tooFull) = true then (setRelay a (SetTable.grown (es.size + 1)) >>= fun _ => pure true) else pure true) Q E s := by
      intro t2 p1 p2 p3 p4
      have tab2 : TabOk t2 (hashesOf w L1) := ⟨by rw [p1]; exact q3.ris, by rw [p2]; exact q3.dm, by rw [p1]; exact q3.sz, by rw [p3]; exact q3.mok, by rw [p1, p3]; exact q3.bd, by rw [p1, p3]; exact q3.reach⟩
      have fill2 : t2.fill = L.length + 1 := by
        show t2.place.size + t2.dummies.size = L.length + 1
        rw [p1, p2]
        have z : t1.place.size + t1.dummies.size = (hashesOf w L).length + 1 := q9
        rw [z, List.length_map]
      have led2 : w.params.followText "set-order" = true ∨ t2.led = true := by rw [p4, q5]; exact R.led
      refine wpAny_bind (wpAny_storeSet_of ho hd ?_ (by rw [sz1, sizeLine_eq]; omega))
      have sb : Heap.SameBut a s.heap (s.heap.update a (Obj.putSet es1 t2)) := Heap.SameBut.update ..
      have ho1 := store_at (es' := es1) (t' := t2) ho hd
      generalize s.heap.update a (Obj.putSet es1 t2) = h1 at sb ho1 ⊢
      have keys1 : ∀ p ∈ L1, Nk h1 p.2 p.1 := fun p mp => by
        rcases List.mem_cons.mp (pm.mem_iff.mp mp) with e | mp
        · rw [e]; exact hx.but ho hd sb
        · exact (R.keys p mp).but ho hd sb
      have here1 : ∃ o, h1.get? a = some o ∧ o.ExactSet ∧ o.data = .set es1 (ep + 1) t2 := ⟨_, ho1, ⟨hex.1, hex.2.1, hex.2.2⟩, rfl⟩
      by_cases hf : t2.tooFull = true
      · have z := hf
        rw [SetTable.tooFull, decide_eq_true_eq, fill2, p3, q4] at z
        have two : (t.mask = 7 ∧ L.length = 4) ∨ (t.mask = 31 ∧ L.length = 18) := by
          rcases R.tab.mok with e | e | e
          · left; rw [e] at z sp; exact ⟨e, by omega⟩
          · right; rw [e] at z sp; exact ⟨e, by omega⟩
          · exfalso; rw [e] at z; omega
        have tg : Tight P w h1 a L1 es1 (ep + 1) t2 := ⟨here1, rows1, tab2, once1, keys1, led2, by rw [n1]; exact few, by rw [n1, p3, q4]; rcases two with ⟨e, e'⟩ | ⟨e, e'⟩ <;> omega⟩
        have go : ∀ M, SetTable.sizeAbove (SetTable.grown (es.size + 1)) - 1 = M → MaskOk M → SetTable.sizeAbove (SetTable.grown (es.size + 1)) ≤ 128 → (L.length + 1) * 5 < M * 3 →
            wpAny (model P w) A (setRelay a (SetTable.grown (es.size + 1))) (fun _ s1 => wpAny (model P w) A (pure true) Q E s1) E { s with heap := h1 } := fun M g1 g2 g3 g4 =>
          relay (s := { s with heap := h1 }) tg g1 g2 g3 (by rw [n1]; exact g4) fun h2 L2 es2 ep2 t3 sb2 R2 pm2 => wpAny_pure (q true h2 L2 es2 ep2 t3 (sb.trans sb2) R2 (fun z => absurd z m) fun _ => pm2.trans pm)
        refine wp_if_pos (by rw [hf]; rfl) (wpAny_bind ?_)
        rcases two with ⟨_, e⟩ | ⟨_, e⟩
        · exact go 31 (by rw [sz, e, size_20]) (.inr (.inl rfl)) (by rw [sz, e, size_20]; decide) (by omega)
        · exact go 127 (by rw [sz, e, size_76]) (.inr (.inr rfl)) (by rw [sz, e, size_76]; decide) (by omega)
      · have fin : Q true { s with heap := h1 } := by
          refine q true h1 L1 es1 (ep + 1) t2 sb ⟨here1, rows1, tab2, once1, keys1, led2, ?_, by rw [n1]; exact few⟩ (fun z => absurd z m) fun _ => pm
          have z := hf
          rw [SetTable.tooFull, decide_eq_true_eq, fill2] at z
          rw [n1]
          omega
        exact wp_if_neg (by cases y : t2.tooFull with | true => exact absurd y hf | false => decide) (wpAny_pure fin)
    by_cases hp : t1.plain = true
    · refine wp_if_pos hp (wpAny_bind (hash_key k _ 8 s hx.is _ _ _ fun b => ?_))
      cases b
      · exact rest { t1 with plain := false } rfl rfl rfl rfl
      · exact rest t1 rfl rfl rfl rfl
    · exact wp_if_neg hp (wpAny_bind (wpAny_pure (rest t1 rfl rfl rfl rfl)))
end
end NS
/-! Sets of nested keys: set(xs). -/
namespace NS
open PySem PySem.Spec PyProof.Rows L2
/-- L is what a set has got of the rows -/
structure Has (rows L : List Row) : Prop where
  sub : ∀ p ∈ L, p ∈ rows
  all : ∀ p ∈ rows, p.2 ∈ keysOf L
  len : L.length ≤ rows.length
theorem Has.nil : Has [] [] := ⟨fun _ m => (nomatch m), fun _ m => (nomatch m), Nat.le_refl _⟩
theorem Has.same {rows L : List Row} {x : Row} (g : Has rows L) (m : x.2 ∈ keysOf L) : Has (rows ++ [x]) L := by
  refine ⟨fun p mp => List.mem_append_left _ (g.sub p mp), fun p mp => ?_, ?_⟩
  · rcases List.mem_append.mp mp with z | z
    · exact g.all p z
    · rw [List.mem_singleton.mp z]; exact m
  · rw [List.length_append]; exact Nat.le_trans g.len (Nat.le_add_right _ _)
theorem Has.more {rows L L1 : List Row} {x : Row} (g : Has rows L) (pm : L1.Perm (x :: L)) : Has (rows ++ [x]) L1 := by
  refine ⟨fun p mp => ?_, fun p mp => ?_, ?_⟩
  · rcases List.mem_cons.mp (pm.mem_iff.mp mp) with z | z
    · rw [z]; exact List.mem_append_right _ (List.mem_singleton.mpr rfl)
    · exact List.mem_append_left _ (g.sub p z)
  · rw [(pm.map Prod.snd).mem_iff, List.map_cons]
    rcases List.mem_append.mp mp with z | z
    · exact List.mem_cons_of_mem _ (g.all p z)
    · rw [List.mem_singleton.mp z]; exact List.mem_cons_self
  · rw [pm.length_eq, List.length_cons, List.length_append]
    exact Nat.succ_le_succ g.len
section
variable {P : Program} {w : World} {A : Around} {E : Value → Shared → Prop} {s : Shared}
theorem NSet.carry {h h' : Heap} {a : Addr} {L : List Row} {es : Array (Int × Value)} {ep : Nat} {t : SetTable} (R : NSet P w h a L es ep t) (f : ∀ o, h.get? a = some o → h'.get? a = some o) (g : ∀ p ∈ L, Nk h' p.2 p.1) : NSet P w h' a L es ep t :=
  let ⟨o, ho, r⟩ := R.here
  ⟨⟨o, f o ho, r⟩, R.es, R.tab, R.once, g, R.led, R.space, R.few⟩
abbrev bare (w : World) : SetTable := .fresh 0 0 (!w.params.followText "set-order")
theorem NSet.new {h : Heap} {a : Addr} (ho : h.get? a = some { cls := .type "set", dict := none, data := .set #[] 0 (bare w) }) : NSet P w h a [] #[] 0 (bare w) := by
  refine ⟨⟨_, ho, ⟨rfl, rfl, rfl⟩, rfl⟩, rfl, ⟨List.Pairwise.nil, rfl, rfl, .inl rfl, fun _ m => (nomatch m), fun i g j e => (nomatch e)⟩, List.nodup_nil, fun _ m => (nomatch m), ?_, (by show 0 * 5 < 7 * 3; decide), (by show 0 < 64; decide)⟩
  cases e : w.params.followText "set-order" with
  | true => exact .inl rfl
  | false => exact .inr (show (!w.params.followText "set-order") = true by rw [e]; rfl)
/-- set.update's loop over rows -/
theorem fill {I S : Addr} {fp wr : List Addr} {G : Array GenState → Array GenState → Prop} {n : Nat} {Pv : Nat → Value → Prop} {St : Nat → Shared → Prop} {R : Result → Shared → Prop} {rows : List Row} {h0 : Heap}
    (W : WalksS P w A.in1 I fp wr G n Pv St) (nS : S ∉ fp) (hn : n = rows.length) (few : rows.length < 64) (val : ∀ i v, Pv i v → ∃ p, rows[i]? = some p ∧ v = .ref p.1)
    (ks : ∀ p ∈ rows, Nk h0 p.2 p.1) (new : h0.get? S = none) (newW : ∀ b ∈ wr, h0.get? b = none) (hu : A.units + 9 < cLine) (rest : List Row) :
    ∀ (done : List Row) (s : Shared), rows = done ++ rest → St done.length s → (∀ b o, h0.get? b = some o → s.heap.get? b = some o) → (∃ L es ep t, NSet P w s.heap S L es ep t ∧ Has done L) →
      (∀ s1 L es ep t, Moved (S :: wr) G s s1 → NSet P w s1.heap S L es ep t → Has rows L → (∀ b o, h0.get? b = some o → s1.heap.get? b = some o) → R (.ok (.ret .none)) s1) →
      codeAny (model P w) A (.builtin "set.update.loop" ⟨[.ref S, .ref I], []⟩) R s := by
  have u1 : A.in1.units + 8 < cLine := by rw [Around.in1_units]; omega
  have up : ∀ b ∈ wr, b ∈ S :: wr := fun b m => List.mem_cons_of_mem _ m
  have nSw : S ∉ wr := fun m => nS (W.sub _ m)
  have on : ∀ {s s1 : Shared}, Moved wr G s s1 → (∀ b o, h0.get? b = some o → s.heap.get? b = some o) → ∀ b o, h0.get? b = some o → s1.heap.get? b = some o := fun {s s1} m k b o e =>
    m.heap b o (fun z => by rw [newW b z] at e; exact nomatch e) (k b o e)
  induction rest with
  | nil =>
    intro done s er st k0 hs fin
    obtain ⟨L, es, ep, t, R0, g⟩ := hs
    rw [List.append_nil] at er
    subst er
    rw [← hn] at st
    refine codeAny_builtin F.entry_set_update_loop ?_
    rw [Around.under_plainId F.plain_set_update_loop _]
    refine (show wpAny _ A.in1 (pyNext (.ref I) >>= _) _ _ s from wpAny_bind (W.done s _ _ st fun s1 m => ?_))
    have k1 := on m k0
    exact (show wpAny _ A.in1 (ret Value.none) _ _ s1 from wpAny_pure (fin s1 L es ep t (m.mono up) (R0.carry (fun o e => m.heap S o nSw e) fun p mp => (ks p (g.sub p mp)).keep k1) g k1))
  | cons x rest ih =>
    intro done s er st k0 hs fin
    obtain ⟨L, es, ep, t, R0, g⟩ := hs
    have il : done.length < n := by rw [hn, er, List.length_append, List.length_cons]; omega
    have xe : rows[done.length]? = some x := by rw [er, List.getElem?_append_right (Nat.le_refl _), Nat.sub_self]; rfl
    refine codeAny_builtin F.entry_set_update_loop ?_
    rw [Around.under_plainId F.plain_set_update_loop _]
    refine (show wpAny _ A.in1 (pyNext (.ref I) >>= _) _ _ s from wpAny_bind (W.item done.length s _ _ il st fun v s1 pv st1 m => ?_))
    obtain ⟨p, pe, rfl⟩ := val _ _ pv
    rw [xe] at pe
    cases pe
    have k1 := on m k0
    have mem : ∀ p ∈ done, p ∈ rows := fun p mp => by rw [er]; exact List.mem_append_left _ mp
    have R1 : NSet P w s1.heap S L es ep t := R0.carry (fun o e => m.heap S o nSw e) fun p mp => (ks p (mem p (g.sub p mp))).keep k1
    have x1 : Nk s1.heap x.2 x.1 := (ks x (List.mem_of_getElem? xe)).keep k1
    have len1 : L.length + 1 < 64 := by
      have z := g.len
      rw [er, List.length_append, List.length_cons] at few
      omega
    refine (show wpAny _ A.in1 (holding [Value.ref x.1] (setAdd S (.ref x.1)) >>= _) _ _ s1 from wpAny_bind (wpAny_holding ?_))
    rw [setAdd]
    refine wpAny_holding (wpAny_bind (pyHash_key x.2 _ _ _ _ x1.is (by have := x1.dp; omega) ?_))
    refine put_in (s := { s1 with toks := s1.toks + x.2.draws }) R1 x1 u1 len1 fun b h2 L2 es2 ep2 t2 sb R2 c1 c2 => ?_
    have g2 : Has (done ++ [x]) L2 := by
      rcases Classical.em (x.2 ∈ keysOf L) with c | c
      · rw [c1 c]; exact g.same c
      · exact g.more (c2 c)
    have k2 : ∀ b o, h0.get? b = some o → h2.get? b = some o := fun b o e => (sb.2 b fun z => by rw [z, new] at e; exact nomatch e).trans (k1 b o e)
    refine wpAny_pure ⟨plainId_quiet F.plain_set_update_loop _, ih (done ++ [x]) _ (by rw [er, List.append_assoc]; rfl) ?_ k2 ⟨L2, es2, ep2, t2, R2, g2⟩ fun s3 L3 es3 ep3 t3 m3 R3 g3 k3 => ?_⟩
    · rw [List.length_append]
      exact W.frame _ s1 _ _ st1 (Nat.le_add_right _ _) fun b mb o e => (sb.2 b fun z => nS (z ▸ mb)).trans e
    · refine fin s3 L3 es3 ep3 t3 (Moved.trans W.gtrans ((m.mono up).then_heap (Nat.le_add_right _ _) fun b o mb e => ?_) m3) R3 g3 k3
      exact (sb.2 b fun z => mb (z ▸ List.mem_cons_self)).trans e
end
end NS
/-! Sets of nested keys: the call set(xs), xs a list. -/
namespace NS
open PySem PySem.Spec PyProof.Rows L2
section
variable {P : Program} {w : World} {A : Around} {E : Value → Shared → Prop} {s : Shared}
abbrev setObj (w : World) : Obj := { cls := .type "set", dict := none, data := .set #[] 0 (bare w) }
/-- what set.__init__ has done -/
def Done (P : Program) (w : World) (s : Shared) (rows : List Row) (s2 : Shared) : Prop :=
  ∃ h2 tk L es ep t, s2 = { s with heap := h2, toks := tk } ∧ NSet P w h2 s.heap.objs.size L es ep t ∧ Has rows L ∧ ∀ b o, s.heap.get? b = some o → h2.get? b = some o
theorem init_list {l : Addr} {items : Array Value} {rows : List Row} (calm : A.handled = none) (hl : s.heap.IsList l items) (he : items.toList = rows.map fun p => Value.ref p.1) (ks : ∀ p ∈ rows, Nk s.heap p.2 p.1) (few : rows.length < 64) (hu : A.units + 12 < cLine) :
    codeAny (model P w) A.in1 (.call (.builtin "set.__init__") ⟨[.ref s.heap.objs.size, .ref l], []⟩) (wants (fun r s2 => r = .none ∧ Done P w s rows s2) E) { s with heap := s.heap.push (setObj w) } := by
  have at0 : (s.heap.push (setObj w)).get? s.heap.objs.size = some (setObj w) := Heap.get?_push_size _ rfl
  have ty : Shared.TypeIs { s with heap := s.heap.push (setObj w) } (.ref s.heap.objs.size) "set" := ⟨_, at0, rfl⟩
  have n0 : items.size = rows.length := by rw [← Array.length_toList, he, List.length_map]
  have none_of : ∀ b, s.heap.objs.size ≤ b → s.heap.get? b = none := fun b hb => by
    cases q : s.heap.get? b with
    | none => rfl
    | some o => exact absurd (Heap.lt_size q) (Nat.not_lt.mpr hb)
  refine codeAny_call_builtin F.called_set.init.plain F.entry_set_init (check_set_init_1 ty ?_)
  obtain ⟨ol, hol, hcl, nl, hdl⟩ := hl
  obtain ⟨cl, dl, datal, sl⟩ := ol
  simp only at hcl hdl
  subst hcl hdl
  have hol1 : (s.heap.push (setObj w)).get? l = some { cls := .type "list", dict := dl, data := .seq items nl, slots := sl } := Heap.get?_push_of_some _ hol
  have il : (s.heap.push (setObj w)).IsList l items := ⟨_, hol1, rfl, nl, rfl⟩
  have lt : l < s.heap.objs.size := Heap.lt_size hol
  have sub1 := F.sub_list_set
  have sub2 := F.sub_list_frozenset
  have ne : (Value.type "list" == Value.type "dict") = false := by decide
  unfold Builtin.«set.__init__» noKeywords Builtin.Frozenset.updateFrom
  generalize hPI : pyIter = PI
  wp_walk
  subst hPI
  refine wpAny_pyIter_list il (wpAny_bind (wpAny_runValue ?_))
  have calm3 : A.in1.in1.in1.handled = none := by simp [calm]
  have sz1 : (s.heap.push (setObj w)).objs.size = s.heap.objs.size + 1 := Heap.size_push ..
  have neI : l ≠ (s.heap.push (setObj w)).objs.size := by rw [sz1]; exact Nat.ne_of_lt (Nat.lt_succ_of_lt lt)
  refine fill (rows := rows) (h0 := s.heap) ((Walks.list calm3 _ l neI items).toS) (S := s.heap.objs.size) (fun m => ?_) n0 few (fun i v hv => ?_) ks (none_of _ (Nat.le_refl _)) (fun b mb => ?_) (by simp only [Around.in1_units]; omega) rows [] _ rfl
    ⟨⟨_, Heap.get?_push_size _ rfl, rfl, rfl⟩, il.push _⟩ (fun b o e => Heap.get?_push_of_some _ (Heap.get?_push_of_some _ e)) ⟨[], #[], 0, bare w, NSet.new (Heap.get?_push_of_some _ at0), .nil⟩ fun s2 L es ep t m R g k => ?_
  · rw [sz1] at m
    rcases List.mem_cons.mp m with z | z
    · exact absurd z (Nat.ne_of_lt (Nat.lt_succ_self _))
    · exact absurd (List.mem_singleton.mp z) (Nat.ne_of_gt lt)
  · have q : items.toList[i]? = some v := by rw [Array.getElem?_toList]; exact hv
    rw [he, List.getElem?_map] at q
    cases e : rows[i]? with
    | none => rw [e] at q; exact nomatch q
    | some p => rw [e] at q; exact ⟨p, rfl, (Option.some.inj q).symm⟩
  · rw [List.mem_singleton.mp mb, sz1]
    exact none_of _ (Nat.le_succ _)
  · obtain ⟨h2, g2, d2, tk, o2⟩ := s2
    cases (m.gens : g2 = s.gens)
    cases (m.drawn : d2 = s.drawn)
    cases (m.os : o2 = s.os)
    exact wpAny_pure (wpAny_pure ⟨rfl, h2, tk, L, es, ep, t, rfl, R, g, k⟩)
/-- set(xs) -/
theorem call_set {l : Addr} {items : Array Value} {rows : List Row} {Q : Value → Shared → Prop} (calm : A.handled = none) (hl : s.heap.IsList l items) (he : items.toList = rows.map fun p => Value.ref p.1) (ks : ∀ p ∈ rows, Nk s.heap p.2 p.1) (few : rows.length < 64) (hu : A.units + 16 < cLine)
    (q : ∀ (h2 : Heap) (tk : Nat) L es ep t, NSet P w h2 s.heap.objs.size L es ep t → Has rows L → (∀ b o, s.heap.get? b = some o → h2.get? b = some o) → Q (.ref s.heap.objs.size) { s with heap := h2, toks := tk }) :
    wpAny (model P w) A (call (.type "set") [.ref l]) Q E s := by
  obtain ⟨c, tl, mro⟩ := F.called_set.mro
  have made := F.called_set.made
  have sub := F.called_set.sub
  refine wpAny_call (codeAny_of_tree (show wpAny _ _ (callAny (.type "set") _) _ _ _ from wpAny_pure ⟨Code.quiet_builtin _ (by decide +kernel), codeAny_builtin F.entry_type_call ?_⟩))
  rw [Around.under_plain (weight_type_call_type "set" [.ref l] []) rfl]
  have t1 := F.called_set.notType
  have t2 := F.called_set.canCreate
  have t3 := F.typeCall_set_1 (.ref l)
  repeat (any_goals (first | assumption | wp_step))
  refine codeAny_mono (code_set_led1 (.ref l) (E := E) (Q₁ := fun u s1 => u = .ref s.heap.objs.size ∧ s1 = { s with heap := s.heap.push (setObj w) }) ⟨rfl, rfl⟩) fun r s1 hr => ?_
  match r, hr with
  | .error _, hr => exact hr
  | .ok (.ret u), hr =>
    obtain ⟨rfl, rfl⟩ := hr
    have ty : Shared.TypeIs { s with heap := s.heap.push (setObj w) } (.ref s.heap.objs.size) "set" := ⟨_, Heap.get?_push_size _ rfl, rfl⟩
    have i1 := F.called_set.init.lookup
    have i2 := F.called_set.init.bind (.ref s.heap.objs.size)
    repeat (any_goals (first | assumption | wp_step))
    refine codeAny_mono (init_list (E := E) calm hl he ks few (by omega)) fun r2 s2 hr2 => ?_
    match r2, hr2 with
    | .error _, hr2 => exact hr2
    | .ok (.ret r), hr2 =>
      obtain ⟨rfl, h2, tk, L, es, ep, t, rfl, R, g, k⟩ := hr2
      repeat (any_goals (first | assumption | wp_step))
      exact q h2 tk L es ep t R g k
end
end NS
/-! Sets of nested keys over the hand layer: set(xs), sorted(that set), x < y of such keys. -/
namespace NS
open PySem PySem.Spec PyProof.Rows L2
mutual
/-- the value x is the key k: all its tuples new -/
inductive Kz (H : Hp) : V → NestedKey → Prop
  | non : Kz H .non .none
  | int (i : Int) : Kz H (.int i) (.num i)
  | str (x : Str) : Kz H (.str x) (.text x)
  | tup {a : Addr} {xs : List V} {ks : List NestedKey} : H a = some (.tup xs) → KzAll H xs ks → Kz H (.ref a) (.tup ks)
inductive KzAll (H : Hp) : List V → List NestedKey → Prop
  | nil : KzAll H [] []
  | cons {v : V} {vs : List V} {k : NestedKey} {ks : List NestedKey} : Kz H v k → KzAll H vs ks → KzAll H (v :: vs) (k :: ks)
end
mutual
theorem Kz.same {H H' : Hp} (s : Same H H') : ∀ (k : NestedKey) (v : V), Kz H v k → Kz H' v k
  | .none, _, h => by cases h; exact .non
  | .num i, _, h => by cases h; exact .int i
  | .text x, _, h => by cases h; exact .str x
  | .tup ks, _, h => by cases h with | tup e h => exact .tup (s _ _ e) (KzAll.same s ks _ h)
theorem KzAll.same {H H' : Hp} (s : Same H H') : ∀ (ks : List NestedKey) (vs : List V), KzAll H vs ks → KzAll H' vs ks
  | [], _, h => by cases h; exact .nil
  | k :: ks, _, h => by cases h with | cons h1 h2 => exact .cons (Kz.same s k _ h1) (KzAll.same s ks _ h2)
end
mutual
theorem depth_data : ∀ k : NestedKey, k.data.depth = k.depth
  | .none => rfl
  | .num _ => rfl
  | .text _ => rfl
  | .tup ks => by rw [NestedKey.data, PyData.depth, NestedKey.depth, depth_datas ks]
theorem depth_datas : ∀ ks : List NestedKey, PyData.depthAll (NestedKey.datas ks) = NestedKey.depthAll ks
  | [] => rfl
  | k :: ks => by rw [NestedKey.datas, PyData.depthAll, NestedKey.depthAll, depth_data k, depth_datas ks]
end
section
variable {X : Cx} {pins : List (Addr × Obj)} {σ : L2.St} {H : Hp} {s : Shared}
mutual
theorem Kz.is (I : Inv X pins σ H s) : ∀ (k : NestedKey) (v : V) (u : Value), Kz H v k → RelV v u → NestedIs s.heap k u ∧ Reads s.heap u k.data []
  | .none, _, _, h, r => by cases h; cases r; exact ⟨.none, .none⟩
  | .num i, _, _, h, r => by cases h; obtain ⟨t, rfl⟩ := r; exact ⟨.int i t, .int i t⟩
  | .text x, _, _, h, r => by cases h; obtain ⟨t, rfl⟩ := r; exact ⟨.text x t, .str x t⟩
  | .tup ks, _, _, h, r => by
    cases h with
    | tup e h =>
      cases r
      obtain ⟨_, its, rv, o, ho, hc, n, hd⟩ := (show ObjOk X.prog X.w H s.heap _ (.tup _) from I.hok _ _ e)
      obtain ⟨q1, q2⟩ := KzAll.is I ks _ its h rv
      exact ⟨.tup ho hc hd (by simpa using q1), .tuple ho hc hd (by simpa using q2)⟩
theorem KzAll.is (I : Inv X pins σ H s) : ∀ (ks : List NestedKey) (vs : List V) (us : List Value), KzAll H vs ks → Vals vs us → NestedAll s.heap ks us ∧ ReadsAll s.heap us (NestedKey.datas ks) []
  | [], _, _, h, r => by cases h; cases r; exact ⟨.nil, .nil⟩
  | k :: ks, _, _, h, r => by
    cases h with
    | cons h1 h2 =>
      cases r with
      | cons r1 r2 =>
        obtain ⟨a1, a2⟩ := Kz.is I k _ _ h1 r1
        obtain ⟨b1, b2⟩ := KzAll.is I ks _ _ h2 r2
        exact ⟨.cons a1 b1, .cons a2 b2⟩
end
end
/-- the set alone -/
structure Sole (P : Program) (w : World) (h : Heap) (a : Addr) (L : List Row) : Prop where
  ex : ∃ (es : Array (Int × Value)) (ep : Nat) (t : SetTable), (∃ o, h.get? a = some o ∧ o.ExactSet ∧ o.data = .set es ep t) ∧ es.toList = kept w L ∧ TabOk t (hashesOf w L) ∧ (keysOf L).Nodup ∧ (w.params.followText "set-order" = true ∨ t.led = true) ∧ L.length * 5 < t.mask * 3 ∧ L.length < 64
def SetO (P : Program) (w : World) (a : Addr) (L : List Row) : HO := .ext fun h => Sole P w h a L
theorem NSet.sole {P : Program} {w : World} {h : Heap} {a : Addr} {L : List Row} {es : Array (Int × Value)} {ep : Nat} {t : SetTable} (R : NSet P w h a L es ep t) : Sole P w h a L := ⟨es, ep, t, R.here, R.es, R.tab, R.once, R.led, R.space, R.few⟩
theorem Sole.all {P : Program} {w : World} {h : Heap} {a : Addr} {L : List Row} (R : Sole P w h a L) (ks : ∀ p ∈ L, Nk h p.2 p.1) : ∃ es ep t, NSet P w h a L es ep t := by
  obtain ⟨es, ep, t, r1, r2, r3, r4, r5, r6, r7⟩ := R.ex
  exact ⟨es, ep, t, r1, r2, r3, r4, ks, r5, r6, r7⟩
theorem setO_ok {P : Program} {w : World} {H : Hp} {h : Heap} {a : Addr} {L : List Row} (R : Sole P w h a L) : ObjOk P w H h a (SetO P w a L) := by
  have z := R.ex
  obtain ⟨es, ep, t, ⟨o, ho, r⟩, q⟩ := z
  refine ⟨R, ⟨o, ho⟩, fun h1 h2 p k => ?_⟩
  obtain ⟨es', ep', t', ⟨o', ho', r'⟩, q'⟩ := (Sole.ex p : _)
  exact ⟨es', ep', t', ⟨o', k o' ho', r'⟩, q'⟩
theorem vals_rows : ∀ rows : List Row, Vals (rows.map fun p => V.ref p.1) (rows.map fun p => Value.ref p.1)
  | [] => .nil
  | _ :: rows => .cons rfl (vals_rows rows)
theorem rows_vals : ∀ {rows : List Row} {us : List Value}, Vals (rows.map fun p => V.ref p.1) us → us = rows.map fun p => Value.ref p.1
  | [], _, .nil => rfl
  | _ :: rows, _, .cons r t => by
    cases r
    rw [rows_vals t]
    rfl
section
variable {X : Cx}
/-- set(xs) of keys -/
def rSet (X : Cx) : List V → Hp → VK → Prop := fun xs H Q => ∃ (l : Addr) (rows : List Row), xs = [V.ref l] ∧ SqL X.K H l (rows.map fun p => V.ref p.1) ∧ (∀ p ∈ rows, Kz H (.ref p.1) p.2 ∧ p.2.depth ≤ 8) ∧ rows.length < 64 ∧
  ∀ a L, H a = none → Has rows L → (keysOf L).Nodup → Q (.ref a) (upd H a (SetO X.prog X.w a L))
theorem cr_set (hc : X.calm = true) (hu : X.A.units + 64 < cLine) : CallR X (.type "set") (rSet X) := by
  intro pins s σ H xs us Q I r h
  obtain ⟨l, rows, rfl, hl, ks, few, q⟩ := h
  rw [Vals.ref1 r]
  obtain ⟨its, rv, pl, hz⟩ := I.list hl
  have n0 : H s.heap.objs.size = none := I.hok.fresh (Nat.le_refl _)
  refine call_set (P := X.prog) (w := X.w) (rows := rows) (I.ok.hd hc) pl.isList (by simpa using rows_vals rv) (fun p mp => ⟨(Kz.is I p.2 _ _ (ks p mp).1 rfl).1, (ks p mp).2⟩) few (by omega) fun h2 tk L es ep t R g k => ?_
  exact ⟨.ref s.heap.objs.size, upd H s.heap.objs.size (SetO X.prog X.w s.heap.objs.size L), I.laid (t' := tk) k (Nat.le_refl _) (setO_ok R.sole), rfl, q _ L n0 g R.once⟩
end
end NS
/-! Sets of nested keys: sorted(that set); x < y of such keys. -/
namespace NS
open PySem PySem.Spec PyProof.Rows L2
theorem perm_map_inv {α β : Type} {f : α → β} : ∀ {l : List α} {vs : List β}, vs.Perm (l.map f) → ∃ l0 : List α, vs = l0.map f ∧ l0.Perm l
  | [], vs, h => ⟨[], List.Perm.eq_nil h, List.Perm.refl _⟩
  | x :: l, vs, h => by
    rw [List.map_cons] at h
    obtain ⟨v1, v2, rfl⟩ := List.append_of_mem (h.mem_iff.mpr List.mem_cons_self)
    have z : (v1 ++ v2).Perm (l.map f) := (List.perm_middle.symm.trans h).cons_inv
    obtain ⟨l0, e, p⟩ := perm_map_inv z
    obtain ⟨a, b, rfl, rfl, rfl⟩ := List.append_eq_map_iff.mp e
    exact ⟨a ++ x :: b, by rw [List.map_append, List.map_cons], List.perm_middle.trans (p.cons x)⟩
theorem each_refs : ∀ L : List Row, PySem.W.EachIs (fun (v : Value) (p : Row) => v = .ref p.1) (L.map fun p => Value.ref p.1) L
  | [] => .nil
  | _ :: L => .cons rfl (each_refs L)
theorem refs_each : ∀ {L : List Row} {vs : List Value}, PySem.W.EachIs (fun (v : Value) (p : Row) => v = .ref p.1) vs L → vs = L.map fun p => Value.ref p.1
  | [], _, .nil => rfl
  | _ :: L, _, .cons r t => by rw [r, refs_each t, List.map_cons]
/-- the order of the rows' keys -/
abbrev rowLe (p q : Row) : Bool := PySem.W.dataLe false (fun p : Row => p.2.data) p q
section
variable {P : Program} {w : World} {A : Around} {E : Value → Shared → Prop} {s : Shared}
theorem each_mk {h : Heap} {f : Addr} : ∀ {L : List Row}, (∀ p ∈ L, Reads h (.ref p.1) p.2.data []) → PySem.W.EachIs (fun (v : Value) (p : Row) => ∃ as, Reads h v p.2.data as ∧ f ∉ as) (L.map fun p => Value.ref p.1) L
  | [], _ => .nil
  | p :: L, h => .cons ⟨[], h p List.mem_cons_self, List.not_mem_nil⟩ (each_mk fun q hq => h q (List.mem_cons_of_mem _ hq))
theorem sorted_rows {a : Addr} {L : List Row} {es : Array (Int × Value)} {ep : Nat} {t : SetTable} {Q : Value → Shared → Prop} (R : NSet P w s.heap a L es ep t) (calm : A.handled = none) (rd : ∀ p ∈ L, Reads s.heap (.ref p.1) p.2.data [])
    (al : PySem.W.AllAlike (L.map fun p => p.2.data)) (so : PySem.W.Sortable (L.map fun p => p.2.data)) (hu : A.units + 16 < cLine)
    (q : ∀ s1 p (out : Array Value) (c : Nat) (L1 : List Row), (∀ b o, s.heap.get? b = some o → s1.heap.get? b = some o) → s1.gens = s.gens → s1.os = s.os → s.heap.objs.size ≤ p → s1.heap.get? p = some (seqObj "list" out c) →
      out.toList = L1.map (fun r => Value.ref r.1) → L1.Perm L → L1.Pairwise (fun x y => rowLe x y = true) → Q (.ref p) s1) :
    wpAny (model P w) A (call (.builtin "sorted") [.ref a]) Q E s := by
  obtain ⟨o, ho, hex, hd⟩ := R.here
  have sz := R.size
  have few := R.few
  refine Calls.call_function_entry kind_sorted plain_sorted entry_sorted (args_sorted1 _) ?_
  unfold Builtin.«sorted»
  refine wpAny_bind (m := checkCount "sorted" 1 1 _) (wpAny_pure (wpAny_bind (collect_set (A := A.in1) calm ⟨o, ho, hex.1, hd⟩ R.fits (by unfold scanBound; omega) R.tab.ris R.led fun s1 vs k1 z1 g1 o1 pm => ?_)))
  have e1 : es.toList.map (·.2) = L.map fun p => Value.ref p.1 := by
    rw [R.es, kept, List.map_map]
    rfl
  rw [e1] at pm
  obtain ⟨L0, rfl, p0⟩ := perm_map_inv pm
  have n0 : L0.length < 64 := by rw [p0.length_eq]; exact few
  refine wpAny_bind (wpAny_newList ?_ (by rw [List.length_map, sizeLine_eq]; omega))
  have at1 : (s1.heap.push (seqObj "list" (L0.map fun p => Value.ref p.1).toArray 0)).get? s1.heap.objs.size = some (seqObj "list" (L0.map fun p => Value.ref p.1).toArray 0) := Heap.get?_push_size _ rfl
  have rd1 : ∀ p ∈ L0, Reads (s1.heap.push (seqObj "list" (L0.map fun p => Value.ref p.1).toArray 0)) (.ref p.1) p.2.data [] := fun p mp => PyProof.Rows.Reads.keeps (fun b u e => Heap.get?_push_of_some _ (k1 b u e)) (rd p (p0.mem_iff.mp mp))
  have pd := p0.map fun p => p.2.data
  refine wpAny_bind (wpAny_holding (PySem.W.list_sort_data (s := { s1 with heap := s1.heap.push (seqObj "list" (L0.map fun p => Value.ref p.1).toArray 0) }) (R := fun (v : Value) (p : Row) => v = .ref p.1) (enc := fun p : Row => p.2.data) (bs := L0) at1 (each_refs L0) (each_mk rd1)
    (fun d hd d2 hd2 => al d (pd.mem_iff.mp hd) d2 (pd.mem_iff.mp hd2)) (so.imp (fun f d hd => f d (pd.mem_iff.mp hd)) fun f d hd => f d (pd.mem_iff.mp hd)) (by rw [sizeLine_eq]; omega) (fun b hb => ?_) fun out n1 eo => ?_))
  · have dp := (R.keys b (p0.mem_iff.mp hb)).dp
    show A.in1.units + 1 + b.2.data.depth < cLine
    rw [depth_data, Around.in1_units]
    omega
  · obtain ⟨c, hc⟩ := sortedHeap_at (vs := L0.map fun p => Value.ref p.1) (out := List.toArray out) at1
    refine wpAny_pure ⟨_, rfl, q _ s1.heap.objs.size (List.toArray out) c (L0.mergeSort (PySem.W.dataLe false fun p : Row => p.2.data)) (fun b u e => ?_) g1 o1 z1 hc (by rw [List.toList_toArray]; exact refs_each eo) ((List.mergeSort_perm _ _).trans p0) (PySem.W.sort_pairwise (PySem.W.sortLe_total _ _ _) _)⟩
    have e2 := k1 b u e
    have lt := Heap.lt_size e2
    exact (sortedHeap_old (Nat.ne_of_lt lt) (by rw [size_push']; exact Nat.lt_succ_of_lt lt)).trans (Heap.get?_push_of_some _ e2)
end
section
variable {X : Cx}
/-- sorted(a set of keys) -/
def rSorted (X : Cx) : List V → Hp → VK → Prop := fun vs H Q => ∃ (a : Addr) (L : List Row), vs = [V.ref a] ∧ H a = some (SetO X.prog X.w a L) ∧ (∀ p ∈ L, Kz H (.ref p.1) p.2 ∧ p.2.depth ≤ 8) ∧ PySem.W.AllAlike (L.map fun p => p.2.data) ∧ PySem.W.Sortable (L.map fun p => p.2.data) ∧
  ∀ (L1 : List Row) (p : Addr), L1.Perm L → L1.Pairwise (fun x y => rowLe x y = true) → L1.length < 64 → H p = none → Q (.ref p) (upd H p (.lst (L1.map fun r => V.ref r.1)))
theorem cr_sorted (hc : X.calm = true) (hu : X.A.units + 64 < cLine) : CallR X (.builtin "sorted") (rSorted X) := by
  intro pins s σ H vs us Q I r h
  obtain ⟨a, L, rfl, ha, ks, al, so, q⟩ := h
  have R0 : Sole X.prog X.w s.heap a L := (I.hok a _ ha).1
  have kz : ∀ p ∈ L, NestedIs s.heap p.2 (.ref p.1) ∧ Reads s.heap (.ref p.1) p.2.data [] := fun p mp => Kz.is I p.2 _ _ (ks p mp).1 rfl
  obtain ⟨es, ep, t, R⟩ := R0.all fun p mp => ⟨(kz p mp).1, (ks p mp).2⟩
  rw [Vals.ref1 r]
  refine sorted_rows R (I.ok.hd hc) (fun p mp => (kz p mp).2) al so (by omega) fun s1 p out c L1 k g o hp hg ho pm pw => ?_
  have few : L1.length < 64 := by rw [pm.length_eq]; exact R.few
  have n0 : H p = none := I.hok.fresh hp
  have J := I.call' (s' := s1) (ch := []) (H' := upd H p (.lst (L1.map fun r => V.ref r.1))) o (Un.laid k hp n0) (I.hok.laid k hp ⟨by rw [List.length_map, sizeLine_eq]; omega, out.toList, c, by rw [ho]; exact vals_rows L1, hg⟩) (by rw [g]; exact I.bare) (fun _ z => nomatch z)
  exact ⟨.ref p, _, J, rfl, q L1 p pm pw few n0⟩
/-- x < y of two alike keys -/
def rLt : R2 := fun x y H Q => ∃ j k : NestedKey, Kz H x j ∧ Kz H y k ∧ PySem.W.alike j.data k.data = true ∧ j ≠ .none ∧ j.depth ≤ 8 ∧ Q (.bl (PySem.W.dataLt j.data k.data)) H
theorem op_ltK (hu : X.A.units + 64 < cLine) : OpR X (compareOp .Lt) rLt := by
  intro pins s σ H x y v u Q I rx ry h
  obtain ⟨j, k, hx, hy, al, nn, dp, q⟩ := h
  have a1 := (Kz.is I j x v hx rx).2
  have a2 := (Kz.is I k y u hy ry).2
  refine PySem.W.rcLt_alike j.data k.data X.A s v u [] [] a1 a2 al (fun e => ?_) (by rw [depth_data]; omega) X.prog X.w _ _ ⟨.bl _, H, I, rfl, q⟩
  cases j with
  | none => exact nn rfl
  | num _ => exact nomatch e
  | text _ => exact nomatch e
  | tup _ => exact nomatch e
end
end NS
/-! Machines as data: deeds, rows, their keys, their order. -/
namespace MC
open PySem PySem.Spec PyProof.Rows L2 NS WD
inductive Deed where
  | step
  | ex (send : Bool) (name letter : Str)
deriving DecidableEq
abbrev wordOf (b : Bool) : Str := if b = true then "send" else "take"
def Deed.key : Deed → NestedKey
  | .step => .tup [.text "step"]
  | .ex b n l => .tup [.text (wordOf b), .text n, .text l]
structure RowM where
  before : Int
  deed : Deed
  after : Int
deriving DecidableEq
def RowM.key (r : RowM) : NestedKey := .tup [.num r.before, r.deed.key, .num r.after]
def Deed.Ok : Deed → Prop
  | .step => True
  | .ex _ n l => Wd n ∧ Wd l
structure RowM.Ok (size : Nat) (r : RowM) : Prop where
  b0 : 0 ≤ r.before
  b1 : r.before < size
  dd : r.deed.Ok
  a0 : 0 ≤ r.after
  a1 : r.after < size
theorem word_inj {a b : Bool} (h : wordOf a = wordOf b) : a = b := by
  have ne : ("send" : Str) ≠ "take" := by decide +kernel
  cases a <;> cases b
  · rfl
  · exact absurd h.symm ne
  · exact absurd h ne
  · rfl
theorem deed_inj {d e : Deed} (h : d.key = e.key) : d = e := by
  cases d with
  | step =>
    cases e with
    | step => rfl
    | ex b n l => simp [Deed.key] at h
  | ex b n l =>
    cases e with
    | step => simp [Deed.key] at h
    | ex b' n' l' =>
      injection h with h
      injection h with h1 h
      injection h with h2 h
      injection h with h3 h
      injection h1 with h1
      injection h2 with h2
      injection h3 with h3
      rw [word_inj h1, h2, h3]
theorem row_inj {r s : RowM} (h : r.key = s.key) : r = s := by
  obtain ⟨b, d, a⟩ := r
  obtain ⟨b', d', a'⟩ := s
  injection h with h
  injection h with h1 h
  injection h with h2 h
  injection h with h3 h
  injection h1 with h1
  injection h3 with h3
  cases deed_inj h2
  cases h1
  cases h3
  rfl
theorem deed_depth (d : Deed) : d.key.depth = 1 := by cases d <;> rfl
theorem row_depth (r : RowM) : r.key.depth = 2 := by
  obtain ⟨b, d, a⟩ := r
  cases d <;> rfl
theorem deed_alike (d e : Deed) : PySem.W.alike d.key.data e.key.data = true := by cases d <;> cases e <;> rfl
theorem row_alike (r s : RowM) : PySem.W.alike r.key.data s.key.data = true := by
  obtain ⟨b, d, a⟩ := r
  obtain ⟨b', d', a'⟩ := s
  cases d <;> cases d' <;> rfl
mutual
theorem eqv_data : ∀ j k : NestedKey, PyData.eqv j.data k.data = NestedKey.beq j k
  | .none, .none => rfl
  | .none, .num _ => rfl
  | .none, .text _ => rfl
  | .none, .tup _ => rfl
  | .num _, .none => rfl
  | .num a, .num b => by
    show (a == b) = decide (a = b)
    by_cases h : a = b
    · rw [h]; simp
    · simp [h]
  | .num _, .text _ => rfl
  | .num _, .tup _ => rfl
  | .text _, .none => rfl
  | .text _, .num _ => rfl
  | .text a, .text b => by
    show (a == b) = decide (a = b)
    by_cases h : a = b
    · rw [h]; simp
    · simp [h]
  | .text _, .tup _ => rfl
  | .tup _, .none => rfl
  | .tup _, .num _ => rfl
  | .tup _, .text _ => rfl
  | .tup a, .tup b => by
    rw [NestedKey.data, NestedKey.data, NestedKey.beq, ← eqv_datas a b, PyData.eqv]
theorem eqv_datas : ∀ j k : List NestedKey, PyData.eqvAll (NestedKey.datas j) (NestedKey.datas k) = NestedKey.beqAll j k
  | [], [] => rfl
  | [], _ :: _ => rfl
  | _ :: _, [] => rfl
  | a :: as, b :: bs => by
    rw [NestedKey.datas, NestedKey.datas, PyData.eqvAll, NestedKey.beqAll, eqv_data a b, eqv_datas as bs]
end
/-- two different alike keys stand in one order or the other -/
theorem lt_of_le {j k : NestedKey} (al : PySem.W.alike j.data k.data = true) (ne : j ≠ k) (le : PySem.W.dataLt k.data j.data = false) : PySem.W.dataLt j.data k.data = true := by
  have ev : PyData.eqv j.data k.data = false := by rw [eqv_data, ← NestedKey.decide_eq]; exact decide_eq_false ne
  cases h : PySem.W.dataLt j.data k.data with
  | true => rfl
  | false =>
    exfalso
    have e : PySem.W.keyToks j.data = PySem.W.keyToks k.data := lex_total _ _ h le
    have z := (PySem.W.toks_eqv _ _ al).2 ev [] [.inl 0]
    rw [e, List.append_nil, lex_irrefl] at z
    have y : PyProof.Rows.lexLt itemOrd (PySem.W.keyToks k.data ++ []) (PySem.W.keyToks k.data ++ [.inl 0]) = true := by
      rw [PySem.W.lex_pre]
      rfl
    rw [List.append_nil, z] at y
    exact nomatch y
end MC
namespace K55
open PySem PySem.Spec PyProof.Rows L2 WD NS MC
open C8 (pss_cut tCut)
abbrev sMade : Stmt := topS 63
abbrev sRowL : Stmt := topS 64
/-- tuples stay -/
def Tups (H H' : Hp) : Prop := ∀ b xs, H b = some (.tup xs) → H' b = some (.tup xs)
theorem Tups.refl {H : Hp} : Tups H H := fun _ _ e => e
theorem Tups.trans {H H1 H2 : Hp} (a : Tups H H1) (b : Tups H1 H2) : Tups H H2 := fun c xs e => b c xs (a c xs e)
theorem tups_same {H H' : Hp} (s : Same H H') : Tups H H' := fun b _ e => s b _ e
theorem tups_list {H : Hp} {a : Addr} {xs : List V} {o : HO} (e : H a = some (.lst xs)) : Tups H (upd H a o) := fun b ys eb => by
  have n : b ≠ a := fun z => by
    rw [z, e] at eb
    cases eb
  rw [upd_ne n]
  exact eb
theorem tups_dice {H : Hp} {d : Addr} {n : Nat} {o : HO} (D : Dice H d n) : Tups H (upd H d o) := by
  obtain ⟨g, s, c, e, _⟩ := D
  exact tups_list e
mutual
theorem kz_tups {H H' : Hp} (s : Tups H H') : ∀ (k : NestedKey) (v : V), Kz H v k → Kz H' v k
  | .none, _, h => by cases h; exact .non
  | .num i, _, h => by cases h; exact .int i
  | .text x, _, h => by cases h; exact .str x
  | .tup ks, _, h => by cases h with | tup e h => exact .tup (s _ _ e) (kzs_tups s ks _ h)
theorem kzs_tups {H H' : Hp} (s : Tups H H') : ∀ (ks : List NestedKey) (vs : List V), KzAll H vs ks → KzAll H' vs ks
  | [], _, h => by cases h; exact .nil
  | k :: ks, _, h => by cases h with | cons h1 h2 => exact .cons (kz_tups s k _ h1) (kzs_tups s ks _ h2)
end
/-- a way: a deed of the others, or a step -/
def Way (S : List Str) (H : Hp) (v : V) : Prop := ∃ dd : Deed, dd.Ok ∧ Kz H v dd.key ∧ ∀ b x l, dd = .ex b x l → x ∈ S
theorem Way.tups {S : List Str} {H H' : Hp} {v : V} (w : Way S H v) (s : Tups H H') : Way S H' v := let ⟨dd, o, k, i⟩ := w; ⟨dd, o, kz_tups s _ _ k, i⟩
theorem seq_ds {K : PySem.W.Frag} {d l : Addr} {H H' : Hp} {xs : List V} (s : DS d H H') (n : l ≠ d) (h : SqL K H l xs) : SqL K H' l xs := by
  rcases h with (h | ⟨ob, h⟩) | h
  · exact Or.inl (Or.inl (s _ _ n h))
  · exact Or.inl (Or.inr ⟨ob, s _ _ n h⟩)
  · exact Or.inr h
theorem Kept.free {H H' : Hp} {d p t : Addr} {c : Nat} {xs : List V} (k : Kept H d p c xs H') (n : H' t = none) : H t = none := by
  cases e : H t with
  | none => rfl
  | some o =>
    exfalso
    by_cases z : t = d
    · obtain ⟨g, s, i, ed, _⟩ := k.dice
      rw [z, ed] at n
      cases n
    · rw [k.ds t o z e] at n
      cases n
theorem Kept.tups {H H' : Hp} {d p : Addr} {c : Nat} {xs : List V} {o : HO} (k : Kept H d p c xs H') : Tups H' (upd H' d o) := tups_dice k.dice
theorem wd_letter {j : Nat} {v : V} (h : [V.str "x", V.str "y", V.str "z"][j]? = some v) : ∃ x, v = .str x ∧ Wd x := by
  have one : ∀ c : Nat, 97 ≤ c → c ≤ 122 → Wd ⟨#[c]⟩ := fun c h1 h2 => ⟨low_one h1 h2, by show 0 < 1; decide, by show 1 ≤ 8; decide⟩
  have ex : ("x" : Str) = ⟨#[120]⟩ := by decide +kernel
  have ey : ("y" : Str) = ⟨#[121]⟩ := by decide +kernel
  have ez : ("z" : Str) = ⟨#[122]⟩ := by decide +kernel
  match j, h with
  | 0, h => cases h; exact ⟨_, rfl, by rw [ex]; exact one 120 (by decide) (by decide)⟩
  | 1, h => cases h; exact ⟨_, rfl, by rw [ey]; exact one 121 (by decide) (by decide)⟩
  | 2, h => cases h; exact ⟨_, rfl, by rw [ez]; exact one 122 (by decide) (by decide)⟩
  | _ + 3, h => simp at h
/-- the ways so far -/
structure Ways (S : List Str) (H : Hp) (d p : Addr) (n : Nat) (xs : List V) (H' : Hp) : Prop where
  k : Kept H d p n xs H'
  t : Tups H H'
  w : ∀ v ∈ xs, Way S H' v
  pos : 0 < xs.length
theorem Ways.new {S : List Str} {H H' : Hp} {d p l : Addr} {n : Nat} {xs : List V} {o : HO} (s : Ways S H d p n xs H') (h : H' l = none) : Ways S H d p n xs (upd H' l o) ∧ l ≠ d ∧ l ≠ p := by
  obtain ⟨k, nd, np⟩ := s.k.new (o := o) h
  have z := tups_same (same_upd (o := o) h)
  exact ⟨⟨k, s.t.trans z, fun v m => (s.w v m).tups z, s.pos⟩, nd, np⟩
theorem Ways.roll {S : List Str} {H H' : Hp} {d p : Addr} {n n' : Nat} {xs : List V} {o : HO} (s : Ways S H d p n xs H') (ne : p ≠ d) (D : Dice (upd H' d o) d n') : Ways S H d p n' xs (upd H' d o) := by
  have z : Tups H' (upd H' d o) := s.k.tups
  exact ⟨s.k.roll ne D, s.t.trans z, fun v m => (s.w v m).tups z, s.pos⟩
structure TxtR (K : PySem.W.Frag) (mg : Str → Option Value) (fR fO : Addr) (dR dO : FuncData) : Prop where
  R : Fun K "_law_roll" "_law_roll" sRoll fR dR
  bR : L2.Binds K dR ["_law_dice_here", "_law_total"] []
  gR : mg "_law_roll" = some (.ref fR)
  O : Fun K "_law_one_of" "_law_one_of" sOneOf fO dO
  bO : L2.Binds K dO ["_law_dice_here", "_law_items"] []
  gO : mg "_law_one_of" = some (.ref fO)
abbrev nR : List Str := ["_law_dice_here", "_law_size", "_law_others", "_law_ways", "_law_other", "_law_letter"]
theorem scRowL : FnScope nR ["_law_dice_here", "_law_size", "_law_others"] (defScope sRowL) := ⟨rfl, rfl, rfl, by decide +kernel, rfl, by decide +kernel, by decide +kernel⟩
/-- a row drawn -/
def spRowL (K : PySem.W.Frag) : Sp := fun vs H Q _ => ∃ (d l : Addr) (size n : Nat) (ws : List Str), vs = [.ref d, .int size, .ref l] ∧ Dice H d n ∧ n ≤ 1000000 ∧ 0 < size ∧ size ≤ 100 ∧ l ≠ d ∧ SqL K H l (ws.map V.str) ∧ ws.length ≤ 10 ∧ (∀ x ∈ ws, Wd x) ∧
  ∀ H' p (r : RowM), DS d H H' → H p = none → Tups H H' → Dice H' d (n + 3) → r.Ok size → (∀ b x l, r.deed = .ex b x l → x ∈ ws) → Kz H' (.ref p) r.key → Q (.ref p) H'
section
variable {P : Program} {w : World} {K : PySem.W.Frag} {mg : Str → Option Value} {base : Heap} {fR fO : Addr} {dR dO : FuncData}
theorem ok_RowL {f : Addr} {fd : FuncData} (F : Fun K "_law_row" "_law_row" sRowL f fd) (W : TxtR K mg fR fO dR dO) (TD : TxtD mg) : FnOk P w K mg base CX0 3 f fd ["_law_dice_here", "_law_size", "_law_others"] (spRowL K) := by
  have GR : FnOk P w K mg base CX0 1 fR dR ["_law_dice_here", "_law_total"] spRoll := ok_roll W.R
  have GO : FnOk P w K mg base CX0 2 fO dO ["_law_dice_here", "_law_items"] spOneOf := ok_oneOf W.O W.R W.bR W.gR TD
  refine F.ok scRowL (fun vs H Q E h => ?_) (fun cdv A outer s H vs Q E hr h => ?_)
  · obtain ⟨d, l, size, n, ws, rfl, _⟩ := h
    rfl
  · obtain ⟨d, l, size, n, ws, rfl, D, hn, s0, s1, nl, hl, lw, hw, q⟩ := h
    have hr1 : Room 1 _ := hr.mono (by decide)
    refine ⟨_, pss_cut (ps_set (i := 3) scRowL.nd rfl (.inl rfl) (pe_lst (pa_cons (pe_tup (pa_cons pe_str pa_nil)) pa_nil)))
      (pss_cut (ps_for PassesOwn.never rfl (pi_list (pv 2)) (pg_name (i := 4) scRowL.nd rfl (.inl rfl))
        (pss_one (ps_for PassesOwn.never rfl (pi_tup (pe_tup (pa_cons pe_str (pa_cons pe_str (pa_cons pe_str pa_nil))))) (pg_name (i := 5) scRowL.nd rfl (.inl rfl))
          (pss_one (ps_expr (pe_bm PySem.F.plainAttrs_list PySem.F.slot_list_extend PySem.F.type_list_extend mt_extend (pv 3) (pa_cons (pe_lst (pa_cons (pe_tup (pa_cons pe_str (pa_cons (pv 4) (pa_cons (pv 5) pa_nil)))) (pa_cons (pe_tup (pa_cons pe_str (pa_cons (pv 4) (pa_cons (pv 5) pa_nil)))) pa_nil))) pa_nil)))))))
      (pss_one (ps_ret (pe_tup (pa_cons (pe_call GR hr1 (by rfl) W.gR W.R.kp W.bR .nil pass0 (pa_cons (pv 0) (pa_cons (pv 1) pa_nil))) (pa_cons (pe_call GO hr (by rfl) W.gO W.O.kp W.bO .nil pass0 (pa_cons (pv 0) (pa_cons (pv 3) pa_nil))) (pa_cons (pe_call GR hr1 (by rfl) W.gR W.R.kp W.bR .nil pass0 (pa_cons (pv 0) (pa_cons (pv 1) pa_nil))) pa_nil))))))), ?_⟩
    have dd0 : H d ≠ none := fun z => by
      obtain ⟨g, s, c, e, _⟩ := D
      rw [e] at z
      cases z
    -- ways = [('step',)]
    refine ⟨fun σ' H' => ∃ p, σ' = [some (.ref d), some (.int size), some (.ref l), some (.ref p), none, none] ∧ H p = none ∧ p ≠ d ∧ ∃ xs, Ways ws H d p n xs H' ∧ xs.length ≤ 1, ?_, ?_⟩
    · refine ⟨(by show 1 ≤ sizeLine; decide), fun t nt => ⟨(by show 1 ≤ sizeLine; decide), fun p np => ?_⟩⟩
      have s1' := same_upd (o := .tup [.str "step"]) nt
      have s2' := same_upd (o := .lst [.ref t]) np
      have np0 : H p = none := s1'.free np
      have pd : p ≠ d := fun z => dd0 (z ▸ np0)
      have td : t ≠ d := fun z => dd0 (z ▸ nt)
      refine ⟨p, rfl, np0, pd, [.ref t], ⟨⟨fun b o _ e => s2' _ _ (s1' _ _ e), ?_, upd_same⟩, tups_same (s1'.trans s2'), fun v m => ?_, Nat.zero_lt_succ _⟩, Nat.le_refl _⟩
      · exact (D.same (upd_ne td.symm)).same (upd_ne pd.symm)
      · rw [List.mem_singleton.mp m]
        exact ⟨.step, True.intro, .tup (s2' _ _ upd_same) (.cons (.str _) .nil), fun _ _ _ z => nomatch z⟩
    rintro σ1 H1 ⟨p, rfl, np, pd, xs0, w0, l0⟩
    have lp : l ≠ p ∨ ∃ o, K.lookup l = some o := by
      rcases hl with (h | ⟨ob, h⟩) | h
      · exact Or.inl fun z => by rw [z, np] at h; cases h
      · exact Or.inl fun z => by rw [z, np] at h; cases h
      · obtain ⟨o, _, _, e, _⟩ := h
        exact Or.inr ⟨o, e⟩
    have at_l : ∀ {xs : List V} {c : Nat} {H' : Hp}, Ways ws H d p c xs H' → SqL K H' l (ws.map V.str) := fun s => seq_ds s.k.ds nl hl
    refine ⟨fun σ' H' => ∃ xs u4 u5, σ' = [some (.ref d), some (.int size), some (.ref l), some (.ref p), u4, u5] ∧ Ways ws H d p n xs H' ∧ xs.length ≤ 1 + 6 * ws.length, ?_, ?_⟩
    · refine ⟨_, rfl, l, rfl, ⟨_, at_l w0⟩, ?_⟩
      refine for_list (xs := ws.map V.str) (fun i σ' H' => ∃ xs u4 u5, σ' = [some (.ref d), some (.int size), some (.ref l), some (.ref p), u4, u5] ∧ Ways ws H d p n xs H' ∧ xs.length ≤ 1 + 6 * i) ⟨xs0, none, none, rfl, w0, l0⟩ (fun i σ H' _ ⟨_, _, _, _, s, _⟩ => at_l s) ?_ (fun σ' H' z => ?_)
      rotate_left
      · rw [List.length_map] at z
        exact z
      rintro i v σ2 H2 hv ⟨xs, u4, u5, rfl, w2, l2⟩
      obtain ⟨y, hy, rfl⟩ : ∃ y, y ∈ ws ∧ v = .str y := by
        obtain ⟨y, hy, e⟩ := List.mem_map.mp (List.mem_of_getElem? hv)
        exact ⟨y, hy, e.symm⟩
      have il : i < ws.length := by
        have z := (List.getElem?_eq_some_iff.mp hv).1
        rw [List.length_map] at z
        exact z
      refine ⟨(by show 3 ≤ sizeLine; decide), fun t nt => ⟨t, rfl, ⟨_, SqT.of upd_same⟩, ?_⟩⟩
      obtain ⟨w3, td, tp⟩ := w2.new (o := .tup [.str "x", .str "y", .str "z"]) nt
      refine for_tup (xs := [.str "x", .str "y", .str "z"]) (fun j σ' H' => ∃ xs u5, σ' = [some (.ref d), some (.int size), some (.ref l), some (.ref p), some (.str y), u5] ∧ Ways ws H d p n xs H' ∧ xs.length ≤ 1 + 6 * i + 2 * j ∧ H' t = some (.tup [.str "x", .str "y", .str "z"]))
        ⟨xs, u5, rfl, w3, by omega, upd_same⟩ (fun j σ H' _ ⟨_, _, _, _, _, e⟩ => SqT.of e) ?_ (fun σ' H' ⟨xs, u5, e, s, z, _⟩ => ⟨xs, _, u5, e, s, by have z' : xs.length ≤ 1 + 6 * i + 2 * 3 := z; omega⟩)
      rintro j v σ4 H4 hv4 ⟨xs, u5, rfl, w4, l4, et⟩
      obtain ⟨z, rfl, wz⟩ := wd_letter hv4
      have jl : j < 3 := (List.getElem?_eq_some_iff.mp hv4).1
      refine ⟨_, rfl, .inl ⟨rfl, _, SqL.of w4.k.lst⟩, _, rfl, _, rfl, (by show 3 ≤ sizeLine; decide), fun t1 n1 => ⟨_, rfl, _, rfl, (by show 3 ≤ sizeLine; decide), fun t2 n2 => ⟨(by show 2 ≤ sizeLine; decide), fun l2 n3 => ?_⟩⟩⟩
      obtain ⟨w5, _, _⟩ := w4.new (o := .tup [.str "send", .str y, .str z]) n1
      obtain ⟨w6, _, _⟩ := w5.new (o := .tup [.str "take", .str y, .str z]) n2
      obtain ⟨w7, ld, lp2⟩ := w6.new (o := .lst [.ref t1, .ref t2]) n3
      have c1 := same_upd (o := .tup [.str "send", .str y, .str z]) n1
      have c2 := same_upd (o := .tup [.str "take", .str y, .str z]) n2
      have c3 := same_upd (o := .lst [.ref t1, .ref t2]) n3
      refine ⟨p, l2, xs, [.ref t1, .ref t2], rfl, rfl, w7.k.lst, upd_same, ?_, ?_⟩
      · rw [sizeLine_eq]
        show xs.length + 2 ≤ _
        omega
      · have ts := tups_list (o := .lst (xs ++ [.ref t1, .ref t2])) w7.k.lst
        refine ⟨xs ++ [.ref t1, .ref t2], _, rfl, ⟨w7.k.put pd np, w7.t.trans ts, fun v m => ?_, ?_⟩, ?_, ?_⟩
        · rcases List.mem_append.mp m with m | m
          · exact (w7.w v m).tups ts
          · have m' : v = .ref t1 ∨ v = .ref t2 := by simpa using m
            rcases m' with rfl | rfl
            · exact ⟨.ex true y z, ⟨hw y hy, wz⟩, kz_tups ts _ _ (.tup (c3 _ _ (c2 _ _ upd_same)) (.cons (.str _) (.cons (.str _) (.cons (.str _) .nil)))), fun b' x' l' e => by cases e; exact hy⟩
            · exact ⟨.ex false y z, ⟨hw y hy, wz⟩, kz_tups ts _ _ (.tup (c3 _ _ upd_same) (.cons (.str _) (.cons (.str _) (.cons (.str _) .nil)))), fun b' x' l' e => by cases e; exact hy⟩
        · rw [List.length_append]
          exact Nat.lt_of_lt_of_le w7.pos (Nat.le_add_right _ _)
        · rw [List.length_append]
          show xs.length + 2 ≤ _
          omega
        · exact ts _ _ (c3 _ _ (c2 _ _ (c1 _ _ et)))
    rintro σ2 H2 ⟨xs, u4, u5, rfl, w2, l2⟩
    refine ⟨_, rfl, _, rfl, d, size, n, rfl, w2.k.dice, by omega, by omega, by omega, fun r0 o r00 r01 D3 => ?_⟩
    have w3 := w2.roll pd D3
    refine ⟨_, rfl, _, rfl, d, p, _, xs, rfl, w3.k.dice, by omega, w3.k.lst, pd, w3.pos, by omega, fun x o hx D4 => ?_⟩
    have w4 := w3.roll pd D4
    refine ⟨_, rfl, _, rfl, d, size, _, rfl, w4.k.dice, by omega, by omega, by omega, fun r2 o r20 r21 D5 => ⟨(by show 3 ≤ sizeLine; decide), fun t nt => ?_⟩⟩
    have w5 := w4.roll pd D5
    obtain ⟨dd, od, kd, ind⟩ := w5.w x hx
    obtain ⟨w6, td, tp⟩ := w5.new (o := .tup [.int r0, x, .int r2]) nt
    have sm := same_upd (o := .tup [.int r0, x, .int r2]) nt
    exact q _ t ⟨r0, dd, r2⟩ w6.k.ds (w5.k.free nt) w6.t w6.k.dice ⟨r00, by omega, od, r20, by omega⟩ ind (.tup upd_same (.cons (.int _) (.cons (Kz.same sm _ _ kd) (.cons (.int _) .nil))))
end
end K55
/-! Sets of numbers: the call set(xs), xs a list. -/
namespace NS
open PySem PySem.Spec PyProof.Rows L2
section
variable {P : Program} {w : World} {A : Around} {E : Value → Shared → Prop} {s : Shared}
/-- what set.__init__ has done -/
def DoneI (w : World) (s : Shared) (ns : List Int) (s2 : Shared) : Prop :=
  ∃ h2 tk c, s2 = { s with heap := h2, toks := tk } ∧ SetR w h2 s.heap.objs.size (fun j => decide (j ∈ ns)) c ∧ c ≤ ns.length ∧ ∀ b o, s.heap.get? b = some o → h2.get? b = some o
theorem init_ints {l : Addr} {items : Array Value} {ns : List Int} (calm : A.handled = none) (hl : s.heap.IsList l items) (he : IntsAre items.toList ns) (few : ns.length < 1000) :
    codeAny (model P w) A.in1 (.call (.builtin "set.__init__") ⟨[.ref s.heap.objs.size, .ref l], []⟩) (wants (fun r s2 => r = .none ∧ DoneI w s ns s2) E) { s with heap := s.heap.push (setObj w) } := by
  have at0 : (s.heap.push (setObj w)).get? s.heap.objs.size = some (setObj w) := Heap.get?_push_size _ rfl
  have ty : Shared.TypeIs { s with heap := s.heap.push (setObj w) } (.ref s.heap.objs.size) "set" := ⟨_, at0, rfl⟩
  have n0 : items.size = ns.length := by rw [← Array.length_toList]; exact he.length
  have none_of : ∀ b, s.heap.objs.size ≤ b → s.heap.get? b = none := fun b hb => by
    cases q : s.heap.get? b with
    | none => rfl
    | some o => exact absurd (Heap.lt_size q) (Nat.not_lt.mpr hb)
  refine codeAny_call_builtin F.called_set.init.plain F.entry_set_init (check_set_init_1 ty ?_)
  obtain ⟨ol, hol, hcl, nl, hdl⟩ := hl
  obtain ⟨cl, dl, datal, sl⟩ := ol
  simp only at hcl hdl
  subst hcl hdl
  have hol1 : (s.heap.push (setObj w)).get? l = some { cls := .type "list", dict := dl, data := .seq items nl, slots := sl } := Heap.get?_push_of_some _ hol
  have il : (s.heap.push (setObj w)).IsList l items := ⟨_, hol1, rfl, nl, rfl⟩
  have lt : l < s.heap.objs.size := Heap.lt_size hol
  have sub1 := F.sub_list_set
  have sub2 := F.sub_list_frozenset
  have ne : (Value.type "list" == Value.type "dict") = false := by decide
  unfold Builtin.«set.__init__» noKeywords Builtin.Frozenset.updateFrom
  generalize hPI : pyIter = PI
  wp_walk
  subst hPI
  refine wpAny_pyIter_list il (wpAny_bind (wpAny_runValue ?_))
  have calm3 : A.in1.in1.in1.handled = none := by simp [calm]
  have sz1 : (s.heap.push (setObj w)).objs.size = s.heap.objs.size + 1 := Heap.size_push ..
  have neI : l ≠ (s.heap.push (setObj w)).objs.size := by rw [sz1]; exact Nat.ne_of_lt (Nat.lt_succ_of_lt lt)
  have at2 : ((s.heap.push (setObj w)).push { cls := .type "list_iterator", data := .fields #[.ref l, .int 0 0] }).get? s.heap.objs.size = some (setObj w) := Heap.get?_push_of_some _ at0
  refine set_update_ints ((Walks.list calm3 _ l neI items).toS) s.heap.objs.size (fun m => ?_) ns n0 (by unfold scanBound; omega) (fun i v hv => ?_) (items.size - 0) 0 _ (by omega) (Nat.zero_le _)
    ⟨⟨_, Heap.get?_push_size _ rfl, rfl, rfl⟩, il.push _⟩ ⟨0, Nat.le_refl _, setR_new_at at2⟩ fun s2 c m hc R => ?_
  · rw [sz1] at m
    rcases List.mem_cons.mp m with z | z
    · exact absurd z (Nat.ne_of_lt (Nat.lt_succ_self _))
    · exact absurd (List.mem_singleton.mp z) (Nat.ne_of_gt lt)
  · have q : items.toList[i]? = some v := by rw [Array.getElem?_toList]; exact hv
    obtain ⟨t, e⟩ := PyProof.Rows.IntsAre.int_at he i v q
    have il2 : i < ns.length := by rw [← n0]; exact (Array.getElem?_eq_some_iff.mp hv).1
    exact ⟨ns[i], t, List.getElem?_eq_getElem il2, by rw [e, List.getD_eq_getElem?_getD, List.getElem?_eq_getElem il2]; rfl⟩
  · have keep : ∀ b o, s.heap.get? b = some o → s2.heap.get? b = some o := fun b o e => m.heap b o (fun z => by
      rcases List.mem_cons.mp z with z | z
      · rw [z, none_of _ (Nat.le_refl _)] at e; exact nomatch e
      · rw [List.mem_singleton.mp z, sz1, none_of _ (Nat.le_succ _)] at e; exact nomatch e) (Heap.get?_push_of_some _ (Heap.get?_push_of_some _ e))
    obtain ⟨h2, g2, d2, tk, o2⟩ := s2
    cases (m.gens : g2 = s.gens)
    cases (m.drawn : d2 = s.drawn)
    cases (m.os : o2 = s.os)
    rw [n0] at hc
    exact wpAny_pure (wpAny_pure ⟨rfl, h2, tk, c, rfl, R, hc, keep⟩)
/-- set(xs) -/
theorem call_ints {l : Addr} {items : Array Value} {ns : List Int} {Q : Value → Shared → Prop} (calm : A.handled = none) (hl : s.heap.IsList l items) (he : IntsAre items.toList ns) (few : ns.length < 1000)
    (q : ∀ (h2 : Heap) (tk c : Nat), SetR w h2 s.heap.objs.size (fun j => decide (j ∈ ns)) c → c ≤ ns.length → (∀ b o, s.heap.get? b = some o → h2.get? b = some o) → Q (.ref s.heap.objs.size) { s with heap := h2, toks := tk }) :
    wpAny (model P w) A (call (.type "set") [.ref l]) Q E s := by
  obtain ⟨c, tl, mro⟩ := F.called_set.mro
  have made := F.called_set.made
  have sub := F.called_set.sub
  refine wpAny_call (codeAny_of_tree (show wpAny _ _ (callAny (.type "set") _) _ _ _ from wpAny_pure ⟨Code.quiet_builtin _ (by decide +kernel), codeAny_builtin F.entry_type_call ?_⟩))
  rw [Around.under_plain (weight_type_call_type "set" [.ref l] []) rfl]
  have t1 := F.called_set.notType
  have t2 := F.called_set.canCreate
  have t3 := F.typeCall_set_1 (.ref l)
  repeat (any_goals (first | assumption | wp_step))
  refine codeAny_mono (code_set_led1 (.ref l) (E := E) (Q₁ := fun u s1 => u = .ref s.heap.objs.size ∧ s1 = { s with heap := s.heap.push (setObj w) }) ⟨rfl, rfl⟩) fun r s1 hr => ?_
  match r, hr with
  | .error _, hr => exact hr
  | .ok (.ret u), hr =>
    obtain ⟨rfl, rfl⟩ := hr
    have ty : Shared.TypeIs { s with heap := s.heap.push (setObj w) } (.ref s.heap.objs.size) "set" := ⟨_, Heap.get?_push_size _ rfl, rfl⟩
    have i1 := F.called_set.init.lookup
    have i2 := F.called_set.init.bind (.ref s.heap.objs.size)
    repeat (any_goals (first | assumption | wp_step))
    refine codeAny_mono (init_ints (E := E) calm hl he few) fun r2 s2 hr2 => ?_
    match r2, hr2 with
    | .error _, hr2 => exact hr2
    | .ok (.ret r), hr2 =>
      obtain ⟨rfl, h2, tk, c, rfl, R, hc, k⟩ := hr2
      repeat (any_goals (first | assumption | wp_step))
      exact q h2 tk c R hc k
end
section
variable {X : Cx}
/-- set(xs) of numbers -/
def rSetI (X : Cx) : List V → Hp → VK → Prop := fun xs H Q => ∃ (l : Addr) (ns : List Int), xs = [V.ref l] ∧ SqL X.K H l (ns.map V.int) ∧ ns.length < 64 ∧ ∀ a c, H a = none → c ≤ ns.length → Q (.ref a) (upd H a (L2.SetO X.w a (fun j => decide (j ∈ ns)) c))
theorem cr_setI (hc : X.calm = true) : CallR X (.type "set") (rSetI X) := by
  intro pins s σ H xs us Q I r h
  obtain ⟨l, ns, rfl, hl, few, q⟩ := h
  rw [Vals.ref1 r]
  obtain ⟨its, rv, pl, hz⟩ := I.list hl
  have n0 : H s.heap.objs.size = none := I.hok.fresh (Nat.le_refl _)
  refine call_ints (P := X.prog) (w := X.w) (ns := ns) (I.ok.hd hc) pl.isList (by simpa using Vals.ints rv) (by omega) fun h2 tk c R hcn k => ?_
  exact ⟨.ref s.heap.objs.size, upd H s.heap.objs.size (L2.SetO X.w s.heap.objs.size (fun j => decide (j ∈ ns)) c), I.laid (t' := tk) k (Nat.le_refl _) (setO_new R), rfl, q _ c n0 hcn⟩
end
end NS
/-! Machines as data: the whole machine; what sorted rows are. -/
namespace MC
open PySem PySem.Spec PyProof.Rows L2 NS WD
structure MachM where
  size : Nat
  finals : List Int
  rows : List RowM
def MachM.key (m : MachM) : NestedKey := .tup [.num m.size, .tup (m.finals.map .num), .tup (m.rows.map RowM.key)]
abbrev rowLt (r s : RowM) : Prop := PySem.W.dataLt r.key.data s.key.data = true
structure MachM.Ok (m : MachM) : Prop where
  s0 : 0 < m.size
  s1 : m.size ≤ 30
  f1 : ∀ k ∈ m.finals, 0 ≤ k ∧ k < m.size
  f2 : m.finals.Pairwise (· < ·)
  f3 : m.finals.length < 64
  r1 : ∀ r ∈ m.rows, r.Ok m.size
  r2 : m.rows.Pairwise rowLt
  r3 : m.rows.length < 64
theorem as_rows {size : Nat} : ∀ {L : List NS.Row}, (∀ p ∈ L, ∃ r : RowM, r.Ok size ∧ p.2 = r.key) → ∃ rs : List RowM, keysOf L = rs.map RowM.key ∧ ∀ r ∈ rs, r.Ok size
  | [], _ => ⟨[], rfl, fun _ z => (nomatch z)⟩
  | p :: L, h => by
    obtain ⟨r, ok, e⟩ := h p List.mem_cons_self
    obtain ⟨rs, e2, all⟩ := as_rows fun q hq => h q (List.mem_cons_of_mem _ hq)
    refine ⟨r :: rs, by rw [List.map_cons, keysOf, List.map_cons, e, ← e2], fun s hs => ?_⟩
    rcases List.mem_cons.mp hs with z | z
    · rw [z]; exact ok
    · exact all s z
theorem kz_rows {H : Hp} : ∀ {L : List NS.Row}, (∀ p ∈ L, Kz H (.ref p.1) p.2) → KzAll H (L.map fun p => V.ref p.1) (keysOf L)
  | [], _ => .nil
  | p :: L, h => .cons (h p List.mem_cons_self) (kz_rows fun q hq => h q (List.mem_cons_of_mem _ hq))
theorem kz_ints {H : Hp} : ∀ ns : List Int, KzAll H (ns.map V.int) (ns.map NestedKey.num)
  | [] => .nil
  | n :: ns => .cons (.int n) (kz_ints ns)
theorem alike_rows {size : Nat} {L : List NS.Row} (h : ∀ p ∈ L, ∃ r : RowM, r.Ok size ∧ p.2 = r.key) : PySem.W.AllAlike (L.map fun p => p.2.data) := by
  intro d hd e he
  obtain ⟨p, hp, rfl⟩ := List.mem_map.mp hd
  obtain ⟨q, hq, rfl⟩ := List.mem_map.mp he
  obtain ⟨r, _, e1⟩ := h p hp
  obtain ⟨s, _, e2⟩ := h q hq
  show PySem.W.alike p.2.data q.2.data = true
  rw [e1, e2]
  exact row_alike r s
theorem sortable_rows {size : Nat} {L : List NS.Row} (h : ∀ p ∈ L, ∃ r : RowM, r.Ok size ∧ p.2 = r.key) : PySem.W.Sortable (L.map fun p => p.2.data) := by
  refine .inl fun d hd => ?_
  obtain ⟨p, hp, rfl⟩ := List.mem_map.mp hd
  obtain ⟨r, _, e1⟩ := h p hp
  refine ⟨.int r.before, [r.deed.key.data, .int r.after], ?_⟩
  show p.2.data = _
  rw [e1]
  rfl
/-- sorted, and each once: each before the next -/
theorem strict_rows {size : Nat} {L : List NS.Row} {rs : List RowM} (h : ∀ p ∈ L, ∃ r : RowM, r.Ok size ∧ p.2 = r.key) (e : keysOf L = rs.map RowM.key) (once : (keysOf L).Nodup) (le : L.Pairwise (fun x y => NS.rowLe x y = true)) : rs.Pairwise rowLt := by
  have z : L.Pairwise (fun x y => PySem.W.dataLt x.2.data y.2.data = true) := by
    have o2 : L.Pairwise (fun x y => x.2 ≠ y.2) := List.pairwise_map.mp once
    refine List.Pairwise.imp_of_mem (fun {x y} hx hy hxy => ?_) (le.and o2)
    obtain ⟨l, n⟩ := hxy
    obtain ⟨r, _, e1⟩ := h x hx
    obtain ⟨s, _, e2⟩ := h y hy
    refine lt_of_le (by rw [e1, e2]; exact row_alike r s) n ?_
    have l' : (!PySem.W.dataLt y.2.data x.2.data) = true := by
      have q := l
      unfold NS.rowLe at q
      rw [PySem.W.dataLe_eq] at q
      exact q
    simpa using l'
  have y : (keysOf L).Pairwise (fun j k => PySem.W.dataLt j.data k.data = true) := List.pairwise_map.mpr z
  rw [e] at y
  have x : rs.Pairwise (fun r s => PySem.W.dataLt r.key.data s.key.data = true) := List.pairwise_map.mp y
  exact x
end MC
namespace K55
open PySem PySem.Spec PyProof.Rows L2 WD NS MC
open C8 (pss_cut tCut)
structure TxtS (mg : Str → Option Value) : Prop where
  set : mg "set" = none
  sorted : mg "sorted" = none
  tuple : mg "tuple" = none
abbrev nMd : List Str := ["_law_size", "_law_finals", "_law_rows"]
theorem scMade : FnScope nMd nMd (defScope sMade) := ⟨rfl, rfl, rfl, by decide +kernel, rfl, by decide +kernel, by decide +kernel⟩
/-- the machine of drawn finals and rows -/
def spMade (K : PySem.W.Frag) : Sp := fun vs H Q _ => ∃ (lf lr : Addr) (size : Nat) (fs : List Int) (L : List NS.Row), vs = [.int size, .ref lf, .ref lr] ∧ 0 < size ∧ size ≤ 30 ∧ SqL K H lf (fs.map V.int) ∧ fs.length < 64 ∧ (∀ k ∈ fs, 0 ≤ k ∧ k < size) ∧
  SqL K H lr (L.map fun p => V.ref p.1) ∧ L.length < 64 ∧ (∀ p ∈ L, Kz H (.ref p.1) p.2 ∧ ∃ r : RowM, r.Ok size ∧ p.2 = r.key) ∧
  ∀ H' p (m : MachM), Same H H' → H p = none → m.size = size → m.rows.length ≤ L.length → m.Ok → (∀ r ∈ m.rows, ∃ p ∈ L, p.2 = r.key) → Kz H' (.ref p) m.key → Q (.ref p) H'
section
variable {P : Program} {w : World} {K : PySem.W.Frag} {mg : Str → Option Value} {base : Heap}
theorem ok_Made {f : Addr} {fd : FuncData} {k : Nat} (F : Fun K "_law_made" "_law_made" sMade f fd) (T : TxtS mg) : FnOk P w K mg base CX0 (k + 1) f fd nMd (spMade K) := by
  refine F.ok scMade (fun vs H Q E h => ?_) (fun cdv A outer s H vs Q E hr h => ?_)
  · obtain ⟨lf, lr, size, fs, L, rfl, _⟩ := h
    rfl
  · obtain ⟨lf, lr, size, fs, L, rfl, s0, s1, hf, lf6, rf, hl, ll6, rl, q⟩ := h
    have hu := hr.units
    refine ⟨_, pss_one (ps_ret (pe_tup (pa_cons (pv 0)
      (pa_cons (pe_callTy call_tuple_of (by rfl) T.tuple (by decide +kernel) (pa_cons (pe_callB (cr_sortedSet rfl) (by rfl) T.sorted (by decide +kernel) (pa_cons (pe_callTy (cr_setI rfl) (by rfl) T.set (by decide +kernel) (pa_cons (pv 1) pa_nil)) pa_nil)) pa_nil))
      (pa_cons (pe_callTy call_tuple_of (by rfl) T.tuple (by decide +kernel) (pa_cons (pe_callB (cr_sorted rfl hu) (by rfl) T.sorted (by decide +kernel) (pa_cons (pe_callTy (cr_set rfl hu) (by rfl) T.set (by decide +kernel) (pa_cons (pv 2) pa_nil)) pa_nil)) pa_nil)) pa_nil))))), ?_⟩
    refine ⟨_, rfl, _, rfl, lf, fs, rfl, hf, lf6, fun a1 c1 n1 h1 => ?_⟩
    have z1 := same_upd (o := L2.SetO w a1 (fun j => decide (j ∈ fs)) c1) n1
    refine ⟨a1, _, c1, rfl, upd_same, by omega, fun ns p2 pw mem len n2 => ?_⟩
    have z2 := same_upd (o := .lst (ns.map V.int)) n2
    refine ⟨p2, _, rfl, .inl ⟨SqL.of upd_same, fun t3 n3 => ?_⟩⟩
    have z3 := same_upd (o := .tup (ns.map V.int)) n3
    have z13 := z1.trans (z2.trans z3)
    refine ⟨_, rfl, lr, L, rfl, z13.seq hl, fun p hp => ⟨Kz.same z13 _ _ (rl p hp).1, ?_⟩, ll6, fun a4 L4 n4 has once => ?_⟩
    · obtain ⟨r, _, e⟩ := (rl p hp).2
      rw [e, row_depth]
      decide
    have z4 := same_upd (o := NS.SetO P w a4 L4) n4
    have z14 := z13.trans z4
    have rl4 : ∀ p ∈ L4, ∃ r : RowM, r.Ok size ∧ p.2 = r.key := fun p hp => (rl p (has.sub p hp)).2
    refine ⟨a4, L4, rfl, upd_same, fun p hp => ⟨Kz.same z14 _ _ (rl p (has.sub p hp)).1, ?_⟩, alike_rows rl4, sortable_rows rl4, fun L5 p5 pm pw5 len5 n5 => ?_⟩
    · obtain ⟨r, _, e⟩ := rl4 p hp
      rw [e, row_depth]
      decide
    have z5 := same_upd (o := .lst (L5.map fun r => V.ref r.1)) n5
    refine ⟨p5, _, rfl, .inl ⟨SqL.of upd_same, fun t6 n6 => ⟨(by show 3 ≤ sizeLine; decide), fun t7 n7 => ?_⟩⟩⟩
    have z6 := same_upd (o := .tup (L5.map fun r => V.ref r.1)) n6
    have z7 := same_upd (o := .tup [.int size, .ref t3, .ref t6]) n7
    have z16 := z14.trans (z5.trans z6)
    have rl5 : ∀ p ∈ L5, ∃ r : RowM, r.Ok size ∧ p.2 = r.key := fun p hp => rl4 p (pm.mem_iff.mp hp)
    obtain ⟨rs, ers, okrs⟩ := as_rows rl5
    have once5 : (keysOf L5).Nodup := (pm.map Prod.snd).nodup_iff.mpr once
    have lrs : rs.length = L5.length := by
      have z := congrArg List.length ers
      rw [List.length_map, List.length_map] at z
      exact z.symm
    refine q _ t7 ⟨size, ns, rs⟩ (z16.trans z7) (z16.free n7) rfl (by have z := has.len; have y := pm.length_eq; show rs.length ≤ _; omega) ⟨s0, s1, fun k hk => rf k (of_decide_eq_true ((mem k).mp hk)), pw, by show ns.length < 64; omega, okrs, strict_rows rl5 ers once5 pw5, by show rs.length < 64; omega⟩ (fun r hr => ?_) ?_
    · have z : r.key ∈ keysOf L5 := by rw [ers]; exact List.mem_map.mpr ⟨r, hr, rfl⟩
      obtain ⟨p, hp, e⟩ := List.mem_map.mp z
      exact ⟨p, has.sub p (pm.mem_iff.mp hp), e⟩
    refine .tup upd_same (.cons (.int _) (.cons (.tup (z7 _ _ (z6 _ _ (z5 _ _ (z4 _ _ upd_same)))) (kz_ints ns)) (.cons (.tup (z7 _ _ upd_same) ?_) .nil)))
    show KzAll _ _ (rs.map RowM.key)
    rw [← ers]
    exact kz_rows fun p hp => Kz.same (z4.trans (z5.trans (z6.trans z7))) _ _ (Kz.same z13 _ _ (rl p (has.sub p (pm.mem_iff.mp hp))).1)
end
end K55
/-! Sets of texts: putting in, set(xs), sorted. -/
namespace NS
open PySem PySem.Spec PyProof.Rows L2
theorem isText (x : Str) (t : Tok) : Value.isStrOf x (.str x t) = true := by simp [Value.isStrOf]
def textOf (e : Int × Value) : Str := match e.2 with
  | .str x _ => x
  | _ => Str.empty
def IsText (w : World) (e : Int × Value) : Prop := ∃ x t, e = (hashStr w x, Value.str x t)
/-- the set of the texts ws at a, in the order of its entries -/
structure TSet (P : Program) (w : World) (h : Heap) (a : Addr) (ws : List Str) : Prop where
  ex : ∃ (o : Obj) (es : Array (Int × Value)) (ep : Nat) (t : SetTable), h.get? a = some o ∧ o.ExactSet ∧ o.data = .set es ep t ∧ (∀ e ∈ es.toList, IsText w e) ∧ es.toList.map textOf = ws ∧ ws.Nodup ∧ es.size < scanBound ∧ t.fits es.size = true ∧ Ris t.place.toList ∧
    (w.params.followText "set-order" = true ∨ t.led = true)
section
variable {P : Program} {w : World} {A : Around} {E : Value → Shared → Prop} {s : Shared} {a : Addr} {ws : List Str}
theorem TSet.carry {h h' : Heap} (R : TSet P w h a ws) (f : ∀ o, h.get? a = some o → h'.get? a = some o) : TSet P w h' a ws := by
  obtain ⟨o, es, ep, t, ho, r⟩ := R.ex
  exact ⟨o, es, ep, t, f o ho, r⟩
theorem elems_texts {l : List (Int × Value)} (h : ∀ e ∈ l, IsText w e) : ElemsOf (PySem.strKind P w) l := fun e m => by
  obtain ⟨x, t, rfl⟩ := h e m
  exact ⟨⟨x, isText x t, rfl⟩, rfl⟩
/-- what is left once a text has got its place -/
theorem put_rest {g : Bool → Sem Unit} (hg : ∀ (b : Bool) (s1 : Shared) (Q : Unit → Shared → Prop), Q () s1 → wpAny (model P w) A (g b) Q E s1) {o : Obj} {es : Array (Int × Value)} {ep : Nat} {t : SetTable} (ho : s.heap.get? a = some o) (hex : o.ExactSet) (hd : o.data = .set es ep t)
    {es1 : Array (Int × Value)} {t2 : SetTable} (all : ∀ e ∈ es1.toList, IsText w e) (once : (es1.toList.map textOf).Nodup) (small : es1.size < scanBound) (fit : t2.fits es1.size = true) (ris : Ris t2.place.toList) (led : w.params.followText "set-order" = true ∨ t2.led = true) {dum : Bool} {R : Option Bool → Shared → Prop}
    (q : ∀ h1 ws1, Heap.SameBut a s.heap h1 → TSet P w h1 a ws1 → ws1.Perm (es1.toList.map textOf) → R (some true) { s with heap := h1 }) :
    wpAny (model P w) A (do
        storeSet a es1 t2
        if (!dum && t2.tooFull) = true then do
            g (relayAll t2 es1 (SetTable.grown es1.size)).2.2
            storeSet a (relayAll t2 es1 (SetTable.grown es1.size)).1 (relayAll t2 es1 (SetTable.grown es1.size)).2.1
            pure (some true)
          else pure (some true)) R E s := by
  have sb1 := Heap.SameBut.update s.heap a (Obj.putSet es1 t2)
  have ho1 := store_at (es' := es1) (t' := t2) ho hd
  refine wpAny_bind (wpAny_storeSet_of ho hd ?_ (fits_of_scanBound small))
  split
  · have n1 := relayAll_perm t2 es1 (SetTable.grown es1.size)
    have n2 := relayAll_fits t2 es1 (SetTable.grown es1.size)
    have n3 := relayAll_ris t2 es1 (SetTable.grown es1.size)
    have n4 := relayAll_led t2 es1 (SetTable.grown es1.size)
    generalize relayAll t2 es1 (SetTable.grown es1.size) = Z at n1 n2 n3 n4 ⊢
    obtain ⟨es2, t3, gave⟩ := Z
    have sz : es2.size = es1.size := by rw [← Array.length_toList, n1.length_eq, Array.length_toList]
    have small2 : es2.size < scanBound := by rw [sz]; exact small
    refine wpAny_bind (hg _ _ _ (wpAny_bind (wpAny_storeSet_of ho1 rfl ?_ (fits_of_scanBound small2))))
    exact wpAny_pure (q _ _ (sb1.trans (Heap.SameBut.update _ a _)) ⟨_, es2, _, t3, store_at (es' := es2) (t' := t3) ho1 rfl, hex, rfl, fun e m => all e (n1.mem_iff.mp m), rfl, (n1.map textOf).nodup_iff.mpr once, small2, n2, n3, led.imp id fun z => n4.trans z⟩ (n1.map textOf))
  · exact wpAny_pure (q _ _ sb1 ⟨_, es1, _, t2, ho1, hex, rfl, all, rfl, once, small, fit, ris, led⟩ (List.Perm.refl _))
theorem put_text {x : Str} {tk : Tok} {Q : Bool → Shared → Prop} (R : TSet P w s.heap a ws) (room : ws.length + 1 < scanBound)
    (q : ∀ b h1 ws1, Heap.SameBut a s.heap h1 → TSet P w h1 a ws1 → (x ∈ ws → ws1 = ws) → (x ∉ ws → ws1.Perm (x :: ws)) → Q b { s with heap := h1 }) :
    wpAny (model P w) A (setAddHashed a (.str x tk) (hashStr w x)) Q E s := by
  obtain ⟨o, es, ep, t, ho, hex, hd, all, rfl, once, small, fit, ris, led⟩ := R.ex
  have key : (PySem.strKind P w).is x (.str x tk) = true := isText x tk
  have scan : (Value.str x tk).scannable = true := rfl
  have el : ElemsOf (PySem.strKind P w) es.toList := elems_texts all
  have is_iff : ∀ e ∈ es.toList, (PySem.strKind P w).is x e.2 = true ↔ textOf e = x := fun e m => by
    obtain ⟨y, t, rfl⟩ := all e m
    exact ⟨fun z => Value.isStrOf_inj _ _ _ (isText y t) z, fun z => by rw [← show y = x from z]; exact isText y t⟩
  unfold setAddHashed setAddHashedIn
  refine wpAny_holding (wpAny_bind (wpAny_setState_of ho hd fit ?_))
  dsimp only
  rw [byScan_of scan small el]
  simp only [↓reduceIte]
  unfold setAddByScan
  refine wpAny_bind (wpAny_bind (wpAny_rule (wpAny_bind (wpAny_setScan_of key ho hd fit el ?_))))
  cases hfi : List.findIdx? (fun e => (PySem.strKind P w).is x e.2) es.toList with
  | some j =>
    obtain ⟨hj, pj, _⟩ := List.findIdx?_eq_some_iff_getElem.mp hfi
    have m : x ∈ es.toList.map textOf := List.mem_map.mpr ⟨es.toList[j], List.getElem_mem hj, (is_iff _ (List.getElem_mem hj)).mp pj⟩
    exact wpAny_pure (wpAny_pure (q _ s.heap _ (Heap.SameBut.refl a s.heap) R (fun _ => rfl) fun z => absurd m z))
  | none =>
    have m : x ∉ es.toList.map textOf := fun z => by
      obtain ⟨e, me, ee⟩ := List.mem_map.mp z
      have c := List.findIdx?_eq_none_iff.mp hfi e me
      rw [(is_iff e me).mpr ee] at c
      cases c
    dsimp only
    have gw : ∀ (b : Bool) {s1 : Shared} {G : Unit → Shared → Prop}, G () s1 → wpAny (model P w) A (match b with | true => rule "set.scan.the-table-gave-way" | false => pure ()) G E s1 := fun b s1 G z => by cases b <;> first | exact wpAny_pure z | exact wpAny_rule z
    have n1 := layNew_perm t es (hashStr w x) (.str x tk)
    have n2 := layNew_fits t es (hashStr w x) (.str x tk)
    have n3 := layNew_ris t es (hashStr w x) (.str x tk) ris
    have n4 := layNew_led t es (hashStr w x) (.str x tk)
    generalize layNew t es (hashStr w x) (.str x tk) = Z at n1 n2 n3 n4 ⊢
    obtain ⟨es1, t1, dum, gave⟩ := Z
    dsimp only at n1 n2 n3 n4 ⊢
    rw [Array.toList_push] at n1
    have pc : es1.toList.Perm ((hashStr w x, Value.str x tk) :: es.toList) := n1.trans (List.perm_append_singleton _ _)
    have pt : (es1.toList.map textOf).Perm (x :: es.toList.map textOf) := pc.map textOf
    have all1 : ∀ e ∈ es1.toList, IsText w e := fun e me => (List.mem_cons.mp (pc.mem_iff.mp me)).elim (fun z => ⟨x, tk, z⟩) (all e)
    have once1 : (es1.toList.map textOf).Nodup := pt.nodup_iff.mpr (List.nodup_cons.mpr ⟨m, once⟩)
    have small1 : es1.size < scanBound := by
      have z := pt.length_eq
      rw [List.length_map, List.length_cons, Array.length_toList] at z
      rw [z]
      exact room
    have led1 : w.params.followText "set-order" = true ∨ t1.led = true := led.imp id fun z => n4.trans z
    have fin : ∀ h1 ws1, Heap.SameBut a s.heap h1 → TSet P w h1 a ws1 → ws1.Perm (es1.toList.map textOf) → Q true { s with heap := h1 } := fun h1 ws1 sb T p => q true h1 ws1 sb T (fun z => absurd z m) fun _ => p.trans pt
    refine wpAny_bind (gw _ ?_)
    split
    · refine wpAny_bind ?_
      rw [hashByValue_scannable 8 scan]
      refine wpAny_pure (put_rest (fun b s1 G z => ?_) ho hex hd all1 once1 small1 ?_ ?_ ?_ fun h1 ws1 sb T p => ?_)
      · cases b <;> first | exact wpAny_pure z | exact wpAny_rule z
      · first | (split <;> first | exact n2 | exact SetTable.fits_plain_off n2) | exact n2 | exact SetTable.fits_plain_off n2
      · first | (split <;> exact n3) | exact n3
      · first | (split <;> exact led1) | exact led1
      · exact wpAny_pure (fin h1 ws1 sb T p)
    · refine wpAny_bind (wpAny_pure ?_)
      simp only [↓reduceIte]
      refine put_rest (fun b s1 G z => ?_) ho hex hd all1 once1 small1 n2 n3 led1 fun h1 ws1 sb T p => ?_
      · cases b <;> first | exact wpAny_pure z | exact wpAny_rule z
      · exact wpAny_pure (fin h1 ws1 sb T p)
end
end NS
/-! Sets of texts: the call set(xs), xs a list; sorted of such a set. -/
namespace NS
open PySem PySem.Spec PyProof.Rows L2
theorem texts_at : ∀ {xs : List Str} {us : List Value}, Vals (xs.map V.str) us → ∀ (i : Nat) (v : Value), us[i]? = some v → ∃ x t, xs[i]? = some x ∧ v = Value.str x t
  | [], _, .nil, i, v, h => by simp at h
  | x :: xs, _, .cons r t, 0, v, h => by
    obtain ⟨tk, rfl⟩ := r
    exact ⟨x, tk, rfl, (Option.some.inj h).symm⟩
  | x :: xs, _, .cons r t, i + 1, v, h => texts_at t i v h
section
variable {P : Program} {w : World} {A : Around} {E : Value → Shared → Prop} {s : Shared} {a : Addr} {ws : List Str}
/-- what set.__init__ has done -/
def DoneT (P : Program) (w : World) (s : Shared) (xs : List Str) (s2 : Shared) : Prop :=
  ∃ h2 tk ws, s2 = { s with heap := h2, toks := tk } ∧ TSet P w h2 s.heap.objs.size ws ∧ (∀ x, x ∈ ws ↔ x ∈ xs) ∧ ∀ b o, s.heap.get? b = some o → h2.get? b = some o
theorem TSet.new {h : Heap} {a : Addr} (ho : h.get? a = some (setObj w)) : TSet P w h a [] := by
  refine ⟨_, #[], 0, _, ho, ⟨rfl, rfl, rfl⟩, rfl, fun _ m => (nomatch m), rfl, List.nodup_nil, by decide, rfl, List.Pairwise.nil, ?_⟩
  cases e : w.params.followText "set-order" with
  | true => exact .inl rfl
  | false => exact .inr (show (!w.params.followText "set-order") = true by rw [e]; rfl)
theorem TSet.once {h : Heap} (R : TSet P w h a ws) : ws.Nodup := by
  obtain ⟨_, _, _, _, _, _, _, _, _, o, _⟩ := R.ex
  exact o
/-- set.update's loop over texts -/
theorem fillT {I S : Addr} {fp wr : List Addr} {G : Array GenState → Array GenState → Prop} {n : Nat} {Pv : Nat → Value → Prop} {St : Nat → Shared → Prop} {R : Result → Shared → Prop} {xs : List Str}
    (W : WalksS P w A.in1 I fp wr G n Pv St) (nS : S ∉ fp) (hn : n = xs.length) (few : xs.length < 64) (val : ∀ i v, Pv i v → ∃ x t, xs[i]? = some x ∧ v = .str x t) (rest : List Str) :
    ∀ (done : List Str) (s : Shared), xs = done ++ rest → St done.length s → (∃ ws, TSet P w s.heap S ws ∧ (∀ x, x ∈ ws ↔ x ∈ done) ∧ ws.length ≤ done.length) →
      (∀ s1 ws, Moved (S :: wr) G s s1 → TSet P w s1.heap S ws → (∀ x, x ∈ ws ↔ x ∈ xs) → R (.ok (.ret .none)) s1) →
      codeAny (model P w) A (.builtin "set.update.loop" ⟨[.ref S, .ref I], []⟩) R s := by
  have up : ∀ b ∈ wr, b ∈ S :: wr := fun b m => List.mem_cons_of_mem _ m
  have nSw : S ∉ wr := fun m => nS (W.sub _ m)
  induction rest with
  | nil =>
    intro done s er st hs fin
    obtain ⟨ws, R0, g, _⟩ := hs
    rw [List.append_nil] at er
    subst er
    rw [← hn] at st
    refine codeAny_builtin F.entry_set_update_loop ?_
    rw [Around.under_plainId F.plain_set_update_loop _]
    refine (show wpAny _ A.in1 (pyNext (.ref I) >>= _) _ _ s from wpAny_bind (W.done s _ _ st fun s1 m => ?_))
    exact (show wpAny _ A.in1 (ret Value.none) _ _ s1 from wpAny_pure (fin s1 ws (m.mono up) (R0.carry fun o e => m.heap S o nSw e) g))
  | cons x rest ih =>
    intro done s er st hs fin
    obtain ⟨ws, R0, g, gl⟩ := hs
    have il : done.length < n := by rw [hn, er, List.length_append, List.length_cons]; omega
    have xe : xs[done.length]? = some x := by rw [er, List.getElem?_append_right (Nat.le_refl _), Nat.sub_self]; rfl
    refine codeAny_builtin F.entry_set_update_loop ?_
    rw [Around.under_plainId F.plain_set_update_loop _]
    refine (show wpAny _ A.in1 (pyNext (.ref I) >>= _) _ _ s from wpAny_bind (W.item done.length s _ _ il st fun v s1 pv st1 m => ?_))
    obtain ⟨y, t, pe, rfl⟩ := val _ _ pv
    rw [xe] at pe
    cases pe
    have R1 : TSet P w s1.heap S ws := R0.carry fun o e => m.heap S o nSw e
    refine (show wpAny _ A.in1 (holding [Value.str x t] (setAdd S (.str x t)) >>= _) _ _ s1 from wpAny_bind (wpAny_holding ?_))
    rw [setAdd]
    refine wpAny_holding (wpAny_bind (wpAny_pyHash_str ?_))
    refine put_text (s := { s1 with toks := s1.toks + 1 }) R1 (by rw [er, List.length_append, List.length_cons] at few; unfold scanBound; omega) fun b h2 ws2 sb R2 c1 c2 => ?_
    have g2 : (∀ y, y ∈ ws2 ↔ y ∈ done ++ [x]) ∧ ws2.length ≤ (done ++ [x]).length := by
      rw [List.length_append, List.length_singleton]
      rcases Classical.em (x ∈ ws) with c | c
      · rw [c1 c]
        refine ⟨fun y => ?_, by omega⟩
        rw [List.mem_append, List.mem_singleton, g y]
        exact ⟨Or.inl, fun z => z.elim id fun z => by rw [z]; exact (g x).mp c⟩
      · have p := c2 c
        refine ⟨fun y => ?_, by rw [p.length_eq, List.length_cons]; omega⟩
        rw [p.mem_iff, List.mem_cons, List.mem_append, List.mem_singleton, g y]
        exact Or.comm
    refine wpAny_pure ⟨plainId_quiet F.plain_set_update_loop _, ih (done ++ [x]) _ (by rw [er, List.append_assoc]; rfl) ?_ ⟨ws2, R2, g2⟩ fun s3 ws3 m3 R3 g3 => ?_⟩
    · rw [List.length_append]
      exact W.frame _ s1 _ _ st1 (Nat.le_add_right _ _) fun b mb o e => (sb.2 b fun z => nS (z ▸ mb)).trans e
    · refine fin s3 ws3 (Moved.trans W.gtrans ((m.mono up).then_heap (Nat.le_add_right _ _) fun b o mb e => ?_) m3) R3 g3
      exact (sb.2 b fun z => mb (z ▸ List.mem_cons_self)).trans e
theorem init_texts {l : Addr} {items : Array Value} {xs : List Str} (calm : A.handled = none) (hl : s.heap.IsList l items) (he : Vals (xs.map V.str) items.toList) (few : xs.length < 64) :
    codeAny (model P w) A.in1 (.call (.builtin "set.__init__") ⟨[.ref s.heap.objs.size, .ref l], []⟩) (wants (fun r s2 => r = .none ∧ DoneT P w s xs s2) E) { s with heap := s.heap.push (setObj w) } := by
  have at0 : (s.heap.push (setObj w)).get? s.heap.objs.size = some (setObj w) := Heap.get?_push_size _ rfl
  have ty : Shared.TypeIs { s with heap := s.heap.push (setObj w) } (.ref s.heap.objs.size) "set" := ⟨_, at0, rfl⟩
  have n0 : items.size = xs.length := by
    have z := he.length
    rw [List.length_map, Array.length_toList] at z
    exact z.symm
  have none_of : ∀ b, s.heap.objs.size ≤ b → s.heap.get? b = none := fun b hb => by
    cases q : s.heap.get? b with
    | none => rfl
    | some o => exact absurd (Heap.lt_size q) (Nat.not_lt.mpr hb)
  refine codeAny_call_builtin F.called_set.init.plain F.entry_set_init (check_set_init_1 ty ?_)
  obtain ⟨ol, hol, hcl, nl, hdl⟩ := hl
  obtain ⟨cl, dl, datal, sl⟩ := ol
  simp only at hcl hdl
  subst hcl hdl
  have hol1 : (s.heap.push (setObj w)).get? l = some { cls := .type "list", dict := dl, data := .seq items nl, slots := sl } := Heap.get?_push_of_some _ hol
  have il : (s.heap.push (setObj w)).IsList l items := ⟨_, hol1, rfl, nl, rfl⟩
  have lt : l < s.heap.objs.size := Heap.lt_size hol
  have sub1 := F.sub_list_set
  have sub2 := F.sub_list_frozenset
  have ne : (Value.type "list" == Value.type "dict") = false := by decide
  unfold Builtin.«set.__init__» noKeywords Builtin.Frozenset.updateFrom
  generalize hPI : pyIter = PI
  wp_walk
  subst hPI
  refine wpAny_pyIter_list il (wpAny_bind (wpAny_runValue ?_))
  have calm3 : A.in1.in1.in1.handled = none := by simp [calm]
  have sz1 : (s.heap.push (setObj w)).objs.size = s.heap.objs.size + 1 := Heap.size_push ..
  have neI : l ≠ (s.heap.push (setObj w)).objs.size := by rw [sz1]; exact Nat.ne_of_lt (Nat.lt_succ_of_lt lt)
  have at2 : ((s.heap.push (setObj w)).push { cls := .type "list_iterator", data := .fields #[.ref l, .int 0 0] }).get? s.heap.objs.size = some (setObj w) := Heap.get?_push_of_some _ at0
  refine fillT (xs := xs) (S := s.heap.objs.size) ((Walks.list calm3 _ l neI items).toS) (fun m => ?_) n0 few (fun i v hv => ?_) xs [] _ rfl
    ⟨⟨_, Heap.get?_push_size _ rfl, rfl, rfl⟩, il.push _⟩ ⟨[], TSet.new at2, fun _ => Iff.rfl, Nat.le_refl _⟩ fun s2 ws m R g => ?_
  · rw [sz1] at m
    rcases List.mem_cons.mp m with z | z
    · exact absurd z (Nat.ne_of_lt (Nat.lt_succ_self _))
    · exact absurd (List.mem_singleton.mp z) (Nat.ne_of_gt lt)
  · have q : items.toList[i]? = some v := by rw [Array.getElem?_toList]; exact hv
    exact texts_at he i v q
  · have keep : ∀ b o, s.heap.get? b = some o → s2.heap.get? b = some o := fun b o e => m.heap b o (fun z => by
      rcases List.mem_cons.mp z with z | z
      · rw [z, none_of _ (Nat.le_refl _)] at e; exact nomatch e
      · rw [List.mem_singleton.mp z, sz1, none_of _ (Nat.le_succ _)] at e; exact nomatch e) (Heap.get?_push_of_some _ (Heap.get?_push_of_some _ e))
    obtain ⟨h2, g2, d2, tk, o2⟩ := s2
    cases (m.gens : g2 = s.gens)
    cases (m.drawn : d2 = s.drawn)
    cases (m.os : o2 = s.os)
    exact wpAny_pure (wpAny_pure ⟨rfl, h2, tk, ws, rfl, R, g, keep⟩)
/-- set(xs) -/
theorem call_texts {l : Addr} {items : Array Value} {xs : List Str} {Q : Value → Shared → Prop} (calm : A.handled = none) (hl : s.heap.IsList l items) (he : Vals (xs.map V.str) items.toList) (few : xs.length < 64)
    (q : ∀ (h2 : Heap) (tk : Nat) (ws : List Str), TSet P w h2 s.heap.objs.size ws → (∀ x, x ∈ ws ↔ x ∈ xs) → (∀ b o, s.heap.get? b = some o → h2.get? b = some o) → Q (.ref s.heap.objs.size) { s with heap := h2, toks := tk }) :
    wpAny (model P w) A (call (.type "set") [.ref l]) Q E s := by
  obtain ⟨c, tl, mro⟩ := F.called_set.mro
  have made := F.called_set.made
  have sub := F.called_set.sub
  refine wpAny_call (codeAny_of_tree (show wpAny _ _ (callAny (.type "set") _) _ _ _ from wpAny_pure ⟨Code.quiet_builtin _ (by decide +kernel), codeAny_builtin F.entry_type_call ?_⟩))
  rw [Around.under_plain (weight_type_call_type "set" [.ref l] []) rfl]
  have t1 := F.called_set.notType
  have t2 := F.called_set.canCreate
  have t3 := F.typeCall_set_1 (.ref l)
  repeat (any_goals (first | assumption | wp_step))
  refine codeAny_mono (code_set_led1 (.ref l) (E := E) (Q₁ := fun u s1 => u = .ref s.heap.objs.size ∧ s1 = { s with heap := s.heap.push (setObj w) }) ⟨rfl, rfl⟩) fun r s1 hr => ?_
  match r, hr with
  | .error _, hr => exact hr
  | .ok (.ret u), hr =>
    obtain ⟨rfl, rfl⟩ := hr
    have ty : Shared.TypeIs { s with heap := s.heap.push (setObj w) } (.ref s.heap.objs.size) "set" := ⟨_, Heap.get?_push_size _ rfl, rfl⟩
    have i1 := F.called_set.init.lookup
    have i2 := F.called_set.init.bind (.ref s.heap.objs.size)
    repeat (any_goals (first | assumption | wp_step))
    refine codeAny_mono (init_texts (E := E) calm hl he few) fun r2 s2 hr2 => ?_
    match r2, hr2 with
    | .error _, hr2 => exact hr2
    | .ok (.ret r), hr2 =>
      obtain ⟨rfl, h2, tk, ws, rfl, R, g, k⟩ := hr2
      repeat (any_goals (first | assumption | wp_step))
      exact q h2 tk ws R g k
end
section
variable {X : Cx}
/-- the set of texts at a -/
def TSetO (P : Program) (w : World) (a : Addr) (ws : List Str) : HO := .ext fun h => TSet P w h a ws
theorem tSetO_ok {P : Program} {w : World} {H : Hp} {h : Heap} {a : Addr} {ws : List Str} (R : TSet P w h a ws) : ObjOk P w H h a (TSetO P w a ws) := by
  have z := R.ex
  obtain ⟨o, es, ep, t, ho, r⟩ := z
  exact ⟨R, ⟨o, ho⟩, fun h1 h2 p k => TSet.carry p k⟩
/-- set(xs) of texts -/
def rSetT (X : Cx) : List V → Hp → VK → Prop := fun vs H Q => ∃ (l : Addr) (xs : List Str), vs = [V.ref l] ∧ SqL X.K H l (xs.map V.str) ∧ xs.length < 64 ∧ ∀ a ws, H a = none → ws.Nodup → (∀ x, x ∈ ws ↔ x ∈ xs) → Q (.ref a) (upd H a (TSetO X.prog X.w a ws))
theorem cr_setT (hc : X.calm = true) : CallR X (.type "set") (rSetT X) := by
  intro pins s σ H vs us Q I r h
  obtain ⟨l, xs, rfl, hl, few, q⟩ := h
  rw [Vals.ref1 r]
  obtain ⟨its, rv, pl, hz⟩ := I.list hl
  have n0 : H s.heap.objs.size = none := I.hok.fresh (Nat.le_refl _)
  refine call_texts (P := X.prog) (w := X.w) (xs := xs) (I.ok.hd hc) pl.isList (by simpa using rv) few fun h2 tk ws R g k => ?_
  exact ⟨.ref s.heap.objs.size, upd H s.heap.objs.size (TSetO X.prog X.w s.heap.objs.size ws), I.laid (t' := tk) k (Nat.le_refl _) (tSetO_ok R), rfl, q _ ws n0 R.once g⟩
end
end NS
/-! Sets of texts: sorted of such a set. -/
namespace NS
open PySem PySem.Spec PyProof.Rows L2
abbrev strLe (x y : Str) : Bool := decide (x.cps.toList ≤ y.cps.toList)
theorem each_texts : ∀ {vs : List Value} {xs : List Str}, PySem.W.EachIs (fun (v : Value) (x : Str) => ∃ t, v = .str x t) vs xs → Vals (xs.map V.str) vs
  | _, _, .nil => .nil
  | _, _, .cons ⟨t, e⟩ r => .cons ⟨t, e⟩ (each_texts r)
theorem each_reads {h : Heap} {f : Addr} : ∀ {vs : List Value} {xs : List Str}, PySem.W.EachIs (fun (v : Value) (x : Str) => ∃ t, v = .str x t) vs xs → PySem.W.EachIs (fun (v : Value) (x : Str) => ∃ as, Reads h v (.str x) as ∧ f ∉ as) vs xs
  | _, _, .nil => .nil
  | _, _, .cons ⟨t, e⟩ r => by
    subst e
    exact .cons ⟨[], .str _ t, List.not_mem_nil⟩ (each_reads r)
theorem texts_each {w : World} : ∀ l : List (Int × Value), (∀ e ∈ l, IsText w e) → PySem.W.EachIs (fun (v : Value) (x : Str) => ∃ t, v = .str x t) (l.map (·.2)) (l.map textOf)
  | [], _ => .nil
  | e :: l, h => by
    obtain ⟨x, t, rfl⟩ := h e List.mem_cons_self
    exact .cons ⟨t, rfl⟩ (texts_each l fun d m => h d (List.mem_cons_of_mem _ m))
section
variable {P : Program} {w : World} {A : Around} {E : Value → Shared → Prop} {s : Shared} {a : Addr} {ws : List Str}
theorem sorted_texts {Q : Value → Shared → Prop} (R : TSet P w s.heap a ws) (calm : A.handled = none) (few : ws.length < 64) (hu : A.units + 16 < cLine)
    (q : ∀ s1 p (out : Array Value) (c : Nat) (ys : List Str), (∀ b o, s.heap.get? b = some o → s1.heap.get? b = some o) → s1.gens = s.gens → s1.os = s.os → s.heap.objs.size ≤ p → s1.heap.get? p = some (seqObj "list" out c) →
      Vals (ys.map V.str) out.toList → ys.Perm ws → ys.Pairwise (fun x y => x.cps.toList ≤ y.cps.toList) → Q (.ref p) s1) :
    wpAny (model P w) A (call (.builtin "sorted") [.ref a]) Q E s := by
  obtain ⟨o, es, ep, t, ho, hex, hd, all, rfl, once, small, fit, ris, led⟩ := R.ex
  refine Calls.call_function_entry kind_sorted plain_sorted entry_sorted (args_sorted1 _) ?_
  unfold Builtin.«sorted»
  refine wpAny_bind (m := checkCount "sorted" 1 1 _) (wpAny_pure (wpAny_bind (collect_set (A := A.in1) calm ⟨o, ho, hex.1, hd⟩ fit small ris led fun s1 vs k1 z1 g1 o1 pm => ?_)))
  obtain ⟨l0, rfl, p0⟩ := perm_map_inv pm
  have all0 : ∀ e ∈ l0, IsText w e := fun e m => all e (p0.mem_iff.mp m)
  have pt := p0.map textOf
  have n0 : l0.length < 64 := by
    have z := p0.length_eq
    rw [List.length_map] at few
    omega
  have each := texts_each l0 all0
  refine wpAny_bind (wpAny_newList ?_ (by rw [List.length_map, sizeLine_eq]; omega))
  have at1 : (s1.heap.push (seqObj "list" (l0.map (·.2)).toArray 0)).get? s1.heap.objs.size = some (seqObj "list" (l0.map (·.2)).toArray 0) := Heap.get?_push_size _ rfl
  refine wpAny_bind (wpAny_holding (PySem.W.list_sort_data (s := { s1 with heap := s1.heap.push (seqObj "list" (l0.map (·.2)).toArray 0) }) (R := fun (v : Value) (x : Str) => ∃ t, v = .str x t) (enc := PyData.str) (bs := l0.map textOf) at1 each (each_reads each)
    (PySem.W.AllAlike.of fun _ _ => rfl) (PySem.W.Sortable.others fun _ => ⟨fun z => (nomatch z), fun _ z => (nomatch z)⟩) (by rw [List.length_map, sizeLine_eq]; omega) (fun b _ => ?_) fun out n1 eo => ?_))
  · show A.in1.units + 1 + 0 < cLine
    rw [Around.in1_units]
    omega
  · obtain ⟨c, hc⟩ := sortedHeap_at (vs := l0.map (·.2)) (out := List.toArray out) at1
    refine wpAny_pure ⟨_, rfl, q _ s1.heap.objs.size (List.toArray out) c ((l0.map textOf).mergeSort (PySem.W.dataLe false PyData.str)) (fun b u e => ?_) g1 o1 z1 hc (by rw [List.toList_toArray]; exact each_texts eo) ((List.mergeSort_perm _ _).trans pt) ?_⟩
    · have e2 := k1 b u e
      have lt := Heap.lt_size e2
      exact (sortedHeap_old (Nat.ne_of_lt lt) (by rw [size_push']; exact Nat.lt_succ_of_lt lt)).trans (Heap.get?_push_of_some _ e2)
    · have z := PySem.W.sort_pairwise (PySem.W.sortLe_total _ _ _ : PySem.W.TotalLe (PySem.W.dataLe false PyData.str)) (l0.map textOf)
      refine z.imp fun {x y} h => ?_
      have e := congrFun (congrFun (PySem.W.dataLe_str fun x : Str => x) x) y
      exact of_decide_eq_true (e.symm.trans h)
end
section
variable {X : Cx}
/-- sorted(a set of texts) -/
def rSortedT (X : Cx) : List V → Hp → VK → Prop := fun vs H Q => ∃ (a : Addr) (ws : List Str), vs = [V.ref a] ∧ H a = some (TSetO X.prog X.w a ws) ∧ ws.length < 64 ∧
  ∀ (ys : List Str) (p : Addr), ys.Perm ws → ys.Pairwise (fun x y => x.cps.toList ≤ y.cps.toList) → H p = none → Q (.ref p) (upd H p (.lst (ys.map V.str)))
theorem cr_sortedT (hc : X.calm = true) (hu : X.A.units + 64 < cLine) : CallR X (.builtin "sorted") (rSortedT X) := by
  intro pins s σ H vs us Q I r h
  obtain ⟨a, ws, rfl, ha, few, q⟩ := h
  have R : TSet X.prog X.w s.heap a ws := (I.hok a _ ha).1
  rw [Vals.ref1 r]
  refine sorted_texts R (I.ok.hd hc) few (by omega) fun s1 p out c ys k g o hp hg hv pm pw => ?_
  have n0 : H p = none := I.hok.fresh hp
  have J := I.call' (s' := s1) (ch := []) (H' := upd H p (.lst (ys.map V.str))) o (Un.laid k hp n0) (I.hok.laid k hp ⟨by rw [List.length_map, pm.length_eq, sizeLine_eq]; omega, out.toList, c, hv, hg⟩) (by rw [g]; exact I.bare) (fun _ z => nomatch z)
  exact ⟨.ref p, _, J, rfl, q ys p pm pw n0⟩
end
end NS
/-! Machines over the abstract heap, part by part. -/
namespace MC
open PySem PySem.Spec PyProof.Rows L2 NS WD
theorem nodup_len {α : Type} [DecidableEq α] : ∀ (l D : List α), l.Nodup → (∀ x ∈ l, x ∈ D) → l.length ≤ D.length
  | [], _, _, _ => Nat.zero_le _
  | x :: l, D, n, s => by
    have hx := s x List.mem_cons_self
    have n' := List.nodup_cons.mp n
    have z := nodup_len l (D.erase x) n'.2 fun y hy => (List.mem_erase_of_ne fun e => n'.1 (by rw [← show y = x from e]; exact hy)).mpr (s y (List.mem_cons_of_mem _ hy))
    rw [List.length_erase_of_mem hx] at z
    have p : 0 < D.length := List.length_pos_of_mem hx
    rw [List.length_cons]
    omega
variable {H : Hp}
theorem kz_len : ∀ {xs : List V} {ks : List NestedKey}, KzAll H xs ks → xs.length = ks.length
  | _, _, .nil => rfl
  | _, _, .cons _ t => by rw [List.length_cons, List.length_cons, kz_len t]
theorem kz_get : ∀ {xs : List V} {ks : List NestedKey}, KzAll H xs ks → ∀ (i : Nat) (v : V), xs[i]? = some v → ∃ k, ks[i]? = some k ∧ Kz H v k
  | _, _, .nil, i, v, h => by simp at h
  | _, _, .cons r t, 0, v, h => ⟨_, rfl, (Option.some.inj h) ▸ r⟩
  | _, _, .cons r t, i + 1, v, h => kz_get t i v h
theorem kz_tup {v : V} {ks : List NestedKey} (h : Kz H v (.tup ks)) : ∃ a xs, v = .ref a ∧ H a = some (.tup xs) ∧ KzAll H xs ks := by
  cases h with
  | tup e h => exact ⟨_, _, rfl, e, h⟩
theorem kz_num {v : V} {i : Int} (h : Kz H v (.num i)) : v = .int i := by cases h; rfl
theorem kz_text {v : V} {x : Str} (h : Kz H v (.text x)) : v = .str x := by cases h; rfl
theorem kz_nums : ∀ {xs : List V} {ns : List Int}, KzAll H xs (ns.map NestedKey.num) → xs = ns.map V.int
  | _, [], h => by cases h; rfl
  | _, n :: ns, h => by
    cases h with
    | cons r t => rw [kz_num r, kz_nums t]; rfl
structure MachAt (H : Hp) (a : Addr) (m : MachM) where
  f : Addr
  t : Addr
  xs : List V
  top : H a = some (.tup [.int m.size, .ref f, .ref t])
  fin : H f = some (.tup (m.finals.map V.int))
  row : H t = some (.tup xs)
  all : KzAll H xs (m.rows.map RowM.key)
theorem mach_at {a : Addr} {m : MachM} (h : Kz H (.ref a) m.key) : Nonempty (MachAt H a m) := by
  obtain ⟨a', xs, e, ha, hs⟩ := kz_tup h
  cases e
  cases hs with
  | cons h1 hs =>
    cases hs with
    | cons h2 hs =>
      cases hs with
      | cons h3 hs =>
        cases hs
        cases kz_num h1
        obtain ⟨f, fs, rfl, ef, af⟩ := kz_tup h2
        obtain ⟨t, ts, rfl, et, at'⟩ := kz_tup h3
        cases kz_nums af
        exact ⟨⟨f, t, ts, ha, ef, et, at'⟩⟩
theorem row_at {xs : List V} {rows : List RowM} (all : KzAll H xs (rows.map RowM.key)) {i : Nat} {v : V} (h : xs[i]? = some v) : ∃ r : RowM, rows[i]? = some r ∧ ∃ (a : Addr) (dv : V), v = .ref a ∧ H a = some (.tup [.int r.before, dv, .int r.after]) ∧ Kz H dv r.deed.key := by
  obtain ⟨k, hk, z⟩ := kz_get all i v h
  rw [List.getElem?_map] at hk
  cases e : rows[i]? with
  | none => rw [e] at hk; exact nomatch hk
  | some r =>
    rw [e] at hk
    cases hk
    refine ⟨r, rfl, ?_⟩
    obtain ⟨a, ys, rfl, ha, hs⟩ := kz_tup z
    cases hs with
    | cons h1 hs =>
      cases hs with
      | cons h2 hs =>
        cases hs with
        | cons h3 hs =>
          cases hs
          cases kz_num h1
          cases kz_num h3
          exact ⟨a, _, rfl, ha, h2⟩
/-- the signs of a deed -/
def Deed.signs : Deed → List Str
  | .step => ["step"]
  | .ex b n l => [wordOf b, n, l]
theorem deed_at {dv : V} {d : Deed} (h : Kz H dv d.key) : ∃ q, dv = .ref q ∧ H q = some (.tup (d.signs.map V.str)) := by
  cases d with
  | step =>
    obtain ⟨q, ys, rfl, hq, hs⟩ := kz_tup h
    cases hs with
    | cons h1 hs =>
      cases hs
      cases kz_text h1
      exact ⟨q, rfl, hq⟩
  | ex b n l =>
    obtain ⟨q, ys, rfl, hq, hs⟩ := kz_tup h
    cases hs with
    | cons h1 hs =>
      cases hs with
      | cons h2 hs =>
        cases hs with
        | cons h3 hs =>
          cases hs
          cases kz_text h1
          cases kz_text h2
          cases kz_text h3
          exact ⟨q, rfl, hq⟩
def exName (r : RowM) : Option Str := match r.deed with
  | .step => none
  | .ex _ n _ => some n
def exNames (rs : List RowM) : List Str := rs.filterMap exName
theorem mem_exNames {rs : List RowM} {x : Str} : x ∈ exNames rs ↔ ∃ r ∈ rs, ∃ b l, r.deed = .ex b x l := by
  rw [exNames, List.mem_filterMap]
  constructor
  · rintro ⟨r, hr, e⟩
    refine ⟨r, hr, ?_⟩
    unfold exName at e
    cases h : r.deed with
    | step => rw [h] at e; exact nomatch e
    | ex b n l => rw [h] at e; cases e; exact ⟨b, l, rfl⟩
  · rintro ⟨r, hr, b, l, e⟩
    exact ⟨r, hr, by rw [exName, e]⟩
theorem exNames_next {rs : List RowM} {i : Nat} {r : RowM} (h : rs[i]? = some r) : exNames (rs.take (i + 1)) = exNames (rs.take i) ++ (exName r).toList := by
  rw [List.take_succ, h, exNames, exNames, List.filterMap_append]
  cases e : exName r with
  | none => simp [e]
  | some x => simp [e]
theorem exNames_len {rs : List RowM} : (exNames rs).length ≤ rs.length := List.length_filterMap_le _ _
end MC
namespace K55
open PySem PySem.Spec PyProof.Rows L2 WD NS MC
open C8 (pss_cut tCut)
/-- len of a list or a tuple -/
def rLenS (K : PySem.W.Frag) : List V → Hp → VK → Prop := fun xs H Q => ∃ p ys, xs = [V.ref p] ∧ (SqL K H p ys ∨ SqT K H p ys) ∧ Q (V.int ys.length) H
theorem call_lenS {X : Cx} : CallR X (.builtin "len") (rLenS X.K) := call_len_seq
abbrev nN : List Str := ["_law_machine", "_law_state", "_law_deed", "_law_later"]
/-- the neighbours, ascending -/
structure NearOf (m : MachM) (ys : List Str) : Prop where
  mem : ∀ x, x ∈ ys ↔ ∃ r ∈ m.rows, ∃ b l, r.deed = .ex b x l
  asc : ys.Pairwise (fun x y => x.cps.toList ≤ y.cps.toList)
  once : ys.Nodup
def spNear : Sp := fun vs H Q _ => ∃ (a : Addr) (m : MachM), vs = [.ref a] ∧ Kz H (.ref a) m.key ∧ m.Ok ∧
  ∀ H' p (ys : List Str), Same H H' → H p = none → H' p = some (.tup (ys.map V.str)) → NearOf m ys → ys.length < 64 → Q (.ref p) H'
section
variable {P : Program} {w : World} {K : PySem.W.Frag} {mg : Str → Option Value} {base : Heap}
end
end K55
namespace K55
open PySem PySem.Spec PyProof.Rows L2 WD NS MC
open C8 (pss_cut tCut)
abbrev DeedX := Bool × Str × Str
abbrev deedVals (d : DeedX) : List V := [.str (wordOf d.1), .str d.2.1, .str d.2.2]
def exDeed (st : Int) (r : RowM) : Option DeedX := if r.before = st then (match r.deed with | .step => none | .ex b n l => some (b, n, l)) else none
def exDeeds (st : Int) (rs : List RowM) : List DeedX := rs.filterMap (exDeed st)
theorem exDeeds_next {st : Int} {rs : List RowM} {i : Nat} {r : RowM} (h : rs[i]? = some r) : exDeeds st (rs.take (i + 1)) = exDeeds st (rs.take i) ++ (exDeed st r).toList := by
  rw [List.take_succ, h, exDeeds, exDeeds, List.filterMap_append]
  cases e : exDeed st r with
  | none => simp [e]
  | some x => simp [e]
theorem mem_exDeeds {st : Int} {rs : List RowM} {d : DeedX} : d ∈ exDeeds st rs ↔ ∃ r ∈ rs, r.before = st ∧ r.deed = .ex d.1 d.2.1 d.2.2 := by
  rw [exDeeds, List.mem_filterMap]
  constructor
  · rintro ⟨r, hr, e⟩
    refine ⟨r, hr, ?_⟩
    unfold exDeed at e
    by_cases h : r.before = st
    · rw [if_pos h] at e
      cases hd : r.deed with
      | step => rw [hd] at e; exact nomatch e
      | ex b n l => rw [hd] at e; cases e; exact ⟨h, rfl⟩
    · rw [if_neg h] at e
      exact nomatch e
  · rintro ⟨r, hr, e1, e2⟩
    exact ⟨r, hr, by rw [exDeed, if_pos e1, e2]⟩
def letOf (wd : Bool) (o : Str) (d : DeedX) : Option Str := if d.1 = wd ∧ d.2.1 = o then some d.2.2 else none
def lets (wd : Bool) (o : Str) (ds : List DeedX) : List Str := ds.filterMap (letOf wd o)
theorem lets_next {wd : Bool} {o : Str} {ds : List DeedX} {i : Nat} {d : DeedX} (h : ds[i]? = some d) : lets wd o (ds.take (i + 1)) = lets wd o (ds.take i) ++ (letOf wd o d).toList := by
  rw [List.take_succ, h, lets, lets, List.filterMap_append]
  cases e : letOf wd o d with
  | none => simp [e]
  | some x => simp [e]
theorem mem_lets {wd : Bool} {o : Str} {ds : List DeedX} {x : Str} : x ∈ lets wd o ds ↔ (wd, o, x) ∈ ds := by
  rw [lets, List.mem_filterMap]
  constructor
  · rintro ⟨⟨b, n, l⟩, hd, e⟩
    unfold letOf at e
    by_cases h : b = wd ∧ n = o
    · rw [if_pos h] at e
      cases e
      rw [← h.1, ← h.2]
      exact hd
    · rw [if_neg h] at e
      exact nomatch e
  · intro hd
    exact ⟨_, hd, by rw [letOf, if_pos ⟨rfl, rfl⟩]⟩
theorem low_word (b : Bool) : Low (wordOf b) := by
  have e1 : ∀ c ∈ ("send" : Str).cps.toList, 97 ≤ c ∧ c ≤ 122 := by decide +kernel
  have e2 : ∀ c ∈ ("take" : Str).cps.toList, 97 ≤ c ∧ c ≤ 122 := by decide +kernel
  cases b
  · exact e2
  · exact e1
theorem shaped_two {x y : Str} (hx : Low x) (hy : Low y) : SeqAt.shaped (.tuple [.str x, .str y]) = true := by
  rw [SeqAt.shaped, PyData.canLay0, PyData.canLayAll0, PyData.canLayAll0, PyData.canLayAll0, low_ok hx, low_ok hy]
  rfl
theorem eqv_two {a b c d : Str} : PyData.eqv (.tuple [.str a, .str b]) (.tuple [.str c, .str d]) = decide (a = c ∧ b = d) := by
  rw [PyData.eqv, PyData.eqvAll, PyData.eqvAll, PyData.eqvAll]
  show ((a == c) && ((b == d) && true)) = _
  by_cases h1 : a = c <;> by_cases h2 : b = d <;> simp [h1, h2]
section
variable {P : Program} {w : World} {K : PySem.W.Frag} {mg : Str → Option Value} {base : Heap}
end
end K55
/-! Set comprehensions over the hand layer: {e for x in xs if t}, by what the set is and how it grows; sets of texts. -/
namespace NS
open PySem PySem.Spec PyProof.Rows L2
/-- a kind of set: as it is when new, how it takes one more -/
structure SetK where
  o0 : Addr → HO
  put : Addr → V → Hp → (Hp → Prop) → Prop
structure SetK.Ok (k : SetK) (P : Program) (w : World) : Prop where
  new : ∀ {H : Hp} {h : Heap} {a : Addr}, h.get? a = some (setObj w) → ObjOk P w H h a (k.o0 a)
  add : ∀ {X : Cx} {pins : List (Addr × Obj)} {s : Shared} {σ : L2.St} {H : Hp} {D : Addr} {y : V} {u : Value} {N : Hp → Prop} {E : Value → Shared → Prop}, X.prog = P → X.w = w → Inv X pins σ H s → RelV y u → k.put D y H N →
    wpAny (model X.prog X.w) X.A (call (.builtin "set.add") [.ref D, u]) (fun _ s1 => ∃ H1, Inv X pins σ H1 s1 ∧ N H1) E s
section
variable {X : Cx}
def tSx (k : SetK) (wi : TI) (g : TG) (tt : TT) (te : TE) (vs : List Nat) : TE := fun σ H Q => wi σ H fun J H1 => ∀ D, H1 D = none → ∃ W : Nat → Nat → Hp → Prop, (∃ m, W 0 m (upd H1 D (k.o0 D))) ∧ ∀ i m H, W i m H →
  (J.stop i H ∧ Q (.ref D) H) ∨ (J.go i H ∧ ∃ N : Hp → Prop, (∀ H', N H' → ∃ m', m' < m ∧ W (i + 1) m' H') ∧ ∀ x H', J.yld i H x H' → g x (wipe σ vs) H' fun σ2 H2 => wipe σ2 vs = wipe σ vs ∧ tt σ2 H2 fun b H3 =>
    if b = true then te σ2 H3 fun y H4 => k.put D y H4 N else N H3)
/-- the block's context -/
abbrev blkOf (X : Cx) (s : Shared) (H : Hp) (scope : Scope) (cl : List (Str × Addr)) (C : Addr) (fp : List Addr) : Cx := X.blk s H scope (compEnvC scope cl C X.env) fp
theorem sx_run {k : SetK} (kk : k.Ok X.prog X.w) {pins : List (Addr × Obj)} {s : Shared} {σ : L2.St} {H : Hp} {Q : VK} {elt tg iter : Expr} {ifs : List Expr} {scope : Scope} {own : List (Str × Nat)} {pos pos' : Pos} {wi : TI} {g : TG} {tt : TT} {te : TE} {use : Option (Value → Sem Unit)} {Qf : Value → Shared → Prop}
    (calm : X.calm = true) (nd : X.N.Nodup) (I : Inv X pins σ H s) (hi : PI X tg iter wi) (ok : BlkOk X.N X.env.scope scope own)
    (tgt : ∀ s H C cl fp, PG (blkOf X s H scope cl C fp) tg g) (tst : ∀ s H C cl fp, PTs (blkOf X s H scope cl C fp) ifs tt) (ele : ∀ s H C cl fp, PE (blkOf X s H scope cl C fp) elt te) (fold : ∀ x, foldedSetIterable iter X.env x = pure x)
    (h : tSx k wi g tt te (own.map (·.2)) σ H Q)
    (fin : ∀ D C s' m H', Inv X pins σ H' s' → Q (.ref D) H' → s'.heap.Ns C m → FpOk X pins H' C → compPost (model X.prog X.w) X.A X.xe use Qf (.ref D) C (.ok .next) s') :
    wpAny (model X.prog X.w) X.A (comprehension (.SetComp elt [⟨tg, iter, ifs, 0⟩] scope pos) scope X.env pos' (newSet (.type "set")) false (eval iter X.env) use) Qf X.xe s := by
  have cells : ∀ y ∈ scope.names, y.2 = .free → ∃ c, X.env.cells.lookup y.1 = some c := fun y hy e => (ok.free y hy e).elim (fun z => I.ok.has _ (.inl z)) fun z => I.ok.has _ (.inr z)
  refine wpAny_comprehension_free (use := use) rfl fold (closure_ok cells) ok.kind (fun y hy e => by rw [ok.uniq y hy, e]) (thn (hi.run pins s σ H _ I h) fun xv s1 hx => thn hx fun itv s2 h2 => ?_)
  obtain ⟨it, fp, tn, J, H2, rfl, I2, T, st2, f2, q⟩ := h2
  refine PpSet.newSet_ok (newEnv_comp ?_)
  obtain ⟨D, eD⟩ : ∃ D, D = s2.heap.objs.size := ⟨_, rfl⟩
  have nD : H2 D = none := I2.hok.fresh (Nat.le_of_eq eD.symm)
  obtain ⟨W, ⟨m0, w0⟩, turn⟩ := q D nD
  obtain ⟨s3, e3⟩ : ∃ s3 : Shared, s3 = { s2 with heap := s2.heap.push (setObj X.w) } := ⟨_, rfl⟩
  obtain ⟨H3, eH⟩ : ∃ H3, H3 = upd H2 D (k.o0 D) := ⟨_, rfl⟩
  have I3 : Inv X pins σ H3 s3 := by
    rw [e3, eH]
    exact I2.laid (t' := s2.toks) (fun b o e => Heap.get?_push_of_some _ e) (Nat.le_of_eq eD.symm) (kk.new (by rw [eD]; exact Heap.get?_push_size _ rfl))
  have keep3 : ∀ b o, s2.heap.get? b = some o → s3.heap.get? b = some o := fun b o e => by rw [e3]; exact Heap.get?_push_of_some _ e
  have f3 : ∀ b ∈ fp, FpOk X pins H3 b ∧ b < s3.heap.objs.size := fun b hb => by
    obtain ⟨o, e, _⟩ := T.obj _ _ st2 b hb
    have lt := Heap.lt_size e
    refine ⟨⟨?_, (f2 b hb).2⟩, Heap.lt_size (keep3 b o e)⟩
    rw [eH, upd_ne (by rw [eD]; exact Nat.ne_of_lt lt)]
    exact (f2 b hb).1
  have st3 : tn 0 s3.heap := T.keep _ _ _ st2 fun b _ o e => keep3 b o e
  have I4 := block_start I3 ok nd f3
  obtain ⟨cl, ecl⟩ : ∃ cl, cl = cellsFrom (s3.heap.objs.size + 1) scope.names (cloFrom X.env.cells scope.names []) := ⟨_, rfl⟩
  obtain ⟨C, eC⟩ : ∃ C, C = s3.heap.objs.size := ⟨_, rfl⟩
  obtain ⟨s4, e4⟩ : ∃ s4 : Shared, s4 = { s3 with heap := pushCells (s3.heap.push { cls := .type "dict", data := .dict #[] }) scope.names } := ⟨_, rfl⟩
  have st4 : tn 0 s4.heap := T.keep _ _ _ st3 fun b _ o e => by rw [e4]; exact pushCells_keeps _ _ _ _ (Heap.get?_push_of_some _ e)
  rw [← e4, ← ecl, ← eC] at I4
  rw [← eH] at w0
  have pg := tgt s3 H3 C cl fp
  have pt := tst s3 H3 C cl fp
  have pe := ele s3 H3 C cl fp
  have goal : codeAny (model X.prog X.w) X.A (.compStart (.SetComp elt [⟨tg, iter, ifs, 0⟩] scope pos) 0 (.ref it) (.ref D) (compEnvC scope cl C X.env)) (compPost (model X.prog X.w) X.A X.xe use Qf (.ref D) C) s4 := by
    have cL : (compEnvC scope cl C X.env).locals = C := rfl
    have none3 : ∀ b ∈ fp, H3 b = none := fun b hb => (f3 b hb).1.1
    have stand : ∀ {σ' : L2.St} {H' : Hp} {s' : Shared}, Inv (blkOf X s3 H3 scope cl C fp) [] σ' H' s' → (∀ b ∈ fp, H' b = none) → ∀ b ∈ fp, FpOk (blkOf X s3 H3 scope cl C fp) [] H' b := fun {σ' H' s'} J n b hb =>
      ⟨n b hb, (J.ok.exf b hb).1, J.ok.exfs b hb, .inl hb, fun x c e => (J.ok.exf b hb).2 x c e, fun p hp => absurd (show p ∈ ([] : List (Addr × Obj)) ++ [] from hp) (by simp)⟩
    have loop : codeAny (model X.prog X.w) X.A (.compLoop (.SetComp elt [⟨tg, iter, ifs, 0⟩] scope pos) 0 (.ref it) (.ref D) (compEnvC scope cl C X.env)) (compPost (model X.prog X.w) X.A X.xe use Qf (.ref D) C) s4 := by
      refine PpSet.compLoopS_any (fun n s' => ∃ i H', Inv (blkOf X s3 H3 scope cl C fp) [] (wipe σ (own.map (·.2))) H' s' ∧ tn i s'.heap ∧ (∀ b ∈ fp, H' b = none) ∧ W i n H') ?_ m0 ⟨0, H3, I4, st4, none3, w0⟩
      rintro n s5 ⟨i, H5, I5, st5, n5, w5⟩
      rcases turn i n H5 w5 with ⟨stop, qq⟩ | ⟨go, N, hN, step⟩
      · refine thnF (T.done (blkOf X s3 H3 scope cl C fp) rfl rfl rfl calm i [] s5 _ H5 (fun _ _ => False) I5 (stand I5 n5) st5 stop) fun r s6 z => ?_
        obtain ⟨rfl, I6⟩ := z
        have back : Inv X pins σ H5 s6 := I3.call' (ch := fp) I6.os I6.base I6.hok I6.bare fun b hb => let t := (f3 b hb).1.2; ⟨t.2.2.1, t.1, t.2.2.2.1, t.2.2.2.2⟩
        obtain ⟨m, hn, _⟩ := I6.loc
        exact fin D C s6 m H5 back qq hn (I3.fpOk (Nat.le_of_eq eC.symm) I6.free)
      · refine thnF (T.item (blkOf X s3 H3 scope cl C fp) rfl rfl rfl calm i [] s5 _ H5 (fun _ _ => False) I5 (stand I5 n5) st5 go) fun r s6 z => ?_
        obtain ⟨u, rfl, h6⟩ := z
        refine thnF h6 fun _ s7 z => ?_
        obtain ⟨x, H7, I7, r7, y7, st7, n7⟩ := z
        refine thnF (pg.run _ s7 _ H7 x u _ (I7.pinned (stand I7 n7) (T.obj _ _ st7)) r7 (step x H7 y7)) fun _ s8 z => ?_
        obtain ⟨σ8, H8, I8, w8, q8⟩ := z
        refine thnF (pt.run _ s8 σ8 H8 _ I8 q8) fun b s9 z => ?_
        obtain ⟨H9, I9, q9⟩ := z
        have next : ∀ {s' : Shared} {H' : Hp}, Inv (blkOf X s3 H3 scope cl C fp) ([] ++ pinsAt fp s7.heap) σ8 H' s' → N H' → ∃ m, m < n ∧ ∃ i H', Inv (blkOf X s3 H3 scope cl C fp) [] (wipe σ (own.map (·.2))) H' s' ∧ tn i s'.heap ∧ (∀ b ∈ fp, H' b = none) ∧ W i m H' := fun {s' H'} K2 hN' => by
          obtain ⟨m2, lt, w2⟩ := hN H' hN'
          have pinned : ∀ b ∈ fp, ∀ o, s7.heap.get? b = some o → s'.heap.get? b = some o ∧ H' b = none := fun b hb o e =>
            let z := K2.pin (b, o) (List.mem_append_right _ (List.mem_append_right _ (mem_pinsAt hb e)))
            ⟨z.1, z.2.1⟩
          refine ⟨m2, lt, i + 1, H', (K2.unpinned (pins := [])).weak (by rw [← w8, wipe_length]) (fun j v e => ?_), T.keep _ _ _ st7 fun b hb o e => (pinned b hb o e).1, fun b hb => ?_, w2⟩
          · rw [← w8] at e
            exact (wipe_some e).1
          · obtain ⟨o, e, _⟩ := T.obj _ _ st7 b hb
            exact (pinned b hb o e).2
        cases b with
        | false => exact (show _ from next I9 q9)
        | true =>
          refine thnF (pe.run _ s9 σ8 H9 _ I9 q9) fun v s10 z => ?_
          obtain ⟨y, H10, I10, r10, pq⟩ := z
          refine thnF (kk.add (X := blkOf X s3 H3 scope cl C fp) rfl rfl I10 r10 pq) fun _ s11 z => ?_
          obtain ⟨H11, I11, n11⟩ := z
          exact next I11 n11
    exact PpSet.codeAny_compStart_set loop (T.self X.A 0 _ _ _ st4 loop)
  subst eC ecl e4 e3 eD
  exact goal
/-- as a value -/
theorem pe_sx {k : SetK} (kk : k.Ok X.prog X.w) {elt tg iter : Expr} {ifs : List Expr} {scope : Scope} {own : List (Str × Nat)} {pos : Pos} {wi : TI} {g : TG} {tt : TT} {te : TE} (calm : X.calm = true) (nd : X.N.Nodup) (hi : PI X tg iter wi) (ok : BlkOk X.N X.env.scope scope own)
    (tgt : ∀ s H C cl fp, PG (blkOf X s H scope cl C fp) tg g) (tst : ∀ s H C cl fp, PTs (blkOf X s H scope cl C fp) ifs tt) (ele : ∀ s H C cl fp, PE (blkOf X s H scope cl C fp) elt te) (fold : ∀ x, foldedSetIterable iter X.env x = pure x := by intro _; rfl) :
    PE X (.SetComp elt [⟨tg, iter, ifs, 0⟩] scope pos) (tSx k wi g tt te (own.map (·.2))) := by
  constructor
  intro pins s σ H Q I h
  rw [PpSet.eval_SetComp]
  refine sx_run kk calm nd I hi ok tgt tst ele fold h fun D C s1 m H1 I1 q hn f => ⟨m, hn, fun h2 sb => ?_⟩
  exact ⟨.ref D, H1, I1.turned (t' := s1.toks) (fun b o hb e => (sb.2 b hb).trans e) f.1 f.2.1 f.2.2.2.1 f.2.2.2.2.1 f.2.2.2.2.2, rfl, q⟩
end
/-- a block over anything that is walked -/
theorem sx_it {k : SetK} {J : It} {n : Nat} {G : Hp → Prop} {Y : Nat → Hp → V → Hp → Prop} (w : Walk J n G Y) {g : TG} {tt : TT} {te : TE} {vs : List Nat} {σ : L2.St} {H1 : Hp} {D : Addr} {Qd : Hp → Prop} (Pv : Nat → Hp → Prop) (h0 : Pv 0 (upd H1 D (k.o0 D))) (hG : ∀ i H, i ≤ n → Pv i H → G H)
    (hs : ∀ i x H H', i < n → Pv i H → Y i H x H' → g x (wipe σ vs) H' fun σ2 H2 => wipe σ2 vs = wipe σ vs ∧ tt σ2 H2 fun b H3 => if b = true then te σ2 H3 fun y H4 => k.put D y H4 (Pv (i + 1)) else Pv (i + 1) H3) (hd : ∀ H, Pv n H → Qd H) :
    ∃ W : Nat → Nat → Hp → Prop, (∃ m, W 0 m (upd H1 D (k.o0 D))) ∧ ∀ i m H, W i m H →
      (J.stop i H ∧ Qd H) ∨ (J.go i H ∧ ∃ N : Hp → Prop, (∀ H', N H' → ∃ m', m' < m ∧ W (i + 1) m' H') ∧ ∀ x H', J.yld i H x H' → g x (wipe σ vs) H' fun σ2 H2 => wipe σ2 vs = wipe σ vs ∧ tt σ2 H2 fun b H3 => if b = true then te σ2 H3 fun y H4 => k.put D y H4 N else N H3) := by
  refine ⟨fun i m H => m = n - i ∧ i ≤ n ∧ Pv i H, ⟨n, rfl, Nat.zero_le _, h0⟩, ?_⟩
  rintro i m H ⟨rfl, le, p⟩
  rcases Nat.lt_or_eq_of_le le with lt | rfl
  · exact .inr ⟨w.goes i H lt (hG i H le p), Pv (i + 1), fun H' p' => ⟨n - (i + 1), by omega, rfl, lt, p'⟩, fun x H' y => hs i x H H' lt p (w.yields i H x H' lt (hG i H le p) y)⟩
  · exact .inl ⟨w.stops H (hG _ H le p), hd H p⟩
/-- sets of texts -/
def txtK (P : Program) (w : World) : SetK where
  o0 := fun a => TSetO P w a []
  put := fun D y H N => ∃ (x : Str) (ws : List Str), y = .str x ∧ H D = some (TSetO P w D ws) ∧ ws.length + 1 < scanBound ∧ ∀ ws1 : List Str, ws1.Nodup → (x ∈ ws → ws1 = ws) → (x ∉ ws → ws1.Perm (x :: ws)) → N (upd H D (TSetO P w D ws1))
theorem add_text {P : Program} {w : World} {A : Around} {E : Value → Shared → Prop} {s : Shared} {a : Addr} {ws : List Str} {x : Str} {tk : Tok} {Q : Value → Shared → Prop} (R : TSet P w s.heap a ws) (room : ws.length + 1 < scanBound)
    (q : ∀ h1 ws1, Heap.SameBut a s.heap h1 → TSet P w h1 a ws1 → (x ∈ ws → ws1 = ws) → (x ∉ ws → ws1.Perm (x :: ws)) → Q .none { s with heap := h1, toks := s.toks + 1 }) :
    wpAny (model P w) A (call (.builtin "set.add") [.ref a, .str x tk]) Q E s := by
  have ty : s.TypeIs (.ref a) "set" := by
    obtain ⟨o, es, ep, t, ho, hex, _⟩ := R.ex
    exact ⟨o, ho, hex.1⟩
  refine wpAny_call_entry F.slot_set_add ty F.entry_set_add ?_ (F.args_set_add_2 _ _)
  unfold Builtin.«set.add» Builtin.Frozenset.oneOther Builtin.Frozenset.addrOf setAdd
  simp only [List.isEmpty_nil, bind_assoc]
  refine wpAny_bind (wpAny_pure ?_)
  try dsimp only
  try refine wpAny_bind (wpAny_pure ?_)
  try dsimp only
  refine wpAny_bind (wpAny_holding (wpAny_bind (wpAny_pyHash_str ?_)))
  refine put_text (s := { s with toks := s.toks + 1 }) R room fun b h1 ws1 sb T c1 c2 => ?_
  exact (show wpAny _ _ (ret Value.none) _ _ _ from wpAny_pure ⟨_, rfl, q h1 ws1 sb T c1 c2⟩)
theorem txtK_ok (P : Program) (w : World) : (txtK P w).Ok P w := by
  constructor
  · intro H h a ho
    exact tSetO_ok (TSet.new ho)
  · intro X pins s σ H D y u N E e1 e2 I r p
    subst e1 e2
    obtain ⟨x, ws, rfl, hD, room, n⟩ := p
    obtain ⟨tk, rfl⟩ := r
    have R : TSet X.prog X.w s.heap D ws := (I.hok D _ hD).1
    refine add_text R room fun h1 ws1 sb T c1 c2 => ?_
    have there : ∃ u, h1.get? D = some u := by
      obtain ⟨o, _, _, _, ho, _⟩ := T.ex
      exact ⟨o, ho⟩
    exact ⟨_, I.write (e := D) (t' := s.toks + 1) (by rw [hD]; trivial) (.inl rfl) (fun b u hb hu => (sb.2 b hb).trans hu) there (tSetO_ok T), n ws1 T.once c1 c2⟩
end NS
namespace K55
open PySem PySem.Spec PyProof.Rows L2 WD NS MC
open C8 (pss_cut tCut)
abbrev sIsEx : Stmt := topS 22
abbrev sNbIn : Stmt := topS 24
abbrev exV : List V := [.str "send", .str "take"]
/-- word in ('send', 'take') for None, a truth value, a number, a text -/
def spIsEx : Sp := fun vs H Q _ => ∃ x : V, vs = [x] ∧ flatV x = true ∧ ∀ H', Same H H' → Q (.bl (inV x exV)) H'
theorem scIsEx : FnScope ["word"] ["word"] (defScope sIsEx) := ⟨rfl, rfl, rfl, by decide +kernel, rfl, by decide +kernel, by decide +kernel⟩
/-- the module's constant EXCHANGES -/
structure TxtE (K : PySem.W.Frag) (mg : Str → Option Value) (tE : Addr) : Prop where
  g : mg "EXCHANGES" = some (.ref tE)
  s : ∃ (o : Obj) (its : Array Value) (n : Nat), K.lookup tE = some o ∧ o.cls = .type "tuple" ∧ o.data = .seq its n ∧ its.size ≤ sizeLine ∧ Vals exV its.toList
structure TxtX (K : PySem.W.Frag) (mg : Str → Option Value) (fX : Addr) (dX : FuncData) : Prop where
  E : ∃ tE, TxtE K mg tE
  X : Fun K "is_exchange" "is_exchange" sIsEx fX dX
  bX : L2.Binds K dX ["word"] []
  gX : mg "is_exchange" = some (.ref fX)
theorem ex_word (b : Bool) : inV (.str (wordOf b)) exV = true := by cases b <;> decide +kernel
theorem ex_step : inV (.str "step") exV = false := by decide +kernel
section
variable {P : Program} {w : World} {K : PySem.W.Frag} {mg : Str → Option Value} {base : Heap} {fX : Addr} {dX : FuncData}
theorem ok_IsEx {f : Addr} {fd : FuncData} {k : Nat} (F : Fun K "is_exchange" "is_exchange" sIsEx f fd) (TE : ∃ tE, TxtE K mg tE) : FnOk P w K mg base CX0 (k + 1) f fd ["word"] spIsEx := by
  obtain ⟨tE, gE, sE⟩ := TE
  refine F.ok scIsEx (fun vs H Q E h => ?_) (fun cdv A outer s H vs Q E hr h => ?_)
  · obtain ⟨x, rfl, _⟩ := h
    rfl
  · obtain ⟨x, rfl, fx, q⟩ := h
    refine ⟨_, pss_one (ps_ret (pe_cmpR op_in_seq (pv 0) (pe_glob (v := .ref tE) rfl gE rfl) (by rfl))), ?_⟩
    exact ⟨_, rfl, tE, exV, rfl, .inr (Or.inr sE), fx, rfl, q _ fun _ _ e => e⟩
theorem tYes_ite {σ : L2.St} {H : Hp} {A B : Hp → Prop} (h : A H) : tYes σ H (fun b H3 => if b = true then A H3 else B H3) := by
  show if true = true then A H else B H
  exact iteT h
def dName : Deed → Option Str
  | .step => none
  | .ex _ n _ => some n
theorem exNames_deeds (rs : List RowM) : exNames rs = (rs.map (·.deed)).filterMap dName := by
  rw [exNames, List.filterMap_map]
  congr 1
theorem dNames_next {ds : List Deed} {i : Nat} {d : Deed} (h : ds[i]? = some d) : (ds.take (i + 1)).filterMap dName = (ds.take i).filterMap dName ++ (dName d).toList := by
  rw [List.take_succ, h, List.filterMap_append]
  cases e : dName d with
  | none => simp [e]
  | some x => simp [e]
abbrev nNb : List Str := ["machine", "deeds", "transition", "deed"]
theorem scNbIn : FnScope nNb ["machine"] (defScope sNbIn) := ⟨rfl, rfl, rfl, by decide +kernel, rfl, by decide +kernel, by decide +kernel⟩
theorem ok_NbIn {f : Addr} {fd : FuncData} {k : Nat} (F : Fun K "neighbours_in" "neighbours_in" sNbIn f fd) (T : TxtS mg) (W : TxtX K mg fX dX) : FnOk P w K mg base CX0 (k + 2) f fd ["machine"] spNear := by
  have GX : FnOk P w K mg base CX0 (k + 1) fX dX ["word"] spIsEx := ok_IsEx W.X W.E
  refine F.ok scNbIn (fun vs H Q E h => ?_) (fun cdv A outer s H vs Q E hr h => ?_)
  · obtain ⟨a, m, rfl, _⟩ := h
    rfl
  · obtain ⟨a, m, rfl, hm, ok, q⟩ := h
    have hu := hr.units
    refine ⟨_, pss_cut (ps_setLc (i := 1) (own := [("transition", 2)]) (g := gName 2) (tt := tYes) (te := tOp (rIxT K) (tVar 2) (tC (.int 1))) rfl scNbIn.nd rfl rfl (sw_true rfl rfl rfl (by decide +kernel)) (pi_tup (pe_ix ix_tup (pv 0) pe_int (fun _ _ => rfl))) (blkOk_by (own := [("transition", 2)]) (N := nNb) (sc := defScope sNbIn) (by decide +kernel))
        (fun _ _ _ _ _ => pg_name (i := 2) scNbIn.nd rfl (.inl rfl)) (fun _ _ _ _ _ => pts_nil) (fun _ _ _ _ _ => pe_ix (show IxR _ (rIxT K) from ix_tup) (pv 2) pe_int (fun _ _ => rfl)))
      (pss_one (ps_ret (pe_callTy call_tuple_of (by rfl) T.tuple (by decide +kernel) (pa_cons (pe_callB (cr_sortedT rfl hu) (by rfl) T.sorted (by decide +kernel)
        (pa_cons (pe_sx (txtK_ok _ _) (own := [("deed", 3)]) (g := gName 3) (tt := tB (tCall spIsEx [] E0 (tCons (tOp (rIxT K) (tVar 3) (tC (.int 0))) tNil))) (te := tOp (rIxT K) (tVar 3) (tC (.int 1))) rfl scNbIn.nd (pi_list (pv 1)) (blkOk_by (own := [("deed", 3)]) (N := nNb) (sc := defScope sNbIn) (by decide +kernel))
          (fun _ _ _ _ _ => pg_name (i := 3) scNbIn.nd rfl (.inl rfl))
          (fun _ _ _ _ _ => pts_one (pt_val (pe_call GX hr (by rfl) W.gX W.X.kp W.bX .nil pass0 (pa_cons (pe_ix (show IxR _ (rIxT K) from ix_tup) (pv 3) pe_int (fun _ _ => rfl)) pa_nil))))
          (fun _ _ _ _ _ => pe_ix (show IxR _ (rIxT K) from ix_tup) (pv 3) pe_int (fun _ _ => rfl))) pa_nil)) pa_nil)))), ?_⟩
    obtain ⟨M⟩ := mach_at hm
    have lx : M.xs.length = m.rows.length := by
      have z := kz_len M.all
      rw [List.length_map] at z
      exact z
    -- the deeds
    refine ⟨fun σ' H' => ∃ (D : Addr) (qs : List (Addr × Deed)), σ' = [some (.ref a), some (.ref D), none, none] ∧ Same H H' ∧ H' D = some (.lst (qs.map fun p => V.ref p.1)) ∧ qs.map (·.2) = m.rows.map (·.deed) ∧ (∀ p ∈ qs, H p.1 = some (.tup (p.2.signs.map V.str))), ?_, ?_⟩
    · refine ⟨_, rfl, a, _, 2, .ref M.t, rfl, rfl, SqT.of M.top, atI_nat (j := 2) rfl, M.t, rfl, ⟨_, SqT.of M.row⟩, fun D nD => ?_⟩
      have sD := same_upd (o := .lst []) nD
      refine lc_tup (xs := M.xs) (fun i H' => Same H H' ∧ ∃ qs : List (Addr × Deed), H' D = some (.lst (qs.map fun p => V.ref p.1)) ∧ qs.map (·.2) = (m.rows.take i).map (·.deed) ∧ (∀ p ∈ qs, H p.1 = some (.tup (p.2.signs.map V.str))))
        ⟨sD, [], upd_same, rfl, fun _ z => (nomatch z)⟩ (fun i H' _ z => SqT.of (z.1 _ _ M.row)) ?_ ?_
      · rintro i v H2 hv ⟨s2, qs, e2, eq, hq⟩
        obtain ⟨r, hr', ra, dv, rfl, er, kd⟩ := row_at M.all hv
        obtain ⟨qd, rfl, ed⟩ := deed_at kd
        have il : i < m.rows.length := (List.getElem?_eq_some_iff.mp hr').1
        refine ⟨rfl, tYes_ite ⟨_, rfl, ra, _, 1, .ref qd, rfl, rfl, SqT.of (s2 _ _ er), atI_nat (j := 1) rfl, _, e2, ?_, fun b' o' eb => ?_, qs ++ [(qd, r.deed)], ?_, ?_, fun p hp => ?_⟩⟩
        · have z := congrArg List.length eq
          rw [List.length_map, List.length_map, List.length_take] at z
          have z3 := ok.r3
          rw [List.length_map, sizeLine_eq]
          omega
        · rw [upd_ne (ne_of_none eb nD)]
          exact s2 _ _ eb
        · rw [upd_same, List.map_append]
          rfl
        · rw [List.map_append, eq, List.take_succ, hr', List.map_append]
          rfl
        · rcases List.mem_append.mp hp with z | z
          · exact hq p z
          · rw [List.mem_singleton.mp z]
            exact ed
      · rintro H2 ⟨s2, qs, e2, eq, hq⟩
        rw [lx, List.take_length] at eq
        exact ⟨D, qs, rfl, s2, e2, eq, hq⟩
    rintro σ1 H1 ⟨D, qs, rfl, s1, e1, eq, hq⟩
    have lq : qs.length = m.rows.length := by
      have z := congrArg List.length eq
      rw [List.length_map, List.length_map] at z
      exact z
    have l64 := ok.r3
    refine ⟨_, rfl, D, rfl, ⟨_, SqL.of e1⟩, fun D2 nD2 => ?_⟩
    have sD := same_upd (o := TSetO P w D2 []) nD2
    refine sx_it (k := txtK P w) (walk_list (xs := qs.map fun p => V.ref p.1)) (fun i H' => Same H1 H' ∧ ∃ ws : List Str, H' D2 = some (TSetO P w D2 ws) ∧ ws.Nodup ∧ (∀ x, x ∈ ws ↔ x ∈ ((m.rows.map (·.deed)).take i).filterMap dName) ∧ ws.length ≤ i)
      ⟨sD, [], upd_same, List.nodup_nil, fun _ => Iff.rfl, Nat.le_refl _⟩ (fun i H' _ z => SqL.of (z.1 _ _ e1)) ?_ ?_
    · rintro i v H2 H3 hi ⟨s2, ws, e2, once, mem, lw⟩ ⟨rfl, hv⟩
      obtain ⟨p, hp, rfl⟩ : ∃ p, qs[i]? = some p ∧ v = .ref p.1 := by
        rw [List.getElem?_map] at hv
        cases e : qs[i]? with
        | none => rw [e] at hv; exact nomatch hv
        | some p => rw [e] at hv; exact ⟨p, rfl, (Option.some.inj hv).symm⟩
      obtain ⟨pa, d⟩ := p
      have ep := s2 _ _ (s1 _ _ (hq _ (List.mem_of_getElem? hp)))
      have hd : (m.rows.map (·.deed))[i]? = some d := by rw [← eq, List.getElem?_map, hp]; rfl
      have nx := dNames_next hd
      rw [List.length_map] at hi
      cases d with
      | step =>
        refine ⟨rfl, _, rfl, pa, _, 0, .str "step", rfl, rfl, SqT.of ep, atI_nat (j := 0) rfl, .str "step", rfl, rfl, fun H4 s4 => ⟨_, rfl, ?_⟩⟩
        rw [ex_step]
        refine iteF ⟨s2.trans s4, ws, s4 _ _ e2, once, fun x => ?_, by omega⟩
        rw [nx, mem x]
        simp [dName]
      | ex b n l =>
        refine ⟨rfl, _, rfl, pa, _, 0, .str (wordOf b), rfl, rfl, SqT.of ep, atI_nat (j := 0) rfl, .str (wordOf b), rfl, rfl, fun H4 s4 => ⟨_, rfl, ?_⟩⟩
        rw [ex_word]
        refine iteT ⟨_, rfl, pa, _, 1, .str n, rfl, rfl, SqT.of (s4 _ _ ep), atI_nat (j := 1) rfl, n, ws, rfl, s4 _ _ e2, by unfold scanBound; omega, fun ws1 once1 c1 c2 => ⟨fun b' o' eb => ?_, ws1, upd_same, once1, fun x => ?_, ?_⟩⟩
        · rw [upd_ne (ne_of_none eb nD2)]
          exact s4 _ _ (s2 _ _ eb)
        · rw [nx, List.mem_append, ← mem x]
          have mn : x ∈ (dName (Deed.ex b n l)).toList ↔ x = n := by simp [dName]
          rw [mn]
          by_cases c : n ∈ ws
          · rw [c1 c]
            exact ⟨Or.inl, fun z => z.elim id fun z => by rw [z]; exact c⟩
          · rw [(c2 c).mem_iff, List.mem_cons]
            exact Or.comm
        · by_cases c : n ∈ ws
          · rw [c1 c]
            omega
          · rw [(c2 c).length_eq, List.length_cons]
            omega
    · rintro H2 ⟨s2, ws, e2, once, mem, lw⟩
      have et : (m.rows.map (·.deed)).take (qs.map fun p => V.ref p.1).length = m.rows.map (·.deed) := by
        rw [List.length_map, List.take_of_length_le]
        rw [List.length_map, lq]
        exact Nat.le_refl _
      rw [et, ← exNames_deeds] at mem
      rw [List.length_map, lq] at lw
      refine ⟨D2, ws, rfl, e2, by omega, fun ys p4 pm pw n4 => ?_⟩
      have s4 := same_upd (o := .lst (ys.map V.str)) n4
      refine ⟨p4, _, rfl, .inl ⟨SqL.of upd_same, fun p5 n5 => ?_⟩⟩
      have s5 := same_upd (o := .tup (ys.map V.str)) n5
      have ss := s1.trans (s2.trans s4)
      exact q _ p5 ys (ss.trans s5) (ss.free n5) upd_same ⟨fun x => (pm.mem_iff.trans (mem x)).trans mem_exNames, pw, pm.nodup_iff.mpr once⟩ (by rw [pm.length_eq]; omega)
end
end K55
/-! Own errors over any built-in error, each with an __init__ of its own that keeps one value: made as values. -/
namespace GL
open PySem PySem.W PySem.Calls PyProof.Rows PySem.HandSPX
section
variable {M : Model} {A : Around} {E : Value → Shared → Prop} {h : Heap} {g : Array GenState} {d : Drawn} {t : Nat} {os : OsState} {prog : Program} {w : World} {R : Result → Shared → Prop}
variable {nm q : Str} {C N : Addr} {bs bm bmB : List Value} {hdct : Bool} {sn : List Str} {sub : List Value} {ab : Bool} {col : Option Bool} {dd : Option Addr} {k0 k1 k2 k3 k5 : Option Value} {B newId initId : String}
/-- what of the built-in's chain the maker asks -/
structure Over (B : String) (bm : List Value) : Prop where
  b : bm.contains (.type B) = true
  a : bm.contains (.type "AttributeError") = false
  n : bm.contains (.type "NameError") = false
theorem Over.with {c : Value} (o : Over B bm) (hc : ∀ X : String, (Value.type X == c) = false) : Over B (c :: bm) :=
  ⟨by rw [List.contains_cons, o.b, Bool.or_true], by rw [List.contains_cons, o.a, hc]; rfl, by rw [List.contains_cons, o.n, hc]; rfl⟩
theorem over_ref (o : Over B bm) : Over B (.ref C :: bm) := o.with fun _ => rfl
theorem mkCheck (F : ExcBaseFacts B newId initId bmB) (o : Over B bm) {rest : List Value} {Q : Unit → Shared → Prop} (hC : h.get? C = some (excClassObj nm q C N bs bm hdct sn sub ab col dd k0 k1 k2 k3 k5 newId)) (done : Q () ⟨h, g, d, t, os⟩) :
    wpAny M A (checkBuiltinCall newId ⟨.ref C :: rest, []⟩) Q E ⟨h, g, d, t, os⟩ := by
  have inB := (over_ref (C := C) o).b
  have notStar := F.noStar
  simp only [checkBuiltinCall, F.newKind, F.newSplit, F.newRow]
  repeat (first
    | refine wpAny_loadPart_at hC ?_
    | (refine wpAny_isSubtype_exc hC ?_; rw [inB])
    | refine wpAny_staticBase_exc hC ?_
    | refine wpAny_madeBy_exc hC ?_
    | simp only [bne_self_eq_false, Bool.false_eq_true, if_false]
    | wp_step)
  exact done
theorem mkNew (F : ExcBaseFacts B newId initId bmB) (o : Over B bm) {rest : List Value} (hC : h.get? C = some (excClassObj nm q C N bs bm hdct sn sub ab col dd k0 k1 k2 k3 k5 newId)) (small : rest.length ≤ sizeLine)
    (done : R (.ok (.ret (.ref (h.objs.size + 1)))) ⟨(h.push (kdv_tup rest)).push (excO C h.objs.size), g, d, t, os⟩) : codeAny (model prog w) A (.builtin newId ⟨.ref C :: rest, []⟩) R ⟨h, g, d, t, os⟩ := by
  have o' := over_ref (C := C) o
  have inB := o'.b
  have inA := o'.a
  have inN := o'.n
  have ends := F.ends
  refine codeAny_builtinAt F.entry ?_
  unfold Builtin.«BaseException.__new__»
  refine PySem.wpAt_bind ?_
  show PySem.wpAt _ _ _ (stack >>= _) _ _ _
  refine PySem.wpAt_bind (PySem.wpAt_stack fun p below => PySem.wpAt_of_wpAny ?_)
  wp_walk
  refine PySem.wpAt_of_wpAny ?_
  rw [F.owner]
  repeat (first
    | with_reducible refine wpAny_madeHere_exc F.canon hC ?_
    | with_reducible refine wpAny_loadPart_at hC ?_
    | (with_reducible refine wpAny_isSubtype_exc hC ?_; first | rw [inB] | rw [inA] | rw [inN])
    | wp_step)
  show R _ _
  rw [Heap.size_push]
  exact done
theorem mkType (F : ExcBaseFacts B newId initId bmB) (o : Over B bm) {rest : List Value} {fI : Addr} {Q : Fin → Shared → Prop} (hC : h.get? C = some (excClassObj nm q C N bs bm hdct sn sub ab col dd k0 k1 k2 k3 k5 newId))
    (hi : Looks (model prog w) h (typeLookup (.ref C) "__init__") (some (.ref fI))) (hb : ∀ self, Looks (model prog w) h (bindSpecial (.ref fI) self) (.ref fI, [self])) (small : rest.length ≤ sizeLine)
    (run : codeAny (model prog w) A (.call (.ref fI) ⟨.ref (h.objs.size + 1) :: rest, []⟩)
      (fun r s' => match r with | .ok (.ret v) => v = .none ∧ Q (.done (.ret (.ref (h.objs.size + 1)))) s' | .ok _ => False | .error e => E e s') ⟨(h.push (kdv_tup rest)).push (excO C h.objs.size), g, d, t, os⟩) :
    wpAny (model prog w) A (Builtin.«type.__call__» ⟨.ref C :: rest, []⟩) Q E ⟨h, g, d, t, os⟩ := by
  repeat (first
    | with_reducible refine wpAny_loadPart_at hC ?_
    | with_reducible refine wpAny_madeBy_exc hC ?_
    | wp_step)
  refine codeAny_call_builtin_code (Code.quiet_builtin _ F.quiet) (mkCheck F o hC (mkNew F o hC small (?_ : wpAny _ _ _ _ _ _)))
  have keep : ∀ b u, h.get? b = some u → ((h.push (kdv_tup rest)).push (excO C h.objs.size)).get? b = some u := fun b u e => Heap.get?_push_of_some _ (Heap.get?_push_of_some _ e)
  have cls := keep _ _ hC
  have new : ((h.push (kdv_tup rest)).push (excO C h.objs.size)).get? (h.objs.size + 1) = some (excO C h.objs.size) := by heap_get
  have self : (Value.ref C :: bm).contains (.ref C) = true := by simp
  unfold isInstance
  repeat (first
    | with_reducible refine wpAny_loadPart_at new ?_
    | (with_reducible refine wpAny_isSubtype_exc cls ?_; rw [self])
    | wp_step)
  refine (hi.keeps keep).at (?_ : wpAny _ _ _ _ _ _)
  refine wpAny_holding (wpAny_bind (((hb (.ref (h.objs.size + 1))).keeps keep).at ?_))
  refine wpAny_bind (wpAny_call (codeAny_mono run fun r s' z => ?_))
  match r, z with
  | .error e, z => exact z
  | .ok (.ret v), z =>
    obtain ⟨rfl, z⟩ := z
    first
      | exact wpAny_pure (wpAny_pure z)
      | (wp_walk; exact z)
/-- C(..): the object, then the class's own __init__ at fI -/
theorem mkOwn (F : ExcBaseFacts B newId initId bmB) (o : Over B bm) {rest : List Value} {fI : Addr} (hC : h.get? C = some (excClassObj nm q C N bs bm hdct sn sub ab col dd k0 k1 k2 k3 k5 newId))
    (hi : Looks (model prog w) h (typeLookup (.ref C) "__init__") (some (.ref fI))) (hb : ∀ self, Looks (model prog w) h (bindSpecial (.ref fI) self) (.ref fI, [self])) (small : rest.length ≤ sizeLine)
    (run : codeAny (model prog w) (A.under (.builtin "type.__call__" ⟨.ref C :: rest, []⟩)) (.call (.ref fI) ⟨.ref (h.objs.size + 1) :: rest, []⟩) (InitBack (h.objs.size + 1) R) ⟨(h.push (kdv_tup rest)).push (excO C h.objs.size), g, d, t, os⟩) :
    codeAny (model prog w) A (.call (.ref C) ⟨rest, []⟩) R ⟨h, g, d, t, os⟩ := by
  have look := tc_lookup
  have bind := tc_bind (.ref C)
  have isType : (⟨h, g, d, t, os⟩ : Shared).TypeIs (.ref C) "type" := ⟨_, hC, rfl⟩
  refine codeAny_of_tree (?_ : wpAny _ _ (callAny (.ref C) _) _ _ _)
  repeat (any_goals (first
    | assumption
    | with_reducible refine wpAny_loadPart_at hC ?_
    | wp_step))
  refine ⟨rfl, codeAny_call_builtin_at (Code.quiet_builtin _ (by decide +kernel)) entry_typeCall (wpAny_check_type_call_sub hC (mkType F o hC hi hb small (codeAny_mono run fun r s' z => ?_)))⟩
  match r, z with
  | .error e, z => exact z
  | .ok (.ret v), z => exact z
end
end GL
/-! The layer with one thing more: no repr of a container is under way where a def is entered (so repr itself can be told). -/
namespace GL
open PySem PySem.Spec PyProof.Rows L2
/-- a def's promise where no repr is under way -/
structure FnG (P : Program) (w : World) (K : PySem.W.Frag) (mg : Str → Option Value) (base : Heap) (CX : CXT) (k : Nat) (f : Addr) (fd : FuncData) (ps : List Str) (sp : Sp) : Prop where
  len : ∀ vs H Q E, sp vs H Q E → vs.length = ps.length
  run : ∀ (A : Around) (outer : List Env) (s : Shared) (H : Hp) (args : Args) (us : List Value) (vs : List V) (Q : VK) (E : XK),
    A.guards = some [] → Room k A → Env0 P w K mg base A outer s H → BindsTo s fd args (ps.zip us) → Vals vs us → sp vs H Q E → codeAny (model P w) A (.call (.ref f) args) (CR CX outer P w H s Q E) s
section
variable {P : Program} {w : World} {K : PySem.W.Frag} {mg : Str → Option Value} {base : Heap} {CX : CXT} {k : Nat} {f : Addr} {fd : FuncData} {ps : List Str} {sp : Sp}
theorem FnG.ofOk (F : FnOk P w K mg base CX k f fd ps sp) : FnG P w K mg base CX k f fd ps sp := ⟨F.len, fun A outer s H args us vs Q E _ => F.run A outer s H args us vs Q E⟩
theorem FnG.mono {j : Nat} (F : FnG P w K mg base CX j f fd ps sp) (h : j ≤ k) : FnG P w K mg base CX k f fd ps sp := ⟨F.len, fun A outer s H args us vs Q E hg hr => F.run A outer s H args us vs Q E hg (hr.mono h)⟩
/-- a def of the text, by its body's reading; hgd: no repr is under way in the body -/
theorem fnG_of {name qual : Str} {st : Stmt} {N : List Str} (F : Fun K name qual st f fd) (S : FnScope N ps (defScope st)) (len : ∀ vs H Q E, sp vs H Q E → vs.length = ps.length)
    (hbody : ∀ (cdv : Value) (A : Around) (outer : List Env) (s : Shared) (H : Hp) (vs : List V) (Q : VK) (E : XK), (A.deeper (envOfC qual (defScope st) s.heap.objs.size f cdv)).guards = some [] →
      Room k (A.deeper (envOfC qual (defScope st) s.heap.objs.size f cdv)) → sp vs H Q E →
      ∃ t, PSs (cxOf CX P w K mg base N qual (defScope st) f cdv A outer s H E) (defBody st) t ∧ t { nx := fun _ H' => Q .non H', rt := Q } (start N vs) H) : FnG P w K mg base CX (k + 1) f fd ps sp := by
  obtain ⟨oc, od, kV, doc, pm, an, cdv, ct, osl, rfl, lk, hcd⟩ := F.ex
  refine ⟨len, fun A outer s H args us vs Q E hgd hr e0 hb r hsp => ?_⟩
  have hvl : vs.length = ps.length := len _ _ _ _ hsp
  have inS : K.In s.heap := e0.mod.kin.keeps (fun b o e => And.left (e0.bs b o e))
  have noLim : s.heap.NoLimit := e0.mod.nolimit.keeps (fun b o e => And.left (e0.bs b o e))
  have kinds : ∀ y ∈ ps.zip us, (defScope st).names.lookup y.1 = some .local ∨
      ((defScope st).names.lookup y.1 = some .cell ∧ ((cellsFrom (s.heap.objs.size + 1) (defScope st).names []).lookup y.1).isSome = true) := by
    rintro ⟨n, v⟩ hy
    rcases S.par n (List.of_mem_zip hy).1 with q | q
    · exact Or.inl q
    · exact Or.inr (And.intro q (PySem.W.cellsFrom_some _ _ _ (Or.inl q)))
  obtain ⟨t, ht, hq⟩ := hbody cdv A outer s H vs Q E hgd (hr.deeper _) hsp
  refine codeAny_call_function hr.depth (inS _ _ lk) rfl S.co S.gen rfl (PySem.W.codeRec_of inS hcd) (hb _ _ _ _ (wpAny_newFunctionEnv_cells S.kind kinds ?_))
  intro env he s1 x
  subst he
  have J := inv_start (CX := CX) (P := P) (mg := mg) (E := E) S hr.hd e0 hvl r x
  have out : ∀ {σ' : L2.St} {H' : Hp} {v : V} {u : Value} {s' : Shared}, Inv (cxOf CX P w K mg base N qual (defScope st) f cdv A outer s H E) [] σ' H' s' → RelV v u → Q v H' → CE outer P w H s Q u s' := by
    intro σ' H' v u s' Z rv q
    exact ⟨v, H', Z.os, Z.bare, Z.base, Z.hok, rv, q⟩
  refine ⟨noLim.keeps x.toInCall.keep, codeAny_func (wpAny_mono (ht.run [] s1 _ H _ J hq) ?_ (fun e s' hs => hs))⟩
  intro fl s' hs
  cases fl with
  | ret u => obtain ⟨v, σ', H', Z, rv, q⟩ := hs; exact out Z rv q
  | next => obtain ⟨σ', H', Z, q⟩ := hs; exact out (v := V.non) (u := Value.none) Z rfl q
  | brk => obtain ⟨_, _, _, q⟩ := hs; exact q.elim
  | cont => obtain ⟨_, _, _, q⟩ := hs; exact q.elim
end
/-- no exception leaves the def -/
theorem fnG_ok {P : Program} {w : World} {K : PySem.W.Frag} {mg : Str → Option Value} {base : Heap} {k : Nat} {f : Addr} {fd : FuncData} {ps : List Str} {sp : Sp} {name qual : Str} {st : Stmt} {N : List Str} (F : Fun K name qual st f fd) (S : FnScope N ps (defScope st))
    (len : ∀ vs H Q E, sp vs H Q E → vs.length = ps.length)
    (hbody : ∀ (cdv : Value) (A : Around) (outer : List Env) (s : Shared) (H : Hp) (vs : List V) (Q : VK) (E : XK), (A.deeper (envOfC qual (defScope st) s.heap.objs.size f cdv)).guards = some [] →
      Room k (A.deeper (envOfC qual (defScope st) s.heap.objs.size f cdv)) → sp vs H Q E →
      ∃ t, PSs (cxOf CX0 P w K mg base N qual (defScope st) f cdv A outer s H E).nox (defBody st) t ∧ t { nx := fun _ H' => Q .non H', rt := Q } (start N vs) H) : FnG P w K mg base CX0 (k + 1) f fd ps sp :=
  fnG_of F S len fun cdv A outer s H vs Q E hg hr h => let ⟨t, p, q⟩ := hbody cdv A outer s H vs Q E hg hr h; ⟨t, p.nox, q⟩
section
variable {X : Cx} {CX : CXT} {k : Nat} {f : Addr} {fd : FuncData} {ps : List Str} {sp : Sp} {dvs : List V} {ds : List Value} {E : XK} {x : Str} {p pos : Pos} {e : Expr} {es : List Expr} {t : TA}
theorem runG {pins : List (Addr × Obj)} {σ : L2.St} {H : Hp} {s : Shared} {Q : VK} {us : List Value} {vs : List V} (F : FnG X.prog X.w X.K X.mg X.base CX k f fd ps sp) (hgd : X.A.guards = some []) (hr : Room k X.A) (hb : Binds X.K fd ps ds) (hd : Vals dvs ds)
    (hx : Passes CX X E) (I : Inv X pins σ H s) (r : Vals vs us) (h : sp (vs ++ dvs) H Q E) : wpAny (model X.prog X.w) X.A (call (.ref f) us) (EP X pins σ Q) X.xe s := by
  have both : Vals (vs ++ dvs) (us ++ ds) := r.append hd
  have n : (us ++ ds).length = ps.length := both.length.symm.trans (F.len _ _ _ _ h)
  refine wpAny_call (codeAny_mono (F.run X.A X.stack s H ⟨us, []⟩ _ _ Q E hgd hr I.env0 (hb s us I.kIn n) both h) ?_)
  intro res s' hq
  match res, hq with
  | .error e, hq => exact hx pins σ H s e s' I hq
  | .ok (.ret u), hq => exact I.after hq
/-- f(..) of such a def -/
theorem pe_callG (F : FnG X.prog X.w X.K X.mg X.base CX k f fd ps sp) (hgd : X.A.guards = some []) (hr : Room k X.A) (hg : Gl X x) (hm : X.mg x = some (.ref f)) (hk : PySem.W.keepIn X.K (.ref f) = true) (hb : Binds X.K fd ps ds) (hd : Vals dvs ds) (hx : Passes CX X E)
    (ha : PA X (e :: es) t) (hdb : (x == ("__debug__" : Str)) = false := by decide) (he : starEach (e :: es) X.env = (false, eval e X.env) :: starEach es X.env := by rfl)
    (hpl : (backTo pos (starEach es X.env)).any (·.1) = false := by rfl) : PE X (.Call (.Name x p) (e :: es) [] pos) (tCall sp dvs E t) := by
  constructor
  intro pins s σ H Q I h
  refine wpAny_Call_Name_kw (ld_glob I hg hm (PySem.W.callWith_K (h₀ := X.base) I.ok.mod.kin hk (thn (ha.run pos pins s σ H _ I h) ?_) he hpl) hdb)
  rintro us s1 ⟨vs, H1, J, r, q⟩
  exact ⟨J.kIn, runG F hgd hr hb hd hx J r q⟩
theorem pe_callG0 (F : FnG X.prog X.w X.K X.mg X.base CX k f fd ps sp) (hgd : X.A.guards = some []) (hr : Room k X.A) (hg : Gl X x) (hm : X.mg x = some (.ref f)) (hk : PySem.W.keepIn X.K (.ref f) = true) (hb : Binds X.K fd ps ds) (hd : Vals dvs ds) (hx : Passes CX X E)
    (hdb : (x == ("__debug__" : Str)) = false := by decide) : PE X (.Call (.Name x p) [] [] pos) (tCall sp dvs E tNil) := by
  constructor
  intro pins s σ H Q I h
  exact wpAny_Call_Name_kw (ld_glob I hg hm (PySem.W.callWith_K0 I.kIn hk (runG (us := []) F hgd hr hb hd hx I .nil h)) hdb)
/-- repr of data -/
def rRepr (K : PySem.W.Frag) : List V → Hp → VK → Prop := fun xs H Q => ∃ (a : Addr) (d : PyData), xs = [.ref a] ∧ Dp K H (.ref a) d ∧ d.showable = true ∧ d.hasDict = false ∧ d.depth ≤ 60 ∧ d.shown.length ≤ sizeLine ∧ Q (.str d.shown) H
theorem call_repr_data (hgd : X.A.guards = some []) (hu : X.A.units + 64 < cLine) : CallR X (.builtin "repr") (rRepr X.K) := by
  intro pins s σ H xs us Q I r h
  obtain ⟨a, d, rfl, hd, hs, hn, hdp, hz, q⟩ := h
  cases r with
  | cons r1 r2 =>
    cases r2
    cases r1
    obtain ⟨as, rd⟩ := Dp.reads I d (.ref a) (.ref a) hd rfl
    refine repr_of_reads' rd hs (fun z => absurd (hn.symm.trans z) Bool.false_ne_true) hgd (by omega) (fun _ _ z => z) (fun h' u tk keep => ?_) hz
    exact ⟨.str d.shown, H, I.kept (t' := tk) keep, ⟨u, rfl⟩, q⟩
end
end GL
/-! KeyError as the base of own errors. -/
namespace GL
open PySem PySem.F
theorem keyStore : StoreFacts "KeyError" [.type "KeyError", .type "LookupError", .type "Exception", .type "BaseException", .type "object"] "object.__setattr__" "object" := by
  refine { mro := ?_, slot := ?_, entry := F.store_LookupError.entry, kind := F.store_LookupError.kind, split := F.store_LookupError.split, hasOwner := ?_, args := F.store_LookupError.args, passes := ?_ }
  · kernel_rfl
  · refine .of (owner := "object") (n := "__setattr__") ?_ ?_ ?_ ?_ ?_ ?_
    · rw [typeLookup_type, builtinLookup_eq_fast]; kernel_rfl
    · decide +kernel
    · decide +kernel
    · decide +kernel
    · first | exact .inl (by decide +kernel) | exact .inr (by decide +kernel)
    · rw [isSubtype_type]; kernel_rfl
  · decide +kernel
  · intro self; kernel_rfl
end GL
/-! Own errors as values over the layer: made, their field read, isinstance, str. -/
namespace GL
open PySem PySem.Spec PyProof.Rows L2
/-- an error object at a: its class at C, its dict, its args -/
def exT (a C : Addr) (d : Option Addr) (t : Addr) : HO := .ext fun h => h.get? a = some ({ cls := .ref C, dict := d, data := .fields #[.ref t, .none, .none, .none, .bool false, .none] } : Obj)
theorem exT_ok {P : Program} {w : World} {H : Hp} {h : Heap} {a C t : Addr} {d : Option Addr} (e : h.get? a = some ({ cls := .ref C, dict := d, data := .fields #[.ref t, .none, .none, .none, .bool false, .none] } : Obj)) : ObjOk P w H h a (exT a C d t) :=
  ⟨e, ⟨_, e⟩, fun _ _ z k => k _ z⟩
theorem exT_at {P : Program} {w : World} {H : Hp} {h : Heap} {a C t : Addr} {d : Option Addr} (ok : HOk P w H h) (e : H a = some (exT a C d t)) : h.get? a = some ({ cls := .ref C, dict := d, data := .fields #[.ref t, .none, .none, .none, .bool false, .none] } : Obj) :=
  (show ObjOk P w H h a (.ext _) from ok a _ e).1
theorem exT_no {a C t b : Addr} {d : Option Addr} {H : Hp} {u : HO} (e : H a = some (exT a C d t)) (hb : H b = some u) (n : ∀ φ, u ≠ .ext φ) : b ≠ a := fun z => by
  subst z
  rw [e] at hb
  exact n _ (Option.some.inj hb).symm
/-- what the top has written of an own error's class -/
structure ErrC (K : PySem.W.Frag) (C : Addr) (bmB : List Value) (newId : String) : Prop where
  mi : PySem.W.excInitIn K C bmB newId = true
  kC : PySem.W.keepIn K (.ref C) = true
  ga : PySem.W.findIn K (.ref C) "__getattribute__" = some (some (.builtin "BaseException.__getattribute__"))
  gg : PySem.W.findIn K (.ref C) "__getattr__" = some none
  sb : PySem.W.subIn K (.ref C) (.type "BaseException") = some true
  hd : PySem.W.hasDictIn K C = true
  cc : PySem.W.findIn K (.ref C) "__class__" = some (some (.builtin "object.__class__"))
  mo : PySem.W.mroIn K C (.type "object") = some true
/-- one whose __init__ keeps one value as f -/
structure ErrF (K : PySem.W.Frag) (C : Addr) (bmB : List Value) (f : Str) : Prop where
  ov : PySem.W.excOver K C bmB = true
  tk : PySem.W.takerIn K C f = some none
  sa : PySem.W.findIn K (.ref C) "__setattr__" = some (some (.builtin "object.__setattr__"))
  no : PySem.W.findIn K (.ref C) f = some none
/-- two new objects -/
theorem un_two {fs : List Addr} {H : Hp} {h h' : Heap} {a d : Addr} {O D : HO} (k : ∀ b u, h.get? b = some u → h'.get? b = some u) (ha : h.get? a = none) (hd : h.get? d = none) (na : H a = none) (nd : H d = none) : Un fs [] H (upd (upd H d D) a O) h h' := by
  have apart : ∀ {b : Addr} {u : Obj}, h.get? b = some u → b ≠ a ∧ b ≠ d := fun {b u} q => ⟨fun z => (by subst z; rw [ha] at q; cases q), fun z => (by subst z; rw [hd] at q; cases q)⟩
  have old : ∀ {b : Addr} {u : HO}, H b = some u → upd (upd H d D) a O b = some u := fun {b u} q => by rw [upd_ne (ne_of_none q na), upd_ne (ne_of_none q nd)]; exact q
  refine ⟨fun b u q _ _ _ => k b u q, fun b u q _ _ _ => ⟨u.slots, k b u q⟩, fun b u q n _ => ?_, fun b u q _ => ⟨u, k b u q⟩, fun b xs q => old q, fun b u xs q => old q, fun b ps q => ⟨#[], ?_⟩⟩
  · rw [upd_ne (apart q).1, upd_ne (apart q).2]
    exact n
  · rw [old q]
    simp
section
variable {X : Cx} {pins : List (Addr × Obj)} {σ : L2.St} {H : Hp} {s : Shared} {a C t : Addr} {f : Str} {y : V} {u : Value} {Q : Unit → Shared → Prop} {E : Value → Shared → Prop} {A : Around} {B : String} {bmB : List Value}
/-- self.f = y, on an error without a dict -/
theorem est_new (SF : StoreFacts B bmB "object.__setattr__" "object") (T : ErrF X.K C bmB f) (hd : PySem.W.hasDictIn X.K C = true) (I : Inv X pins σ H s) (e : H a = some (exT a C none t)) (ry : RelV y u)
    (h : ∀ dx s', H dx = none → dx ≠ a → Inv X pins σ (upd (upd H dx (.xd [(f, y)])) a (exT a C (some dx) t)) s' → Q () s') : wpAny (model X.prog X.w) A (setAttr (.ref a) f u) Q E s := by
  have ho := exT_at I.hok e
  obtain ⟨cd, hcd, hdd⟩ := PySem.W.any_some hd
  obtain ⟨hp, g, d, tk, os⟩ := s
  refine PySem.W.set_plain I.kIn (od := none) ⟨ho, rfl, rfl, trivial⟩ T.sa ?_
  refine PySem.W.osa_openX SF I.kIn (od := none) ⟨ho, rfl, rfl, trivial⟩ T.ov T.tk fun b => ?_
  have hcls : PySem.W.Looks (model X.prog X.w) hp (classData C) cd := PySem.W.looks_clsIn I.kIn hcd
  obtain ⟨nm, bs, mro, ns, qn, hd', sn, sb, ab, col, del⟩ := cd
  dsimp only at hdd
  subst hdd
  show wpAny _ _ (Builtin.ObjectAttr.storeInOwnDict (.ref a) (.ref C) (.str f tk) f u b) _ _ _
  unfold Builtin.ObjectAttr.storeInOwnDict Builtin.ObjectAttr.ownDictForStores
  have xs : a ≠ hp.objs.size := Nat.ne_of_lt (Heap.lt_size ho)
  repeat (first
    | with_reducible refine PySem.HandSPX.store_in_new ?_ ?_
    | with_reducible refine wpAny_loadPart_at ho ?_
    | with_reducible refine hcls.at ?_
    | wp_step)
  · exact ⟨_, #[], _, (Heap.get?_update_ne _ _ _ _ xs.symm).trans (Heap.get?_push_at rfl rfl), rfl, fun z hz => absurd hz (by simp), fun _ => rfl⟩
  · intro h' tk' hn' hs
    have new : H hp.objs.size = none := I.hok.fresh (Nat.le_refl _)
    have keep : ∀ b o, b ≠ a → hp.get? b = some o → h'.get? b = some o := fun b o hb q =>
      (hs.2 b (Nat.ne_of_lt (Heap.lt_size q))).trans ((Heap.get?_update_ne _ _ _ _ hb).trans (Heap.get?_push_of_some _ q))
    have self : h'.get? a = some ({ cls := .ref C, dict := some hp.objs.size, data := .fields #[.ref t, .none, .none, .none, .bool false, .none] } : Obj) :=
      (hs.2 a xs).trans (Heap.get?_update_self _ (Heap.get?_push_of_some _ ho) rfl)
    have notA : ∀ {b : Addr}, H b = none → b ≠ a := fun {b} n z => by subst z; rw [e] at n; cases n
    have notD : ∀ {b : Addr} {o : Obj}, hp.get? b = some o → b ≠ hp.objs.size := fun {b o} q => Nat.ne_of_lt (Heap.lt_size q)
    have U : Un X.fs [] H (upd (upd H hp.objs.size (.xd [(f, y)])) a (exT a C (some hp.objs.size) t)) hp h' := by
      refine ⟨fun b o q n _ _ => keep b o (notA n) q, fun b o q n _ _ => ⟨o.slots, keep b o (notA n) q⟩, fun b o q n _ => ?_, fun b o q _ => ?_, fun b xs q => ?_, fun b o v q => ?_, fun b ps q => ⟨#[], ?_⟩⟩
      · rw [upd_ne (notA n), upd_ne (notD q)]; exact n
      · by_cases hb : b = a
        · exact ⟨_, by rw [hb]; exact self⟩
        · exact ⟨o, keep b o hb q⟩
      · rw [upd_ne (exT_no e q fun _ z => nomatch z), upd_ne (ne_of_none q new)]; exact q
      · rw [upd_ne (exT_no e q fun _ z => nomatch z), upd_ne (ne_of_none q new)]; exact q
      · rw [upd_ne (exT_no e q fun _ z => nomatch z), upd_ne (ne_of_none q new), q]; simp
    refine h hp.objs.size _ new xs.symm (I.un (t' := tk') U fun b o q => ?_)
    by_cases hb : b = a
    · subst hb
      rw [upd_same] at q
      cases q
      exact exT_ok self
    · rw [upd_ne hb] at q
      by_cases hx : b = hp.objs.size
      · subst hx
        rw [upd_same] at q
        cases q
        refine ⟨_, hn', fun g => ?_⟩
        have z := relO_put (f := f) (fs := []) (mA := fun _ => none) ry (fun _ => True.intro) g
        exact z
      · rw [upd_ne hx] at q
        refine (I.hok b o q).stay (fun c v hc z => keep c v ?_ z) (fun c hc => ?_) fun c xs hc => ?_
        · rcases hc with hc | hc
          · rw [hc]; exact hb
          · exact exT_no e hc fun _ z => nomatch z
        · rw [upd_ne (exT_no e hc fun _ z => nomatch z), upd_ne (ne_of_none hc new)]; exact hc
        · rw [upd_ne (exT_no e hc fun _ z => nomatch z), upd_ne (ne_of_none hc new)]; exact hc
end
section
variable {X : Cx} {o e : Expr} {es : List Expr} {to te : TE} {ta : TA} {f x : Str} {p p' p1 p2 pos : Pos} {B : String} {bmB : List Value}
/-- self.f = e in such an __init__ -/
def tEst (K : PySem.W.Frag) (bmB : List Value) (f : Str) (to te : TE) : TS := fun D σ H => te σ H fun y H1 => to σ H1 fun x H2 => ∃ a C t : Addr, x = .ref a ∧ H2 a = some (exT a C none t) ∧ ErrF K C bmB f ∧ PySem.W.hasDictIn K C = true ∧
  ∀ dx, H2 dx = none → dx ≠ a → D.nx σ (upd (upd H2 dx (.xd [(f, y)])) a (exT a C (some dx) t))
theorem ps_est (SF : StoreFacts B bmB "object.__setattr__" "object") (ho : PE X o to) (he : PE X e te) (hs : swapsWith e (some (.Attribute o f p')) pos.line X.env = pure false := by rfl) : PS X (.Assign [.Attribute o f p'] e pos) (tEst X.K bmB f to te) := by
  constructor
  intro pins s σ H D I h
  refine plainObj_wpAny_Assign_Attribute (thn (he.run pins s σ H _ I h) ?_) hs
  rintro v s1 ⟨y, H1, I1, r1, q1⟩
  refine thn (ho.run pins s1 σ H1 _ I1 q1) ?_
  rintro u s2 ⟨x, H2, I2, r2, a, C, t, rfl, ea, T, hd, q⟩
  cases r2
  exact est_new SF T hd I2 ea r1 fun dx s' n ne J => ⟨σ, _, J, q dx n ne⟩
/-- the promise of such an __init__ -/
def spEinit (K : PySem.W.Frag) (bmB : List Value) (f : Str) : Sp := fun vs H Q _ => ∃ (a C t : Addr) (y : V), vs = [.ref a, y] ∧ H a = some (exT a C none t) ∧ ErrF K C bmB f ∧ PySem.W.hasDictIn K C = true ∧
  ∀ dx, H dx = none → dx ≠ a → Q .non (upd (upd H dx (.xd [(f, y)])) a (exT a C (some dx) t))
/-- C(e) with such an __init__, as a value -/
def tMkE (C : Addr) (f : Str) (te : TE) : TE := fun σ H Q => te σ H fun y H1 => ∀ a t dx, H1 a = none → H1 dx = none → dx ≠ a → Q (.ref a) (upd (upd H1 dx (.xd [(f, y)])) a (exT a C (some dx) t))
def wishE (C : Addr) (f : Str) (Q : VK) : List V → Hp → Prop
  | [y], H1 => ∀ a t dx, H1 a = none → H1 dx = none → dx ≠ a → Q (.ref a) (upd (upd H1 dx (.xd [(f, y)])) a (exT a C (some dx) t))
  | _, _ => False
theorem wishE_one {C : Addr} {f : Str} {Q : VK} : ∀ {vs : List V} {H1 : Hp}, wishE C f Q vs H1 → ∃ y, vs = [y] ∧ ∀ a t dx, H1 a = none → H1 dx = none → dx ≠ a → Q (.ref a) (upd (upd H1 dx (.xd [(f, y)])) a (exT a C (some dx) t))
  | [], _, q => q.elim
  | [y], _, q => ⟨y, rfl, q⟩
  | _ :: _ :: _, _, q => q.elim
theorem pe_mkE {B' newId initId : String} {bmB' ps' : List Value} {ps : List Str} {C fI : Addr} {fd : FuncData} {k : Nat} (F : ExcBaseFacts B' newId initId bmB') (T : ErrC X.K C bmB newId) (TF : ErrF X.K C bmB f) (ov : Over B' bmB)
    (iC : PySem.W.findIn X.K (.ref C) "__init__" = some (some (.ref fI))) (tI : PySem.W.typeIn X.K (.ref fI) = some (.type "function")) (G : FnOk X.prog X.w X.K X.mg X.base CX0 k fI fd ps (spEinit X.K bmB f)) (hr : Room (k + 1) X.A)
    (hb : Binds X.K fd ps []) (hg : Gl X x) (hm : X.mg x = some (.ref C)) (he : PE X e te) (hdb : (x == ("__debug__" : Str)) = false := by decide)
    (hs : starEach [e] X.env = (false, eval e X.env) :: starEach [] X.env := by rfl) (hpl : (backTo pos (starEach [] X.env)).any (·.1) = false := by rfl) : PE X (.Call (.Name x p) [e] [] pos) (tMkE C f te) := by
  constructor
  intro pins s σ H Q I h
  have ha : PA X [e] (tCons te tNil) := pa_cons he pa_nil hs
  refine wpAny_Call_Name_kw (ld_glob I hg hm (PySem.W.callWith_K (h₀ := X.base) I.ok.mod.kin T.kC (thn (ha.run pos pins s σ H (wishE C f Q) I h) ?_) hs hpl) hdb)
  · rintro us s1 ⟨vs, H1, J, r, q⟩
    refine ⟨J.kIn, ?_⟩
    obtain ⟨y, rfl, q⟩ := wishE_one q
    obtain ⟨nm, N, qn, bs, bm, hdct, sn, sub, ab, col, dd, k0, k1, k2, k3, k5, hC, hT⟩ := PySem.W.excInit_of J.kIn T.mi
    show wpAny _ _ (call (.ref C) us) _ _ _
    obtain ⟨hp, g, dr, tk, os⟩ := s1
    have old : ∀ b o, hp.get? b = some o → ((hp.push (PySem.W.kdv_tup us)).push (PySem.HandSPX.excO C hp.objs.size)).get? b = some o := fun b o z => Heap.get?_push_of_some _ (Heap.get?_push_of_some _ z)
    have new : ((hp.push (PySem.W.kdv_tup us)).push (PySem.HandSPX.excO C hp.objs.size)).get? (hp.objs.size + 1) = some (PySem.HandSPX.excO C hp.objs.size) := by heap_get
    have le : hp.objs.size ≤ hp.objs.size + 1 := Nat.le_succ _
    have free : H1 (hp.objs.size + 1) = none := J.hok.fresh le
    have J2 : Inv X pins σ (upd H1 (hp.objs.size + 1) (exT (hp.objs.size + 1) C none hp.objs.size)) ⟨(hp.push (PySem.W.kdv_tup us)).push (PySem.HandSPX.excO C hp.objs.size), g, dr, tk, os⟩ :=
      J.laid (t' := tk) (a := hp.objs.size + 1) (h' := (hp.push (PySem.W.kdv_tup us)).push (PySem.HandSPX.excO C hp.objs.size)) old le (exT_ok new)
    have want : spEinit X.K bmB f [.ref (hp.objs.size + 1), y] (upd H1 (hp.objs.size + 1) (exT (hp.objs.size + 1) C none hp.objs.size)) (fun v H2 => v = .non ∧ Q (.ref (hp.objs.size + 1)) H2) (fun _ _ _ => False) := by
      refine ⟨_, C, _, y, rfl, upd_same, TF, T.hd, fun dx nd ne => ⟨rfl, ?_⟩⟩
      have nd' : H1 dx = none := by rw [upd_ne ne] at nd; exact nd
      have e : upd (upd (upd H1 (hp.objs.size + 1) (exT (hp.objs.size + 1) C none hp.objs.size)) dx (.xd [(f, y)])) (hp.objs.size + 1) (exT (hp.objs.size + 1) C (some dx) hp.objs.size) =
          upd (upd H1 dx (.xd [(f, y)])) (hp.objs.size + 1) (exT (hp.objs.size + 1) C (some dx) hp.objs.size) := by
        funext b
        by_cases b1 : b = hp.objs.size + 1
        · rw [b1, upd_same, upd_same]
        · rw [upd_ne b1, upd_ne b1]
          by_cases b2 : b = dx
          · rw [b2, upd_same, upd_same]
          · rw [upd_ne b2, upd_ne b2, upd_ne b1]
      rw [e]
      exact q _ _ dx free nd' ne
    have vals : Vals [V.ref (hp.objs.size + 1), y] (Value.ref (hp.objs.size + 1) :: us) := .cons rfl r
    have n : (Value.ref (hp.objs.size + 1) :: us ++ []).length = ps.length := by
      rw [List.append_nil, ← vals.length]
      exact G.len _ _ _ _ want
    have bind := hb _ (Value.ref (hp.objs.size + 1) :: us) J2.kIn n
    rw [List.append_nil] at bind
    have small : us.length ≤ sizeLine := by
      rw [← r.length, sizeLine_eq]
      exact (by decide : 1 ≤ 16777216)
    have oBm : Over B' bm := ⟨(hT _).trans ov.b, (hT _).trans ov.a, (hT _).trans ov.n⟩
    refine wpAny_call (mkOwn F oBm hC (PySem.W.looks_findIn J.kIn iC) (fun self => PySem.W.bind_fn J.kIn self tI) small
      (codeAny_mono (G.run _ X.stack _ _ ⟨Value.ref (hp.objs.size + 1) :: us, []⟩ _ _ _ _ (hr.make C us []) (J2.env0.make C us []) bind vals want) ?_))
    intro res s' z
    match res, z with
    | .error e, z => exact z.elim
    | .ok (.ret u), z =>
      obtain ⟨v, H', J3, rv, ev, q3⟩ := J2.after z
      subst ev
      exact ⟨rv, V.ref (hp.objs.size + 1), H', J3, rfl, q3⟩
end
section
variable {X : Cx} {o e : Expr} {to te : TE} {f x : Str} {p pos : Pos} {bmB : List Value} {newId : String}
/-- e.f of such an error -/
def tFldE (K : PySem.W.Frag) (bmB : List Value) (newId : String) (f : Str) (te : TE) : TE := fun σ H Q => te σ H fun x H1 => ∃ (a C d t : Addr) (fs : List (Str × V)) (v : V), x = .ref a ∧ H1 a = some (exT a C (some d) t) ∧ H1 d = some (.xd fs) ∧ ErrC K C bmB newId ∧
  PySem.W.findIn K (.ref C) f = some none ∧ fs.lookup f = some v ∧ Q v H1
theorem pe_fldE (he : PE X e te) (hb : attributeBase e f X.env (eval e X.env) = eval e X.env := by rfl) : PE X (.Attribute e f pos) (tFldE X.K bmB newId f te) := by
  constructor
  intro pins s σ H Q I h
  refine attr_of hb (thn (he.run pins s σ H _ I h) ?_)
  rintro u s1 ⟨x, H1, J, rx, a, C, d, t, fs, v, rfl, ea, ed, T, no, lk, q⟩
  cases rx
  have ho := exT_at J.hok ea
  obtain ⟨mA, hns, rel⟩ := (show ObjOk X.prog X.w H1 s1.heap d (.xd fs) from J.hok d _ ed)
  obtain ⟨od, hd, hl⟩ := lookIn_ns hns
  obtain ⟨u, hu, ru⟩ := RelO.some_of (v := v) (o := mA f) (lk ▸ rel f)
  exact HandSPX.exc_get J.kIn (od := some od) ⟨ho, rfl, rfl, hd⟩ T.ga T.gg T.sb (PySem.W.findObj_own T.hd no rfl (by rw [hl, hu])) (handed_of ru) ⟨v, H1, J.tok _, ru, q⟩
/-- what isinstance asks of the written part at large -/
structure IsK (K : PySem.W.Frag) : Prop where
  gn : PySem.W.specialIn K (.builtin "object.__class__") "__get__" = some (some (.builtin "getset_descriptor.__get__"))
  gt : PySem.W.takesIn K (.builtin "object.__class__") = some true
/-- isinstance(e, c) of an own error: with a dict, or without one -/
def rIsX (K : PySem.W.Frag) : List V → Hp → VK → Prop := fun xs H Q => ∃ (a C t : Addr) (d : Option Addr) (c : V) (cv : Value) (b : Bool) (bmB : List Value) (newId : String), xs = [.ref a, c] ∧ H a = some (exT a C d t) ∧ (∀ dx, d = some dx → ∃ fs, H dx = some (.xd fs)) ∧
  ErrC K C bmB newId ∧ ClsV c cv ∧ PySem.W.kitOne K (.ref C) cv = some b ∧ Q (.bl b) H
theorem call_isX (Z : IsK X.K) : CallR X (.builtin "isinstance") (rIsX X.K) := by
  intro pins s σ H xs us Q I r h
  obtain ⟨a, C, t, d, c, cv, b, bmB, newId, rfl, ea, hd, T, hc, e, q⟩ := h
  obtain ⟨u1, u2, rfl, r1, r2⟩ := vals2 r
  cases r1
  have e2 := hc.eq r2
  subst e2
  have ho := exT_at I.hok ea
  have hcl : (PySem.W.clsIn X.K C).isSome = true := by
    obtain ⟨cd, hcd, _⟩ := PySem.W.any_some T.hd
    rw [hcd]; rfl
  have fin : ∀ od, PySem.W.InstAt s.heap a ({ cls := .ref C, dict := d, data := .fields #[.ref t, .none, .none, .none, .bool false, .none] } : Obj) C od → wpAny (model X.prog X.w) X.A (call (.builtin "isinstance") [.ref a, u2]) (EP X pins σ Q) X.xe s := fun od J =>
    PySem.W.kia_one (PySem.W.kitx_exc hcl T.ga T.gg T.sb T.cc Z.gn Z.gt T.mo) I.kIn J e (fun z => nomatch z) fun tk => ⟨.bl b, H, I.kept (t' := tk) fun _ _ z => z, rfl, q⟩
  cases d with
  | none => exact fin none ⟨ho, rfl, rfl, trivial⟩
  | some dx =>
    obtain ⟨fs, ed⟩ := hd dx rfl
    obtain ⟨mA, ⟨od, es, ep, hod, _⟩, _⟩ := (show ObjOk X.prog X.w H s.heap dx (.xd fs) from I.hok dx _ ed)
    exact fin (some od) ⟨ho, rfl, rfl, hod⟩
/-- C(m) of an error class without an __init__ of its own -/
def tMkA (C : Addr) (te : TE) : TE := fun σ H Q => te σ H fun y H1 => ∀ a t, H1 a = none → H1 t = none → t ≠ a → Q (.ref a) (upd (upd H1 t (.tup [y])) a (exT a C none t))
theorem pe_mkA {B initId : String} {C : Addr} (F : ExcBaseFacts B newId initId bmB) (T : ErrC X.K C bmB newId) (iC : PySem.W.findIn X.K (.ref C) "__init__" = some (some (.builtin initId))) (hg : Gl X x) (hm : X.mg x = some (.ref C)) (he : PE X e te)
    (hdb : (x == ("__debug__" : Str)) = false := by decide) (hs : starEach [e] X.env = (false, eval e X.env) :: starEach [] X.env := by rfl) : PE X (.Call (.Name x p) [e] [] pos) (tMkA C te) := by
  constructor
  intro pins s σ H Q I h
  refine wpAny_Call_Name_kw (ld_glob I hg hm (PySem.W.callWith_K (h₀ := X.base) I.ok.mod.kin T.kC ?_ hs (by rfl)) hdb)
  rw [hs]
  show wpAny _ _ (spliced ((false, eval e X.env) :: backTo pos (starEach [] X.env))) _ _ s
  refine Calls.spliced_cons (thn (he.run pins s σ H _ I h) ?_)
  rintro u s1 ⟨y, H1, J, r1, q⟩
  refine Calls.spliced_nil ⟨J.kIn, ?_⟩
  show wpAny _ _ (call (.ref C) [u]) _ _ _
  obtain ⟨nm, N, qn, bs, bm, hdct, sn, sub, ab, col, dd, k0, k1, k2, k3, k5, hC, hT⟩ := PySem.W.excInit_of J.kIn T.mi
  obtain ⟨hp, g, dr, tk, os⟩ := s1
  have free : ∀ n, hp.get? (hp.objs.size + n) = none := fun n => Heap.get?_none_of_le (Nat.le_add_right _ _)
  have fr : ∀ n, H1 (hp.objs.size + n) = none := fun n => J.hok.fresh (Nat.le_add_right _ _)
  refine PySem.W.call_B F hT hC (PySem.W.looks_findIn J.kIn iC) (by rw [sizeLine_eq]; exact (by decide : 1 ≤ 16777216)) fun h' keep e1 e2 => ?_
  have ne : hp.objs.size + 2 ≠ hp.objs.size + 1 := by omega
  refine ⟨.ref (hp.objs.size + 1), _, J.un (t' := tk) (un_two (a := hp.objs.size + 1) (d := hp.objs.size + 2) (O := exT (hp.objs.size + 1) C none (hp.objs.size + 2)) (D := .tup [y]) keep (free 1) (free 2) (fr 1) (fr 2)) fun b o z => ?_, rfl, q _ _ (fr 1) (fr 2) ne⟩
  by_cases b1 : b = hp.objs.size + 1
  · subst b1
    rw [upd_same] at z
    cases z
    exact exT_ok e1
  · rw [upd_ne b1] at z
    by_cases b2 : b = hp.objs.size + 2
    · subst b2
      rw [upd_same] at z
      cases z
      exact ⟨by rw [sizeLine_eq]; exact (by decide : 1 ≤ 16777216), [u], .cons r1 .nil, _, e2, rfl, 0, rfl⟩
    · rw [upd_ne b2] at z
      exact (J.hok b o z).stay (fun c v _ k => keep c v k) (fun c hc => by rw [upd_ne (ne_of_none hc (fr 1)), upd_ne (ne_of_none hc (fr 2))]; exact hc) fun c xs hc => by rw [upd_ne (ne_of_none hc (fr 1)), upd_ne (ne_of_none hc (fr 2))]; exact hc
/-- str(e) of an error made with one text -/
def rStrX (K : PySem.W.Frag) : List V → Hp → VK → Prop := fun xs H Q => ∃ (a C t : Addr) (m : Str), xs = [.ref a] ∧ H a = some (exT a C none t) ∧ H t = some (.tup [.str m]) ∧ PySem.W.findIn K (.ref C) "__str__" = some (some (.builtin "BaseException.__str__")) ∧
  PySem.W.subIn K (.ref C) (.type "BaseException") = some true ∧ Q (.str m) H
theorem call_strX (hu : X.A.units + 2 < cLine) : CallR X (.type "str") (rStrX X.K) := by
  intro pins s σ H xs us Q I r h
  obtain ⟨a, C, t, m, rfl, ea, et, hs, hB, q⟩ := h
  cases r with
  | cons r1 r2 =>
    cases r2
    cases r1
    have ho := exT_at I.hok ea
    obtain ⟨_, its, rv, ot, hot, hcls, n, hdat⟩ := (show ObjOk X.prog X.w H s.heap t (.tup [.str m]) from I.hok t _ et)
    cases rv with
    | cons rm rn =>
      cases rn
      obtain ⟨tk, rfl⟩ := rm
      exact PySem.P.str_of_C_one hu ⟨I.kIn, _, _, ho, rfl, rfl, rfl⟩ ⟨ot, n, hot, hcls, hdat⟩ hs hB ⟨.str m, H, I, ⟨tk, rfl⟩, q⟩
end
end GL
/-! Own errors of any base, raised: what ErrLay makes becomes what the hand layer raises and catches. -/
namespace GL
open PySem PySem.Spec PyProof.Rows L2
theorem delH_two {H : Hp} {a d : Addr} {o u : HO} (na : H a = none) (ne : d ≠ a) : delH (upd (upd H d u) a o) a = upd H d u := delH_new (by rw [upd_ne ne.symm]; exact na)
section
variable {X : Cx} {e : Expr} {te : TE}
/-- an expression that gives an own error back, new in this def, makes an exception -/
theorem pmk_X (hx : X.ex = []) (he : PE X e te) :
    PMk X e (fun σ H Q => te σ H fun x H1 => ∃ (a C t : Addr) (d : Option Addr), x = .ref a ∧ H1 a = some (exT a C d t) ∧ Fr0 X.H_0 a ∧ Raises X (.ref C) ∧ Q (.ref C) d (delH H1 a)) := by
  intro pins s σ H Q I h
  refine wpAny_mono (he.run pins s σ H _ I h) (fun u s1 z => ?_) fun _ _ z => z
  obtain ⟨v, H1, J, rv, a, C, t, d, rfl, ea, f0, rs, q⟩ := z
  cases rv
  have ho := exT_at J.hok ea
  obtain ⟨G, gs, ga, J2⟩ := J.untrack ea f0 hx
  exact ⟨a, _, _, { s1 with heap := G }, delH H1 a, .ref C, d, rfl, J2, gs, ga, ho, ⟨rfl, rfl⟩, rfl, rfl, delH_same, rfl, J.bare, rs, q⟩
theorem raises_X {C : Addr} {bmB : List Value} {newId : String} (T : ErrC X.K C bmB newId) (ty : PySem.W.typeIn X.K (.ref C) = some (.type "type")) : Raises X (.ref C) := raises_own T.sb ty
end
end GL
namespace K55
open PySem PySem.Spec PyProof.Rows L2 WD NS MC GL
open C8 (pss_cut tCut)
abbrev sIsWh : Stmt := topS 10
/-- a value that is no whole number: of such a type, or a truth value -/
def NotInt (K : PySem.W.Frag) (H : Hp) (x : V) : Prop := ∃ ty ∈ ["NoneType", "bool", "str", "list", "tuple", "dict"], TyX K H x (.type ty)
def spWhole (K : PySem.W.Frag) : Sp := fun vs H Q _ => ∃ x : V, vs = [x] ∧ ((∃ i, x = .int i ∧ Q (.bl true) H) ∨ (NotInt K H x ∧ Q (.bl false) H))
structure TxtI (K : PySem.W.Frag) (mg : Str → Option Value) (fW fF : Addr) (dW dF : FuncData) : Prop where
  isi : mg "isinstance" = none
  int : mg "int" = none
  bool : mg "bool" = none
  W : Fun K "is_whole" "is_whole" sIsWh fW dW
  bW : L2.Binds K dW ["value"] []
  gW : mg "is_whole" = some (.ref fW)
theorem scIsWh : FnScope ["value"] ["value"] (defScope sIsWh) := ⟨rfl, rfl, rfl, by decide +kernel, rfl, by decide +kernel, by decide +kernel⟩
section
variable {P : Program} {w : World} {K : PySem.W.Frag} {mg : Str → Option Value} {base : Heap} {fW fF : Addr} {dW dF : FuncData}
theorem ok_IsWh {f : Addr} {fd : FuncData} {k : Nat} (F : Fun K "is_whole" "is_whole" sIsWh f fd) (T : TxtI K mg fW fF dW dF) : FnOk P w K mg base CX0 (k + 1) f fd ["value"] (spWhole K) := by
  refine F.ok scIsWh (fun vs H Q E h => ?_) (fun cdv A outer s H vs Q E hr h => ?_)
  · obtain ⟨x, rfl, _⟩ := h
    rfl
  · obtain ⟨x, rfl, h⟩ := h
    refine ⟨_, pss_one (ps_ret (pe_and (pe_callB call_isi (by rfl) T.isi (by decide +kernel) (pa_cons (pv 0) (pa_cons (pe_bltn (by rfl) T.int (by decide +kernel) (v := .ty "int") rfl) pa_nil)))
      (pe_one (pe_not (pe_callB call_isi (by rfl) T.isi (by decide +kernel) (pa_cons (pv 0) (pa_cons (pe_bltn (by rfl) T.bool (by decide +kernel) (v := .ty "bool") rfl) pa_nil))))))), ?_⟩
    rcases h with ⟨i, rfl, q⟩ | ⟨⟨ty, mt, tx⟩, q⟩
    · refine ⟨_, rfl, _, _, _, .type "int", true, rfl, .ty _, .base (.int i), kit_ty (by decide +kernel), _, rfl, iteT ?_⟩
      exact ⟨_, rfl, _, _, _, .type "bool", false, rfl, .ty _, .base (.int i), kit_ty (by decide +kernel), _, rfl, q⟩
    · by_cases b : ty = "bool"
      · subst b
        refine ⟨_, rfl, _, _, _, .type "int", true, rfl, .ty _, tx, kit_ty (by decide +kernel), _, rfl, iteT ?_⟩
        exact ⟨_, rfl, _, _, _, .type "bool", true, rfl, .ty _, tx, kit_ty (by decide +kernel), _, rfl, q⟩
      · have e : kitB ty "int" = some false := by
          simp only [List.mem_cons, List.not_mem_nil, or_false] at mt
          rcases mt with rfl | rfl | rfl | rfl | rfl | rfl
          · decide +kernel
          · exact absurd rfl b
          · decide +kernel
          · decide +kernel
          · decide +kernel
          · decide +kernel
        exact ⟨_, rfl, _, _, _, .type "int", false, rfl, .ty _, tx, kit_ty e, _, rfl, iteF q⟩
end
end K55
/-! x in a tuple of texts, x of any kind. -/
namespace IT
open PySem PySem.Spec PyProof.Rows L2 SeqAt
section
variable {A : Around} {s : Shared}
theorem str_declines_dict (b : Str) (u : Tok) (l : Addr) (es : Array DictEntry) (ep : Nat) (dd : Option Addr) (sl : Array (Option Value)) :
    Meets (Builtin.«str.__eq__» ⟨[.str b u, .ref l], []⟩) (fun _ R s => s.heap.get? l = some { cls := .type "dict", dict := dd, data := .dict es ep, slots := sl } ∧ R (.ok (.ret .notImplemented)) s) :=
  .of_wp fun prog w A R s h => by
    obtain ⟨hp, g, d, tk, os⟩ := s
    obtain ⟨hl, h⟩ := h
    wp_walk using wpAny_loadPart' hl, wpAny_load hl
    exact ⟨_, rfl, h⟩
theorem dict_declines_str (b : Str) (u : Tok) (l : Addr) (es : Array DictEntry) (ep : Nat) (dd : Option Addr) (sl : Array (Option Value)) :
    Meets (Builtin.«dict.__eq__» ⟨[.ref l, .str b u], []⟩) (fun _ R s => s.heap.get? l = some { cls := .type "dict", dict := dd, data := .dict es ep, slots := sl } ∧ R (.ok (.ret .notImplemented)) s) :=
  .of_wp fun prog w A R s h => by
    obtain ⟨hp, g, d, tk, os⟩ := s
    obtain ⟨hl, h⟩ := h
    wp_walk using wpAny_loadPart' hl, wpAny_load hl
    refine wpAny_of_eq F.sub_str_dict ?_
    wp_walk using wpAny_loadPart' hl, wpAny_load hl
    exact ⟨_, rfl, h⟩
theorem rc_str_dict {l : Addr} {es : Array DictEntry} {ep : Nat} (b : Str) (u : Tok) (hl : ∃ o, s.heap.get? l = some o ∧ o.cls = .type "dict" ∧ o.data = .dict es ep) (hu : A.units < cLine) : RcAt A s (.str b u) (.ref l) false := fun prog w E Q h => by
  obtain ⟨⟨cls, dd, data, sl⟩, ho, hc, hd⟩ := id hl
  simp only at hc hd
  subst hc hd
  exact rc_eq_decline_or (k := false) (typeIs_str s b u) ⟨_, ho, rfl⟩ (by decide) F.sub_dict_str F.slot_str_eq F.slot_dict_eq_refl
    (fun _ hq => call_meets F.slot_str_eq (typeIs_str s b u) F.entry_str_eq (F.args_str_eq_2 _ _) (str_declines_dict b u l es ep dd sl) ⟨ho, hq⟩)
    (fun _ hq => call_meets F.slot_dict_eq_refl ⟨_, ho, rfl⟩ F.entry_dict_eq (F.args_dict_eq_2 _ _) (dict_declines_str b u l es ep dd sl) ⟨ho, hq⟩)
    (fun _ hq => wpAny_of_eq (rfl : isSame (.str b u) (.ref l) = pure false) hq) (.inr hu) h
theorem eq_str_dict {l : Addr} {es : Array DictEntry} {ep : Nat} (b : Str) (u : Tok) (hl : ∃ o, s.heap.get? l = some o ∧ o.cls = .type "dict" ∧ o.data = .dict es ep) (hu : A.units < cLine) : EqAt A s (.str b u) (.ref l) false := fun prog w E Q h => by
  unfold eqBool
  exact wpAny_holding (wpAny_ite_split (fun hab => absurd (eq_of_beq hab) nofun) fun _ => wpAny_bind (rc_str_dict b u hl hu prog w E _ (wpAny_truthy_bool h)))
end
/-- a value that is no text -/
inductive NotStr (K : PySem.W.Frag) (H : Hp) : V → Prop
  | non : NotStr K H .non
  | bl (b : Bool) : NotStr K H (.bl b)
  | int (i : Int) : NotStr K H (.int i)
  | lst {a : Addr} {xs : List V} : SqL K H a xs → NotStr K H (.ref a)
  | tup {a : Addr} {xs : List V} : SqT K H a xs → NotStr K H (.ref a)
  | emp {a : Addr} {kvs : List (Key × V)} : H a = some (.dK kvs) → NotStr K H (.ref a)
section
variable {X : Cx} {pins : List (Addr × Obj)} {σ : L2.St} {H : Hp} {s : Shared}
theorem NotStr.eq {A : Around} (I : Inv X pins σ H s) {x : V} {v : Value} (n : NotStr X.K H x) (r : RelV x v) (y : Str) (u : Tok) (hu : A.units < cLine) : EqAt A s (.str y u) v false := by
  cases n with
  | non => cases r; exact EqAt.str_none y u
  | bl b => cases r; exact EqAt.str_bool y u b
  | int i => obtain ⟨t, rfl⟩ := r; exact EqAt.str_int y u i t
  | lst h => cases r; obtain ⟨its, _, pl, _⟩ := I.list h; exact EqAt.str_list y u pl.isList hu
  | tup h => cases r; obtain ⟨its, _, pt, _⟩ := I.tuple h; exact EqAt.str_tuple y u pt hu
  | @emp a kvs e =>
    cases r
    obtain ⟨_, ns, vs, kv, o, es, ep, ho, hx, hd, _⟩ := (show ObjOk X.prog X.w H s.heap _ (.dK kvs) from I.hok _ _ e)
    exact eq_str_dict y u ⟨o, ho, hx.1, hd⟩ hu
/-- x in ws, a tuple of texts -/
def rInS (K : PySem.W.Frag) (neg : Bool) : R2 := fun x y H Q => ∃ (p : Addr) (ws : List Str), y = .ref p ∧ SqT K H p (ws.map V.str) ∧ ((∃ z, x = .str z ∧ Q (.bl (if neg = true then !decide (z ∈ ws) else decide (z ∈ ws))) H) ∨ (NotStr K H x ∧ Q (.bl neg) H))
theorem strs_vals : ∀ {ws : List Str} {us : List Value}, Vals (ws.map V.str) us → ∀ u ∈ us, ∃ y t, u = Value.str y t
  | [], _, .nil, u, h => (nomatch h)
  | y :: ws, _, .cons ⟨t, e⟩ r, u, h => (List.mem_cons.mp h).elim (fun z => ⟨y, t, z.trans e⟩) (strs_vals r u)
def isT (z : Str) (v : Value) : Bool := match v with
  | .str y _ => y == z
  | _ => false
theorem any_isT {z : Str} : ∀ {ws : List Str} {us : List Value}, Vals (ws.map V.str) us → us.any (isT z) = decide (z ∈ ws)
  | [], _, .nil => by simp
  | y :: ws, _, .cons ⟨t, e⟩ r => by
    subst e
    rw [List.any_cons, any_isT r]
    show ((y == z) || decide (z ∈ ws)) = decide (z ∈ y :: ws)
    by_cases h : y = z
    · simp [h]
    · have h' : ¬ z = y := fun e => h e.symm
      simp [h, h']
theorem op_inS (hu : X.A.units + 64 < cLine) : OpR X (compareOp .In) (rInS X.K false) := by
  intro pins s σ H x y v u Q I rx ry h
  obtain ⟨p, ws, rfl, hq, h⟩ := h
  cases ry
  obtain ⟨its, r, pt, _⟩ := I.tuple hq
  have u1 : X.A.in1.units < cLine := by rw [Around.in1_units]; omega
  rcases h with ⟨z, rfl, q⟩ | ⟨n, q⟩
  · obtain ⟨tk, rfl⟩ := rx
    refine in_tupleAt (isT z) pt (fun w hw => ?_) ⟨.bl _, H, I, rfl, ?_⟩
    · obtain ⟨y, t, rfl⟩ := strs_vals r w (by simpa using hw)
      exact EqAt.str_str y t z tk
    · rw [show its.toArray.any (isT z) = its.any (isT z) by simp, any_isT r]
      exact q
  · refine in_tupleAt (fun _ => false) pt (fun w hw => ?_) ⟨.bl _, H, I, rfl, ?_⟩
    · obtain ⟨y, t, rfl⟩ := strs_vals r w (by simpa using hw)
      exact n.eq I rx y t u1
    · rw [show its.toArray.any (fun _ => false) = false by simp]
      exact q
theorem op_notInS (hu : X.A.units + 64 < cLine) : OpR X (compareOp .NotIn) (rInS X.K true) := by
  intro pins s σ H x y v u Q I rx ry h
  obtain ⟨p, ws, rfl, hq, h⟩ := h
  cases ry
  obtain ⟨its, r, pt, _⟩ := I.tuple hq
  have u1 : X.A.in1.units < cLine := by rw [Around.in1_units]; omega
  rcases h with ⟨z, rfl, q⟩ | ⟨n, q⟩
  · obtain ⟨tk, rfl⟩ := rx
    refine notIn_tupleAt (isT z) pt (fun w hw => ?_) ⟨.bl _, H, I, rfl, ?_⟩
    · obtain ⟨y, t, rfl⟩ := strs_vals r w (by simpa using hw)
      exact EqAt.str_str y t z tk
    · rw [show its.toArray.any (isT z) = its.any (isT z) by simp, any_isT r]
      exact q
  · refine notIn_tupleAt (fun _ => false) pt (fun w hw => ?_) ⟨.bl _, H, I, rfl, ?_⟩
    · obtain ⟨y, t, rfl⟩ := strs_vals r w (by simpa using hw)
      exact n.eq I rx y t u1
    · rw [show its.toArray.any (fun _ => false) = false by simp]
      exact q
end
end IT
/-! enumerate(t), t a tuple. -/
namespace ET
open PySem PySem.Spec PyProof.Rows L2
open AutoSeq1 (wpAny_loadPart')
theorem new_tuple (l : Addr) (items : Array Value) (n : Nat) (dct : Option Addr) (sl : Array (Option Value)) :
    Meets (Builtin.«enumerate.__new__» ⟨[.type "enumerate", .ref l], []⟩) (fun _ R s => s.heap.get? l = some { cls := .type "tuple", dict := dct, data := .seq items n, slots := sl } ∧
      R (.ok (.ret (.ref (s.heap.push { cls := .type "tuple_iterator", data := .fields #[.ref l, .int 0 0] }).objs.size)))
        { s with heap := (s.heap.push { cls := .type "tuple_iterator", data := .fields #[.ref l, .int 0 0] }).push { cls := .type "enumerate", data := .fields #[.none, .bool false, .ref s.heap.objs.size, rawInt 0, .none, .none] } }) :=
  .of_wp fun prog w A R s h => by
    obtain ⟨hp, g, d, tk, os⟩ := s
    obtain ⟨hl, h⟩ := h
    have sub := sub_enumerate
    have tup : Heap.IsTuple (Shared.heap ⟨hp, g, d, tk, os⟩) l items := ⟨_, hl, rfl, n, rfl⟩
    wp_walk using wpAny_loadPart' hl
    refine wpAny_stack_any fun st => wpAny_pure ?_
    split
    · rename_i c _ _ _ _ _
      cases (c == Value.type "enumerate") <;> (wp_walk using wpAny_loadPart' hl, wpAny_pyIter_tuple tup) <;> exact ⟨_, rfl, h⟩
    · wp_walk using wpAny_loadPart' hl, wpAny_pyIter_tuple tup
      exact ⟨_, rfl, h⟩
section
variable {P : Program} {w : World} {A : Around} {E : Value → Shared → Prop} {s : Shared}
theorem call_enumT {l : Addr} {items : Array Value} {Q : Value → Shared → Prop} (hL : s.heap.IsTuple l items)
    (q : ∀ h1, IsEnum h1 (s.heap.objs.size + 1) s.heap.objs.size 0 .none → h1.IsTupleIter s.heap.objs.size l 0 → (∀ b o, s.heap.get? b = some o → h1.get? b = some o) → Q (.ref (s.heap.objs.size + 1)) { s with heap := h1 }) :
    wpAny (model P w) A (call (.type "enumerate") [.ref l]) Q E s := by
  obtain ⟨⟨c, dct, dt, sl⟩, hl, hc, n, hd⟩ := hL
  simp only at hc hd
  subst hc hd
  have sz : (s.heap.push { cls := .type "tuple_iterator", data := .fields #[.ref l, .int 0 0] }).objs.size = s.heap.objs.size + 1 := Heap.size_push ..
  refine callType_new F.called_enumerate (by decide) (F.typeCall_enumerate_1 _) (F.newCall_enumerate_1 _) (fun obj => F.args_object_init_2 obj _) F.entry_enumerate_new (new_tuple l items n dct sl) ⟨hl, ?_⟩
  refine (show _ ∧ _ from ?_)
  rw [sz]
  have en : IsEnum ((s.heap.push { cls := .type "tuple_iterator", data := .fields #[.ref l, .int 0 0] }).push { cls := .type "enumerate", data := .fields #[.none, .bool false, .ref s.heap.objs.size, rawInt 0, .none, .none] }) (s.heap.objs.size + 1) s.heap.objs.size 0 .none := by
    have z := Heap.get?_push_size (s.heap.push { cls := .type "tuple_iterator", data := .fields #[.ref l, .int 0 0] }) (o := { cls := .type "enumerate", data := .fields #[.none, .bool false, .ref s.heap.objs.size, rawInt 0, .none, .none] }) rfl
    rw [sz] at z
    exact z
  exact ⟨⟨_, en, rfl⟩, q _ en ⟨_, Heap.get?_push_of_some _ (Heap.get?_push_size _ rfl), rfl, rfl⟩ fun b o x => Heap.get?_push_of_some _ (Heap.get?_push_of_some _ x)⟩
end
/-- the tuple at a, each item in a new pair -/
def IteT (K : PySem.W.Frag) (a : Addr) : It :=
  ⟨fun i H => ∃ (xs : List V) (x : V), SqT K H a xs ∧ xs[i]? = some x, fun i H v H' => ∃ T x, v = .ref T ∧ H T = none ∧ H' = upd H T (.tup [.int (i : Nat), x]) ∧ ∀ xs, SqT K H a xs → xs[i]? = some x, fun i H => ∃ xs : List V, SqT K H a xs ∧ xs.length = i⟩
theorem apart {h : Heap} {a b : Addr} {o u : Obj} (ha : h.get? a = some o) (hb : h.get? b = some u) (n : o.cls ≠ u.cls) : a ≠ b := fun z => by
  subst z
  rw [ha] at hb
  cases hb
  exact n rfl
theorem tup_inj {X : Cx} {pins : List (Addr × Obj)} {σ : L2.St} {H : Hp} {s : Shared} {a : Addr} {xs ys : List V} (I : Inv X pins σ H s) (hx : SqT X.K H a xs) (hy : SqT X.K H a ys) : xs = ys := I.tuple_inj hx hy
theorem turn_enumT {P : Program} {w : World} {K : PySem.W.Frag} {elts : List Expr} {kk : Nat} {tpos : Pos} (a e it : Addr) :
    Turn P w K (.Tuple elts kk tpos) (IteT K a) [e, it] e (fun i h => (∃ old, IsEnum h e it ((i : Nat) : Int) old) ∧ h.IsTupleIter it a i ∧ e ≠ it) where
  mem := by simp
  obj := fun i h st b hb => by
    obtain ⟨⟨old, he⟩, ⟨o, ho, hc, hd⟩, _⟩ := st
    rcases List.mem_cons.mp hb with z | z
    · rw [z]; exact ⟨_, he, fun v q => (nomatch q)⟩
    · rw [List.mem_singleton.mp z]; exact ⟨o, ho, fun v q => by rw [hd] at q; cases q⟩
  keep := fun i h h' st k => ⟨st.1.imp fun _ he => k e (by simp) _ he, st.2.1.at fun o q => k it (by simp) o q, st.2.2⟩
  item := by
    intro X hP hw hK hc i pins s σ H E I hf st hg
    subst hP hw hK
    obtain ⟨⟨old, he⟩, hit, hne⟩ := st
    obtain ⟨xs, x, hq, hx⟩ := hg
    obtain ⟨its, rv, p, hz⟩ := I.tuple hq
    obtain ⟨u, hu, ru⟩ := rv.get hx
    have hu' : its.toArray[i]? = some u := by simpa using hu
    have hlt : i < its.toArray.size := (Array.getElem?_eq_some_iff.mp hu').1
    obtain ⟨oa, hoa, hca, na, hda⟩ := id p
    obtain ⟨oi, hoi, hci, hdi⟩ := id hit
    have ai : a ≠ it := apart hoa hoi (by rw [hca, hci]; decide)
    have ea : e ≠ a := apart he hoa (by rw [hca]; exact fun z => absurd (Value.type.inj (show Value.type "enumerate" = Value.type "tuple" from z)) (by decide))
    have hel : e < s.heap.objs.size := Heap.lt_size he
    have hil : it < s.heap.objs.size := Heap.lt_size hoi
    refine wpAny_pyNext_enum_itemD (Draws.tuple (A := X.A.in1) (by rw [Around.in1_handled]; exact I.ok.hd hc) it a ai its.toArray) he ⟨hit, p⟩ hlt hne (by simp [hne, ea]) fun y h1 tk py ho hit1 hT hsz hk => ?_
    have ey : y = u := Option.some.inj (py.symm.trans hu')
    subst ey
    refine ⟨_, rfl, wpAny_letOwnedTupleGo_enum (s := { s with heap := h1, toks := tk + 1 }) ho fun h2 he2 sb => ?_⟩
    have T2 : h2.get? s.heap.objs.size = some { cls := .type "tuple", data := .seq #[.int i tk, y] } := (sb.2 _ (Nat.ne_of_gt hel)).trans hT
    have new : ObjOk X.prog X.w (upd H s.heap.objs.size (.tup [.int (i : Nat), x])) h2 s.heap.objs.size (.tup [.int (i : Nat), x]) :=
      ⟨by show 2 ≤ sizeLine; decide, [.int i tk, y], .cons ⟨_, rfl⟩ (.cons ru .nil), ⟨_, T2, rfl, _, rfl⟩⟩
    have J : Inv X pins σ (upd H s.heap.objs.size (.tup [.int (i : Nat), x])) { s with heap := h2, toks := tk + 1 } :=
      I.turnedNew (ch := [e, it]) (fun b ob hb q => (sb.2 b (fun z => hb (by simp [z]))).trans (hk b ob (fun z => hb (by simp [z])) (fun z => hb (by simp [z])) q)) hf (Nat.le_refl _) new
    refine ⟨.ref s.heap.objs.size, _, J, rfl, ⟨_, x, rfl, I.hok.fresh (Nat.le_refl _), rfl, fun ys hy => by rw [tup_inj I hy hq]; exact hx⟩, ⟨⟨y, ?_⟩, hit1.1.at fun o q => (sb.2 it (Ne.symm hne)).trans q, hne⟩, fun b hb => ?_⟩
    · rw [show ((i + 1 : Nat) : Int) = (i : Int) + 1 by omega]
      exact he2
    · have lt : b < s.heap.objs.size := (List.mem_cons.mp hb).elim (fun z => z ▸ hel) fun z => List.mem_singleton.mp z ▸ hil
      rw [upd_ne (Nat.ne_of_lt lt)]
      exact (hf b hb).1
  done := by
    intro X hP hw hK hc i pins s σ H E I hf st hg
    subst hP hw hK
    obtain ⟨⟨old, he⟩, hit, hne⟩ := st
    obtain ⟨xs, hq, hx⟩ := hg
    obtain ⟨its, rv, p, hz⟩ := I.tuple hq
    obtain ⟨oa, hoa, hca, na, hda⟩ := id p
    obtain ⟨oi, hoi, hci, hdi⟩ := id hit
    have ai : a ≠ it := apart hoa hoi (by rw [hca, hci]; decide)
    obtain ⟨f0, f1, f2, f3, f4, f5⟩ := hf it (by simp)
    have n0 : i = its.toArray.size := by
      rw [← hx, List.size_toArray]
      exact rv.length
    rw [n0] at hit
    exact wpAny_pyNext_enum_endD (Draws.tuple (A := X.A.in1) (by rw [Around.in1_handled]; exact I.ok.hd hc) it a ai its.toArray) he ⟨hit, p⟩ fun h1 eb => ⟨rfl, I.turned (t' := s.toks) (fun b o hb q => eb b o hb q) f0 f1 f3 f4 f5⟩
  self := fun A i s Q E st h => let ⟨⟨_, he⟩, _⟩ := st; wpAny_pyIter_enum he h
def iEnumT (K : PySem.W.Frag) (ta : TA) : TI := fun σ H R => ta σ H fun vs H1 => ∃ a xs, vs = [.ref a] ∧ SqT K H1 a xs ∧ R (IteT K a) H1
theorem pi_enumT {X : Cx} {e : Expr} {ta : TA} {p pos tpos : Pos} {elts : List Expr} {kk : Nat} (hg : Gl X "enumerate") (hm : X.mg "enumerate" = none) (ha : PA X [e] ta) (hs : starEach [e] X.env = [(false, eval e X.env)] := by rfl) :
    PI X (.Tuple elts kk tpos) (.Call (.Name "enumerate" p) [e] [] pos) (iEnumT X.K ta) := by
  constructor
  intro pins s σ H R I h
  refine Call_ (ld_blt I hg hm boot_enumerate (PyProof.Rows.callWith_type1 (thn (ha.run pos pins s σ H _ I h) fun us s1 z => ?_) hs rfl))
  obtain ⟨vs, H1, J, r1, a, xs, rfl, hq, q⟩ := z
  cases r1 with
  | cons r rr =>
    cases rr
    cases r
    obtain ⟨its, rv, pt, hz⟩ := J.tuple hq
    refine call_enumT pt fun h1 he hit hk => wpAny_pyIter_enum he ?_
    have le : ∀ b ∈ [s1.heap.objs.size + 1, s1.heap.objs.size], s1.heap.objs.size ≤ b := fun b hb => (List.mem_cons.mp hb).elim (fun z => z ▸ Nat.le_succ _) fun z => List.mem_singleton.mp z ▸ Nat.le_refl _
    exact ⟨s1.heap.objs.size + 1, [s1.heap.objs.size + 1, s1.heap.objs.size], _, _, H1, rfl, J.kept (t' := s1.toks) hk, turn_enumT a (s1.heap.objs.size + 1) s1.heap.objs.size, ⟨⟨.none, he⟩, hit, Nat.succ_ne_self _⟩, fun b hb => J.fpOk (le b hb) (J.hok.fresh (le b hb)), q⟩
theorem walk_enumT {K : PySem.W.Frag} {a : Addr} {xs : List V} : Walk (IteT K a) xs.length (fun H => SqT K H a xs) (YPair (fun i => some (.int (i : Nat))) fun i => xs[i]?) :=
  ⟨fun i _ hi q => ⟨xs, xs[i], q, by simp [hi]⟩, fun _ q => ⟨xs, q, rfl⟩, fun i _ _ _ _ q ⟨T, x, e1, e2, e3, e4⟩ => ⟨T, .int (i : Nat), x, e1, e2, e3, rfl, e4 xs q⟩⟩
end ET
namespace K55
open PySem PySem.Spec PyProof.Rows L2 WD NS MC GL
open C8 (pss_cut tCut)
theorem tyOf_same {K : PySem.W.Frag} {H H' : Hp} {x : V} {t : Value} (s : Same H H') (h : TyOf K H x t) : TyOf K H' x t := by
  cases h with
  | non => exact .non
  | bl b => exact .bl b
  | int i => exact .int i
  | str x => exact .str x
  | flt x => exact .flt x
  | lst e => exact .lst (s _ _ e)
  | frz e => exact .frz (s _ _ e)
  | tup e => exact .tup (s _ _ e)
  | dK e => exact .dK (s _ _ e)
  | dT e => exact .dT (s _ _ e)
  | ins e c1 c2 c3 c4 c5 => exact .ins (s _ _ e) c1 c2 c3 c4 c5
theorem tyX_same {K : PySem.W.Frag} {H H' : Hp} {x : V} {t : Value} (s : Same H H') (h : TyX K H x t) : TyX K H' x t := by
  cases h with
  | base h => exact .base (tyOf_same s h)
  | byt b => exact .byt b
  | set e => exact .set (s _ _ e)
  | kList e c => exact .kList e c
  | kTuple e c => exact .kTuple e c
  | kDict e c => exact .kDict e c
  | fTuple e => exact .fTuple (s _ _ e)
  | fDict e => exact .fDict (s _ _ e)
theorem NotInt.same {K : PySem.W.Frag} {H H' : Hp} {x : V} (s : Same H H') (h : NotInt K H x) : NotInt K H' x := let ⟨ty, m, t⟩ := h; ⟨ty, m, tyX_same s t⟩
/-- a machine, or InvalidMachine -/
def spChkM (K : PySem.W.Frag) (Bad : Hp → V → Prop) (cM : Addr) : Sp := fun vs H Q E => ∃ v : V, vs = [v] ∧ ((∃ (a : Addr) (m : MachM), v = .ref a ∧ Kz H (.ref a) m.key ∧ m.Ok ∧ ∀ H', Same H H' → Q .non H') ∨ (Bad H v ∧ ∀ H', Same H H' → E (.ref cM) none H'))
section
variable {P : Program} {w : World} {K : PySem.W.Frag} {mg : Str → Option Value} {base : Heap} {fW fF cM cN iN fM fS : Addr} {dW dF dN dM dS : FuncData} {Bad : Hp → V → Prop} {k : Nat}
end
end K55
namespace K55
open PySem PySem.Spec PyProof.Rows L2 WD NS MC GL
open C8 (pss_cut tCut)
abbrev exS : List Str := ["send", "take"]
/-- word in ('send', 'take') for any value -/
def spIsExA (K : PySem.W.Frag) : Sp := fun vs H Q _ => ∃ x : V, vs = [x] ∧ ((∃ z, x = .str z ∧ ∀ H', Same H H' → Q (.bl (decide (z ∈ exS))) H') ∨ (IT.NotStr K H x ∧ ∀ H', Same H H' → Q (.bl false) H'))
theorem sqT_same {K : PySem.W.Frag} {H H' : Hp} {a : Addr} {xs : List V} (s : Same H H') (h : SqT K H a xs) : SqT K H' a xs := by
  rcases h with (h | ⟨ob, h⟩) | h
  · exact Or.inl (Or.inl (s _ _ h))
  · exact Or.inl (Or.inr ⟨ob, s _ _ h⟩)
  · exact Or.inr h
theorem NotStr.same {K : PySem.W.Frag} {H H' : Hp} {x : V} (s : Same H H') (h : IT.NotStr K H x) : IT.NotStr K H' x := by
  cases h with
  | non => exact .non
  | bl b => exact .bl b
  | int i => exact .int i
  | lst h => exact .lst (s.seq h)
  | tup h => exact .tup (sqT_same s h)
  | emp e => exact .emp (s _ _ e)
section
variable {P : Program} {w : World} {K : PySem.W.Frag} {mg : Str → Option Value} {base : Heap}
theorem ok_IsExA {f : Addr} {fd : FuncData} {k : Nat} (F : Fun K "is_exchange" "is_exchange" sIsEx f fd) (TE : ∃ tE, TxtE K mg tE) : FnOk P w K mg base CX0 (k + 1) f fd ["word"] (spIsExA K) := by
  obtain ⟨tE, gE, sE⟩ := TE
  refine F.ok scIsEx (fun vs H Q E h => ?_) (fun cdv A outer s H vs Q E hr h => ?_)
  · obtain ⟨x, rfl, _⟩ := h
    rfl
  · obtain ⟨x, rfl, h⟩ := h
    have hu := hr.units
    refine ⟨_, pss_one (ps_ret (pe_cmpR (show OpR _ (compareOp .In) (IT.rInS K false) from IT.op_inS hu) (pv 0) (pe_glob (v := .ref tE) rfl gE rfl) (by rfl))), ?_⟩
    refine ⟨_, rfl, tE, exS, rfl, Or.inr sE, ?_⟩
    have k : Same H H := fun _ _ e => e
    rcases h with ⟨z, rfl, q⟩ | ⟨n, q⟩
    · exact .inl ⟨z, rfl, q _ k⟩
    · exact .inr ⟨n, q _ k⟩
end
abbrev veC : List Value := [.type "ValueError", .type "Exception", .type "BaseException", .type "object"]
def stDeed (st : Int) (r : RowM) : Option Deed := if r.before = st then some r.deed else none
def stDeeds (st : Int) (rs : List RowM) : List Deed := rs.filterMap (stDeed st)
theorem stDeeds_next {st : Int} {rs : List RowM} {i : Nat} {r : RowM} (h : rs[i]? = some r) : stDeeds st (rs.take (i + 1)) = stDeeds st (rs.take i) ++ (stDeed st r).toList := by
  rw [List.take_succ, h, stDeeds, stDeeds, List.filterMap_append]
  cases e : stDeed st r with
  | none => simp [e]
  | some x => simp [e]
theorem mem_stDeeds {st : Int} {rs : List RowM} {d : Deed} : d ∈ stDeeds st rs ↔ ∃ r ∈ rs, r.before = st ∧ r.deed = d := by
  rw [stDeeds, List.mem_filterMap]
  constructor
  · rintro ⟨r, hr, e⟩
    unfold stDeed at e
    by_cases h : r.before = st
    · rw [if_pos h] at e
      exact ⟨r, hr, h, Option.some.inj e⟩
    · rw [if_neg h] at e
      exact nomatch e
  · rintro ⟨r, hr, e1, e2⟩
    exact ⟨r, hr, by rw [stDeed, if_pos e1, e2]⟩
def lDeed (wd : Bool) (o : Str) : Deed → Option Str
  | .step => none
  | .ex b n l => if b = wd ∧ n = o then some l else none
theorem lDeeds_next {wd : Bool} {o : Str} {ds : List Deed} {i : Nat} {d : Deed} (h : ds[i]? = some d) : (ds.take (i + 1)).filterMap (lDeed wd o) = (ds.take i).filterMap (lDeed wd o) ++ (lDeed wd o d).toList := by
  rw [List.take_succ, h, List.filterMap_append]
  cases e : lDeed wd o d with
  | none => simp [e]
  | some x => simp [e]
theorem mem_lDeeds {wd : Bool} {o : Str} {ds : List Deed} {x : Str} : x ∈ ds.filterMap (lDeed wd o) ↔ Deed.ex wd o x ∈ ds := by
  rw [List.mem_filterMap]
  constructor
  · rintro ⟨d, hd, e⟩
    cases d with
    | step => exact nomatch e
    | ex b n l =>
      rw [lDeed] at e
      by_cases h : b = wd ∧ n = o
      · rw [if_pos h] at e
        cases e
        rw [← h.1, ← h.2]
        exact hd
      · rw [if_neg h] at e
        exact nomatch e
  · intro hd
    exact ⟨_, hd, by rw [lDeed, if_pos ⟨rfl, rfl⟩]⟩
theorem low_step : Low "step" := by
  have e : ∀ c ∈ ("step" : Str).cps.toList, 97 ≤ c ∧ c ≤ 122 := by decide +kernel
  exact e
theorem shaped_one {x : Str} (hx : Low x) : SeqAt.shaped (.tuple [.str x]) = true := by
  rw [SeqAt.shaped, PyData.canLay0, PyData.canLayAll0, PyData.canLayAll0, low_ok hx]
  rfl
theorem eqv_one {a c d : Str} : PyData.eqv (.tuple [.str a]) (.tuple [.str c, .str d]) = false := by
  rw [PyData.eqv, PyData.eqvAll, PyData.eqvAll, Bool.and_false]
theorem word_ex (b : Bool) : wordOf b ∈ exS := by cases b <;> decide +kernel
section
variable {P : Program} {w : World} {K : PySem.W.Frag} {mg : Str → Option Value} {base : Heap} {fW fF cM cN iN fM fS cU iU cO fX fN : Addr} {dW dF dN dM dS dU dX dNb : FuncData} {Bad : Hp → V → Prop} {k : Nat}
end
end K55
namespace K55
open PySem PySem.Spec PyProof.Rows L2 WD NS MC GL
open C8 (pss_cut tCut)
abbrev sName : Stmt := topS 11
abbrev sAreSt : Stmt := topS 20
/-! names -/
structure TxtNm (K : PySem.W.Frag) (mg : Str → Option Value) : Prop where
  isi : mg "isinstance" = none
  str : mg "str" = none
  len : mg "len" = none
  tuple : mg "tuple" = none
  ln : ∃ t, mg "LONGEST_NAME" = some (.int 8 t)
theorem low_all {x : Str} {p : Nat → Bool} (h : Low x) (q : ∀ i < 26, p (97 + i) = true) : x.cps.all p = true := by
  rw [← Array.all_toList, List.all_eq_true]
  intro c m
  have z := h c m
  have e : c = 97 + (c - 97) := by omega
  rw [e]
  exact q _ (by omega)
theorem asc26 : ∀ i < 26, decide (97 + i < 128) = true := by decide +kernel
theorem alp26 : ∀ i < 26, Unicode.isAlpha (97 + i) = true := by decide +kernel
theorem low26 : ∀ i < 26, Unicode.isLower (97 + i) = true := by decide +kernel
theorem upp26 : ∀ i < 26, (!(Unicode.isUpper (97 + i) || Unicode.isTitle (97 + i))) = true := by decide +kernel
theorem wd_ascii {x : Str} (h : Low x) : Txt.isascii x = true := low_all h asc26
theorem wd_alpha {x : Str} (h : Wd x) : Txt.isalpha x = true := by
  show (decide (x.length > 0) && x.cps.all Unicode.isAlpha) = true
  rw [low_all h.low alp26, decide_eq_true h.pos]
  rfl
theorem wd_lower {x : Str} (h : Wd x) : Txt.islower x = true := by
  show (x.cps.any Unicode.isLower && !x.cps.any fun c => Unicode.isUpper c || Unicode.isTitle c) = true
  obtain ⟨c, m, _⟩ := at_first h
  have e2 : (x.cps.any fun c => Unicode.isUpper c || Unicode.isTitle c) = false := by
    rw [← Array.any_toList, List.any_eq_false]
    intro d md
    have z := h.low d md
    have e : d = 97 + (d - 97) := by omega
    have y := upp26 (d - 97) (by omega)
    rw [← e] at y
    simpa using y
  have e1 : x.cps.any Unicode.isLower = true := by
    rw [← Array.any_toList, List.any_eq_true]
    have p := h.pos
    rw [← WD.len_list] at p
    obtain ⟨d, l, e⟩ : ∃ d l, x.cps.toList = d :: l := by
      cases z : x.cps.toList with
      | nil => rw [z] at p; exact absurd p (by decide)
      | cons d l => exact ⟨d, l, rfl⟩
    have md : d ∈ x.cps.toList := by rw [e]; exact List.mem_cons_self
    have z := h.low d md
    have e : d = 97 + (d - 97) := by omega
    have y := low26 (d - 97) (by omega)
    rw [← e] at y
    exact ⟨d, md, y⟩
  rw [e1, e2]
  rfl
theorem scName : FnScope ["value"] ["value"] (defScope sName) := ⟨rfl, rfl, rfl, by decide +kernel, rfl, by decide +kernel, by decide +kernel⟩
def spName : Sp := fun vs H Q _ => ∃ x : Str, vs = [.str x] ∧ Wd x ∧ Q (.bl true) H
section
variable {P : Program} {w : World} {K : PySem.W.Frag} {mg : Str → Option Value} {base : Heap}
theorem ok_Name {f : Addr} {fd : FuncData} {k : Nat} (F : Fun K "is_name" "is_name" sName f fd) (T : TxtNm K mg) : FnOk P w K mg base CX0 (k + 1) f fd ["value"] spName := by
  obtain ⟨t8, g8⟩ := T.ln
  refine F.ok scName (fun vs H Q E h => ?_) (fun cdv A outer s H vs Q E hr h => ?_)
  · obtain ⟨x, rfl, _⟩ := h
    rfl
  · obtain ⟨x, rfl, wd, q⟩ := h
    refine ⟨_, pss_one (ps_ret (pe_and (pe_callB call_isi (by rfl) T.isi (by decide +kernel) (pa_cons (pv 0) (pa_cons (pe_bltn (by rfl) T.str (by decide +kernel) (v := .ty "str") rfl) pa_nil)))
      (pe_and (pe_cmpR op_le (pe_callB call_len_str (by rfl) T.len PySem.boot_len (pa_cons (pv 0) pa_nil)) (pe_glob (v := .int 8) rfl g8 ⟨_, rfl⟩) (nomark _))
      (pe_and (pe_bm0 PySem.F.plainAttrs_str PySem.F.slot_str_isascii PySem.F.type_str_isascii mt_isascii (pv 0))
      (pe_and (pe_bm0 PySem.F.plainAttrs_str PySem.F.slot_str_isalpha PySem.F.type_str_isalpha mt_isalpha (pv 0))
      (pe_one (pe_bm0 PySem.F.plainAttrs_str PySem.F.slot_str_islower PySem.F.type_str_islower mt_islower (pv 0)))))))), ?_⟩
    refine ⟨_, rfl, _, _, _, .type "str", true, rfl, .ty _, .base (.str x), kit_ty (by decide +kernel), _, rfl, iteT ?_⟩
    refine ⟨_, rfl, _, rfl, (by have z := wd.le; rw [sizeLine_eq]; omega), _, _, rfl, rfl, _, rfl, ?_⟩
    rw [decide_eq_true (show ((x.length : Nat) : Int) ≤ 8 by have z := wd.le; omega)]
    refine iteT ⟨_, rfl, rfl, _, rfl, rfl, trivial, _, rfl, ?_⟩
    rw [wd_ascii wd.low]
    refine iteT ⟨_, rfl, rfl, _, rfl, rfl, trivial, _, rfl, ?_⟩
    rw [wd_alpha wd]
    refine iteT ⟨_, rfl, rfl, _, rfl, rfl, trivial, ?_⟩
    rw [wd_lower wd]
    exact q
end
/-! states -/
abbrev nAs : List Str := ["value", "size", "last", "state"]
theorem scAreSt : FnScope nAs ["value", "size"] (defScope sAreSt) := ⟨rfl, rfl, rfl, by decide +kernel, rfl, by decide +kernel, by decide +kernel⟩
def spAreSt : Sp := fun vs H Q _ => ∃ (a : Addr) (ns : List Int) (size : Int), vs = [.ref a, .int size] ∧ H a = some (.tup (ns.map V.int)) ∧ ns.Pairwise (· < ·) ∧ (∀ k ∈ ns, 0 ≤ k ∧ k < size) ∧ Q (.bl true) H
section
variable {P : Program} {w : World} {K : PySem.W.Frag} {mg : Str → Option Value} {base : Heap} {fW fF : Addr} {dW dF : FuncData}
theorem ok_AreSt {f : Addr} {fd : FuncData} {k : Nat} (F : Fun K "are_states" "are_states" sAreSt f fd) (T : TxtI K mg fW fF dW dF) (TN : TxtNm K mg) : FnOk P w K mg base CX0 (k + 2) f fd ["value", "size"] spAreSt := by
  have GW : FnOk P w K mg base CX0 (k + 1) fW dW ["value"] (spWhole K) := ok_IsWh T.W T
  refine F.ok scAreSt (fun vs H Q E h => ?_) (fun cdv A outer s H vs Q E hr h => ?_)
  · obtain ⟨a, ns, size, rfl, _⟩ := h
    rfl
  · obtain ⟨a, ns, size, rfl, ha, asc, all, q⟩ := h
    refine ⟨_, pss_cons (ps_if (pt_not (pt_val (pe_callB call_isi (by rfl) T.isi (by decide +kernel) (pa_cons (pv 0) (pa_cons (pe_bltn (by rfl) TN.tuple (by decide +kernel) (v := .ty "tuple") rfl) pa_nil))))) (pss_one (ps_ret pe_bl)) pss_nil)
      (pss_cons (ps_set (i := 2) scAreSt.nd rfl (.inl rfl) (pe_un un_neg pe_int))
      (pss_cons (ps_for PassesOwn.never rfl (pi_tup (pv 0)) (pg_name (i := 3) scAreSt.nd rfl (.inl rfl))
        (pss_cons (ps_if (PW.pt (pw_or (pt_not (pt_val (pe_call GW hr (by rfl) T.gW T.W.kp T.bW .nil pass0 (pa_cons (pv 3) pa_nil)))) (pw_or1 (pt_not (pt_chain op_lt op_lt (pv 2) (pv 3) (pv 1)))))) (pss_one (ps_ret pe_bl)) pss_nil)
        (pss_one (ps_set (i := 2) scAreSt.nd rfl (.inl rfl) (pv 3)))))
      (pss_one (ps_ret pe_bl)))), ?_⟩
    refine ⟨_, rfl, _, _, _, .type "tuple", true, rfl, .ty _, .base (.tup ha), kit_ty (by decide +kernel), _, rfl, iteF ?_⟩
    refine ⟨_, rfl, ?_⟩
    refine ⟨_, rfl, a, rfl, ⟨_, SqT.of ha⟩, for_tup (xs := ns.map V.int) (fun i σ' H' => H' = H ∧ ∃ (l : Int) (st : Option V), σ' = [some (.ref a), some (.int size), some (.int l), st] ∧ ∀ k ∈ ns.drop i, l < k) ?_ ?_ ?_ ?_⟩
    · exact ⟨rfl, -1, none, rfl, fun k hk => by have z := (all k (List.mem_of_mem_drop hk)).1; omega⟩
    · rintro i σ' H' _ ⟨rfl, _⟩
      exact SqT.of ha
    · rintro i x σ' H' hx ⟨rfl, l, st, rfl, lt⟩
      obtain ⟨n, hn, rfl⟩ : ∃ n, ns[i]? = some n ∧ x = .int n := by
        rw [List.getElem?_map] at hx
        cases e : ns[i]? with
        | none => rw [e] at hx; exact nomatch hx
        | some n => rw [e] at hx; exact ⟨n, rfl, (Option.some.inj hx).symm⟩
      have il : i < ns.length := (List.getElem?_eq_some_iff.mp hn).1
      have en : ns[i] = n := (List.getElem?_eq_some_iff.mp hn).2
      have dr : ns.drop i = n :: ns.drop (i + 1) := by rw [List.drop_eq_getElem_cons il, en]
      have lo := lt n (by rw [dr]; exact List.mem_cons_self)
      have hi := (all n (List.mem_of_getElem? hn)).2
      refine ⟨_, rfl, _, rfl, .inl ⟨n, rfl, _, rfl, iteF ?_⟩⟩
      refine ⟨_, rfl, _, rfl, _, _, rfl, rfl, _, rfl, ?_⟩
      rw [decide_eq_true lo]
      refine iteT ⟨_, rfl, _, _, rfl, rfl, _, rfl, ?_⟩
      rw [decide_eq_true hi]
      refine iteF ⟨_, rfl, rfl, n, some (.int n), rfl, fun k hk => ?_⟩
      have pw : (ns.drop i).Pairwise (· < ·) := asc.drop
      rw [dr] at pw
      exact (List.pairwise_cons.mp pw).1 k hk
    · rintro σ' H' ⟨rfl, _⟩
      exact q
end
end K55
namespace K55
open PySem PySem.Spec PyProof.Rows L2 WD NS MC GL
open C8 (pss_cut tCut)
abbrev sAreTr : Stmt := topS 21
abbrev nAt : List Str := ["value", "size", "near", "last", "transition", "before", "deed", "behind", "word", "other", "letter"]
theorem scAreTr : FnScope nAt ["value", "size", "near"] (defScope sAreTr) := ⟨rfl, rfl, rfl, by decide +kernel, rfl, by decide +kernel, by decide +kernel⟩
/-- None, or a list in which all neighbours are -/
def NearOk (K : PySem.W.Frag) (H : Hp) (nr : V) (rows : List RowM) : Prop := nr = .non ∨ ∃ (l : Addr) (ws : List Str), nr = .ref l ∧ SqL K H l (ws.map V.str) ∧ ∀ r ∈ rows, ∀ b n x, r.deed = .ex b n x → n ∈ ws
def spAreTr (K : PySem.W.Frag) : Sp := fun vs H Q _ => ∃ (a : Addr) (rows : List RowM) (xs : List V) (size : Nat) (nr : V), vs = [.ref a, .int size, nr] ∧ H a = some (.tup xs) ∧ KzAll H xs (rows.map RowM.key) ∧ (∀ r ∈ rows, r.Ok size) ∧ rows.Pairwise rowLt ∧ NearOk K H nr rows ∧
  ∀ H', Same H H' → Q (.bl true) H'
structure TxtT (K : PySem.W.Frag) (mg : Str → Option Value) (fN : Addr) (dN : FuncData) : Prop where
  type : mg "type" = none
  E : ∃ tE, TxtE K mg tE
  N : Fun K "is_name" "is_name" sName fN dN
  bN : L2.Binds K dN ["value"] []
  gN : mg "is_name" = some (.ref fN)
theorem inV_strs {n : Str} {ws : List Str} (h : n ∈ ws) : inV (.str n) (ws.map V.str) = true := by
  rw [inV, List.any_eq_true]
  exact ⟨.str n, List.mem_map.mpr ⟨n, h, rfl⟩, by simp [eqV]⟩
theorem lt_empty (r : RowM) : PySem.W.dataLt (NestedKey.tup []).data r.key.data = true := by
  show PyProof.Rows.lexLt PyProof.Rows.itemOrd (PySem.W.keyToks (.tuple [])) (PySem.W.keyToks (.tuple [.int r.before, r.deed.key.data, .int r.after])) = true
  rw [PySem.W.keyToks, PySem.W.keyToksAll, PySem.W.keyToks, PySem.W.keyToksAll]
  rw [PySem.W.lex_atom (by decide)]
  decide +kernel
/-- what last holds ahead of turn i -/
structure LastOk (H : Hp) (rows : List RowM) (i : Nat) (lv : V) : Prop where
  ex : ∃ pk : NestedKey, Kz H lv pk ∧ pk ≠ .none ∧ pk.depth ≤ 8 ∧ ∀ r ∈ rows.drop i, PySem.W.alike pk.data r.key.data = true ∧ PySem.W.dataLt pk.data r.key.data = true
section
variable {X : Cx} {c a b : Expr} {tc tA tB' : TT} {pos : Pos}
def tIfT (tc ta tb : TT) : TT := fun σ H Q => tc σ H fun k H1 => if k = true then ta σ H1 Q else tb σ H1 Q
theorem pt_ifExp (hc : PT X c tc) (ha : PT X a tA) (hb : PT X b tB') : PT X (.IfExp c a b pos) (tIfT tc tA tB') := by
  refine ⟨fun pins s σ H Q I h => ?_⟩
  refine isTrue_IfExp (thn (hc.run pins s σ H _ I h) fun k s1 ⟨H1, I1, q1⟩ => ?_)
  cases k with
  | true => exact ha.run pins s1 σ H1 Q I1 q1
  | false => exact hb.run pins s1 σ H1 Q I1 q1
end
section
variable {P : Program} {w : World} {K : PySem.W.Frag} {mg : Str → Option Value} {base : Heap} {fW fF fN : Addr} {dW dF dN : FuncData}
theorem ok_AreTr {f : Addr} {fd : FuncData} {k : Nat} (F : Fun K "are_transitions" "are_transitions" sAreTr f fd) (T : TxtI K mg fW fF dW dF) (TN : TxtNm K mg) (TT : TxtT K mg fN dN) : FnOk P w K mg base CX0 (k + 2) f fd ["value", "size", "near"] (spAreTr K) := by
  have GW : FnOk P w K mg base CX0 (k + 1) fW dW ["value"] (spWhole K) := ok_IsWh T.W T
  have GN : FnOk P w K mg base CX0 (k + 1) fN dN ["value"] spName := ok_Name TT.N TN
  obtain ⟨tE, gE, sE⟩ := TT.E
  refine F.ok scAreTr (fun vs H Q E h => ?_) (fun cdv A outer s H vs Q E hr h => ?_)
  · obtain ⟨a, rows, xs, size, nr, rfl, _⟩ := h
    rfl
  · obtain ⟨a, rows, xs, size, nr, rfl, ha, all, oks, asc, near, q⟩ := h
    have hu := hr.units
    refine ⟨_, pss_cons (ps_if (pt_not (pt_val (pe_callB call_isi (by rfl) T.isi (by decide +kernel) (pa_cons (pv 0) (pa_cons (pe_bltn (by rfl) TN.tuple (by decide +kernel) (v := .ty "tuple") rfl) pa_nil))))) (pss_one (ps_ret pe_bl)) pss_nil)
      (pss_cons (ps_set (i := 3) scAreTr.nd rfl (.inl rfl) (pe_tup pa_nil))
      (pss_cons (ps_for PassesOwn.never rfl (pi_tup (pv 0)) (pg_name (i := 4) scAreTr.nd rfl (.inl rfl))
        (pss_cons (ps_if (PW.pt (pw_or (pt_not (pt_val (pe_callB call_isi (by rfl) T.isi (by decide +kernel) (pa_cons (pv 4) (pa_cons (pe_bltn (by rfl) TN.tuple (by decide +kernel) (v := .ty "tuple") rfl) pa_nil)))))
            (pw_or1 (pt_cmpR op_ne (pe_callB call_len_seq (by rfl) TN.len PySem.boot_len (pa_cons (pv 4) pa_nil)) pe_int (nomark _))))) (pss_one (ps_ret pe_bl)) pss_nil)
        (pss_cons (ps_asg (pv 4) (pg_tup rfl (pgs_cons (pg_name (i := 5) scAreTr.nd rfl (.inl rfl)) (pgs_cons (pg_name (i := 6) scAreTr.nd rfl (.inl rfl)) (pgs_cons (pg_name (i := 7) scAreTr.nd rfl (.inl rfl)) pgs_nil)))))
        (pss_cons (ps_if (PW.pt (pw_or (pt_not (PW.pt (pw_or (pt_cmpR op_isTy (pe_typeOf (by rfl) TT.type (pv 5)) (pe_bltn (by rfl) T.int (by decide +kernel) (v := .ty "int") rfl) (nomark _)) (pw_or1 (pt_val (pe_call GW hr (by rfl) T.gW T.W.kp T.bW .nil pass0 (pa_cons (pv 5) pa_nil)))))))
            (pw_or1 (pt_not (PW.pt (pw_or (pt_cmpR op_isTy (pe_typeOf (by rfl) TT.type (pv 7)) (pe_bltn (by rfl) T.int (by decide +kernel) (v := .ty "int") rfl) (nomark _)) (pw_or1 (pt_val (pe_call GW hr (by rfl) T.gW T.W.kp T.bW .nil pass0 (pa_cons (pv 7) pa_nil)))))))))) (pss_one (ps_ret pe_bl)) pss_nil)
        (pss_cons (ps_if (pt_not (PW.pt (pw_and (pt_chain op_le op_lt pe_int (pv 5) (pv 1)) (pw_and (pt_chain op_le op_lt pe_int (pv 7) (pv 1)) (pw_and1 (pt_val (pe_callB call_isi (by rfl) T.isi (by decide +kernel) (pa_cons (pv 6) (pa_cons (pe_bltn (by rfl) TN.tuple (by decide +kernel) (v := .ty "tuple") rfl) pa_nil))))))))) (pss_one (ps_ret pe_bl)) pss_nil)
        (pss_cons (ps_if (pt_cmpR op_eq (pe_callB call_len_seq (by rfl) TN.len PySem.boot_len (pa_cons (pv 6) pa_nil)) pe_int (nomark _))
            (pss_cons (ps_asg (pv 6) (pg_tup rfl (pgs_cons (pg_name (i := 8) scAreTr.nd rfl (.inl rfl)) (pgs_cons (pg_name (i := 9) scAreTr.nd rfl (.inl rfl)) (pgs_cons (pg_name (i := 10) scAreTr.nd rfl (.inl rfl)) pgs_nil)))))
            (pss_cons (ps_if (PW.pt (pw_or (pt_cmpR (show OpR _ (compareOp .NotIn) (rIn K true) from op_notIn_seq) (pv 8) (pe_glob (v := .ref tE) rfl gE rfl) (by rfl)) (pw_or1 (pt_not (pt_val (pe_call GN hr (by rfl) TT.gN TT.N.kp TT.bN .nil pass0 (pa_cons (pv 10) pa_nil))))))) (pss_one (ps_ret pe_bl)) pss_nil)
            (pss_one (ps_if (pt_not (pt_ifExp (pt_cmpR op_isN (pv 2) pe_non (nomark _)) (pt_val (pe_call GN hr (by rfl) TT.gN TT.N.kp TT.bN .nil pass0 (pa_cons (pv 9) pa_nil))) (pt_cmpR (show OpR _ (compareOp .In) (rIn K false) from op_in_seq) (pv 9) (pv 2) (by rfl)))) (pss_one (ps_ret pe_bl)) pss_nil))))
            (pss_one (ps_if (PW.pt (pw_or (pt_cmpR op_ne (pe_callB call_len_seq (by rfl) TN.len PySem.boot_len (pa_cons (pv 6) pa_nil)) pe_int (nomark _)) (pw_or1 (pt_cmpR op_ne (pe_ix (show IxR _ (rIxT K) from ix_tup) (pv 6) pe_int (fun _ _ => rfl)) pe_str (nomark _))))) (pss_one (ps_ret pe_bl)) pss_nil)))
        (pss_cons (ps_if (pt_not (pt_cmpR (op_ltK hu) (pv 3) (pv 4) (nomark _))) (pss_one (ps_ret pe_bl)) pss_nil)
        (pss_one (ps_set (i := 3) scAreTr.nd rfl (.inl rfl) (pv 4))))))))))
      (pss_one (ps_ret pe_bl)))), ?_⟩
    refine ⟨_, rfl, _, _, _, .type "tuple", true, rfl, .ty _, .base (.tup ha), kit_ty (by decide +kernel), _, rfl, iteF ?_⟩
    refine ⟨Nat.zero_le _, fun p np => ?_⟩
    have s0 := same_upd (o := .tup []) np
    have lx : xs.length = rows.length := by
      have z := kz_len all
      rw [List.length_map] at z
      exact z
    refine ⟨_, rfl, a, rfl, ⟨_, SqT.of (s0 _ _ ha)⟩, for_tup (xs := xs) (fun i σ' H' => Same H H' ∧ ∃ (lv : V) (u4 u5 u6 u7 u8 u9 u10 : Option V), σ' = [some (.ref a), some (.int size), some nr, some lv, u4, u5, u6, u7, u8, u9, u10] ∧ LastOk H' rows i lv) ?_ ?_ ?_ ?_⟩
    · refine ⟨s0, _, none, none, none, none, none, none, none, rfl, ⟨.tup [], .tup upd_same .nil, (fun z => nomatch z), (by decide), fun r _ => ⟨rfl, lt_empty r⟩⟩⟩
    · rintro i σ' H' _ ⟨s1, _⟩
      exact SqT.of (s1 _ _ ha)
    · rintro i x σ' H' hx ⟨s1, lv, u4, u5, u6, u7, u8, u9, u10, rfl, ⟨pk, kl, nn, dp, lt⟩⟩
      obtain ⟨r, hr', ra, dv, rfl, er, kd⟩ := row_at all hx
      obtain ⟨qd, rfl, ed⟩ := deed_at kd
      have okr := oks r (List.mem_of_getElem? hr')
      have il : i < rows.length := (List.getElem?_eq_some_iff.mp hr').1
      have er' : rows[i] = r := (List.getElem?_eq_some_iff.mp hr').2
      have dr : rows.drop i = r :: rows.drop (i + 1) := by rw [List.drop_eq_getElem_cons il, er']
      have er1 := s1 _ _ er
      have ed1 := s1 _ _ ed
      have kr : Kz H' (.ref ra) r.key := by
        obtain ⟨k', hk', z⟩ := kz_get all i _ hx
        rw [List.getElem?_map, hr'] at hk'
        cases hk'
        exact Kz.same s1 _ _ z
      have two := lt r (by rw [dr]; exact List.mem_cons_self)
      refine ⟨_, rfl, _, _, _, .type "tuple", true, rfl, .ty _, .base (.tup er1), kit_ty (by decide +kernel), _, rfl, iteF ?_⟩
      refine ⟨_, rfl, ra, _, rfl, .inr (SqT.of er1), rfl, _, rfl, iteF ?_⟩
      refine ⟨_, rfl, ra, _, rfl, SqT.of er1, rfl, _, _, rfl, _, _, rfl, _, _, rfl, rfl, ?_⟩
      refine ⟨_, rfl, "int", rfl, _, _, rfl, rfl, _, rfl, ifT (by decide) (ifF rfl ?_)⟩
      refine ⟨_, rfl, "int", rfl, _, _, rfl, rfl, _, rfl, ifT (by decide) (ifF rfl ?_)⟩
      -- 0 <= before < size and 0 <= behind < size and isinstance(deed, tuple)
      have b0 := okr.b0
      have b1 := okr.b1
      have a0 := okr.a0
      have a1 := okr.a1
      refine ⟨_, rfl, _, _, rfl, rfl, _, rfl, ifT (decide_eq_true b0) ⟨_, rfl, _, _, rfl, rfl, _, rfl, ifT (decide_eq_true b1) ?_⟩⟩
      refine ⟨_, rfl, _, _, rfl, rfl, _, rfl, ifT (decide_eq_true a0) ⟨_, rfl, _, _, rfl, rfl, _, rfl, ifT (decide_eq_true a1) ?_⟩⟩
      refine ⟨_, rfl, _, _, _, .type "tuple", true, rfl, .ty _, .base (.tup ed1), kit_ty (by decide +kernel), _, rfl, ifF rfl ?_⟩
      -- last < transition; last = transition
      have next : LastOk H' rows (i + 1) (.ref ra) := by
        refine ⟨r.key, kr, (fun z => nomatch z), by rw [row_depth]; decide, fun r2 hr2 => ⟨row_alike r r2, ?_⟩⟩
        have pw : (rows.drop i).Pairwise rowLt := asc.drop
        rw [dr] at pw
        exact (List.pairwise_cons.mp pw).1 r2 hr2
      cases hd : r.deed with
      | step =>
        rw [hd] at ed1
        refine ⟨_, rfl, qd, _, rfl, .inr (SqT.of ed1), rfl, _, rfl, ifF (by decide) ?_⟩
        refine ⟨_, rfl, qd, _, rfl, .inr (SqT.of ed1), rfl, _, rfl, ifF (by decide) ?_⟩
        refine ⟨_, rfl, qd, _, 0, .str "step", rfl, rfl, SqT.of ed1, atI_nat (j := 0) rfl, rfl, _, rfl, ifF (by decide) ?_⟩
        refine ⟨_, rfl, _, rfl, pk, r.key, kl, kr, two.1, nn, dp, _, rfl, ?_⟩
        rw [two.2]
        exact ifF rfl ⟨_, rfl, s1, _, _, _, _, _, _, _, _, rfl, next⟩
      | ex b n l =>
        rw [hd] at ed1
        have okd := okr.dd
        rw [hd] at okd
        refine ⟨_, rfl, qd, _, rfl, .inr (SqT.of ed1), rfl, _, rfl, ifT (decide_eq_true rfl) ?_⟩
        refine ⟨_, rfl, qd, _, rfl, SqT.of ed1, rfl, _, _, rfl, _, _, rfl, _, _, rfl, rfl, ?_⟩
        refine ⟨_, rfl, tE, exV, rfl, .inr (Or.inr sE), rfl, rfl, _, rfl, ifF (by rw [if_pos rfl, ex_word]; rfl) ?_⟩
        refine ⟨_, rfl, l, rfl, okd.2, _, rfl, ifF rfl ?_⟩
        have rr : r ∈ rows := List.mem_of_getElem? hr'
        rcases near with rfl | ⟨l', ws, rfl, hl, inW⟩
        · refine ⟨_, rfl, rfl, _, rfl, ifT (decide_eq_true rfl) ⟨_, rfl, n, rfl, okd.1, _, rfl, ifF rfl ?_⟩⟩
          refine ⟨_, rfl, _, rfl, pk, r.key, kl, kr, two.1, nn, dp, _, rfl, ?_⟩
          rw [two.2]
          exact ifF rfl ⟨_, rfl, s1, _, _, _, _, _, _, _, _, rfl, next⟩
        · refine ⟨_, rfl, rfl, _, rfl, ifF (decide_eq_false fun z => nomatch z) ⟨_, rfl, _, rfl, l', ws.map V.str, rfl, .inl (s1.seq hl), rfl, flat_strs ws, _, rfl, ifF (by rw [if_neg (by decide), inV_strs (inW r rr b n l hd)]; rfl) ?_⟩⟩
          refine ⟨_, rfl, _, rfl, pk, r.key, kl, kr, two.1, nn, dp, _, rfl, ?_⟩
          rw [two.2]
          exact ifF rfl ⟨_, rfl, s1, _, _, _, _, _, _, _, _, rfl, next⟩
    · rintro σ' H' ⟨s1, _⟩
      exact q _ s1
end
end K55
namespace K55
open PySem PySem.Spec PyProof.Rows L2 WD NS MC GL
open C8 (pss_cut tCut)
abbrev sNearM : Stmt := topS 19
abbrev sIsM : Stmt := topS 18
abbrev sChkM : Stmt := topS 23
/-- no machine -/
inductive BadM (K : PySem.W.Frag) (H : Hp) : V → Prop
  | ty {v : V} (ty : String) (m : ty ∈ ["NoneType", "bool", "int", "str", "list", "dict"]) (t : TyX K H v (.type ty)) : BadM K H v
  | len {a : Addr} {xs : List V} (e : H a = some (.tup xs)) (n : xs.length ≠ 3) : BadM K H (.ref a)
  | size {a : Addr} {x y z : V} (e : H a = some (.tup [x, y, z])) (n : NotInt K H x ∨ ∃ i, x = .int i ∧ ¬ (1 ≤ i ∧ i ≤ 30)) : BadM K H (.ref a)
theorem BadM.same {K : PySem.W.Frag} {H H' : Hp} {v : V} (s : Same H H') (h : BadM K H v) : BadM K H' v := by
  cases h with
  | ty ty m t => exact .ty ty m (tyX_same s t)
  | len e n => exact .len (s _ _ e) n
  | size e n => exact .size (s _ _ e) (n.imp (NotInt.same s) id)
def spNearM (K : PySem.W.Frag) : Sp := fun vs H Q _ => ∃ v nr : V, vs = [v, nr] ∧ ((∃ (a : Addr) (m : MachM), v = .ref a ∧ Kz H (.ref a) m.key ∧ m.Ok ∧ NearOk K H nr m.rows ∧ ∀ H', Same H H' → Q (.bl true) H') ∨ (BadM K H v ∧ Q (.bl false) H))
def spIsM (K : PySem.W.Frag) : Sp := fun vs H Q _ => ∃ v : V, vs = [v] ∧ ((∃ (a : Addr) (m : MachM), v = .ref a ∧ Kz H (.ref a) m.key ∧ m.Ok ∧ ∀ H', Same H H' → Q (.bl true) H') ∨ (BadM K H v ∧ Q (.bl false) H))
structure TxtM (K : PySem.W.Frag) (mg : Str → Option Value) (fS fT fR fI fC cM : Addr) (dS dT dR dI dC : FuncData) : Prop where
  ms : ∃ t, mg "MAX_STATES" = some (.int 30 t)
  mt : ∃ t, mg "MAX_TRANSITIONS" = some (.int 90 t)
  S : Fun K "are_states" "are_states" sAreSt fS dS
  bS : L2.Binds K dS ["value", "size"] []
  gS : mg "are_states" = some (.ref fS)
  T : Fun K "are_transitions" "are_transitions" sAreTr fT dT
  bT : L2.Binds K dT ["value", "size", "near"] []
  gT : mg "are_transitions" = some (.ref fT)
  R : Fun K "is_machine_near" "is_machine_near" sNearM fR dR
  bR : L2.Binds K dR ["value", "near"] []
  gR : mg "is_machine_near" = some (.ref fR)
  I : Fun K "is_machine" "is_machine" sIsM fI dI
  bI : L2.Binds K dI ["value"] []
  gI : mg "is_machine" = some (.ref fI)
  C : Fun K "check_machine" "check_machine" sChkM fC dC
  bC : L2.Binds K dC ["machine"] []
  gC : mg "check_machine" = some (.ref fC)
  oc : ErrC K cM veC "ValueError.__new__"
  oi : PySem.W.findIn K (.ref cM) "__init__" = some (some (.builtin "ValueError.__init__"))
  oty : PySem.W.typeIn K (.ref cM) = some (.type "type")
  og : mg "InvalidMachine" = some (.ref cM)
abbrev nNm : List Str := ["value", "near", "size", "finals", "transitions"]
theorem scNearM : FnScope nNm ["value", "near"] (defScope sNearM) := ⟨rfl, rfl, rfl, by decide +kernel, rfl, by decide +kernel, by decide +kernel⟩
theorem scIsM : FnScope ["value"] ["value"] (defScope sIsM) := ⟨rfl, rfl, rfl, by decide +kernel, rfl, by decide +kernel, by decide +kernel⟩
theorem scChkM : FnScope ["machine"] ["machine"] (defScope sChkM) := ⟨rfl, rfl, rfl, by decide +kernel, rfl, by decide +kernel, by decide +kernel⟩
theorem tup_kitB {ty : String} (m : ty ∈ ["NoneType", "bool", "int", "str", "list", "dict"]) : kitB ty "tuple" = some false := by
  simp only [List.mem_cons, List.not_mem_nil, or_false] at m
  rcases m with rfl | rfl | rfl | rfl | rfl | rfl <;> decide +kernel
section
variable {P : Program} {w : World} {K : PySem.W.Frag} {mg : Str → Option Value} {base : Heap} {fW fF fN fS fT fR fI fC cM : Addr} {dW dF dN dS dT dR dI dC : FuncData}
theorem ok_NearM {f : Addr} {fd : FuncData} {k : Nat} (F : Fun K "is_machine_near" "is_machine_near" sNearM f fd) (T : TxtI K mg fW fF dW dF) (TN : TxtNm K mg) (TT : TxtT K mg fN dN) (M : TxtM K mg fS fT fR fI fC cM dS dT dR dI dC) : FnOk P w K mg base CX0 (k + 3) f fd ["value", "near"] (spNearM K) := by
  have GW : FnOk P w K mg base CX0 (k + 1) fW dW ["value"] (spWhole K) := ok_IsWh T.W T
  have GS : FnOk P w K mg base CX0 (k + 2) fS dS ["value", "size"] spAreSt := ok_AreSt M.S T TN
  have GT : FnOk P w K mg base CX0 (k + 2) fT dT ["value", "size", "near"] (spAreTr K) := ok_AreTr M.T T TN TT
  obtain ⟨t30, g30⟩ := M.ms
  obtain ⟨t90, g90⟩ := M.mt
  refine F.ok scNearM (fun vs H Q E h => ?_) (fun cdv A outer s H vs Q E hr h => ?_)
  · obtain ⟨v, nr, rfl, _⟩ := h
    rfl
  · obtain ⟨v, nr, rfl, h⟩ := h
    have hr1 : Room (k + 1) _ := hr.mono (by omega)
    refine ⟨_, pss_cons (ps_if (PW.pt (pw_or (pt_not (pt_val (pe_callB call_isi (by rfl) T.isi (by decide +kernel) (pa_cons (pv 0) (pa_cons (pe_bltn (by rfl) TN.tuple (by decide +kernel) (v := .ty "tuple") rfl) pa_nil)))))
            (pw_or1 (pt_cmpR op_ne (pe_callB call_len_seq (by rfl) TN.len PySem.boot_len (pa_cons (pv 0) pa_nil)) pe_int (nomark _))))) (pss_one (ps_ret pe_bl)) pss_nil)
      (pss_cons (ps_asg (pv 0) (pg_tup rfl (pgs_cons (pg_name (i := 2) scNearM.nd rfl (.inl rfl)) (pgs_cons (pg_name (i := 3) scNearM.nd rfl (.inl rfl)) (pgs_cons (pg_name (i := 4) scNearM.nd rfl (.inl rfl)) pgs_nil)))))
      (pss_one (ps_ret (pe_and (pe_call GW hr1 (by rfl) T.gW T.W.kp T.bW .nil pass0 (pa_cons (pv 2) pa_nil))
        (pe_and (pe_chain op_le op_le pe_int (pv 2) (pe_glob (v := .int 30) rfl g30 ⟨_, rfl⟩))
        (pe_and (pe_call GS hr (by rfl) M.gS M.S.kp M.bS .nil pass0 (pa_cons (pv 3) (pa_cons (pv 2) pa_nil)))
        (pe_and (pe_call GT hr (by rfl) M.gT M.T.kp M.bT .nil pass0 (pa_cons (pv 4) (pa_cons (pv 2) (pa_cons (pv 1) pa_nil))))
        (pe_one (pe_cmpR op_le (pe_callB call_len_seq (by rfl) TN.len PySem.boot_len (pa_cons (pv 4) pa_nil)) (pe_glob (v := .int 90) rfl g90 ⟨_, rfl⟩) (nomark _)))))))))), ?_⟩
    rcases h with ⟨a, m, rfl, hm, ok, near, q⟩ | ⟨bad, q⟩
    · obtain ⟨M'⟩ := mach_at hm
      refine ⟨_, rfl, _, _, _, .type "tuple", true, rfl, .ty _, .base (.tup M'.top), kit_ty (by decide +kernel), _, rfl, iteF ?_⟩
      refine ⟨_, rfl, a, _, rfl, .inr (SqT.of M'.top), rfl, _, rfl, iteF ?_⟩
      refine ⟨_, rfl, a, _, rfl, SqT.of M'.top, rfl, _, _, rfl, _, _, rfl, _, _, rfl, rfl, ?_⟩
      refine ⟨_, rfl, _, rfl, .inl ⟨_, rfl, _, rfl, iteT ?_⟩⟩
      have c0 := ok.s0
      have c1 := ok.s1
      refine ⟨_, rfl, _, _, rfl, rfl, _, rfl, ifT (decide_eq_true (show (1 : Int) ≤ m.size by omega)) ⟨_, _, rfl, rfl, _, rfl, ifT (decide_eq_true (show (m.size : Int) ≤ 30 by omega)) ?_⟩⟩
      refine ⟨_, rfl, _, rfl, M'.f, m.finals, m.size, rfl, M'.fin, ok.f2, ok.f1, _, rfl, iteT ?_⟩
      refine ⟨_, rfl, _, rfl, _, rfl, M'.t, m.rows, M'.xs, m.size, nr, rfl, M'.row, M'.all, ok.r1, ok.r2, near, fun H' s' => ⟨_, rfl, iteT ?_⟩⟩
      have lx : M'.xs.length = m.rows.length := by
        have z := kz_len M'.all
        rw [List.length_map] at z
        exact z
      have c3 := ok.r3
      have e90 : decide (((M'.xs.length : Nat) : Int) ≤ 90) = true := decide_eq_true (by omega)
      refine ⟨_, rfl, M'.t, _, rfl, .inr (SqT.of (s' _ _ M'.row)), _, _, rfl, rfl, ?_⟩
      show Q (.bl (decide (((M'.xs.length : Nat) : Int) ≤ 90))) H'
      rw [e90]
      exact q _ s'
    · cases bad with
      | ty ty mt t =>
        exact ⟨_, rfl, _, _, _, .type "tuple", false, rfl, .ty _, t, kit_ty (tup_kitB mt), _, rfl, iteT q⟩
      | @len a xs e n =>
        refine ⟨_, rfl, _, _, _, .type "tuple", true, rfl, .ty _, .base (.tup e), kit_ty (by decide +kernel), _, rfl, iteF ?_⟩
        refine ⟨_, rfl, a, _, rfl, .inr (SqT.of e), rfl, _, rfl, ?_⟩
        have e2 : (!decide (V.int ((xs.length : Nat) : Int) = V.int 3)) = true := by
          rw [decide_eq_false]
          · rfl
          · intro z
            have z2 := V.int.inj z
            omega
        rw [e2]
        exact iteT q
      | @size a x y z e n =>
        refine ⟨_, rfl, _, _, _, .type "tuple", true, rfl, .ty _, .base (.tup e), kit_ty (by decide +kernel), _, rfl, iteF ?_⟩
        refine ⟨_, rfl, a, _, rfl, .inr (SqT.of e), rfl, _, rfl, iteF ?_⟩
        refine ⟨_, rfl, a, _, rfl, SqT.of e, rfl, _, _, rfl, _, _, rfl, _, _, rfl, rfl, ?_⟩
        rcases n with n | ⟨i, rfl, n⟩
        · exact ⟨_, rfl, _, rfl, .inr ⟨n, _, rfl, iteF q⟩⟩
        · refine ⟨_, rfl, _, rfl, .inl ⟨_, rfl, _, rfl, iteT ?_⟩⟩
          refine ⟨_, rfl, _, _, rfl, rfl, _, rfl, ?_⟩
          by_cases c : (1 : Int) ≤ i
          · exact ifT (decide_eq_true c) ⟨_, _, rfl, rfl, _, rfl, ifF (decide_eq_false fun z => n ⟨c, z⟩) q⟩
          · exact ifF (decide_eq_false c) ⟨_, rfl, iteF q⟩
theorem ok_IsM {f : Addr} {fd : FuncData} {k : Nat} (F : Fun K "is_machine" "is_machine" sIsM f fd) (T : TxtI K mg fW fF dW dF) (TN : TxtNm K mg) (TT : TxtT K mg fN dN) (M : TxtM K mg fS fT fR fI fC cM dS dT dR dI dC) : FnOk P w K mg base CX0 (k + 4) f fd ["value"] (spIsM K) := by
  have GR : FnOk P w K mg base CX0 (k + 3) fR dR ["value", "near"] (spNearM K) := ok_NearM M.R T TN TT M
  refine F.ok scIsM (fun vs H Q E h => ?_) (fun cdv A outer s H vs Q E hr h => ?_)
  · obtain ⟨v, rfl, _⟩ := h
    rfl
  · obtain ⟨v, rfl, h⟩ := h
    refine ⟨_, pss_one (ps_ret (pe_call GR hr (by rfl) M.gR M.R.kp M.bR .nil pass0 (pa_cons (pv 0) (pa_cons pe_non pa_nil)))), ?_⟩
    refine ⟨_, rfl, v, .non, rfl, ?_⟩
    rcases h with ⟨a, m, rfl, hm, ok, q⟩ | ⟨bad, q⟩
    · exact .inl ⟨a, m, rfl, hm, ok, .inl rfl, q⟩
    · exact .inr ⟨bad, q⟩
theorem ok_ChkM {f : Addr} {fd : FuncData} {k : Nat} (F : Fun K "check_machine" "check_machine" sChkM f fd) (T : TxtI K mg fW fF dW dF) (TN : TxtNm K mg) (TT : TxtT K mg fN dN) (M : TxtM K mg fS fT fR fI fC cM dS dT dR dI dC) : FnOk P w K mg base (L2.CX P w) (k + 5) f fd ["machine"] (spChkM K (BadM K) cM) := by
  have GI : FnOk P w K mg base CX0 (k + 4) fI dI ["value"] (spIsM K) := ok_IsM M.I T TN TT M
  refine F.okX scChkM (fun vs H Q E h => ?_) (fun cdv A outer s H vs Q E hr h => ?_)
  · obtain ⟨v, rfl, _⟩ := h
    rfl
  · obtain ⟨v, rfl, h⟩ := h
    refine ⟨_, pss_one (ps_if (pt_not (pt_val (pe_call GI hr (by rfl) M.gI M.I.kp M.bI .nil pass0 (pa_cons (pv 0) pa_nil)))) (pss_one (ps_raise rfl (takes_of rfl rfl rfl rfl) (pmk_X rfl (pe_mkA PySem.F.excBase_ValueError M.oc M.oi (by rfl) M.og pe_str)))) pss_nil), ?_⟩
    refine ⟨_, rfl, v, rfl, ?_⟩
    rcases h with ⟨a, m, rfl, hm, ok, q⟩ | ⟨bad, q⟩
    · exact .inl ⟨a, m, rfl, hm, ok, fun H' s' => ⟨_, rfl, iteF (q _ s')⟩⟩
    · refine .inr ⟨bad, _, rfl, ifT rfl fun b t nb nt ne => ⟨b, cM, t, none, rfl, upd_same, fr0_none nb, raises_X M.oc M.oty, ?_⟩⟩
      show E (.ref cM) none (delH _ b)
      rw [delH_two nb ne]
      exact q _ (same_upd nt)
end
end K55
/-! sorted(a list of nested keys). -/
namespace NS
open PySem PySem.Spec PyProof.Rows L2
section
variable {P : Program} {w : World} {A : Around} {E : Value → Shared → Prop} {s : Shared}
theorem sorted_list {a : Addr} {L : List Row} {items : Array Value} {Q : Value → Shared → Prop} (hl : s.heap.IsList a items) (hi : items.toList = L.map fun p => Value.ref p.1) (calm : A.handled = none) (few : L.length < 64) (rd : ∀ p ∈ L, Reads s.heap (.ref p.1) p.2.data []) (dp : ∀ p ∈ L, p.2.depth ≤ 8)
    (al : PySem.W.AllAlike (L.map fun p => p.2.data)) (so : PySem.W.Sortable (L.map fun p => p.2.data)) (hu : A.units + 16 < cLine)
    (q : ∀ s1 p (out : Array Value) (c : Nat) (L1 : List Row), (∀ b o, s.heap.get? b = some o → s1.heap.get? b = some o) → s1.gens = s.gens → s1.os = s.os → s.heap.objs.size ≤ p → s1.heap.get? p = some (seqObj "list" out c) →
      out.toList = L1.map (fun r => Value.ref r.1) → L1.Perm L → L1.Pairwise (fun x y => rowLe x y = true) → Q (.ref p) s1) :
    wpAny (model P w) A (call (.builtin "sorted") [.ref a]) Q E s := by
  refine Calls.call_function_entry kind_sorted plain_sorted entry_sorted (args_sorted1 _) ?_
  unfold Builtin.«sorted»
  have ei : items = (L.map fun p => Value.ref p.1).toArray := by
    rw [← hi]
  rw [ei] at hl
  obtain ⟨s1, e1⟩ : ∃ s1 : Shared, s1 = { s with heap := (s.heap.push (seqObj "list" #[] 0)).update s.heap.objs.size (Obj.mapSeq fun x => x ++ (L.map fun p => Value.ref p.1).toArray) } := ⟨_, rfl⟩
  have k1 : ∀ b o, s.heap.get? b = some o → s1.heap.get? b = some o := fun b o e => by
    rw [e1]
    have lt := Heap.lt_size e
    exact (Heap.get?_update_ne _ _ _ _ (Nat.ne_of_lt lt)).trans (Heap.get?_push_of_some _ e)
  have z1 : s.heap.objs.size ≤ s1.heap.objs.size := by
    rw [e1, Heap.size_update, size_push']
    exact Nat.le_succ _
  have g1 : s1.gens = s.gens := by rw [e1]
  have o1 : s1.os = s.os := by rw [e1]
  refine wpAny_bind (m := checkCount "sorted" 1 1 _) (wpAny_pure (wpAny_bind (collect_list (A := A.in1) hl ?_ (by rw [List.length_map, sizeLine_eq]; omega))))
  rw [← e1]
  refine wpAny_bind (wpAny_newList ?_ (by rw [List.length_map, sizeLine_eq]; omega))
  have at1 : (s1.heap.push (seqObj "list" (L.map fun p => Value.ref p.1).toArray 0)).get? s1.heap.objs.size = some (seqObj "list" (L.map fun p => Value.ref p.1).toArray 0) := Heap.get?_push_size _ rfl
  have rd1 : ∀ p ∈ L, Reads (s1.heap.push (seqObj "list" (L.map fun p => Value.ref p.1).toArray 0)) (.ref p.1) p.2.data [] := fun p mp => PyProof.Rows.Reads.keeps (fun b u e => Heap.get?_push_of_some _ (k1 b u e)) (rd p mp)
  refine wpAny_bind (wpAny_holding (PySem.W.list_sort_data (s := { s1 with heap := s1.heap.push (seqObj "list" (L.map fun p => Value.ref p.1).toArray 0) }) (R := fun (v : Value) (p : Row) => v = .ref p.1) (enc := fun p : Row => p.2.data) (bs := L) at1 (each_refs L) (each_mk rd1)
    al so (by rw [sizeLine_eq]; omega) (fun b hb => ?_) fun out n1 eo => ?_))
  · have d := dp b hb
    show A.in1.units + 1 + b.2.data.depth < cLine
    rw [depth_data, Around.in1_units]
    omega
  · obtain ⟨c, hc⟩ := sortedHeap_at (vs := L.map fun p => Value.ref p.1) (out := List.toArray out) at1
    refine wpAny_pure ⟨_, rfl, q _ s1.heap.objs.size (List.toArray out) c (L.mergeSort (PySem.W.dataLe false fun p : Row => p.2.data)) (fun b u e => ?_) g1 o1 z1 hc (by rw [List.toList_toArray]; exact refs_each eo) (List.mergeSort_perm _ _) (PySem.W.sort_pairwise (PySem.W.sortLe_total _ _ _) _)⟩
    have e2 := k1 b u e
    have lt := Heap.lt_size e2
    exact (sortedHeap_old (Nat.ne_of_lt lt) (by rw [size_push']; exact Nat.lt_succ_of_lt lt)).trans (Heap.get?_push_of_some _ e2)
end
section
variable {X : Cx}
/-- sorted(a list of keys) -/
def rSortedL (X : Cx) : List V → Hp → VK → Prop := fun vs H Q => ∃ (a : Addr) (L : List Row), vs = [V.ref a] ∧ SqL X.K H a (L.map fun p => V.ref p.1) ∧ L.length < 64 ∧ (∀ p ∈ L, Kz H (.ref p.1) p.2 ∧ p.2.depth ≤ 8) ∧ PySem.W.AllAlike (L.map fun p => p.2.data) ∧ PySem.W.Sortable (L.map fun p => p.2.data) ∧
  ∀ (L1 : List Row) (p : Addr), L1.Perm L → L1.Pairwise (fun x y => rowLe x y = true) → H p = none → Q (.ref p) (upd H p (.lst (L1.map fun r => V.ref r.1)))
theorem cr_sortedL (hc : X.calm = true) (hu : X.A.units + 64 < cLine) : CallR X (.builtin "sorted") (rSortedL X) := by
  intro pins s σ H vs us Q I r h
  obtain ⟨a, L, rfl, ha, few, ks, al, so, q⟩ := h
  rw [Vals.ref1 r]
  obtain ⟨its, rv, pl, hz⟩ := I.list ha
  refine sorted_list pl.isList (by simpa using rows_vals rv) (I.ok.hd hc) few (fun p mp => (Kz.is I p.2 _ _ (ks p mp).1 rfl).2) (fun p mp => (ks p mp).2) al so (by omega) fun s1 p out c L1 k g o hp hg ho pm pw => ?_
  have n0 : H p = none := I.hok.fresh hp
  have J := I.call' (s' := s1) (ch := []) (H' := upd H p (.lst (L1.map fun r => V.ref r.1))) o (Un.laid k hp n0) (I.hok.laid k hp ⟨by rw [List.length_map, sizeLine_eq, pm.length_eq]; omega, out.toList, c, by rw [ho]; exact vals_rows L1, hg⟩) (by rw [g]; exact I.bare) (fun _ z => nomatch z)
  exact ⟨.ref p, _, J, rfl, q L1 p pm pw n0⟩
end
end NS
/-! Data that may hold an empty dict, its repr; a list display that stands behind what the start has laid. -/
namespace GL
open PySem PySem.Spec PyProof.Rows L2
mutual
/-- data, all of it new -/
inductive Dz (H : Hp) : V → PyData → Prop
  | non : Dz H .non .none
  | bl (b : Bool) : Dz H (.bl b) (.bool b)
  | int (i : Int) : Dz H (.int i) (.int i)
  | str (x : Str) : Dz H (.str x) (.str x)
  | lst {a : Addr} {xs : List V} {ds : List PyData} : 4 ≤ a → H a = some (.lst xs) → DzAll H xs ds → Dz H (.ref a) (.list ds)
  | tup {a : Addr} {xs : List V} {ds : List PyData} : H a = some (.tup xs) → DzAll H xs ds → Dz H (.ref a) (.tuple ds)
  | emp {a : Addr} : H a = some (.dK []) → Dz H (.ref a) (.dict [])
inductive DzAll (H : Hp) : List V → List PyData → Prop
  | nil : DzAll H [] []
  | cons {v : V} {vs : List V} {d : PyData} {ds : List PyData} : Dz H v d → DzAll H vs ds → DzAll H (v :: vs) (d :: ds)
end
mutual
theorem Dz.same {H H' : Hp} (s : Same H H') : ∀ (d : PyData) (v : V), Dz H v d → Dz H' v d
  | .none, _, h => by cases h; exact .non
  | .bool b, _, h => by cases h; exact .bl b
  | .int i, _, h => by cases h; exact .int i
  | .str x, _, h => by cases h; exact .str x
  | .list ds, _, h => by cases h with | lst h4 e h => exact .lst h4 (s _ _ e) (DzAll.same s ds _ h)
  | .tuple ds, _, h => by cases h with | tup e h => exact .tup (s _ _ e) (DzAll.same s ds _ h)
  | .dict kvs, _, h => by cases h with | emp e => exact .emp (s _ _ e)
theorem DzAll.same {H H' : Hp} (s : Same H H') : ∀ (ds : List PyData) (vs : List V), DzAll H vs ds → DzAll H' vs ds
  | [], _, h => by cases h; exact .nil
  | d :: ds, _, h => by cases h with | cons h1 h2 => exact .cons (Dz.same s d _ h1) (DzAll.same s ds _ h2)
end
section
variable {X : Cx} {pins : List (Addr × Obj)} {σ : L2.St} {H : Hp} {s : Shared}
mutual
theorem Dz.reads (I : Inv X pins σ H s) : ∀ (d : PyData) (v : V) (u : Value), Dz H v d → RelV v u → ∃ as, Reads s.heap u d as ∧ sysModules ∉ as
  | .none, _, _, h, r => by cases h; cases r; exact ⟨_, .none, by simp⟩
  | .bool b, _, _, h, r => by cases h; cases r; exact ⟨_, .bool b, by simp⟩
  | .int i, _, _, h, r => by cases h; obtain ⟨t, rfl⟩ := r; exact ⟨_, .int i t, by simp⟩
  | .str x, _, _, h, r => by cases h; obtain ⟨t, rfl⟩ := r; exact ⟨_, .str x t, by simp⟩
  | .list ds, _, _, h, r => by
    cases h with
    | @lst a0 xs0 _ h4 e h =>
      cases r
      obtain ⟨_, its, n, rv, ho⟩ := (show ObjOk X.prog X.w H s.heap _ (.lst _) from I.hok _ _ e)
      obtain ⟨as, q, nas⟩ := DzAll.reads I ds _ its h rv
      refine ⟨_, .list ho rfl rfl (by simpa using q), ?_⟩
      intro z
      rcases List.mem_cons.mp z with z | z
      · have z1 : (1 : Nat) = a0 := z
        rw [← z1] at h4
        exact absurd h4 (by decide)
      · exact nas z
  | .tuple ds, _, _, h, r => by
    cases h with
    | tup e h =>
      cases r
      obtain ⟨_, its, rv, o, ho, hc, n, hd⟩ := (show ObjOk X.prog X.w H s.heap _ (.tup _) from I.hok _ _ e)
      obtain ⟨as, q, nas⟩ := DzAll.reads I ds _ its h rv
      exact ⟨_, .tuple ho hc hd (by simpa using q), nas⟩
  | .dict kvs, _, _, h, r => by
    cases h with
    | @emp a e =>
      cases r
      obtain ⟨_, ns, vs, kv, o, es, ep, ho, hx, hd, _, hes, _⟩ := (show ObjOk X.prog X.w H s.heap _ (.dK []) from I.hok _ _ e)
      cases kv
      have e0 : es.toList = [] := List.length_eq_zero_iff.mp (PySem.Pairs.length hes)
      refine ⟨[a] ++ [], .dict (as := []) (bs := []) ho hx.1 hd (by rw [e0]; exact .nil) (by rw [e0]; exact .nil), ?_⟩
      intro z
      have z' : sysModules = a := by simpa using z
      rw [← z'] at ns
      simp at ns
theorem DzAll.reads (I : Inv X pins σ H s) : ∀ (ds : List PyData) (vs : List V) (us : List Value), DzAll H vs ds → Vals vs us → ∃ as, ReadsAll s.heap us ds as ∧ sysModules ∉ as
  | [], _, _, h, r => by cases h; cases r; exact ⟨_, .nil, by simp⟩
  | d :: ds, _, _, h, r => by
    cases h with
    | cons h1 h2 =>
      cases r with
      | cons r1 r2 =>
        obtain ⟨as, q1, n1⟩ := Dz.reads I d _ _ h1 r1
        obtain ⟨bs, q2, n2⟩ := DzAll.reads I ds _ _ h2 r2
        refine ⟨_, .cons q1 q2, fun z => ?_⟩
        rcases List.mem_append.mp z with z | z
        · exact n1 z
        · exact n2 z
end
end
section
variable {X : Cx} {es : List Expr} {t : TA} {pos : Pos}
/-- what may be shown: little, and not deep -/
def small (d : PyData) : Bool := d.showable && decide (d.depth ≤ 60) && decide (d.shown.length ≤ 16777216)
def rReprZ : List V → Hp → VK → Prop := fun xs H Q => ∃ (a : Addr) (d : PyData), xs = [.ref a] ∧ Dz H (.ref a) d ∧ small d = true ∧ Q (.str d.shown) H
theorem call_repr_z (hgd : X.A.guards = some []) (hu : X.A.units + 64 < cLine) : CallR X (.builtin "repr") rReprZ := by
  intro pins s σ H xs us Q I r h
  obtain ⟨a, d, rfl, hd, hs, q⟩ := h
  unfold small at hs
  rw [Bool.and_eq_true, Bool.and_eq_true, decide_eq_true_eq, decide_eq_true_eq] at hs
  obtain ⟨⟨hs, hdp⟩, hz⟩ := hs
  cases r with
  | cons r1 r2 =>
    cases r2
    cases r1
    obtain ⟨as, rd, ns⟩ := Dz.reads I d (.ref a) (.ref a) hd rfl
    refine repr_of_reads' rd hs (fun _ => ns) hgd (by omega) (fun _ _ z => z) (fun h' u tk keep => ?_) (by rw [sizeLine_eq]; exact hz)
    exact ⟨.str d.shown, H, I.kept (t' := tk) keep, ⟨u, rfl⟩, q⟩
/-- [a, b, ..]: it lies behind what every start lays -/
def tLst4 (t : TA) : TE := fun σ H Q => t σ H fun xs H1 => xs.length ≤ sizeLine ∧ ∀ p, H1 p = none → 4 ≤ p → Q (.ref p) (upd H1 p (.lst xs))
theorem pe_lst4 (h : PA X es t) : PE X (.List es pos) (tLst4 t) := by
  constructor
  intro pins s σ H Q I hq
  refine wpAny_List_spliced (thn (h.run pos pins s σ H _ I hq) ?_)
  rintro us s1 ⟨xs, H1, J, r, z, q⟩
  refine ⟨r.length ▸ z, ?_⟩
  have four : 4 ≤ s1.heap.objs.size := by
    obtain ⟨o, es, ep, ho, _⟩ := J.ok.mod.glob
    have lt : (3 : Nat) < s1.heap.objs.size := Heap.lt_size (J.bk _ _ ho)
    exact lt
  refine ⟨.ref s1.heap.objs.size, upd H1 s1.heap.objs.size (.lst xs), J.laid (t' := s1.toks) (fun b u e => Heap.get?_push_of_some _ e) (Nat.le_refl _) ⟨z, us, 0, r, Heap.get?_push_size _ rfl⟩, rfl, q _ (J.hok.fresh (Nat.le_refl _)) four⟩
end
end GL
namespace K55
open PySem PySem.Spec PyProof.Rows L2 WD NS MC GL
open C8 (pss_cut tCut)
theorem same_set {H H' : Hp} {x : Addr} {o : HO} (s : Same H H') (h : H x = none) : Same H (upd H' x o) := fun b y e => by
  rw [upd_ne (ne_of_none e h)]
  exact s _ _ e
/-- tuples stay -/
def SameT (H H' : Hp) : Prop := ∀ b xs, H b = some (.tup xs) → H' b = some (.tup xs)
theorem SameT.of {H H' : Hp} (s : Same H H') : SameT H H' := fun b xs e => s b _ e
theorem SameT.trans {H H' H'' : Hp} (s : SameT H H') (t : SameT H' H'') : SameT H H'' := fun b xs e => t b xs (s b xs e)
theorem SameT.lst {H : Hp} {D : Addr} {xs ys : List V} (e : H D = some (.lst xs)) : SameT H (upd H D (.lst ys)) := fun b zs eb => by
  have n : b ≠ D := fun z => by
    rw [z, e] at eb
    cases eb
  rw [upd_ne n]
  exact eb
mutual
theorem Kz.tups {H H' : Hp} (s : SameT H H') : ∀ (k : NestedKey) (v : V), Kz H v k → Kz H' v k
  | .none, _, h => by cases h; exact .non
  | .num i, _, h => by cases h; exact .int i
  | .text x, _, h => by cases h; exact .str x
  | .tup ks, _, h => by cases h with | tup e h => exact .tup (s _ _ e) (KzAll.tups s ks _ h)
theorem KzAll.tups {H H' : Hp} (s : SameT H H') : ∀ (ks : List NestedKey) (vs : List V), KzAll H vs ks → KzAll H' vs ks
  | [], _, h => by cases h; exact .nil
  | k :: ks, _, h => by cases h with | cons h1 h2 => exact .cons (Kz.tups s k _ h1) (KzAll.tups s ks _ h2)
end
theorem kzL {H : Hp} : ∀ {L : List (Addr × RowM)}, (∀ p ∈ L, Kz H (.ref p.1) p.2.key) → KzAll H (L.map fun p => V.ref p.1) ((L.map (·.2)).map RowM.key)
  | [], _ => .nil
  | p :: L, h => .cons (h p List.mem_cons_self) (kzL fun q hq => h q (List.mem_cons_of_mem _ hq))
abbrev lexI := PyProof.Rows.lexLt itemOrd
theorem shaped_three {x y z : Str} (hx : Low x) (hy : Low y) (hz : Low z) : SeqAt.shaped (.tuple [.str x, .str y, .str z]) = true := by
  rw [SeqAt.shaped, PyData.canLay0, PyData.canLayAll0, PyData.canLayAll0, PyData.canLayAll0, PyData.canLayAll0, low_ok hx, low_ok hy, low_ok hz]
  rfl
theorem deed_shaped {d : Deed} (ok : d.Ok) : SeqAt.shaped d.key.data = true := by
  cases d with
  | step => exact shaped_one low_step
  | ex b n l => exact shaped_three (low_word b) ok.1.low ok.2.low
theorem deed_dp {K : PySem.W.Frag} {H : Hp} {q : Addr} {d : Deed} (e : H q = some (.tup (d.signs.map V.str))) : Dp K H (.ref q) d.key.data := by
  cases d with
  | step => exact .tup (SqT.of (xs := [.str "step"]) e) (.cons (.str _) .nil)
  | ex b n l => exact .tup (SqT.of (xs := [.str (wordOf b), .str n, .str l]) e) (.cons (.str _) (.cons (.str _) (.cons (.str _) .nil)))
theorem eqv_deed (d e : Deed) : PyData.eqv d.key.data e.key.data = decide (d = e) := by
  cases d with
  | step =>
    cases e with
    | step =>
      show PyData.eqv (.tuple [.str "step"]) (.tuple [.str "step"]) = _
      simp [PyData.eqv, PyData.eqvAll]
    | ex b n l =>
      show PyData.eqv (.tuple [.str "step"]) (.tuple [.str (wordOf b), .str n, .str l]) = _
      simp [PyData.eqv, PyData.eqvAll]
  | ex b n l =>
    cases e with
    | step =>
      show PyData.eqv (.tuple [.str (wordOf b), .str n, .str l]) (.tuple [.str "step"]) = _
      simp [PyData.eqv, PyData.eqvAll]
    | ex b' n' l' =>
      show PyData.eqv (.tuple [.str (wordOf b), .str n, .str l]) (.tuple [.str (wordOf b'), .str n', .str l']) = _
      have wb : (wordOf b = wordOf b') ↔ b = b' := ⟨word_inj, fun h => by rw [h]⟩
      simp only [PyData.eqv, PyData.eqvAll, Bool.and_true]
      show ((wordOf b == wordOf b') && ((n == n') && (l == l'))) = _
      by_cases h1 : b = b' <;> by_cases h2 : n = n' <;> by_cases h3 : l = l' <;> simp [h1, h2, h3, wb]
theorem deed_kz {H : Hp} {q : Addr} {d : Deed} (e : H q = some (.tup (d.signs.map V.str))) : Kz H (.ref q) d.key := by
  cases d with
  | step => exact .tup e (.cons (.str _) .nil)
  | ex b n l => exact .tup e (.cons (.str _) (.cons (.str _) (.cons (.str _) .nil)))
theorem sorted_ext {α : Type} {r : α → α → Prop} (ir : ∀ a, ¬ r a a) (as : ∀ a b, r a b → ¬ r b a) : ∀ l l' : List α, l.Pairwise r → l'.Pairwise r → (∀ x, x ∈ l ↔ x ∈ l') → l = l'
  | [], [], _, _, _ => rfl
  | [], b :: t, _, _, h => absurd ((h b).mpr List.mem_cons_self) List.not_mem_nil
  | a :: t, [], _, _, h => absurd ((h a).mp List.mem_cons_self) List.not_mem_nil
  | a :: t, b :: t', h1, h2, h => by
    obtain ⟨a1, a2⟩ := List.pairwise_cons.mp h1
    obtain ⟨b1, b2⟩ := List.pairwise_cons.mp h2
    have e : a = b := by
      rcases List.mem_cons.mp ((h a).mp List.mem_cons_self) with z | z
      · exact z
      · rcases List.mem_cons.mp ((h b).mpr List.mem_cons_self) with y | y
        · exact y.symm
        · exact absurd (b1 a z) (as a b (a1 b y))
    subst e
    congr 1
    refine sorted_ext ir as t t' a2 b2 fun x => ⟨fun m => ?_, fun m => ?_⟩
    · rcases List.mem_cons.mp ((h x).mp (List.mem_cons_of_mem _ m)) with z | z
      · rw [z] at m; exact absurd (a1 a m) (ir a)
      · exact z
    · rcases List.mem_cons.mp ((h x).mpr (List.mem_cons_of_mem _ m)) with z | z
      · rw [z] at m; exact absurd (b1 a m) (ir a)
      · exact z
theorem lex_asym : ∀ l m : List (Int ⊕ List Nat), lexI l m = true → lexI m l = false
  | [], [], h => nomatch h
  | [], b :: t, _ => rfl
  | a :: t, [], h => nomatch h
  | x :: r, y :: t, h => by
    have h' : (itemOrd.blt x y || !itemOrd.blt y x && lexI r t) = true := h
    show (itemOrd.blt y x || !itemOrd.blt x y && lexI t r) = false
    cases e : itemOrd.blt x y
    · rw [e, Bool.false_or] at h'
      cases e2 : itemOrd.blt y x
      · rw [e2] at h'
        rw [lex_asym r t (by simpa using h')]
        rfl
      · rw [e2] at h'
        exact nomatch h'
    · cases e2 : itemOrd.blt y x
      · rfl
      · have := itemOrd.trans x y x e e2
        rw [itemOrd.irrefl] at this
        exact nomatch this
theorem dp_ints {K : PySem.W.Frag} {H : Hp} : ∀ ns : List Int, DpAll K H (ns.map V.int) (ns.map PyData.int)
  | [] => .nil
  | x :: ns => .cons (.int x) (dp_ints ns)
theorem can_ints : ∀ ns : List Int, PyData.canLayAll0 (ns.map PyData.int) = true
  | [] => rfl
  | x :: ns => by rw [List.map_cons, PyData.canLayAll0, can_ints ns]; rfl
theorem depth_ints : ∀ ns : List Int, PyData.depthAll (ns.map PyData.int) = 0
  | [] => rfl
  | x :: ns => by rw [List.map_cons, PyData.depthAll, depth_ints ns]; rfl
theorem shaped_intsT (ns : List Int) : SeqAt.shaped (.tuple (ns.map PyData.int)) = true := by
  rw [SeqAt.shaped, PyData.canLay0, can_ints ns, PyData.depth, depth_ints]
  rfl
theorem shaped_can {d : PyData} (h : SeqAt.shaped d = true) : d.canLay0 = true := by
  rw [SeqAt.shaped, Bool.and_eq_true] at h
  exact h.1
theorem eqv_self {d : PyData} (h : SeqAt.shaped d = true) : PyData.eqv d d = true := SeqAt.eqv_refl d (shaped_can h)
theorem ne_ints {K : PySem.W.Frag} {H : Hp} {p q : Addr} {ns : List Int} {Q : V → Hp → Prop} (hp : SqT K H p (ns.map V.int)) (hq : SqT K H q (ns.map V.int)) (k : Q (.bl false) H) : rNeD K (.ref p) (.ref q) H Q := by
  refine ⟨_, _, .tup hp (dp_ints ns), .tup hq (dp_ints ns), shaped_intsT ns, shaped_intsT ns, ?_⟩
  rw [eqv_self (shaped_intsT ns)]
  exact k
mutual
theorem kz_dp {K : PySem.W.Frag} {H : Hp} : ∀ (k : NestedKey) (v : V), Kz H v k → Dp K H v k.data
  | .none, _, h => by cases h; exact .non
  | .num i, _, h => by cases h; exact .int i
  | .text x, _, h => by cases h; exact .str x
  | .tup ks, _, h => by
    cases h with
    | tup e h => exact .tup (SqT.of e) (kz_dpAll ks _ h)
theorem kz_dpAll {K : PySem.W.Frag} {H : Hp} : ∀ (ks : List NestedKey) (vs : List V), KzAll H vs ks → DpAll K H vs (NestedKey.datas ks)
  | [], _, h => by cases h; exact .nil
  | k :: ks, _, h => by
    cases h with
    | cons h1 h2 => exact .cons (kz_dp k _ h1) (kz_dpAll ks _ h2)
end
theorem can_rows {size : Nat} : ∀ rs : List RowM, (∀ r ∈ rs, r.Ok size) → PyData.canLayAll0 (NestedKey.datas (rs.map RowM.key)) = true ∧ PyData.depthAll (NestedKey.datas (rs.map RowM.key)) ≤ 3
  | [], _ => ⟨rfl, Nat.zero_le _⟩
  | r :: rs, h => by
    have ih := can_rows rs fun s hs => h s (List.mem_cons_of_mem _ hs)
    have sd := shaped_can (deed_shaped (h r List.mem_cons_self).dd)
    have dd : r.deed.key.data.depth ≤ 1 := by
      cases r.deed with
      | step => exact Nat.le_refl 1
      | ex b n l => exact Nat.le_refl 1
    constructor
    · show PyData.canLayAll0 (PyData.tuple [.int r.before, r.deed.key.data, .int r.after] :: NestedKey.datas (rs.map RowM.key)) = true
      rw [PyData.canLayAll0, PyData.canLay0, PyData.canLayAll0, PyData.canLayAll0, PyData.canLayAll0, sd, ih.1]
      rfl
    · show PyData.depthAll (PyData.tuple [.int r.before, r.deed.key.data, .int r.after] :: NestedKey.datas (rs.map RowM.key)) ≤ 3
      have i2 := ih.2
      simp only [PyData.depthAll, PyData.depth] at i2 ⊢
      omega
theorem datas_ints : ∀ ns : List Int, NestedKey.datas (ns.map .num) = ns.map PyData.int
  | [] => rfl
  | n :: ns => by
    show PyData.int n :: NestedKey.datas (ns.map .num) = _
    rw [datas_ints ns]
    rfl
theorem mach_shaped {m : MachM} (ok : m.Ok) : SeqAt.shaped m.key.data = true := by
  have h := can_rows m.rows ok.r1
  show SeqAt.shaped (.tuple [.int m.size, .tuple (NestedKey.datas (m.finals.map .num)), .tuple (NestedKey.datas (m.rows.map RowM.key))]) = true
  rw [datas_ints]
  have d1 := depth_ints m.finals
  have h2 := h.2
  rw [SeqAt.shaped, Bool.and_eq_true]
  constructor
  · simp only [PyData.canLay0, PyData.canLayAll0, can_ints, h.1]
    rfl
  · refine decide_eq_true ?_
    simp only [PyData.depth, PyData.depthAll, d1]
    omega
theorem ne_mach {K : PySem.W.Frag} {H : Hp} {p q : Addr} {m : MachM} {Q : V → Hp → Prop} (ok : m.Ok) (hp : Kz H (.ref p) m.key) (hq : Kz H (.ref q) m.key) (k : Q (.bl false) H) : rNeD K (.ref p) (.ref q) H Q := by
  refine ⟨_, _, kz_dp _ _ hp, kz_dp _ _ hq, mach_shaped ok, mach_shaped ok, ?_⟩
  rw [eqv_self (mach_shaped ok)]
  exact k
theorem strs_ext {l l' : List Str} (a : l.Pairwise (fun x y => x.cps.toList ≤ y.cps.toList)) (n : l.Nodup) (a' : l'.Pairwise (fun x y => x.cps.toList ≤ y.cps.toList)) (n' : l'.Nodup) (h : ∀ x, x ∈ l ↔ x ∈ l') : l = l' := by
  refine sorted_ext (r := fun x y : Str => x.cps.toList ≤ y.cps.toList ∧ x ≠ y) (fun a z => z.2 rfl) (fun a b z y => z.2 (PySem.W.str_of_cps (List.le_antisymm z.1 y.1))) l l' (a.and n) (a'.and n') h
theorem near_ext {m : MachM} {ys zs : List Str} (a : NearOf m ys) (b : NearOf m zs) : ys = zs := strs_ext a.asc a.once b.asc b.once fun x => (a.mem x).trans (b.mem x).symm
end K55
/-! Machines under other names: renamed_deed, with_neighbours_named. -/
namespace K55
open PySem PySem.Spec PyProof.Rows L2 WD NS MC GL
open C8 (pss_cut tCut)
/-- a dict from names to names -/
abbrev kvS (ns : List (Str × Str)) : List (Key × V) := ns.map fun p => (Sum.inr p.1, V.str p.2)
def nu : List (Str × Str) → Str → Str
  | [], x => x
  | (a, b) :: ns, x => if a = x then b else nu ns x
theorem nu_get : ∀ (ns : List (Str × Str)) (x : Str), (valV (kvS ns) (Sum.inr x)).getD (.str x) = .str (nu ns x)
  | [], x => rfl
  | (a, b) :: ns, x => by
    by_cases e : a = x
    · subst e
      simp [valV, nu]
    · have st : valV (kvS ((a, b) :: ns)) (Sum.inr x) = valV (kvS ns) (Sum.inr x) := by
        simp only [valV, kvS, List.map_cons, List.find?_cons, Sum.inr.injEq, e, decide_false]
      rw [st, nu_get ns x, nu, if_neg e]
def renD (ns : List (Str × Str)) : Deed → Deed
  | .step => .step
  | .ex b n l => .ex b (nu ns n) l
def renR (ns : List (Str × Str)) (r : RowM) : RowM := ⟨r.before, renD ns r.deed, r.after⟩
def Nms (ns : List (Str × Str)) : Prop := ∀ p ∈ ns, Wd p.1 ∧ Wd p.2
theorem nu_wd {ns : List (Str × Str)} (h : Nms ns) {x : Str} (w : Wd x) : Wd (nu ns x) := by
  induction ns with
  | nil => exact w
  | cons p ns ih =>
    obtain ⟨a, b⟩ := p
    rw [nu]
    by_cases e : a = x
    · rw [if_pos e]
      exact (h (a, b) List.mem_cons_self).2
    · rw [if_neg e]
      exact ih fun p hp => h p (List.mem_cons_of_mem _ hp)
theorem renR_ok {ns : List (Str × Str)} (h : Nms ns) {size : Nat} {r : RowM} (ok : r.Ok size) : (renR ns r).Ok size := by
  refine ⟨ok.b0, ok.b1, ?_, ok.a0, ok.a1⟩
  have d := ok.dd
  show (renD ns r.deed).Ok
  cases e : r.deed with
  | step => trivial
  | ex b n l =>
    rw [e] at d
    exact ⟨nu_wd h d.1, d.2⟩
/-- one row before the other, or the same -/
abbrev rowLeM (r s : RowM) : Prop := PySem.W.dataLt s.key.data r.key.data = false
/-- the machine with the names of a dict: its rows sorted anew -/
structure NewOf (ns : List (Str × Str)) (m m' : MachM) : Prop where
  size : m'.size = m.size
  fin : m'.finals = m.finals
  perm : m'.rows.Perm (m.rows.map (renR ns))
  asc : m'.rows.Pairwise rowLeM
theorem rowLe_anti {r s : RowM} (h : rowLeM r s) (h' : rowLeM s r) : r = s := row_inj (by
  by_cases e : r.key = s.key
  · exact e
  · have := lt_of_le (row_alike r s) e h
    rw [h'] at this
    exact nomatch this)
theorem sorted_perm : ∀ {l l' : List RowM}, l.Pairwise rowLeM → l'.Pairwise rowLeM → l.Perm l' → l = l'
  | [], l', _, _, h => (List.Perm.nil_eq h)
  | a :: t, [], _, _, h => nomatch (List.Perm.eq_nil h)
  | a :: t, b :: t', h1, h2, h => by
    obtain ⟨a1, a2⟩ := List.pairwise_cons.mp h1
    obtain ⟨b1, b2⟩ := List.pairwise_cons.mp h2
    have e : a = b := by
      rcases List.mem_cons.mp (h.mem_iff.mp (List.mem_cons_self (a := a))) with e | x
      · exact e
      · rcases List.mem_cons.mp (h.mem_iff.mpr (List.mem_cons_self (a := b))) with e | y
        · exact e.symm
        · exact rowLe_anti (a1 b y) (b1 a x)
    subst e
    rw [sorted_perm a2 b2 h.cons_inv]
theorem NewOf.ext {ns : List (Str × Str)} {m m1 m2 : MachM} (a : NewOf ns m m1) (b : NewOf ns m m2) : m1 = m2 := by
  obtain ⟨s1, f1, r1⟩ := m1
  obtain ⟨s2, f2, r2⟩ := m2
  have e1 : s1 = s2 := a.size.trans b.size.symm
  have e2 : f1 = f2 := a.fin.trans b.fin.symm
  have e3 : r1 = r2 := sorted_perm a.asc b.asc (a.perm.trans b.perm.symm)
  rw [e1, e2, e3]
theorem le_rows {L : List (Addr × RowM)} (h : (L.map fun p => ((p.1, p.2.key) : NS.Row)).Pairwise (fun x y => NS.rowLe x y = true)) : (L.map (·.2)).Pairwise rowLeM := by
  refine List.pairwise_map.mpr ((List.pairwise_map.mp h).imp fun {x y} q => ?_)
  unfold NS.rowLe at q
  rw [PySem.W.dataLe_eq] at q
  have q' : (!PySem.W.dataLt y.2.key.data x.2.key.data) = true := q
  simpa using q'
theorem as_rowsA : ∀ {L : List NS.Row} {T : List (Addr × RowM)}, L.Perm (T.map fun p => (p.1, p.2.key)) → ∃ U : List (Addr × RowM), L = U.map (fun p => (p.1, p.2.key)) ∧ U.Perm T := fun h => perm_map_inv h
abbrev sRenD : Stmt := topS 26
abbrev nRd : List Str := ["deed", "names", "word", "other", "letter"]
theorem scRenD : FnScope nRd ["deed", "names"] (defScope sRenD) := ⟨rfl, rfl, rfl, by decide +kernel, rfl, by decide +kernel, by decide +kernel⟩
def spRenD : Sp := fun vs H Q _ => ∃ (q dd : Addr) (d : Deed) (ns : List (Str × Str)), vs = [.ref q, .ref dd] ∧ H q = some (.tup (d.signs.map V.str)) ∧ H dd = some (.dK (kvS ns)) ∧
  ∀ H' q', Same H H' → H' q' = some (.tup ((renD ns d).signs.map V.str)) → Q (.ref q') H'
section
variable {P : Program} {w : World} {K : PySem.W.Frag} {mg : Str → Option Value} {base : Heap} {fX : Addr} {dX : FuncData}
theorem ok_RenD {f : Addr} {fd : FuncData} {k : Nat} (F : Fun K "renamed_deed" "renamed_deed" sRenD f fd) (W : TxtX K mg fX dX) : FnOk P w K mg base CX0 (k + 2) f fd ["deed", "names"] spRenD := by
  have GX : FnOk P w K mg base CX0 (k + 1) fX dX ["word"] spIsEx := ok_IsEx W.X W.E
  refine F.ok scRenD (fun vs H Q E h => ?_) (fun cdv A outer s H vs Q E hr h => ?_)
  · obtain ⟨q, dd, d, ns, rfl, _⟩ := h
    rfl
  · obtain ⟨q, dd, d, ns, rfl, eq, ed, qq⟩ := h
    have hu := hr.units
    have hu1 := Nat.lt_of_le_of_lt (Nat.add_le_add_left (by decide : 1 ≤ 64) _) hu
    refine ⟨_, pss_cons (ps_if (pt_not (pt_val (pe_call GX hr (by rfl) W.gX W.X.kp W.bX .nil pass0 (pa_cons (pe_ix (show IxR _ (rIxT K) from ix_tup) (pv 0) pe_int (fun _ _ => rfl)) pa_nil)))) (pss_one (ps_ret (pv 0))) pss_nil)
      (pss_cons (ps_asg (pv 0) (pg_tup rfl (pgs_cons (pg_name (i := 2) scRenD.nd rfl (.inl rfl)) (pgs_cons (pg_name (i := 3) scRenD.nd rfl (.inl rfl)) (pgs_cons (pg_name (i := 4) scRenD.nd rfl (.inl rfl)) pgs_nil)))))
      (pss_one (ps_ret (pe_tup (pa_cons (pv 2) (pa_cons (pe_dget2 hu1 (pv 1) (pv 3) (pv 3) ⟨rfl, by rfl, rfl, rfl⟩) (pa_cons (pv 4) pa_nil))))))), ?_⟩
    cases d with
    | step =>
      refine ⟨_, rfl, q, _, 0, .str "step", rfl, rfl, SqT.of (xs := [.str "step"]) eq, atI_nat (j := 0) rfl, .str "step", rfl, rfl, fun H' s' => ⟨_, rfl, ?_⟩⟩
      rw [ex_step]
      exact iteT ⟨_, rfl, qq H' q s' (s' _ _ eq)⟩
    | ex b n l =>
      refine ⟨_, rfl, q, _, 0, .str (wordOf b), rfl, rfl, SqT.of (xs := [.str (wordOf b), .str n, .str l]) eq, atI_nat (j := 0) rfl, .str (wordOf b), rfl, rfl, fun H' s' => ⟨_, rfl, ?_⟩⟩
      rw [ex_word]
      refine iteF ⟨_, rfl, q, _, rfl, SqT.of (s' _ _ eq), rfl, _, _, rfl, _, _, rfl, _, _, rfl, rfl, ?_⟩
      have ed' := s' _ _ ed
      refine ⟨_, rfl, _, rfl, dd, rfl, .inl ⟨_, .inl ed'⟩, _, rfl, _, rfl, _, DGet.k (k := Sum.inr n) ed', _, rfl, by show 3 ≤ sizeLine; decide, fun t nt => ?_⟩
      rw [nu_get]
      exact qq _ t (s'.trans (same_upd nt)) upd_same
end
end K55
/-! with_neighbours_named, _law_new -/
namespace K55
open PySem PySem.Spec PyProof.Rows L2 WD NS MC GL
open C8 (pss_cut tCut)
abbrev sWNN : Stmt := topS 25
abbrev nWn : List Str := ["machine", "names", "size", "finals", "transitions", "renamed", "before", "deed", "behind"]
theorem scWNN : FnScope nWn ["machine", "names"] (defScope sWNN) := ⟨rfl, rfl, rfl, by decide +kernel, rfl, by decide +kernel, by decide +kernel⟩
def spNew : Sp := fun vs H Q _ => ∃ (a dd : Addr) (m : MachM) (ns : List (Str × Str)), vs = [.ref a, .ref dd] ∧ Kz H (.ref a) m.key ∧ m.Ok ∧ H dd = some (.dK (kvS ns)) ∧ Nms ns ∧
  ∀ H' p (m' : MachM), Same H H' → H p = none → NewOf ns m m' → Kz H' (.ref p) m'.key → Q (.ref p) H'
structure TxtD3 (K : PySem.W.Frag) (mg : Str → Option Value) (fD : Addr) (dD : FuncData) : Prop where
  D : Fun K "renamed_deed" "renamed_deed" sRenD fD dD
  bD : L2.Binds K dD ["deed", "names"] []
  gD : mg "renamed_deed" = some (.ref fD)
theorem alike_rowsA {L : List (Addr × RowM)} : PySem.W.AllAlike ((L.map fun p => ((p.1, p.2.key) : NS.Row)).map fun p => p.2.data) := by
  intro d hd e he
  obtain ⟨p, hp, rfl⟩ := List.mem_map.mp hd
  obtain ⟨q, hq, rfl⟩ := List.mem_map.mp he
  obtain ⟨x, _, rfl⟩ := List.mem_map.mp hp
  obtain ⟨y, _, rfl⟩ := List.mem_map.mp hq
  exact row_alike x.2 y.2
theorem sortable_rowsA {L : List (Addr × RowM)} : PySem.W.Sortable ((L.map fun p => ((p.1, p.2.key) : NS.Row)).map fun p => p.2.data) := by
  refine .inl fun d hd => ?_
  obtain ⟨p, hp, rfl⟩ := List.mem_map.mp hd
  obtain ⟨x, _, rfl⟩ := List.mem_map.mp hp
  exact ⟨.int x.2.before, [x.2.deed.key.data, .int x.2.after], rfl⟩
section
variable {P : Program} {w : World} {K : PySem.W.Frag} {mg : Str → Option Value} {base : Heap} {fX fD : Addr} {dX dD : FuncData}
theorem ok_WNN {f : Addr} {fd : FuncData} {k : Nat} (F : Fun K "with_neighbours_named" "with_neighbours_named" sWNN f fd) (TS : TxtS mg) (W : TxtX K mg fX dX) (D : TxtD3 K mg fD dD) : FnOk P w K mg base CX0 (k + 3) f fd ["machine", "names"] spNew := by
  have GD : FnOk P w K mg base CX0 (k + 2) fD dD ["deed", "names"] spRenD := ok_RenD D.D W
  refine F.ok scWNN (fun vs H Q E h => ?_) (fun cdv A outer s H vs Q E hr h => ?_)
  · obtain ⟨a, dd, m, ns, rfl, _⟩ := h
    rfl
  · obtain ⟨a, dd, m, ns, rfl, hm, ok, edd, nms, q⟩ := h
    have hu := hr.units
    refine ⟨_, pss_cut (ps_asg (pv 0) (pg_tup rfl (pgs_cons (pg_name (i := 2) scWNN.nd rfl (.inl rfl)) (pgs_cons (pg_name (i := 3) scWNN.nd rfl (.inl rfl)) (pgs_cons (pg_name (i := 4) scWNN.nd rfl (.inl rfl)) pgs_nil)))))
      (pss_cut (ps_setLc (i := 5) (own := [("before", 6), ("deed", 7), ("behind", 8)]) (g := gTup K 3 (gCons (gName 6) (gCons (gName 7) (gCons (gName 8) gNil)))) (tt := tYes) (te := tTup (tCons (tVar 6) (tCons (tCall spRenD [] E0 (tCons (tVar 7) (tCons (tVar 1) tNil))) (tCons (tVar 8) tNil)))) rfl scWNN.nd rfl rfl (sw_true rfl rfl rfl (by decide +kernel))
        (pi_tup (pv 4)) (blkOk_by (own := [("before", 6), ("deed", 7), ("behind", 8)]) (N := nWn) (sc := defScope sWNN) (by decide +kernel))
        (fun _ _ _ _ _ => pg_tup rfl (pgs_cons (pg_name (i := 6) scWNN.nd rfl (.inl rfl)) (pgs_cons (pg_name (i := 7) scWNN.nd rfl (.inl rfl)) (pgs_cons (pg_name (i := 8) scWNN.nd rfl (.inl rfl)) pgs_nil))))
        (fun _ _ _ _ _ => pts_nil)
        (fun _ _ _ _ _ => pe_tup (pa_cons (pv 6) (pa_cons (pe_call GD hr (by rfl) D.gD D.D.kp D.bD .nil pass0 (pa_cons (pv 7) (pa_cons (pv 1) pa_nil))) (pa_cons (pv 8) pa_nil)))))
      (pss_one (ps_ret (pe_tup (pa_cons (pv 2) (pa_cons (pv 3) (pa_cons (pe_callTy call_tuple_of (by rfl) TS.tuple (by decide +kernel) (pa_cons (pe_callB (NS.cr_sortedL rfl hu) (by rfl) TS.sorted (by decide +kernel) (pa_cons (pv 5) pa_nil)) pa_nil)) pa_nil))))))), ?_⟩
    obtain ⟨M⟩ := mach_at hm
    have lx : M.xs.length = m.rows.length := by
      have z := kz_len M.all
      rw [List.length_map] at z
      exact z
    refine ⟨fun σ' H' => σ' = [some (.ref a), some (.ref dd), some (.int m.size), some (.ref M.f), some (.ref M.t), none, none, none, none] ∧ H' = H, ?_, ?_⟩
    · exact ⟨_, rfl, a, _, rfl, SqT.of M.top, rfl, _, _, rfl, _, _, rfl, _, _, rfl, rfl, rfl, rfl⟩
    rintro σ1 H1 ⟨rfl, rfl⟩
    refine ⟨fun σ' H' => ∃ (C : Addr) (u6 u7 u8 : Option V) (L : List (Addr × RowM)), σ' = [some (.ref a), some (.ref dd), some (.int m.size), some (.ref M.f), some (.ref M.t), some (.ref C), u6, u7, u8] ∧ Same H1 H' ∧ H' C = some (.lst (L.map fun p => V.ref p.1)) ∧ L.map (·.2) = m.rows.map (renR ns) ∧ ∀ p ∈ L, Kz H' (.ref p.1) p.2.key, ?_, ?_⟩
    · refine ⟨_, rfl, M.t, rfl, ⟨_, SqT.of M.row⟩, fun C nC => ?_⟩
      have kC := same_upd (o := .lst []) nC
      refine lc_tup (xs := M.xs) (fun i H' => Same H1 H' ∧ ∃ L : List (Addr × RowM), H' C = some (.lst (L.map fun p => V.ref p.1)) ∧ L.map (·.2) = (m.rows.take i).map (renR ns) ∧ ∀ p ∈ L, Kz H' (.ref p.1) p.2.key) ⟨kC, [], upd_same, rfl, fun _ z => nomatch z⟩ (fun i H' _ z => SqT.of (z.1 _ _ M.row)) ?_ ?_
      · rintro i v H2 hv ⟨s2, L, eL, mL, kL⟩
        obtain ⟨r, hr', ra, dv, rfl, er, kd⟩ := row_at M.all hv
        obtain ⟨qd, rfl, ed⟩ := deed_at kd
        refine ⟨ra, _, rfl, SqT.of (s2 _ _ er), rfl, _, _, rfl, _, _, rfl, _, _, rfl, rfl, rfl, tYes_ite ?_⟩
        refine ⟨_, rfl, _, rfl, _, rfl, qd, dd, r.deed, ns, rfl, s2 _ _ ed, s2 _ _ edd, fun H3 q3 s3 e3 => ⟨_, rfl, by show 3 ≤ sizeLine; decide, fun t nt => ?_⟩⟩
        have kt := same_upd (o := .tup [.int r.before, .ref q3, .int r.after]) nt
        have s34 := s3.trans kt
        have eL' := s34 _ _ eL
        have sT : SameT H2 (upd (upd H3 t (.tup [.int r.before, .ref q3, .int r.after])) C (.lst (L.map (fun p => V.ref p.1) ++ [.ref t]))) := (SameT.of s34).trans (SameT.lst eL')
        have sU : SameT (upd H3 t (.tup [.int r.before, .ref q3, .int r.after])) (upd (upd H3 t (.tup [.int r.before, .ref q3, .int r.after])) C (.lst (L.map (fun p => V.ref p.1) ++ [.ref t]))) := SameT.lst eL'
        refine ⟨_, eL', ?_, same_set (s2.trans s34) nC, L ++ [(t, renR ns r)], ?_, ?_, fun p hp => ?_⟩
        · have z := congrArg List.length mL
          have := ok.r3
          rw [List.length_map, List.length_map, List.length_take] at z
          rw [List.length_map, sizeLine_eq]
          omega
        · rw [upd_same, List.map_append]
          rfl
        · rw [List.map_append, mL, List.take_succ, hr', Option.toList_some, List.map_append]
          rfl
        · rcases List.mem_append.mp hp with z | z
          · exact Kz.tups sT _ _ (kL p z)
          · rw [List.mem_singleton.mp z]
            exact .tup (sU _ _ upd_same) (.cons (.int _) (.cons (Kz.tups ((SameT.of kt).trans sU) _ _ (deed_kz e3)) (.cons (.int _) .nil)))
      · rintro H2 ⟨s2, L, eL, mL, kL⟩
        rw [lx, List.take_length] at mL
        exact ⟨C, _, _, _, L, rfl, s2, eL, mL, kL⟩
    rintro σ2 H2 ⟨C, u6, u7, u8, L, rfl, s2, eL, mL, kL⟩
    have lL : L.length < 64 := by
      have z := congrArg List.length mL
      have := ok.r3
      rw [List.length_map, List.length_map] at z
      omega
    have eL' : H2 C = some (.lst ((L.map fun p => ((p.1, p.2.key) : NS.Row)).map fun p => V.ref p.1)) := by
      rw [List.map_map]
      exact eL
    refine ⟨_, rfl, _, rfl, _, rfl, C, L.map fun p => (p.1, p.2.key), rfl, SqL.of eL', by rw [List.length_map]; exact lL, fun p hp => ?_, alike_rowsA, sortable_rowsA, fun L1 p3 pm pw n3 => ?_⟩
    · obtain ⟨x, hx, rfl⟩ := List.mem_map.mp hp
      exact ⟨kL x hx, by show x.2.key.depth ≤ 8; rw [row_depth]; decide⟩
    obtain ⟨U, rfl, pU⟩ := as_rowsA pm
    have k3 := same_upd (o := .lst ((U.map fun p => ((p.1, p.2.key) : NS.Row)).map fun r => V.ref r.1)) n3
    refine ⟨p3, _, rfl, .inl ⟨SqL.of upd_same, fun p4 n4 => ⟨by show 3 ≤ sizeLine; decide, fun p5 n5 => ?_⟩⟩⟩
    have k4 := same_upd (o := .tup ((U.map fun p => ((p.1, p.2.key) : NS.Row)).map fun r => V.ref r.1)) n4
    have k5 := same_upd (o := .tup [.int m.size, .ref M.f, .ref p4]) n5
    have ss := s2.trans (k3.trans k4)
    refine q _ p5 ⟨m.size, m.finals, U.map (·.2)⟩ (ss.trans k5) (ss.free n5) ⟨rfl, rfl, by rw [← mL]; exact pU.map _, le_rows pw⟩ ?_
    have kU := kzL fun p hp => Kz.same (k3.trans (k4.trans k5)) _ _ (kL p (pU.mem_iff.mp hp))
    refine .tup upd_same (.cons (.int _) (.cons (.tup ((ss.trans k5) _ _ M.fin) (kz_ints _)) (.cons (.tup (k5 _ _ upd_same) ?_) .nil)))
    have e : (U.map fun p => ((p.1, p.2.key) : NS.Row)).map (fun r => V.ref r.1) = U.map fun p => V.ref p.1 := by
      rw [List.map_map]
      rfl
    rw [← e] at kU
    exact kU
end
end K55
/-! Networks as data: names, links, trees. -/
namespace K55
open PySem PySem.Spec PyProof.Rows L2 WD NS MC GL
structure NetM where
  ms : List (Str × MachM)
  ls : List (Str × Str)
def NetM.names (N : NetM) : List Str := N.ms.map (·.1)
def pairKey (p : Str × MachM) : NestedKey := .tup [.text p.1, p.2.key]
def linkKey (l : Str × Str) : NestedKey := .tup [.text l.1, .text l.2]
def NetM.key (N : NetM) : NestedKey := .tup [.tup (N.ms.map pairKey), .tup (N.ls.map linkKey)]
abbrev sLt (x y : Str) : Prop := x.cps.toList < y.cps.toList
abbrev linkLt (a b : Str × Str) : Prop := PySem.W.dataLt (linkKey a).data (linkKey b).data = true
abbrev Linked (ls : List (Str × Str)) (a b : Str) : Prop := (a, b) ∈ ls ∨ (b, a) ∈ ls
theorem Linked.symm {ls : List (Str × Str)} {a b : Str} (h : Linked ls a b) : Linked ls b a := Or.symm h
inductive Conn (ls : List (Str × Str)) : Str → Str → Prop
  | refl (a : Str) : Conn ls a a
  | step {a b c : Str} : Linked ls a b → Conn ls b c → Conn ls a c
theorem Conn.trans {ls : List (Str × Str)} {a b c : Str} (h : Conn ls a b) (g : Conn ls b c) : Conn ls a c := by
  induction h with
  | refl => exact g
  | step l _ ih => exact .step l (ih g)
theorem Conn.one {ls : List (Str × Str)} {a b : Str} (h : Linked ls a b) : Conn ls a b := .step h (.refl b)
theorem Conn.symm {ls : List (Str × Str)} {a b : Str} (h : Conn ls a b) : Conn ls b a := by
  induction h with
  | refl => exact .refl _
  | step l _ ih => exact ih.trans (.one l.symm)
theorem Conn.mono {ls ms : List (Str × Str)} (s : ∀ l ∈ ls, l ∈ ms) {a b : Str} (h : Conn ls a b) : Conn ms a b := by
  induction h with
  | refl => exact .refl _
  | step l _ ih => exact .step (l.imp (s _) (s _)) ih
/-- a set that no link leaves holds what is connected -/
theorem Conn.stays {ls : List (Str × Str)} {S : Str → Prop} (c : ∀ a b, Linked ls a b → S a → S b) {a b : Str} (h : Conn ls a b) (s : S a) : S b := by
  induction h with
  | refl => exact s
  | step l _ ih => exact ih (c _ _ l s)
/-- each link is the only way between its ends -/
def Acyc (ls : List (Str × Str)) : Prop := ∀ l ∈ ls, ¬ Conn (ls.filter fun k => decide (k ≠ l)) l.1 l.2
theorem Acyc.sub {ls ms : List (Str × Str)} (h : Acyc ms) (s : ∀ l ∈ ls, l ∈ ms) : Acyc ls := fun l hl c => h l (s l hl) (c.mono fun k hk => by
  rw [List.mem_filter] at hk ⊢
  exact ⟨s k hk.1, hk.2⟩)
/-- what is connected with one link more -/
theorem Conn.snoc {P : List (Str × Str)} {a b x y : Str} : Conn (P ++ [(a, b)]) x y ↔ Conn P x y ∨ (Conn P x a ∧ Conn P b y) ∨ (Conn P x b ∧ Conn P a y) := by
  have up : ∀ {u v : Str}, Conn P u v → Conn (P ++ [(a, b)]) u v := fun h => h.mono fun l hl => List.mem_append_left _ hl
  have e : Conn (P ++ [(a, b)]) a b := .one (.inl (List.mem_append_right _ List.mem_cons_self))
  constructor
  · intro h
    induction h with
    | refl => exact .inl (.refl _)
    | @step u v w l _ ih =>
      have l' : Linked P u v ∨ (u = a ∧ v = b) ∨ (u = b ∧ v = a) := by
        rcases l with l | l
        · rcases List.mem_append.mp l with l | l
          · exact .inl (.inl l)
          · cases List.mem_singleton.mp l
            exact .inr (.inl ⟨rfl, rfl⟩)
        · rcases List.mem_append.mp l with l | l
          · exact .inl (.inr l)
          · cases List.mem_singleton.mp l
            exact .inr (.inr ⟨rfl, rfl⟩)
      rcases l' with l' | ⟨rfl, rfl⟩ | ⟨rfl, rfl⟩
      · have s := Conn.one l'
        rcases ih with c | ⟨c, d⟩ | ⟨c, d⟩
        · exact .inl (s.trans c)
        · exact .inr (.inl ⟨s.trans c, d⟩)
        · exact .inr (.inr ⟨s.trans c, d⟩)
      · rcases ih with c | ⟨c, d⟩ | ⟨c, d⟩
        · exact .inr (.inl ⟨.refl _, c⟩)
        · exact .inr (.inl ⟨.refl _, d⟩)
        · exact .inl d
      · rcases ih with c | ⟨c, d⟩ | ⟨c, d⟩
        · exact .inr (.inr ⟨.refl _, c⟩)
        · exact .inl d
        · exact .inr (.inr ⟨.refl _, d⟩)
  · rintro (c | ⟨c, d⟩ | ⟨c, d⟩)
    · exact up c
    · exact (up c).trans (e.trans (up d))
    · exact (up c).trans (e.symm.trans (up d))
structure NetM.Ok (N : NetM) : Prop where
  n0 : 0 < N.ms.length
  n6 : N.ms.length ≤ 6
  wd : ∀ p ∈ N.ms, Wd p.1 ∧ p.2.Ok
  asc : N.names.Pairwise sLt
  l1 : ∀ l ∈ N.ls, l.1 ∈ N.names ∧ l.2 ∈ N.names ∧ sLt l.1 l.2
  l2 : N.ls.Pairwise linkLt
  lf : N.ls.length < 30
  near : ∀ p ∈ N.ms, ∀ r ∈ p.2.rows, ∀ b x l, r.deed = .ex b x l → Linked N.ls p.1 x
  tree : Acyc N.ls
theorem sLt_irr (x : Str) : ¬ sLt x x := List.lt_irrefl _
theorem sLt_trans {x y z : Str} (a : sLt x y) (b : sLt y z) : sLt x z := List.lt_trans a b
theorem NetM.Ok.once {N : NetM} (ok : N.Ok) : N.names.Nodup := ok.asc.imp fun h e => by
  subst e
  exact sLt_irr _ h
theorem NetM.Ok.wdn {N : NetM} (ok : N.Ok) {x : Str} (h : x ∈ N.names) : Wd x := by
  obtain ⟨p, hp, rfl⟩ := List.mem_map.mp h
  exact (ok.wd p hp).1
theorem NetM.Ok.lonce {N : NetM} (ok : N.Ok) : N.ls.Nodup := ok.l2.imp fun {a b} h e => by
  subst e
  have h' : lexI (PySem.W.keyToks (linkKey a).data) (PySem.W.keyToks (linkKey a).data) = true := h
  rw [lex_asym _ _ h'] at h'
  exact nomatch h'
/-- the ends of a link are not connected by those before it -/
theorem NetM.Ok.pre {N : NetM} (ok : N.Ok) {pre post : List (Str × Str)} {l : Str × Str} (e : N.ls = pre ++ l :: post) : ¬ Conn pre l.1 l.2 := fun c => by
  have nd := ok.lonce
  refine ok.tree l (by rw [e]; exact List.mem_append_right _ List.mem_cons_self) (c.mono fun k hk => ?_)
  rw [List.mem_filter, decide_eq_true_eq]
  refine ⟨by rw [e]; exact List.mem_append_left _ hk, fun z => ?_⟩
  rw [e, List.nodup_append] at nd
  exact nd.2.2 k hk k (by rw [z]; exact List.mem_cons_self) rfl
/-! groups: a name to each name -/
/-- the groups of names are what the links connect -/
structure Grp (names : List Str) (ls : List (Str × Str)) (g : Str → Str) : Prop where
  same : ∀ x ∈ names, ∀ y ∈ names, (g x = g y ↔ Conn ls x y)
def regroup (g : Str → Str) (old new : Str) (x : Str) : Str := if g x = old then new else g x
theorem Grp.new {names : List Str} : Grp names [] id := ⟨fun x _ y _ => ⟨fun e => by rw [show x = y from e]; exact .refl _, fun c => by
  cases c with
  | refl => rfl
  | step l _ => rcases l with l | l <;> exact absurd l List.not_mem_nil⟩⟩
theorem Grp.link {names : List Str} {ls : List (Str × Str)} {g : Str → Str} {a b : Str} (G : Grp names ls g) (ha : a ∈ names) (hb : b ∈ names) : Grp names (ls ++ [(a, b)]) (regroup g (g a) (g b)) := by
  refine ⟨fun x hx y hy => ?_⟩
  rw [Conn.snoc, ← G.same x hx y hy, ← G.same x hx a ha, ← G.same b hb y hy, ← G.same x hx b hb, ← G.same a ha y hy]
  unfold regroup
  by_cases c : g x = g a <;> by_cases d : g y = g a
  · rw [if_pos c, if_pos d, c, d]
    simp
  · rw [if_pos c, if_neg d, c]
    constructor
    · intro e
      exact .inr (.inl ⟨rfl, e⟩)
    · rintro (e | ⟨_, e⟩ | ⟨e, f⟩)
      · exact absurd e.symm d
      · exact e
      · exact absurd f.symm d
  · rw [if_neg c, if_pos d, d]
    constructor
    · intro e
      exact .inr (.inr ⟨e, rfl⟩)
    · rintro (e | ⟨e, _⟩ | ⟨e, _⟩)
      · exact absurd e c
      · exact absurd e c
      · exact e
  · rw [if_neg c, if_neg d]
    constructor
    · intro e
      exact .inl e
    · rintro (e | ⟨e, _⟩ | ⟨_, e⟩)
      · exact e
      · exact absurd e c
      · exact absurd e.symm d
end K55
/-! Networks over the abstract heap; is_row, is_ascending, are_names, ordered_link, names_in. -/
namespace K55
open PySem PySem.Spec PyProof.Rows L2 WD NS MC GL
open C8 (pss_cut tCut)
structure NetAt (H : Hp) (a : Addr) (N : NetM) where
  A : Addr
  B : Addr
  xs : List V
  zs : List V
  top : H a = some (.tup [.ref A, .ref B])
  ea : H A = some (.tup xs)
  all : KzAll H xs (N.ms.map pairKey)
  eb : H B = some (.tup zs)
  lks : KzAll H zs (N.ls.map linkKey)
theorem net_at {H : Hp} {a : Addr} {N : NetM} (h : Kz H (.ref a) N.key) : Nonempty (NetAt H a N) := by
  cases h with
  | tup e h =>
    cases h with
    | cons h1 h =>
      cases h with
      | cons h2 h =>
        cases h
        obtain ⟨A, xs, rfl, ea, all⟩ := kz_tup h1
        obtain ⟨B, zs, rfl, eb, lks⟩ := kz_tup h2
        exact ⟨⟨A, B, xs, zs, e, ea, all, eb, lks⟩⟩
theorem pair_at {H : Hp} {xs : List V} {ps : List (Str × MachM)} (all : KzAll H xs (ps.map pairKey)) {i : Nat} {v : V} (h : xs[i]? = some v) :
    ∃ p, ps[i]? = some p ∧ ∃ q b, v = .ref q ∧ H q = some (.tup [.str p.1, .ref b]) ∧ Kz H (.ref b) p.2.key := by
  obtain ⟨k, hk, z⟩ := kz_get all i v h
  rw [List.getElem?_map] at hk
  obtain ⟨p, e, rfl⟩ := Option.map_eq_some_iff.mp hk
  obtain ⟨q, ys, rfl, eq, hs⟩ := kz_tup z
  cases hs with
  | cons h1 hs =>
    cases hs with
    | cons h2 hs =>
      cases hs
      cases kz_text h1
      obtain ⟨b, us, rfl, _, _⟩ := kz_tup h2
      exact ⟨p, e, q, b, rfl, eq, h2⟩
theorem link_at {H : Hp} {xs : List V} {ls : List (Str × Str)} (all : KzAll H xs (ls.map linkKey)) {i : Nat} {v : V} (h : xs[i]? = some v) :
    ∃ l, ls[i]? = some l ∧ ∃ q, v = .ref q ∧ H q = some (.tup [.str l.1, .str l.2]) := by
  obtain ⟨k, hk, z⟩ := kz_get all i v h
  rw [List.getElem?_map] at hk
  obtain ⟨l, e, rfl⟩ := Option.map_eq_some_iff.mp hk
  obtain ⟨q, ys, rfl, eq, hs⟩ := kz_tup z
  cases hs with
  | cons h1 hs =>
    cases hs with
    | cons h2 hs =>
      cases hs
      cases kz_text h1
      cases kz_text h2
      exact ⟨l, e, q, rfl, eq⟩
theorem NetAt.lx {H : Hp} {a : Addr} {N : NetM} (M : NetAt H a N) : M.xs.length = N.ms.length := by
  have z := kz_len M.all
  rw [List.length_map] at z
  exact z
theorem NetAt.lz {H : Hp} {a : Addr} {N : NetM} (M : NetAt H a N) : M.zs.length = N.ls.length := by
  have z := kz_len M.lks
  rw [List.length_map] at z
  exact z
theorem NetAt.same {H H' : Hp} {a : Addr} {N : NetM} (M : NetAt H a N) (s : Same H H') : Kz H' (.ref a) N.key := .tup (s _ _ M.top) (.cons (.tup (s _ _ M.ea) (KzAll.same s _ _ M.all)) (.cons (.tup (s _ _ M.eb) (KzAll.same s _ _ M.lks)) .nil))
/-- a list or a tuple -/
abbrev SqA (K : PySem.W.Frag) (H : Hp) (a : Addr) (xs : List V) : Prop := SqL K H a xs ∨ SqT K H a xs
def rIxA (K : PySem.W.Frag) : R2 := fun x y H Q => rIxL K x y H Q ∨ rIxT K x y H Q
theorem ix_any {X : Cx} : IxR X (rIxA X.K) := ix_list.or ix_tup
theorem rIxA_of {K : PySem.W.Frag} {H : Hp} {a : Addr} {xs : List V} {i : Int} {v : V} {Q : VK} (s : SqA K H a xs) (e : atI xs i = some v) (q : Q v H) : rIxA K (.ref a) (.int i) H Q := by
  rcases s with s | s
  · exact .inl ⟨a, xs, i, v, rfl, rfl, s, e, q⟩
  · exact .inr ⟨a, xs, i, v, rfl, rfl, s, e, q⟩
/-! is_row -/
abbrev sIsRow : Stmt := topS 9
theorem scIsRow : FnScope ["value", "size"] ["value", "size"] (defScope sIsRow) := ⟨rfl, rfl, rfl, by decide +kernel, rfl, by decide +kernel, by decide +kernel⟩
def spIsRow (K : PySem.W.Frag) : Sp := fun vs H Q _ => ∃ (a : Addr) (xs : List V) (n : Int), vs = [.ref a, .int n] ∧ H a = some (.tup xs) ∧ ((xs.length : Nat) : Int) = n ∧ Q (.bl true) H
section
variable {P : Program} {w : World} {K : PySem.W.Frag} {mg : Str → Option Value} {base : Heap}
theorem ok_IsRow {f : Addr} {fd : FuncData} {k : Nat} (F : Fun K "is_row" "is_row" sIsRow f fd) (TN : TxtNm K mg) : FnOk P w K mg base CX0 (k + 1) f fd ["value", "size"] (spIsRow K) := by
  refine F.ok scIsRow (fun vs H Q E h => ?_) (fun cdv A outer s H vs Q E hr h => ?_)
  · obtain ⟨a, xs, n, rfl, _⟩ := h
    rfl
  · obtain ⟨a, xs, n, rfl, ea, en, q⟩ := h
    refine ⟨_, pss_one (ps_ret (pe_and (pe_callB call_isi (by rfl) TN.isi (by decide +kernel) (pa_cons (pv 0) (pa_cons (pe_bltn (by rfl) TN.tuple (by decide +kernel) (v := .ty "tuple") rfl) pa_nil)))
      (pe_one (pe_cmpR op_eq (pe_callB call_len_seq (by rfl) TN.len PySem.boot_len (pa_cons (pv 0) pa_nil)) (pv 1) (nomark _))))), ?_⟩
    refine ⟨_, rfl, _, _, _, .type "tuple", true, rfl, .ty _, .base (.tup ea), kit_ty (by decide +kernel), _, rfl, iteT ?_⟩
    refine ⟨_, rfl, a, _, rfl, .inr (SqT.of ea), _, rfl, rfl, ?_⟩
    rw [en, decide_eq_true rfl]
    exact q
end
/-! is_ascending -/
abbrev sAsc : Stmt := topS 13
theorem scAsc : FnScope ["parts", "at"] ["parts"] (defScope sAsc) := ⟨rfl, rfl, rfl, by decide +kernel, rfl, by decide +kernel, by decide +kernel⟩
def spAsc (K : PySem.W.Frag) : Sp := fun vs H Q _ => ∃ (a : Addr) (xs : List V) (ks : List NestedKey), vs = [.ref a] ∧ SqA K H a xs ∧ KzAll H xs ks ∧ xs.length < 64 ∧ (∀ j ∈ ks, j ≠ .none ∧ j.depth ≤ 8) ∧
  ks.Pairwise (fun j k => PySem.W.alike j.data k.data = true ∧ PySem.W.dataLt j.data k.data = true) ∧ Q (.bl true) H
section
variable {P : Program} {w : World} {K : PySem.W.Frag} {mg : Str → Option Value} {base : Heap}
theorem ok_Asc {f : Addr} {fd : FuncData} {k : Nat} (F : Fun K "is_ascending" "is_ascending" sAsc f fd) (TN : TxtNm K mg) (rg : mg "range" = none) : FnOk P w K mg base CX0 (k + 1) f fd ["parts"] (spAsc K) := by
  refine F.ok scAsc (fun vs H Q E h => ?_) (fun cdv A outer s H vs Q E hr h => ?_)
  · obtain ⟨a, xs, ks, rfl, _⟩ := h
    rfl
  · obtain ⟨a, xs, ks, rfl, sq, all, few, dep, asc, q⟩ := h
    have hu := hr.units
    refine ⟨_, pss_cons (ps_for PassesOwn.never rfl (pi_range2 rfl rg (pa_cons pe_int (pa_cons (pe_callB call_len_seq (by rfl) TN.len PySem.boot_len (pa_cons (pv 0) pa_nil)) pa_nil))) (pg_name (i := 1) scAsc.nd rfl (.inl rfl))
        (pss_one (ps_if (pt_not (pt_cmpR (NS.op_ltK hu) (pe_ix (show IxR _ (rIxA K) from ix_any) (pv 0) (pe_op op_sub (pv 1) pe_int) (fun _ _ => rfl)) (pe_ix (show IxR _ (rIxA K) from ix_any) (pv 0) (pv 1) (fun _ _ => rfl)) (nomark _))) (pss_one (ps_ret pe_bl)) pss_nil)))
      (pss_one (ps_ret pe_bl)), ?_⟩
    refine ⟨_, rfl, a, xs, rfl, sq, 1, _, rfl, ⟨by decide, by decide, by omega, by omega⟩, ?_⟩
    have lk := kz_len all
    have en : (((xs.length : Nat) : Int) - 1).toNat = xs.length - 1 := by omega
    rw [en]
    refine for_range (lo := 1) (n := xs.length - 1) (fun i σ' H' => (∃ u, σ' = [some (.ref a), u]) ∧ H' = H) ⟨⟨none, rfl⟩, rfl⟩ ?_ (fun σ' H' z => by obtain ⟨_, rfl⟩ := z; exact q)
    rintro i σ' H' hi ⟨⟨u, rfl⟩, rfl⟩
    have h1 : i < xs.length := by omega
    have h2 : i + 1 < xs.length := by omega
    obtain ⟨j1, e1, k1⟩ := kz_get all i _ (List.getElem?_eq_getElem h1)
    obtain ⟨j2, e2, k2⟩ := kz_get all (i + 1) _ (List.getElem?_eq_getElem h2)
    have g1 : i < ks.length := by omega
    have g2 : i + 1 < ks.length := by omega
    have e1' : ks[i] = j1 := (List.getElem?_eq_some_iff.mp e1).2
    have e2' : ks[i + 1] = j2 := (List.getElem?_eq_some_iff.mp e2).2
    have lt := (List.pairwise_iff_getElem.mp asc) i (i + 1) g1 g2 (Nat.lt_succ_self i)
    rw [e1', e2'] at lt
    obtain ⟨nn, dd⟩ := dep j1 (List.mem_of_getElem? e1)
    refine ⟨_, rfl, _, rfl, _, _, rfl, rfl, rIxA_of sq (atI_nat (j := i) (v := xs[i]) ?_ |> fun z => (show (1 : Int) + i - 1 = i by omega) ▸ z) ?_⟩
    · exact List.getElem?_eq_getElem h1
    refine ⟨_, rfl, _, rfl, rIxA_of sq (atI_nat (j := i + 1) (v := xs[i + 1]) ?_ |> fun z => (show ((i + 1 : Nat) : Int) = 1 + i by omega) ▸ z) ⟨j1, j2, k1, k2, lt.1, nn, dd, _, rfl, ?_⟩⟩
    · exact List.getElem?_eq_getElem h2
    rw [lt.2]
    exact ifF rfl ⟨⟨_, rfl⟩, rfl⟩
end
end K55
/-! Set comprehensions whose parts are nested keys. -/
namespace NS
open PySem PySem.Spec PyProof.Rows L2
structure OkU (k : SetK) (P : Program) (w : World) : Prop where
  new : ∀ {H : Hp} {h : Heap} {a : Addr}, h.get? a = some (setObj w) → ObjOk P w H h a (k.o0 a)
  add : ∀ {X : Cx} {pins : List (Addr × Obj)} {s : Shared} {σ : L2.St} {H : Hp} {D : Addr} {y : V} {u : Value} {N : Hp → Prop} {E : Value → Shared → Prop}, X.prog = P → X.w = w → X.A.units + 64 < cLine → Inv X pins σ H s → RelV y u → k.put D y H N →
    wpAny (model X.prog X.w) X.A (call (.builtin "set.add") [.ref D, u]) (fun _ s1 => ∃ H1, Inv X pins σ H1 s1 ∧ N H1) E s
section
variable {X : Cx}
theorem sxu_run {k : SetK} (kk : OkU k X.prog X.w) (hu : X.A.units + 64 < cLine) {pins : List (Addr × Obj)} {s : Shared} {σ : L2.St} {H : Hp} {Q : VK} {elt tg iter : Expr} {ifs : List Expr} {scope : Scope} {own : List (Str × Nat)} {pos pos' : Pos} {wi : TI} {g : TG} {tt : TT} {te : TE} {use : Option (Value → Sem Unit)} {Qf : Value → Shared → Prop}
    (calm : X.calm = true) (nd : X.N.Nodup) (I : Inv X pins σ H s) (hi : PI X tg iter wi) (ok : BlkOk X.N X.env.scope scope own)
    (tgt : ∀ s H C cl fp, PG (blkOf X s H scope cl C fp) tg g) (tst : ∀ s H C cl fp, PTs (blkOf X s H scope cl C fp) ifs tt) (ele : ∀ s H C cl fp, PE (blkOf X s H scope cl C fp) elt te) (fold : ∀ x, foldedSetIterable iter X.env x = pure x)
    (h : tSx k wi g tt te (own.map (·.2)) σ H Q)
    (fin : ∀ D C s' m H', Inv X pins σ H' s' → Q (.ref D) H' → s'.heap.Ns C m → FpOk X pins H' C → compPost (model X.prog X.w) X.A X.xe use Qf (.ref D) C (.ok .next) s') :
    wpAny (model X.prog X.w) X.A (comprehension (.SetComp elt [⟨tg, iter, ifs, 0⟩] scope pos) scope X.env pos' (newSet (.type "set")) false (eval iter X.env) use) Qf X.xe s := by
  have cells : ∀ y ∈ scope.names, y.2 = .free → ∃ c, X.env.cells.lookup y.1 = some c := fun y hy e => (ok.free y hy e).elim (fun z => I.ok.has _ (.inl z)) fun z => I.ok.has _ (.inr z)
  refine wpAny_comprehension_free (use := use) rfl fold (closure_ok cells) ok.kind (fun y hy e => by rw [ok.uniq y hy, e]) (thn (hi.run pins s σ H _ I h) fun xv s1 hx => thn hx fun itv s2 h2 => ?_)
  obtain ⟨it, fp, tn, J, H2, rfl, I2, T, st2, f2, q⟩ := h2
  refine PpSet.newSet_ok (newEnv_comp ?_)
  obtain ⟨D, eD⟩ : ∃ D, D = s2.heap.objs.size := ⟨_, rfl⟩
  have nD : H2 D = none := I2.hok.fresh (Nat.le_of_eq eD.symm)
  obtain ⟨W, ⟨m0, w0⟩, turn⟩ := q D nD
  obtain ⟨s3, e3⟩ : ∃ s3 : Shared, s3 = { s2 with heap := s2.heap.push (setObj X.w) } := ⟨_, rfl⟩
  obtain ⟨H3, eH⟩ : ∃ H3, H3 = upd H2 D (k.o0 D) := ⟨_, rfl⟩
  have I3 : Inv X pins σ H3 s3 := by
    rw [e3, eH]
    exact I2.laid (t' := s2.toks) (fun b o e => Heap.get?_push_of_some _ e) (Nat.le_of_eq eD.symm) (kk.new (by rw [eD]; exact Heap.get?_push_size _ rfl))
  have keep3 : ∀ b o, s2.heap.get? b = some o → s3.heap.get? b = some o := fun b o e => by rw [e3]; exact Heap.get?_push_of_some _ e
  have f3 : ∀ b ∈ fp, FpOk X pins H3 b ∧ b < s3.heap.objs.size := fun b hb => by
    obtain ⟨o, e, _⟩ := T.obj _ _ st2 b hb
    have lt := Heap.lt_size e
    refine ⟨⟨?_, (f2 b hb).2⟩, Heap.lt_size (keep3 b o e)⟩
    rw [eH, upd_ne (by rw [eD]; exact Nat.ne_of_lt lt)]
    exact (f2 b hb).1
  have st3 : tn 0 s3.heap := T.keep _ _ _ st2 fun b _ o e => keep3 b o e
  have I4 := block_start I3 ok nd f3
  obtain ⟨cl, ecl⟩ : ∃ cl, cl = cellsFrom (s3.heap.objs.size + 1) scope.names (cloFrom X.env.cells scope.names []) := ⟨_, rfl⟩
  obtain ⟨C, eC⟩ : ∃ C, C = s3.heap.objs.size := ⟨_, rfl⟩
  obtain ⟨s4, e4⟩ : ∃ s4 : Shared, s4 = { s3 with heap := pushCells (s3.heap.push { cls := .type "dict", data := .dict #[] }) scope.names } := ⟨_, rfl⟩
  have st4 : tn 0 s4.heap := T.keep _ _ _ st3 fun b _ o e => by rw [e4]; exact pushCells_keeps _ _ _ _ (Heap.get?_push_of_some _ e)
  rw [← e4, ← ecl, ← eC] at I4
  rw [← eH] at w0
  have pg := tgt s3 H3 C cl fp
  have pt := tst s3 H3 C cl fp
  have pe := ele s3 H3 C cl fp
  have goal : codeAny (model X.prog X.w) X.A (.compStart (.SetComp elt [⟨tg, iter, ifs, 0⟩] scope pos) 0 (.ref it) (.ref D) (compEnvC scope cl C X.env)) (compPost (model X.prog X.w) X.A X.xe use Qf (.ref D) C) s4 := by
    have cL : (compEnvC scope cl C X.env).locals = C := rfl
    have none3 : ∀ b ∈ fp, H3 b = none := fun b hb => (f3 b hb).1.1
    have stand : ∀ {σ' : L2.St} {H' : Hp} {s' : Shared}, Inv (blkOf X s3 H3 scope cl C fp) [] σ' H' s' → (∀ b ∈ fp, H' b = none) → ∀ b ∈ fp, FpOk (blkOf X s3 H3 scope cl C fp) [] H' b := fun {σ' H' s'} J n b hb =>
      ⟨n b hb, (J.ok.exf b hb).1, J.ok.exfs b hb, .inl hb, fun x c e => (J.ok.exf b hb).2 x c e, fun p hp => absurd (show p ∈ ([] : List (Addr × Obj)) ++ [] from hp) (by simp)⟩
    have loop : codeAny (model X.prog X.w) X.A (.compLoop (.SetComp elt [⟨tg, iter, ifs, 0⟩] scope pos) 0 (.ref it) (.ref D) (compEnvC scope cl C X.env)) (compPost (model X.prog X.w) X.A X.xe use Qf (.ref D) C) s4 := by
      refine PpSet.compLoopS_any (fun n s' => ∃ i H', Inv (blkOf X s3 H3 scope cl C fp) [] (wipe σ (own.map (·.2))) H' s' ∧ tn i s'.heap ∧ (∀ b ∈ fp, H' b = none) ∧ W i n H') ?_ m0 ⟨0, H3, I4, st4, none3, w0⟩
      rintro n s5 ⟨i, H5, I5, st5, n5, w5⟩
      rcases turn i n H5 w5 with ⟨stop, qq⟩ | ⟨go, N, hN, step⟩
      · refine thnF (T.done (blkOf X s3 H3 scope cl C fp) rfl rfl rfl calm i [] s5 _ H5 (fun _ _ => False) I5 (stand I5 n5) st5 stop) fun r s6 z => ?_
        obtain ⟨rfl, I6⟩ := z
        have back : Inv X pins σ H5 s6 := I3.call' (ch := fp) I6.os I6.base I6.hok I6.bare fun b hb => let t := (f3 b hb).1.2; ⟨t.2.2.1, t.1, t.2.2.2.1, t.2.2.2.2⟩
        obtain ⟨m, hn, _⟩ := I6.loc
        exact fin D C s6 m H5 back qq hn (I3.fpOk (Nat.le_of_eq eC.symm) I6.free)
      · refine thnF (T.item (blkOf X s3 H3 scope cl C fp) rfl rfl rfl calm i [] s5 _ H5 (fun _ _ => False) I5 (stand I5 n5) st5 go) fun r s6 z => ?_
        obtain ⟨u, rfl, h6⟩ := z
        refine thnF h6 fun _ s7 z => ?_
        obtain ⟨x, H7, I7, r7, y7, st7, n7⟩ := z
        refine thnF (pg.run _ s7 _ H7 x u _ (I7.pinned (stand I7 n7) (T.obj _ _ st7)) r7 (step x H7 y7)) fun _ s8 z => ?_
        obtain ⟨σ8, H8, I8, w8, q8⟩ := z
        refine thnF (pt.run _ s8 σ8 H8 _ I8 q8) fun b s9 z => ?_
        obtain ⟨H9, I9, q9⟩ := z
        have next : ∀ {s' : Shared} {H' : Hp}, Inv (blkOf X s3 H3 scope cl C fp) ([] ++ pinsAt fp s7.heap) σ8 H' s' → N H' → ∃ m, m < n ∧ ∃ i H', Inv (blkOf X s3 H3 scope cl C fp) [] (wipe σ (own.map (·.2))) H' s' ∧ tn i s'.heap ∧ (∀ b ∈ fp, H' b = none) ∧ W i m H' := fun {s' H'} K2 hN' => by
          obtain ⟨m2, lt, w2⟩ := hN H' hN'
          have pinned : ∀ b ∈ fp, ∀ o, s7.heap.get? b = some o → s'.heap.get? b = some o ∧ H' b = none := fun b hb o e =>
            let z := K2.pin (b, o) (List.mem_append_right _ (List.mem_append_right _ (mem_pinsAt hb e)))
            ⟨z.1, z.2.1⟩
          refine ⟨m2, lt, i + 1, H', (K2.unpinned (pins := [])).weak (by rw [← w8, wipe_length]) (fun j v e => ?_), T.keep _ _ _ st7 fun b hb o e => (pinned b hb o e).1, fun b hb => ?_, w2⟩
          · rw [← w8] at e
            exact (wipe_some e).1
          · obtain ⟨o, e, _⟩ := T.obj _ _ st7 b hb
            exact (pinned b hb o e).2
        cases b with
        | false => exact (show _ from next I9 q9)
        | true =>
          refine thnF (pe.run _ s9 σ8 H9 _ I9 q9) fun v s10 z => ?_
          obtain ⟨y, H10, I10, r10, pq⟩ := z
          refine thnF (kk.add (X := blkOf X s3 H3 scope cl C fp) rfl rfl hu I10 r10 pq) fun _ s11 z => ?_
          obtain ⟨H11, I11, n11⟩ := z
          exact next I11 n11
    exact PpSet.codeAny_compStart_set loop (T.self X.A 0 _ _ _ st4 loop)
  subst eC ecl e4 e3 eD
  exact goal
/-- as a value -/
theorem pe_sxu {k : SetK} (kk : OkU k X.prog X.w) (hu : X.A.units + 64 < cLine) {elt tg iter : Expr} {ifs : List Expr} {scope : Scope} {own : List (Str × Nat)} {pos : Pos} {wi : TI} {g : TG} {tt : TT} {te : TE} (calm : X.calm = true) (nd : X.N.Nodup) (hi : PI X tg iter wi) (ok : BlkOk X.N X.env.scope scope own)
    (tgt : ∀ s H C cl fp, PG (blkOf X s H scope cl C fp) tg g) (tst : ∀ s H C cl fp, PTs (blkOf X s H scope cl C fp) ifs tt) (ele : ∀ s H C cl fp, PE (blkOf X s H scope cl C fp) elt te) (fold : ∀ x, foldedSetIterable iter X.env x = pure x := by intro _; rfl) :
    PE X (.SetComp elt [⟨tg, iter, ifs, 0⟩] scope pos) (tSx k wi g tt te (own.map (·.2))) := by
  constructor
  intro pins s σ H Q I h
  rw [PpSet.eval_SetComp]
  refine sxu_run kk hu calm nd I hi ok tgt tst ele fold h fun D C s1 m H1 I1 q hn f => ⟨m, hn, fun h2 sb => ?_⟩
  exact ⟨.ref D, H1, I1.turned (t' := s1.toks) (fun b o hb e => (sb.2 b hb).trans e) f.1 f.2.1 f.2.2.2.1 f.2.2.2.2.1 f.2.2.2.2.2, rfl, q⟩
end

/-- sets of nested keys -/
def nestK (P : Program) (w : World) : SetK where
  o0 := fun a => SetO P w a []
  put := fun D y H N => ∃ (p : Addr) (k : NestedKey) (L : List Row), y = .ref p ∧ Kz H y k ∧ k.depth ≤ 8 ∧ H D = some (SetO P w D L) ∧ (∀ q ∈ L, Kz H (.ref q.1) q.2 ∧ q.2.depth ≤ 8) ∧ L.length + 1 < 64 ∧
    ∀ L1 : List Row, (keysOf L1).Nodup → (k ∈ keysOf L → L1 = L) → (k ∉ keysOf L → L1.Perm ((p, k) :: L)) → N (upd H D (SetO P w D L1))
theorem add_nest {P : Program} {w : World} {A : Around} {E : Value → Shared → Prop} {s : Shared} {a x : Addr} {k : NestedKey} {L : List Row} {es : Array (Int × Value)} {ep : Nat} {t : SetTable} {Q : Value → Shared → Prop} (R : NSet P w s.heap a L es ep t)
    (hx : Nk s.heap k x) (hu : A.units + 64 < cLine) (few : L.length + 1 < 64)
    (q : ∀ h1 L1 es1 ep1 t1, Heap.SameBut a s.heap h1 → NSet P w h1 a L1 es1 ep1 t1 → (k ∈ keysOf L → L1 = L) → (k ∉ keysOf L → L1.Perm ((x, k) :: L)) → Q .none { s with heap := h1, toks := s.toks + k.draws }) :
    wpAny (model P w) A (call (.builtin "set.add") [.ref a, .ref x]) Q E s := by
  have ty : s.TypeIs (.ref a) "set" := by
    obtain ⟨o, ho, hex, hd⟩ := R.here
    exact ⟨o, ho, hex.1⟩
  refine wpAny_call_entry F.slot_set_add ty F.entry_set_add ?_ (F.args_set_add_2 _ _)
  unfold Builtin.«set.add» Builtin.Frozenset.oneOther Builtin.Frozenset.addrOf setAdd
  simp only [List.isEmpty_nil, bind_assoc]
  refine wpAny_bind (wpAny_pure ?_)
  try dsimp only
  try refine wpAny_bind (wpAny_pure ?_)
  try dsimp only
  refine wpAny_bind (wpAny_holding (wpAny_bind (pyHash_key k _ _ _ _ hx.is (by have := hx.dp; rw [Around.in1_units]; omega) ?_)))
  refine put_in (s := { s with toks := s.toks + k.draws }) R hx (by rw [Around.in1_units]; omega) few fun b h1 L1 es1 ep1 t1 sb R1 c1 c2 => ?_
  exact (show wpAny _ _ (ret Value.none) _ _ _ from wpAny_pure ⟨_, rfl, q h1 L1 es1 ep1 t1 sb R1 c1 c2⟩)
theorem nestK_ok (P : Program) (w : World) : OkU (nestK P w) P w := by
  constructor
  · intro H h a ho
    exact setO_ok (NSet.new ho).sole
  · intro X pins s σ H D y u N E e1 e2 hu I r p
    subst e1 e2
    obtain ⟨p, k, L, rfl, kz, dp, hD, ks, room, n⟩ := p
    cases r
    have S : Sole X.prog X.w s.heap D L := (I.hok D _ hD).1
    have nk : ∀ {p : Addr} {k : NestedKey}, Kz H (.ref p) k → k.depth ≤ 8 → Nk s.heap k p := fun z d => ⟨(Kz.is I _ _ _ z rfl).1, d⟩
    obtain ⟨es, ep, t, R⟩ := S.all fun q hq => nk (ks q hq).1 (ks q hq).2
    refine add_nest R (nk kz dp) hu room fun h1 L1 es1 ep1 t1 sb R1 c1 c2 => ?_
    have there : ∃ u, h1.get? D = some u := by
      obtain ⟨o, ho, _⟩ := R1.here
      exact ⟨o, ho⟩
    exact ⟨_, I.write (e := D) (t' := s.toks + k.draws) (by rw [hD]; trivial) (.inl rfl) (fun b u hb hu => (sb.2 b hb).trans hu) there (setO_ok R1.sole), n L1 R1.once c1 c2⟩
end NS
/-! are_names, ordered_link, names_in, channels_in, linked_in. -/
namespace K55
open PySem PySem.Spec PyProof.Rows L2 WD NS MC GL
open C8 (pss_cut tCut)
/-- what never runs -/
theorem pss_never {X : Cx} {ss : List Stmt} : PSs X ss (fun _ _ _ => False) := ⟨fun _ _ _ _ _ _ h => h.elim⟩
theorem text_lt (a b : Str) : PySem.W.dataLt (NestedKey.text a).data (NestedKey.text b).data = decide (sLt a b) := by
  show PyProof.Rows.lexLt itemOrd [Sum.inr a.cps.toList] [Sum.inr b.cps.toList] = _
  show (itemLt (.inr a.cps.toList) (.inr b.cps.toList) || !itemLt (.inr b.cps.toList) (.inr a.cps.toList) && false) = _
  rw [Bool.and_false, Bool.or_false]
  simp only [itemLt]
theorem text_alike (a b : Str) : PySem.W.alike (NestedKey.text a).data (NestedKey.text b).data = true := rfl
theorem strs_get {xs : List Str} {i : Nat} {v : V} (h : (xs.map V.str)[i]? = some v) : ∃ x, xs[i]? = some x ∧ v = .str x := by
  rw [List.getElem?_map] at h
  obtain ⟨x, e, rfl⟩ := Option.map_eq_some_iff.mp h
  exact ⟨x, e, rfl⟩
/-! are_names -/
abbrev sAreNm : Stmt := topS 12
abbrev nAn : List Str := ["value", "known", "part"]
theorem scAreNm : FnScope nAn ["value"] (defScope sAreNm) := ⟨rfl, rfl, rfl, by decide +kernel, rfl, by decide +kernel, by decide +kernel⟩
def spAreNm : Sp := fun vs H Q _ => ∃ (a : Addr) (xs : List Str), vs = [.ref a] ∧ H a = some (.tup (xs.map V.str)) ∧ (∀ x ∈ xs, Wd x) ∧ Q (.bl true) H
section
variable {P : Program} {w : World} {K : PySem.W.Frag} {mg : Str → Option Value} {base : Heap} {fN : Addr} {dN : FuncData}
theorem ok_AreNm {f : Addr} {fd : FuncData} {k : Nat} (F : Fun K "are_names" "are_names" sAreNm f fd) (T : TxtNm K mg) (TT : TxtT K mg fN dN) : FnOk P w K mg base CX0 (k + 2) f fd ["value"] spAreNm := by
  have GN : FnOk P w K mg base CX0 (k + 1) fN dN ["value"] spName := ok_Name TT.N T
  refine F.ok scAreNm (fun vs H Q E h => ?_) (fun cdv A outer s H vs Q E hr h => ?_)
  · obtain ⟨a, xs, rfl, _⟩ := h
    rfl
  · obtain ⟨a, xs, rfl, ha, all, q⟩ := h
    refine ⟨_, pss_cons (ps_if (pt_not (pt_val (pe_callB call_isi (by rfl) T.isi (by decide +kernel) (pa_cons (pv 0) (pa_cons (pe_bltn (by rfl) T.tuple (by decide +kernel) (v := .ty "tuple") rfl) pa_nil))))) (pss_one (ps_ret pe_bl)) pss_nil)
      (pss_cons (ps_set (i := 1) scAreNm.nd rfl (.inl rfl) pe_str)
      (pss_cons (ps_for PassesOwn.never rfl (pi_tup (pv 0)) (pg_name (i := 2) scAreNm.nd rfl (.inl rfl))
        (pss_one (ps_if (pt_cmpR op_ne (pv 2) (pv 1) (nomark _))
          (pss_cons (ps_if (pt_not (pt_val (pe_call GN hr (by rfl) TT.gN TT.N.kp TT.bN .nil pass0 (pa_cons (pv 2) pa_nil)))) (pss_one (ps_ret pe_bl)) pss_nil)
          (pss_one (ps_set (i := 1) scAreNm.nd rfl (.inl rfl) (pv 2)))) pss_nil)))
      (pss_one (ps_ret pe_bl)))), ?_⟩
    refine ⟨_, rfl, _, _, _, .type "tuple", true, rfl, .ty _, .base (.tup ha), kit_ty (by decide +kernel), _, rfl, iteF ?_⟩
    refine ⟨_, rfl, a, rfl, ⟨_, SqT.of ha⟩, for_tup (xs := xs.map V.str) (fun i σ' H' => H' = H ∧ ∃ (x : Str) (u : Option V), σ' = [some (.ref a), some (.str x), u]) ?_ ?_ ?_ ?_⟩
    · exact ⟨rfl, _, none, rfl⟩
    · rintro i σ' H' _ ⟨rfl, _⟩
      exact SqT.of ha
    · rintro i v σ' H' hv ⟨rfl, y, u, rfl⟩
      obtain ⟨x, hx, rfl⟩ := strs_get hv
      refine ⟨_, rfl, _, rfl, rfl, _, rfl, ifB (fun _ => ?_) fun _ => ⟨rfl, y, _, rfl⟩⟩
      exact ⟨_, rfl, x, rfl, all x (List.mem_of_getElem? hx), _, rfl, iteF ⟨_, rfl, rfl, x, _, rfl⟩⟩
    · rintro σ' H' ⟨rfl, _⟩
      exact q
end
/-! ordered_link -/
abbrev sOrdL : Stmt := topS 32
def ordL (a b : Str) : Str × Str := if sLt a b then (a, b) else (b, a)
theorem scOrdL : FnScope ["one", "other"] ["one", "other"] (defScope sOrdL) := ⟨rfl, rfl, rfl, by decide +kernel, rfl, by decide +kernel, by decide +kernel⟩
def spOrdL : Sp := fun vs H Q _ => ∃ a b : Str, vs = [.str a, .str b] ∧ ∀ H' p, Same H H' → H p = none → H' p = some (.tup [.str (ordL a b).1, .str (ordL a b).2]) → Q (.ref p) H'
section
variable {P : Program} {w : World} {K : PySem.W.Frag} {mg : Str → Option Value} {base : Heap}
theorem ok_OrdL {f : Addr} {fd : FuncData} {k : Nat} (F : Fun K "ordered_link" "ordered_link" sOrdL f fd) : FnOk P w K mg base CX0 (k + 1) f fd ["one", "other"] spOrdL := by
  refine F.ok scOrdL (fun vs H Q E h => ?_) (fun cdv A outer s H vs Q E hr h => ?_)
  · obtain ⟨a, b, rfl, _⟩ := h
    rfl
  · obtain ⟨a, b, rfl, q⟩ := h
    have hu := hr.units
    refine ⟨_, pss_one (ps_ret (pe_ifExp (pt_cmpR (NS.op_ltK hu) (pv 0) (pv 1) (nomark _)) (pe_tup (pa_cons (pv 0) (pa_cons (pv 1) pa_nil))) (pe_tup (pa_cons (pv 1) (pa_cons (pv 0) pa_nil))))), ?_⟩
    refine ⟨_, rfl, _, rfl, .text a, .text b, .str a, .str b, text_alike a b, (fun z => nomatch z), Nat.zero_le _, _, rfl, ?_⟩
    rw [text_lt]
    refine ifB (fun c => ⟨_, rfl, _, rfl, (by show 2 ≤ sizeLine; decide), fun p np => ?_⟩) fun c => ⟨_, rfl, _, rfl, (by show 2 ≤ sizeLine; decide), fun p np => ?_⟩
    · refine q _ p (same_upd np) np ?_
      rw [upd_same, ordL, if_pos (of_decide_eq_true c)]
    · refine q _ p (same_upd np) np ?_
      rw [upd_same, ordL, if_neg (of_decide_eq_false c)]
end
/-! names_in -/
abbrev sNmIn : Stmt := topS 36
abbrev nNi : List Str := ["network", "name", "_"]
theorem scNmIn : FnScope nNi ["network"] (defScope sNmIn) := ⟨rfl, rfl, rfl, by decide +kernel, rfl, by decide +kernel, by decide +kernel⟩
def spNmIn : Sp := fun vs H Q _ => ∃ (a : Addr) (N : NetM), vs = [.ref a] ∧ Kz H (.ref a) N.key ∧ N.Ok ∧ ∀ H' p, Same H H' → H p = none → H' p = some (.tup (N.names.map V.str)) → Q (.ref p) H'
section
variable {P : Program} {w : World} {K : PySem.W.Frag} {mg : Str → Option Value} {base : Heap}
theorem ok_NmIn {f : Addr} {fd : FuncData} {k : Nat} (F : Fun K "names_in" "names_in" sNmIn f fd) (T : TxtS mg) : FnOk P w K mg base CX0 (k + 1) f fd ["network"] spNmIn := by
  refine F.ok scNmIn (fun vs H Q E h => ?_) (fun cdv A outer s H vs Q E hr h => ?_)
  · obtain ⟨a, N, rfl, _⟩ := h
    rfl
  · obtain ⟨a, N, rfl, hn, ok, q⟩ := h
    refine ⟨_, pss_one (ps_ret (pe_callTy call_tuple_of (by rfl) T.tuple (by decide +kernel) (pa_cons (pe_lc (own := [("name", 1), ("_", 2)]) (g := gTup K 2 (gCons (gName 1) (gCons (gName 2) gNil))) (tt := tYes) (te := tVar 1) rfl scNmIn.nd
        (pi_tup (pe_ix ix_tup (pv 0) pe_int (fun _ _ => rfl))) (blkOk_by (own := [("name", 1), ("_", 2)]) (N := nNi) (sc := defScope sNmIn) (by decide +kernel))
        (fun _ _ _ _ _ => pg_tup rfl (pgs_cons (pg_name (i := 1) scNmIn.nd rfl (.inl rfl)) (pgs_cons (pg_name (i := 2) scNmIn.nd rfl (.inl rfl)) pgs_nil)))
        (fun _ _ _ _ _ => pts_nil) (fun _ _ _ _ _ => pv 1)) pa_nil))), ?_⟩
    obtain ⟨M⟩ := net_at hn
    refine ⟨_, rfl, a, _, 0, .ref M.A, rfl, rfl, SqT.of M.top, atI_nat (j := 0) rfl, M.A, rfl, ⟨_, SqT.of M.ea⟩, fun D nD => ?_⟩
    have sD := same_upd (o := .lst []) nD
    refine lc_tup (xs := M.xs) (fun i H' => Same H H' ∧ H' D = some (.lst (((N.ms.take i).map (·.1)).map V.str))) ⟨sD, upd_same⟩ (fun i H' _ z => SqT.of (z.1 _ _ M.ea)) ?_ ?_
    · rintro i v H2 hv ⟨s2, e2⟩
      obtain ⟨p, hp, q', b, rfl, eq, kb⟩ := pair_at M.all hv
      refine ⟨q', _, rfl, SqT.of (s2 _ _ eq), rfl, _, _, rfl, _, _, rfl, rfl, rfl, tYes_ite ⟨_, rfl, _, e2, ?_, same_set s2 nD, ?_⟩⟩
      · have := ok.n6
        rw [List.length_map, List.length_map, List.length_take, sizeLine_eq]
        omega
      · rw [upd_same, List.take_succ, hp, Option.toList_some, List.map_append, List.map_append]
        rfl
    · rintro H2 ⟨s2, e2⟩
      rw [M.lx, List.take_length] at e2
      exact ⟨D, _, rfl, .inl ⟨SqL.of e2, fun p np => q _ p (s2.trans (same_upd np)) (s2.free np) upd_same⟩⟩
end
end K55
/-! channels_in, linked_in. -/
namespace K55
open PySem PySem.Spec PyProof.Rows L2 WD NS MC GL
open C8 (pss_cut tCut)
abbrev swapL (l : Str × Str) : Str × Str := (l.2, l.1)
abbrev linkLe (a b : Str × Str) : Prop := PySem.W.dataLt (linkKey b).data (linkKey a).data = false
/-- the channels, in order -/
structure ChOf (ls cs : List (Str × Str)) : Prop where
  perm : cs.Perm (ls ++ ls.map swapL)
  asc : cs.Pairwise linkLe
theorem link_inj {a b : Str × Str} (h : linkKey a = linkKey b) : a = b := by
  unfold linkKey at h
  simp only [NestedKey.tup.injEq, List.cons.injEq, NestedKey.text.injEq, and_true] at h
  exact Prod.ext h.1 h.2
theorem link_alike (a b : Str × Str) : PySem.W.alike (linkKey a).data (linkKey b).data = true := rfl
theorem link_depth (a : Str × Str) : (linkKey a).depth = 1 := rfl
theorem linkLt_of {a b : Str × Str} (ne : a ≠ b) (le : linkLe a b) : linkLt a b := lt_of_le (link_alike a b) (fun e => ne (link_inj e)) le
theorem linkLt_asym {a b : Str × Str} (h : linkLt a b) : PySem.W.dataLt (linkKey b).data (linkKey a).data = false := lex_asym _ _ h
theorem linkLe_anti {a b : Str × Str} (h : linkLe a b) (g : linkLe b a) : a = b := by
  by_cases e : a = b
  · exact e
  · have z : PySem.W.dataLt (linkKey a).data (linkKey b).data = true := linkLt_of e h
    rw [show PySem.W.dataLt (linkKey a).data (linkKey b).data = false from g] at z
    exact nomatch z
theorem sorted_links : ∀ {l l' : List (Str × Str)}, l.Pairwise linkLe → l'.Pairwise linkLe → l.Perm l' → l = l' := by
  intro l l' h h' p
  exact List.Perm.eq_of_pairwise (fun a b _ _ x y => linkLe_anti x y) h h' p
theorem ChOf.ext {ls cs ds : List (Str × Str)} (a : ChOf ls cs) (b : ChOf ls ds) : cs = ds := sorted_links a.asc b.asc (a.perm.trans b.perm.symm)
theorem ChOf.len {ls cs : List (Str × Str)} (a : ChOf ls cs) : cs.length = 2 * ls.length := by
  rw [a.perm.length_eq, List.length_append, List.length_map]
  omega
theorem ChOf.mem {ls cs : List (Str × Str)} (a : ChOf ls cs) {x y : Str} : (x, y) ∈ cs ↔ Linked ls x y := by
  rw [a.perm.mem_iff, List.mem_append, List.mem_map]
  constructor
  · rintro (h | ⟨l, hl, e⟩)
    · exact .inl h
    · cases e
      exact .inr hl
  · rintro (h | h)
    · exact .inl h
    · exact .inr ⟨(y, x), h, rfl⟩
/-- links at their addresses -/
abbrev LkAt (H : Hp) (L : List (Addr × (Str × Str))) : Prop := ∀ p ∈ L, H p.1 = some (.tup [.str p.2.1, .str p.2.2])
theorem LkAt.same {H H' : Hp} {L : List (Addr × (Str × Str))} (h : LkAt H L) (s : Same H H') : LkAt H' L := fun p hp => s _ _ (h p hp)
theorem link_kz {H : Hp} {q : Addr} {l : Str × Str} (e : H q = some (.tup [.str l.1, .str l.2])) : Kz H (.ref q) (linkKey l) := .tup e (.cons (.str _) (.cons (.str _) .nil))
theorem LkAt.all {H : Hp} : ∀ {L : List (Addr × (Str × Str))}, LkAt H L → KzAll H (L.map fun p => V.ref p.1) ((L.map (·.2)).map linkKey)
  | [], _ => .nil
  | p :: L, h => .cons (link_kz (h p List.mem_cons_self)) (LkAt.all fun q hq => h q (List.mem_cons_of_mem _ hq))
theorem lk_of {H : Hp} : ∀ {xs : List V} {ls : List (Str × Str)}, KzAll H xs (ls.map linkKey) → ∃ L : List (Addr × (Str × Str)), xs = L.map (fun p => V.ref p.1) ∧ L.map (·.2) = ls ∧ LkAt H L
  | _, [], h => by
    cases h
    exact ⟨[], rfl, rfl, fun _ z => nomatch z⟩
  | _, l :: ls, h => by
    cases h with
    | cons h1 h =>
      obtain ⟨L, rfl, rfl, kL⟩ := lk_of h
      obtain ⟨q, ys, rfl, eq, hs⟩ := kz_tup h1
      cases hs with
      | cons h1 hs =>
        cases hs with
        | cons h2 hs =>
          cases hs
          cases kz_text h1
          cases kz_text h2
          refine ⟨(q, l) :: L, rfl, rfl, fun p hp => ?_⟩
          rcases List.mem_cons.mp hp with rfl | hp
          · exact eq
          · exact kL p hp
abbrev asRow (L : List (Addr × (Str × Str))) : List NS.Row := L.map fun p => (p.1, linkKey p.2)
theorem asRow_refs (L : List (Addr × (Str × Str))) : (asRow L).map (fun p => V.ref p.1) = L.map fun p => V.ref p.1 := by
  rw [asRow, List.map_map]
  rfl
theorem alike_links {L : List (Addr × (Str × Str))} : PySem.W.AllAlike ((asRow L).map fun p => p.2.data) := by
  intro d hd e he
  obtain ⟨p, hp, rfl⟩ := List.mem_map.mp hd
  obtain ⟨q, hq, rfl⟩ := List.mem_map.mp he
  obtain ⟨x, _, rfl⟩ := List.mem_map.mp hp
  obtain ⟨y, _, rfl⟩ := List.mem_map.mp hq
  exact link_alike x.2 y.2
theorem sortable_links {L : List (Addr × (Str × Str))} : PySem.W.Sortable ((asRow L).map fun p => p.2.data) := by
  refine .inl fun d hd => ?_
  obtain ⟨p, hp, rfl⟩ := List.mem_map.mp hd
  obtain ⟨x, _, rfl⟩ := List.mem_map.mp hp
  exact ⟨.str x.2.1, [.str x.2.2], rfl⟩
theorem le_links {U : List (Addr × (Str × Str))} (h : (asRow U).Pairwise (fun x y => NS.rowLe x y = true)) : (U.map (·.2)).Pairwise linkLe := by
  rw [List.pairwise_map] at h ⊢
  refine h.imp fun {a b} q => ?_
  have q' : (!PySem.W.dataLt (linkKey b.2).data (linkKey a.2).data) = true := q
  cases e : PySem.W.dataLt (linkKey b.2).data (linkKey a.2).data with
  | true => rw [e] at q'; exact nomatch q'
  | false => exact e
theorem rows_of {H : Hp} {L : List (Addr × (Str × Str))} (kL : LkAt H L) : ∀ p ∈ asRow L, Kz H (.ref p.1) p.2 ∧ p.2.depth ≤ 8 := fun p hp => by
  obtain ⟨x, hx, rfl⟩ := List.mem_map.mp hp
  exact ⟨link_kz (kL x hx), by rw [link_depth]; decide⟩
theorem sorted_of {L : List (Addr × (Str × Str))} {L1 : List NS.Row} (pm : L1.Perm (asRow L)) (pw : L1.Pairwise (fun x y => NS.rowLe x y = true)) : ∃ U : List (Addr × (Str × Str)), L1.map (fun r => V.ref r.1) = U.map (fun p => V.ref p.1) ∧ U.Perm L ∧ (U.map (·.2)).Pairwise linkLe := by
  obtain ⟨U, rfl, pU⟩ := perm_map_inv pm
  exact ⟨U, asRow_refs U, pU, le_links pw⟩
/-! channels_in -/
abbrev sChIn : Stmt := topS 37
abbrev nCi : List Str := ["network", "one", "other"]
theorem scChIn : FnScope nCi ["network"] (defScope sChIn) := ⟨rfl, rfl, rfl, by decide +kernel, rfl, by decide +kernel, by decide +kernel⟩
/-- a network, or what is as one: its links in a list or a tuple -/
structure CutAt (K : PySem.W.Frag) (H : Hp) (a : Addr) (ls : List (Str × Str)) : Prop where
  ex : ∃ (u : V) (B : Addr) (L : List (Addr × (Str × Str))), H a = some (.tup [u, .ref B]) ∧ (H B = some (.tup (L.map fun p => V.ref p.1)) ∨ H B = some (.lst (L.map fun p => V.ref p.1))) ∧ L.map (·.2) = ls ∧ LkAt H L
theorem CutAt.same {K : PySem.W.Frag} {H H' : Hp} {a : Addr} {ls : List (Str × Str)} (h : CutAt K H a ls) (s : Same H H') : CutAt K H' a ls := by
  obtain ⟨u, B, L, e, eB, m, kL⟩ := h.ex
  exact ⟨u, B, L, s _ _ e, eB.imp (s _ _) (s _ _), m, kL.same s⟩
theorem NetAt.cut {K : PySem.W.Frag} {H : Hp} {a : Addr} {N : NetM} (M : NetAt H a N) : CutAt K H a N.ls := by
  obtain ⟨L, e, m, kL⟩ := lk_of M.lks
  exact ⟨_, M.B, L, M.top, .inl (e ▸ M.eb), m, kL⟩
def spChIn (K : PySem.W.Frag) : Sp := fun vs H Q _ => ∃ (a : Addr) (ls : List (Str × Str)), vs = [.ref a] ∧ CutAt K H a ls ∧ ls.length < 30 ∧
  ∀ H' p (U : List (Addr × (Str × Str))), Same H H' → H p = none → H' p = some (.tup (U.map fun p => V.ref p.1)) → LkAt H' U → ChOf ls (U.map (·.2)) → Q (.ref p) H'
section
variable {P : Program} {w : World} {K : PySem.W.Frag} {mg : Str → Option Value} {base : Heap}
theorem ok_ChIn {f : Addr} {fd : FuncData} {k : Nat} (F : Fun K "channels_in" "channels_in" sChIn f fd) (T : TxtS mg) : FnOk P w K mg base CX0 (k + 1) f fd ["network"] (spChIn K) := by
  refine F.ok scChIn (fun vs H Q E h => ?_) (fun cdv A outer s H vs Q E hr h => ?_)
  · obtain ⟨a, ls, rfl, _⟩ := h
    rfl
  · obtain ⟨a, ls, rfl, cut, few, q⟩ := h
    have hu := hr.units
    obtain ⟨u, B, L, e, eB, mL, kL⟩ := cut.ex
    have lL : L.length < 30 := by
      rw [← mL, List.length_map] at few
      exact few
    rcases eB with eB | eB
    · refine ⟨_, pss_one (ps_ret (pe_callTy call_tuple_of (by rfl) T.tuple (by decide +kernel) (pa_cons (pe_callB (NS.cr_sortedL rfl hu) (by rfl) T.sorted (by decide +kernel) (pa_cons (pe_lst (StX.pa_star (pe_ix ix_tup (pv 0) pe_int (fun _ _ => rfl)) (StX.pa_star
          (pe_lc (own := [("one", 1), ("other", 2)]) (g := gTup K 2 (gCons (gName 1) (gCons (gName 2) gNil))) (tt := tYes) (te := tTup (tCons (tVar 2) (tCons (tVar 1) tNil))) rfl scChIn.nd
            (pi_tup (pe_ix ix_tup (pv 0) pe_int (fun _ _ => rfl))) (blkOk_by (own := [("one", 1), ("other", 2)]) (N := nCi) (sc := defScope sChIn) (by decide +kernel))
            (fun _ _ _ _ _ => pg_tup rfl (pgs_cons (pg_name (i := 1) scChIn.nd rfl (.inl rfl)) (pgs_cons (pg_name (i := 2) scChIn.nd rfl (.inl rfl)) pgs_nil)))
            (fun _ _ _ _ _ => pts_nil) (fun _ _ _ _ _ => pe_tup (pa_cons (pv 2) (pa_cons (pv 1) pa_nil)))) pa_nil))) pa_nil)) pa_nil))), ?_⟩
      refine ⟨_, rfl, a, _, 1, .ref B, rfl, rfl, SqT.of e, atI_nat (j := 1) rfl, B, _, rfl, .inl (SqT.of eB), ?_⟩
      refine ⟨_, rfl, a, _, 1, .ref B, rfl, rfl, SqT.of e, atI_nat (j := 1) rfl, B, rfl, ⟨_, SqT.of eB⟩, fun D nD => ?_⟩
      have sD := same_upd (o := .lst []) nD
      refine lc_tup (xs := L.map fun p => V.ref p.1) (fun i H' => Same H H' ∧ ∃ W : List (Addr × (Str × Str)), H' D = some (.lst (W.map fun p => V.ref p.1)) ∧ W.map (·.2) = ((L.map (·.2)).take i).map swapL ∧ LkAt H' W) ⟨sD, [], upd_same, rfl, fun _ z => nomatch z⟩ (fun i H' _ z => SqT.of (z.1 _ _ eB)) ?_ ?_
      · rintro i v H2 hv ⟨s2, W, eW, mW, kW⟩
        rw [List.getElem?_map] at hv
        obtain ⟨p, hp, rfl⟩ := Option.map_eq_some_iff.mp hv
        have il : i < L.length := (List.getElem?_eq_some_iff.mp hp).1
        refine ⟨p.1, _, rfl, SqT.of (s2 _ _ (kL p (List.mem_of_getElem? hp))), rfl, _, _, rfl, _, _, rfl, rfl, rfl, tYes_ite ⟨_, rfl, _, rfl, by show 2 ≤ sizeLine; decide, fun t nt => ?_⟩⟩
        have kt := same_upd (o := .tup [.str p.2.2, .str p.2.1]) nt
        have sU : SameT (upd H2 t (.tup [.str p.2.2, .str p.2.1])) (upd (upd H2 t (.tup [.str p.2.2, .str p.2.1])) D (.lst (W.map (fun p => V.ref p.1) ++ [.ref t]))) := SameT.lst (kt _ _ eW)
        refine ⟨_, kt _ _ eW, ?_, same_set (s2.trans kt) nD, W ++ [(t, swapL p.2)], ?_, ?_, fun x hx => ?_⟩
        · have z := congrArg List.length mW
          rw [List.length_map, List.length_map, List.length_take, List.length_map] at z
          rw [List.length_map, sizeLine_eq]
          omega
        · rw [upd_same, List.map_append]
          rfl
        · rw [List.map_append, mW, List.take_succ, List.getElem?_map, hp, List.map_append]
          rfl
        · rcases List.mem_append.mp hx with z | z
          · exact sU _ _ (kt _ _ (kW x z))
          · rw [List.mem_singleton.mp z]
            exact sU _ _ upd_same
      · rintro H2 ⟨s2, W, eW, mW, kW⟩
        have lW : W.length = L.length := by
          have z := congrArg List.length mW
          rw [List.length_map, List.length_map, List.length_take, List.length_map, List.length_map] at z
          omega
        rw [List.length_map, List.take_of_length_le (by rw [List.length_map]; exact Nat.le_refl _)] at mW
        refine ⟨D, _, rfl, .inr (SqL.of eW), by rw [List.append_nil, List.length_append, List.length_map, List.length_map, sizeLine_eq]; omega, fun p np => ?_⟩
        have kp := same_upd (o := .lst (L.map (fun p => V.ref p.1) ++ (W.map (fun p => V.ref p.1) ++ []))) np
        have ep : upd H2 p (.lst (L.map (fun p => V.ref p.1) ++ (W.map (fun p => V.ref p.1) ++ []))) p = some (.lst ((L ++ W).map fun p => V.ref p.1)) := by rw [upd_same, List.append_nil, List.map_append]
        refine ⟨p, asRow (L ++ W), rfl, SqL.of (by rw [asRow_refs]; exact ep), by rw [List.length_map, List.length_append]; omega, rows_of fun x hx => ?_, alike_links, sortable_links, fun L1 p2 pm pw n2 => ?_⟩
        · rcases List.mem_append.mp hx with z | z
          · exact kp _ _ (s2 _ _ (kL x z))
          · exact kp _ _ (kW x z)
        obtain ⟨U, eU, pm, pw⟩ := sorted_of pm pw
        rw [eU]
        have k2 := same_upd (o := .lst (U.map fun p => V.ref p.1)) n2
        refine ⟨p2, _, rfl, .inl ⟨SqL.of upd_same, fun p3 n3 => ?_⟩⟩
        have k3 := same_upd (o := .tup (U.map fun p => V.ref p.1)) n3
        have s4 := s2.trans (kp.trans k2)
        refine q _ p3 U (s4.trans k3) (s4.free n3) upd_same (fun x hx => ?_) ⟨?_, pw⟩
        · rcases List.mem_append.mp (pm.mem_iff.mp hx) with z | z
          · exact (s4.trans k3) _ _ (kL x z)
          · exact (kp.trans (k2.trans k3)) _ _ (kW x z)
        · have z := pm.map (fun p : Addr × (Str × Str) => p.2)
          rw [List.map_append, mW, mL] at z
          exact z
    · refine ⟨_, pss_one (ps_ret (pe_callTy call_tuple_of (by rfl) T.tuple (by decide +kernel) (pa_cons (pe_callB (NS.cr_sortedL rfl hu) (by rfl) T.sorted (by decide +kernel) (pa_cons (pe_lst (StX.pa_star (pe_ix ix_tup (pv 0) pe_int (fun _ _ => rfl)) (StX.pa_star
          (pe_lc (own := [("one", 1), ("other", 2)]) (g := gTup K 2 (gCons (gName 1) (gCons (gName 2) gNil))) (tt := tYes) (te := tTup (tCons (tVar 2) (tCons (tVar 1) tNil))) rfl scChIn.nd
            (pi_list (pe_ix ix_tup (pv 0) pe_int (fun _ _ => rfl))) (blkOk_by (own := [("one", 1), ("other", 2)]) (N := nCi) (sc := defScope sChIn) (by decide +kernel))
            (fun _ _ _ _ _ => pg_tup rfl (pgs_cons (pg_name (i := 1) scChIn.nd rfl (.inl rfl)) (pgs_cons (pg_name (i := 2) scChIn.nd rfl (.inl rfl)) pgs_nil)))
            (fun _ _ _ _ _ => pts_nil) (fun _ _ _ _ _ => pe_tup (pa_cons (pv 2) (pa_cons (pv 1) pa_nil)))) pa_nil))) pa_nil)) pa_nil))), ?_⟩
      refine ⟨_, rfl, a, _, 1, .ref B, rfl, rfl, SqT.of e, atI_nat (j := 1) rfl, B, _, rfl, .inr (SqL.of eB), ?_⟩
      refine ⟨_, rfl, a, _, 1, .ref B, rfl, rfl, SqT.of e, atI_nat (j := 1) rfl, B, rfl, ⟨_, SqL.of eB⟩, fun D nD => ?_⟩
      have sD := same_upd (o := .lst []) nD
      refine lc_list (xs := L.map fun p => V.ref p.1) (fun i H' => Same H H' ∧ ∃ W : List (Addr × (Str × Str)), H' D = some (.lst (W.map fun p => V.ref p.1)) ∧ W.map (·.2) = ((L.map (·.2)).take i).map swapL ∧ LkAt H' W) ⟨sD, [], upd_same, rfl, fun _ z => nomatch z⟩ (fun i H' _ z => SqL.of (z.1 _ _ eB)) ?_ ?_
      · rintro i v H2 hv ⟨s2, W, eW, mW, kW⟩
        rw [List.getElem?_map] at hv
        obtain ⟨p, hp, rfl⟩ := Option.map_eq_some_iff.mp hv
        have il : i < L.length := (List.getElem?_eq_some_iff.mp hp).1
        refine ⟨p.1, _, rfl, SqT.of (s2 _ _ (kL p (List.mem_of_getElem? hp))), rfl, _, _, rfl, _, _, rfl, rfl, rfl, tYes_ite ⟨_, rfl, _, rfl, by show 2 ≤ sizeLine; decide, fun t nt => ?_⟩⟩
        have kt := same_upd (o := .tup [.str p.2.2, .str p.2.1]) nt
        have sU : SameT (upd H2 t (.tup [.str p.2.2, .str p.2.1])) (upd (upd H2 t (.tup [.str p.2.2, .str p.2.1])) D (.lst (W.map (fun p => V.ref p.1) ++ [.ref t]))) := SameT.lst (kt _ _ eW)
        refine ⟨_, kt _ _ eW, ?_, same_set (s2.trans kt) nD, W ++ [(t, swapL p.2)], ?_, ?_, fun x hx => ?_⟩
        · have z := congrArg List.length mW
          rw [List.length_map, List.length_map, List.length_take, List.length_map] at z
          rw [List.length_map, sizeLine_eq]
          omega
        · rw [upd_same, List.map_append]
          rfl
        · rw [List.map_append, mW, List.take_succ, List.getElem?_map, hp, List.map_append]
          rfl
        · rcases List.mem_append.mp hx with z | z
          · exact sU _ _ (kt _ _ (kW x z))
          · rw [List.mem_singleton.mp z]
            exact sU _ _ upd_same
      · rintro H2 ⟨s2, W, eW, mW, kW⟩
        have lW : W.length = L.length := by
          have z := congrArg List.length mW
          rw [List.length_map, List.length_map, List.length_take, List.length_map, List.length_map] at z
          omega
        rw [List.length_map, List.take_of_length_le (by rw [List.length_map]; exact Nat.le_refl _)] at mW
        refine ⟨D, _, rfl, .inr (SqL.of eW), by rw [List.append_nil, List.length_append, List.length_map, List.length_map, sizeLine_eq]; omega, fun p np => ?_⟩
        have kp := same_upd (o := .lst (L.map (fun p => V.ref p.1) ++ (W.map (fun p => V.ref p.1) ++ []))) np
        have ep : upd H2 p (.lst (L.map (fun p => V.ref p.1) ++ (W.map (fun p => V.ref p.1) ++ []))) p = some (.lst ((L ++ W).map fun p => V.ref p.1)) := by rw [upd_same, List.append_nil, List.map_append]
        refine ⟨p, asRow (L ++ W), rfl, SqL.of (by rw [asRow_refs]; exact ep), by rw [List.length_map, List.length_append]; omega, rows_of fun x hx => ?_, alike_links, sortable_links, fun L1 p2 pm pw n2 => ?_⟩
        · rcases List.mem_append.mp hx with z | z
          · exact kp _ _ (s2 _ _ (kL x z))
          · exact kp _ _ (kW x z)
        obtain ⟨U, eU, pm, pw⟩ := sorted_of pm pw
        rw [eU]
        have k2 := same_upd (o := .lst (U.map fun p => V.ref p.1)) n2
        refine ⟨p2, _, rfl, .inl ⟨SqL.of upd_same, fun p3 n3 => ?_⟩⟩
        have k3 := same_upd (o := .tup (U.map fun p => V.ref p.1)) n3
        have s4 := s2.trans (kp.trans k2)
        refine q _ p3 U (s4.trans k3) (s4.free n3) upd_same (fun x hx => ?_) ⟨?_, pw⟩
        · rcases List.mem_append.mp (pm.mem_iff.mp hx) with z | z
          · exact (s4.trans k3) _ _ (kL x z)
          · exact (kp.trans (k2.trans k3)) _ _ (kW x z)
        · have z := pm.map (fun p : Addr × (Str × Str) => p.2)
          rw [List.map_append, mW, mL] at z
          exact z
end
end K55
/-! linked_in, ways_from. -/
namespace K55
open PySem PySem.Spec PyProof.Rows L2 WD NS MC GL
open C8 (pss_cut tCut)
abbrev sLkIn : Stmt := topS 38
abbrev nLi : List Str := ["network", "name", "sender", "taker"]
theorem scLkIn : FnScope nLi ["network", "name"] (defScope sLkIn) := ⟨rfl, rfl, rfl, by decide +kernel, rfl, by decide +kernel, by decide +kernel⟩
def spLkIn (K : PySem.W.Frag) : Sp := fun vs H Q _ => ∃ (a : Addr) (ls : List (Str × Str)) (nm : Str), vs = [.ref a, .str nm] ∧ CutAt K H a ls ∧ ls.length < 30 ∧
  ∀ H' p (ys : List Str), Same H H' → H p = none → H' p = some (.tup (ys.map V.str)) → (∀ y, y ∈ ys ↔ Linked ls nm y) → ys.length < 60 → Q (.ref p) H'
structure TxtC (K : PySem.W.Frag) (mg : Str → Option Value) (fC : Addr) (dC : FuncData) : Prop where
  C : Fun K "channels_in" "channels_in" sChIn fC dC
  bC : L2.Binds K dC ["network"] []
  gC : mg "channels_in" = some (.ref fC)
section
variable {P : Program} {w : World} {K : PySem.W.Frag} {mg : Str → Option Value} {base : Heap} {fC : Addr} {dC : FuncData}
theorem ok_LkIn {f : Addr} {fd : FuncData} {k : Nat} (F : Fun K "linked_in" "linked_in" sLkIn f fd) (T : TxtS mg) (C : TxtC K mg fC dC) : FnOk P w K mg base CX0 (k + 2) f fd ["network", "name"] (spLkIn K) := by
  have GC : FnOk P w K mg base CX0 (k + 1) fC dC ["network"] (spChIn K) := ok_ChIn C.C T
  refine F.ok scLkIn (fun vs H Q E h => ?_) (fun cdv A outer s H vs Q E hr h => ?_)
  · obtain ⟨a, ls, nm, rfl, _⟩ := h
    rfl
  · obtain ⟨a, ls, nm, rfl, cut, few, q⟩ := h
    refine ⟨_, pss_one (ps_ret (pe_callTy call_tuple_of (by rfl) T.tuple (by decide +kernel) (pa_cons
          (pe_lc (own := [("sender", 2), ("taker", 3)]) (g := gTup K 2 (gCons (gName 2) (gCons (gName 3) gNil))) (tt := tTest (tOp rEq (tVar 2) (tVar 1))) (te := tVar 3) rfl scLkIn.nd
            (pi_tup (pe_call GC hr (by rfl) C.gC C.C.kp C.bC .nil pass0 (pa_cons (pv 0) pa_nil))) (blkOk_by (own := [("sender", 2), ("taker", 3)]) (N := nLi) (sc := defScope sLkIn) (by decide +kernel))
            (fun _ _ _ _ _ => pg_tup rfl (pgs_cons (pg_name (i := 2) scLkIn.nd rfl (.inl rfl)) (pgs_cons (pg_name (i := 3) scLkIn.nd rfl (.inl rfl)) pgs_nil)))
            (fun _ _ _ _ _ => pts_one (pt_cmpR op_eq (pv 2) (pv 1) (nomark _))) (fun _ _ _ _ _ => pv 3)) pa_nil))), ?_⟩
    refine ⟨_, rfl, a, ls, rfl, cut, few, fun H1 p U s1 np eU kU ch => ⟨p, rfl, ⟨_, SqT.of eU⟩, fun D nD => ?_⟩⟩
    have sD := same_upd (o := .lst []) nD
    have lU : U.length < 60 := by
      have z := ch.len
      rw [List.length_map] at z
      omega
    have nx : ∀ {i : Nat} {p : Addr × (Str × Str)}, U[i]? = some p → (((U.map (·.2)).take (i + 1)).filter fun c => decide (c.1 = nm)) = (((U.map (·.2)).take i).filter fun c => decide (c.1 = nm)) ++ (if p.2.1 = nm then [p.2] else []) := fun {i p} hp => by
      rw [List.take_succ, List.getElem?_map, hp, Option.map_some, Option.toList_some, List.filter_append]
      by_cases e : p.2.1 = nm
      · rw [if_pos e, List.filter_cons_of_pos (by simpa using e)]; rfl
      · rw [if_neg e, List.filter_cons_of_neg (by simpa using e)]; rfl
    refine lc_tup (xs := U.map fun p => V.ref p.1) (fun i H' => Same H1 H' ∧ H' D = some (.lst (((((U.map (·.2)).take i).filter fun c => decide (c.1 = nm)).map (·.2)).map V.str))) ⟨sD, upd_same⟩ (fun i H' _ z => SqT.of (z.1 _ _ eU)) ?_ ?_
    · rintro i v H2 hv ⟨s2, e2⟩
      rw [List.getElem?_map] at hv
      obtain ⟨p', hp, rfl⟩ := Option.map_eq_some_iff.mp hv
      have il : i < U.length := (List.getElem?_eq_some_iff.mp hp).1
      refine ⟨p'.1, _, rfl, SqT.of (s2 _ _ (kU p' (List.mem_of_getElem? hp))), rfl, _, _, rfl, _, _, rfl, rfl, rfl, _, rfl, _, rfl, rfl, _, rfl, ?_⟩
      refine ifB (fun hb => ?_) fun hb => ?_
      · have eb : p'.2.1 = nm := by simpa using hb
        refine ⟨_, rfl, _, e2, ?_, same_set s2 nD, ?_⟩
        · have g := List.length_filter_le (fun c : Str × Str => decide (c.1 = nm)) ((U.map (·.2)).take i)
          rw [List.length_take, List.length_map] at g
          rw [List.length_map, List.length_map, sizeLine_eq]
          omega
        · rw [upd_same, nx hp, if_pos eb, List.map_append, List.map_append]
          rfl
      · have nb : p'.2.1 ≠ nm := by simpa using hb
        refine ⟨s2, ?_⟩
        rw [nx hp, if_neg nb, List.append_nil]
        exact e2
    · rintro H2 ⟨s2, e2⟩
      rw [List.length_map, List.take_of_length_le (by rw [List.length_map]; exact Nat.le_refl _)] at e2
      refine ⟨D, _, rfl, .inl ⟨SqL.of e2, fun p3 n3 => q _ p3 _ (s1.trans (s2.trans (same_upd n3))) ((s1.trans s2).free n3) upd_same (fun y => ?_) ?_⟩⟩
      · rw [← ch.mem, List.mem_map]
        constructor
        · rintro ⟨c, hc, rfl⟩
          rw [List.mem_filter, decide_eq_true_eq] at hc
          rw [← hc.2]
          exact hc.1
        · intro h
          exact ⟨(nm, y), List.mem_filter.mpr ⟨h, decide_eq_true rfl⟩, rfl⟩
      · have g := List.length_filter_le (fun c : Str × Str => decide (c.1 = nm)) (U.map (·.2))
        rw [List.length_map] at g
        rw [List.length_map]
        omega
end
/-! ways_from -/
abbrev sWF : Stmt := topS 39
abbrev nWf : List Str := ["network", "name", "ways", "waiting", "here", "there"]
theorem scWF : FnScope nWf ["network", "name"] (defScope sWF) := ⟨rfl, rfl, rfl, by decide +kernel, rfl, by decide +kernel, by decide +kernel⟩
/-- names, each with its way -/
abbrev WayL := List (Addr × (Str × List Str))
abbrev kvW (L : WayL) : List (Key × V) := L.map fun p => (Sum.inr p.2.1, V.ref p.1)
abbrev ksW (L : WayL) : List Str := L.map (·.2.1)
theorem kvW_none {L : WayL} {x : Str} (h : x ∉ ksW L) : valV (kvW L) (Sum.inr x) = none := by
  unfold valV
  rw [List.find?_eq_none.mpr]
  · rfl
  · intro kv hkv
    obtain ⟨p, hp, rfl⟩ := List.mem_map.mp hkv
    rw [decide_eq_true_eq]
    intro e
    exact h (List.mem_map.mpr ⟨p, hp, Sum.inr.inj e⟩)
theorem kvW_some : ∀ {L : WayL} {x : Str}, x ∈ ksW L → ∃ p ∈ L, p.2.1 = x ∧ valV (kvW L) (Sum.inr x) = some (.ref p.1)
  | [], _, h => nomatch h
  | p :: L, x, h => by
    by_cases e : p.2.1 = x
    · subst e
      exact ⟨p, List.mem_cons_self, rfl, by simp [valV, kvW]⟩
    · have h' : x ∈ ksW L := by
        rcases List.mem_cons.mp h with z | z
        · exact absurd z.symm e
        · exact z
      obtain ⟨r, hr, er, v⟩ := kvW_some h'
      refine ⟨r, List.mem_cons_of_mem _ hr, er, ?_⟩
      rw [← v]
      simp only [valV, kvW, List.map_cons, List.find?_cons, Sum.inr.injEq, e, decide_false]
theorem kvW_put {L : WayL} {q : Addr} {x : Str} {ys : List Str} (h : x ∉ ksW L) : putK (kvW L) (Sum.inr x) (V.ref q) = kvW (L ++ [(q, x, ys)]) := by
  have z : (kvW L).any (fun kv => decide (kv.1 = Sum.inr x)) = false := by
    rw [List.any_eq_false]
    intro kv hkv
    obtain ⟨p, hp, rfl⟩ := List.mem_map.mp hkv
    rw [decide_eq_true_eq]
    intro e
    exact h (List.mem_map.mpr ⟨p, hp, Sum.inr.inj e⟩)
  rw [putK, z, kvW, kvW, List.map_append]
  rfl
theorem conn_end {ls : List (Str × Str)} {a b : Str} (h : Conn ls a b) : b = a ∨ b ∈ ls.map (·.1) ++ ls.map (·.2) := by
  induction h with
  | refl => exact .inl rfl
  | step l _ ih =>
    rcases ih with rfl | ih
    · rcases l with l | l
      · exact .inr (List.mem_append_right _ (List.mem_map.mpr ⟨_, l, rfl⟩))
      · exact .inr (List.mem_append_left _ (List.mem_map.mpr ⟨_, l, rfl⟩))
    · exact .inr ih
theorem conn_few {ls : List (Str × Str)} {a : Str} {ks : List Str} (nd : ks.Nodup) (h : ∀ k ∈ ks, Conn ls a k) (few : ls.length < 30) : ks.length < 60 := by
  have z := List.Nodup.length_le_of_subset nd (l₂ := a :: (ls.map (·.1) ++ ls.map (·.2))) fun k hk => by
    rcases conn_end (h k hk) with rfl | e
    · exact List.mem_cons_self
    · exact List.mem_cons_of_mem _ e
  rw [List.length_cons, List.length_append, List.length_map, List.length_map] at z
  omega
def lenAt (H : Hp) (a : Addr) : Nat := match H a with
  | some (.dK kvs) => kvs.length
  | some (.lst xs) => xs.length
  | _ => 0
structure WayW (ls : List (Str × Str)) (nm : Str) (H : Hp) (d l : Addr) (L : WayL) (ws : List Str) : Prop where
  ed : H d = some (.dK (kvW L))
  el : H l = some (.lst (ws.map V.str))
  nd : (ksW L).Nodup
  rc : ∀ k ∈ ksW L, Conn ls nm k
  tp : ∀ p ∈ L, H p.1 = some (.tup (p.2.2.map V.str)) ∧ p.2.2.length ≤ L.length ∧ p.2.2 ≠ []
  z : nm ∈ ksW L
  sub : ∀ k ∈ ws, k ∈ ksW L
theorem WayW.len {ls : List (Str × Str)} {nm : Str} {H : Hp} {d l : Addr} {L : WayL} {ws : List Str} (R : WayW ls nm H d l L ws) : 2 * (61 - lenAt H d) + lenAt H l = 2 * (61 - L.length) + ws.length := by
  rw [lenAt, lenAt, R.ed, R.el]
  simp only [kvW, List.length_map]
theorem WayW.few {ls : List (Str × Str)} {nm : Str} {H : Hp} {d l : Addr} {L : WayL} {ws : List Str} (R : WayW ls nm H d l L ws) (few : ls.length < 30) : L.length < 60 := by
  have z := conn_few R.nd R.rc few
  rw [List.length_map] at z
  exact z
end K55
/-! ways_from. -/
namespace K55
open PySem PySem.Spec PyProof.Rows L2 WD NS MC GL
open C8 (pss_cut tCut)
def spWF (K : PySem.W.Frag) : Sp := fun vs H Q _ => ∃ (a : Addr) (ls : List (Str × Str)) (nm : Str), vs = [.ref a, .str nm] ∧ CutAt K H a ls ∧ ls.length < 30 ∧
  ∀ H' d (L : WayL), Same H H' → H d = none → H' d = some (.dK (kvW L)) → (ksW L).Nodup → (∀ x, x ∈ ksW L ↔ Conn ls nm x) → L.length < 60 → Q (.ref d) H'
structure TxtL (K : PySem.W.Frag) (mg : Str → Option Value) (fL : Addr) (dL : FuncData) : Prop where
  L : Fun K "linked_in" "linked_in" sLkIn fL dL
  bL : L2.Binds K dL ["network", "name"] []
  gL : mg "linked_in" = some (.ref fL)
section
variable {P : Program} {w : World} {K : PySem.W.Frag} {mg : Str → Option Value} {base : Heap} {fC fL : Addr} {dC dL : FuncData}
theorem ok_WF {f : Addr} {fd : FuncData} {k : Nat} (F : Fun K "ways_from" "ways_from" sWF f fd) (T : TxtS mg) (C : TxtC K mg fC dC) (TL : TxtL K mg fL dL) : FnOk P w K mg base CX0 (k + 3) f fd ["network", "name"] (spWF K) := by
  have GL : FnOk P w K mg base CX0 (k + 2) fL dL ["network", "name"] (spLkIn K) := ok_LkIn TL.L T C
  refine F.ok scWF (fun vs H Q E h => ?_) (fun cdv A outer s H vs Q E hr h => ?_)
  · obtain ⟨a, ls, nm, rfl, _⟩ := h
    rfl
  · obtain ⟨a, ls, nm, rfl, cut, few, q⟩ := h
    have hu := hr.units
    have hu1 := Nat.lt_of_le_of_lt (Nat.add_le_add_left (by decide : 1 ≤ 64) _) hu
    refine ⟨_, pss_cut (ps_set (i := 2) scWF.nd rfl (.inl rfl) (pe_disp (pps_cons (pv 1) (pe_tup (pa_cons (pv 1) pa_nil)) pps_nil) (by rfl) (by rfl) (fun z => by cases z) (by decide)))
      (pss_cut (ps_set (i := 3) scWF.nd rfl (.inl rfl) (pe_lst (pa_cons (pv 1) pa_nil)))
      (pss_cut (ps_while PassesOwn.never (pt_truth (pv 3) (by intro _; rfl))
        (pss_cons (ps_set (i := 4) scWF.nd rfl (.inl rfl) (pe_bm0 PySem.F.plainAttrs_list PySem.F.slot_list_pop PySem.F.type_list_pop mt_pop (pv 3)))
        (pss_one (ps_for PassesOwn.never rfl (pi_tup (pe_call GL hr (by rfl) TL.gL TL.L.kp TL.bL .nil pass0 (pa_cons (pv 0) (pa_cons (pv 4) pa_nil)))) (pg_name (i := 5) scWF.nd rfl (.inl rfl))
          (pss_one (ps_if (pt_cmp (pc_dnotin hu1 (pv 5) (pv 2)))
            (pss_cons (ps_dput hu1 (pv 2) (pv 5) (pe_op op_catT (pe_dget hu1 (pv 2) (pv 4) (fun _ _ => rfl)) (pe_tup (pa_cons (pv 5) pa_nil))) rfl)
            (pss_one (ps_expr (pe_bm PySem.F.plainAttrs_list PySem.F.slot_list_append PySem.F.type_list_append mt_append (pv 3) (pa_cons (pv 5) pa_nil)))))
            pss_nil))))))
      (pss_one (ps_ret (pv 2))))), ?_⟩
    refine ⟨fun σ' H' => ∃ (d q0 : Addr), σ' = [some (.ref a), some (.str nm), some (.ref d), none, none, none] ∧ Same H H' ∧ H d = none ∧ H' d = some (.dK (kvW [(q0, nm, [nm])])) ∧ H' q0 = some (.tup [.str nm]), ?_, ?_⟩
    · refine fun d nd => ⟨_, rfl, _, rfl, by show 1 ≤ sizeLine; decide, fun t nt => ?_⟩
      have td : t ≠ d := fun z => by
        rw [z, upd_same] at nt
        exact nomatch nt
      refine ⟨?_, [(Sum.inr nm, .ref t)], rfl, (by show 1 ≤ 15; decide), d, t, rfl, same_set ((same_upd nd).trans (same_upd nt)) nd, nd, ?_, ?_⟩
      · rw [upd_ne td.symm]
        exact upd_same
      · rw [upd_same]
        rfl
      · rw [upd_ne td]
        exact upd_same
    rintro σ0 H0 ⟨d, q0, rfl, s0, nd, ed0, eq0⟩
    refine ⟨fun σ' H' => ∃ l, d ≠ l ∧ H l = none ∧ Same H H' ∧ σ' = [some (.ref a), some (.str nm), some (.ref d), some (.ref l), none, none] ∧ WayW ls nm H' d l [(q0, nm, [nm])] [nm], ?_, ?_⟩
    · refine ⟨_, rfl, by show 1 ≤ sizeLine; decide, fun l nl => ?_⟩
      have sl := same_upd (o := .lst [.str nm]) nl
      refine ⟨l, ne_of_none ed0 nl, s0.free nl, s0.trans sl, rfl, ⟨sl _ _ ed0, upd_same, by simp, fun k hk => ?_, fun p hp => ?_, List.mem_cons_self, fun k hk => hk⟩⟩
      · rw [List.mem_singleton.mp hk]
        exact .refl _
      · rw [List.mem_singleton.mp hp]
        exact ⟨sl _ _ eq0, Nat.le_refl _, List.cons_ne_nil _ _⟩
    rintro σ1 H1 ⟨l, ndl, nl, s1, rfl, R0⟩
    refine ⟨fun σ' H' => ∃ (L : WayL) (u4 u5 : Option V), σ' = [some (.ref a), some (.str nm), some (.ref d), some (.ref l), u4, u5] ∧ Same H H' ∧ WayW ls nm H' d l L [] ∧ ∀ x y, Linked ls x y → x ∈ ksW L → y ∈ ksW L, ?_, ?_⟩
    · refine while_by (fun σ' H' => ∃ (L : WayL) (ws : List Str) (u4 u5 : Option V), σ' = [some (.ref a), some (.str nm), some (.ref d), some (.ref l), u4, u5] ∧ Same H H' ∧ WayW ls nm H' d l L ws ∧ (∀ x y, Linked ls x y → x ∈ ksW L → x ∈ ws ∨ y ∈ ksW L) ∧ 2 * (61 - L.length) + ws.length ≤ 121)
        (fun σ' H' => 2 * (61 - lenAt H' d) + lenAt H' l) ?_ ?_ ?_
      · exact ⟨_, _, none, none, rfl, s1, R0, fun x y _ hb => .inl hb, (by show 2 * (61 - 1) + 1 ≤ 121; decide)⟩
      · rintro σ2 H2 ⟨L, ws, u4, u5, rfl, s2, R, cl, le121⟩
        refine ⟨_, rfl, _, .inl ⟨_, SqL.of R.el, rfl⟩, ?_⟩
        rcases List.eq_nil_or_concat ws with rfl | ⟨w0, y, rfl⟩
        · exact iteF ⟨L, u4, u5, rfl, s2, R, fun x y h hx => (cl x y h hx).resolve_left (fun z => nomatch z)⟩
        · rw [List.concat_eq_append] at *
          rw [show (!(List.map V.str (w0 ++ [y])).isEmpty) = true by cases w0 <;> rfl]
          refine iteT ⟨_, rfl, .inl ⟨rfl, _, SqL.of R.el⟩, l, _, .str y, rfl, rfl, R.el, ?_, ?_⟩
          · rw [List.map_append, List.length_append]
            simp
          · have ew : (List.map V.str (w0 ++ [y])).dropLast = w0.map V.str := by
              rw [List.map_append]
              exact List.dropLast_concat
            rw [ew]
            have y1 : y ∈ ksW L := R.sub _ (List.mem_append_right _ List.mem_cons_self)
            have tl : ∀ {H' : Hp} {zs ys : List V}, H' l = some (.lst zs) → ∀ b xs, H' b = some (.tup xs) → upd H' l (.lst ys) b = some (.tup xs) := fun {H' zs ys} e b xs eb => SameT.lst e b xs eb
            have R1 : WayW ls nm (upd H2 l (.lst (w0.map V.str))) d l L w0 := ⟨by rw [upd_ne ndl]; exact R.ed, upd_same, R.nd, R.rc, fun p hp => ⟨tl R.el _ _ (R.tp p hp).1, (R.tp p hp).2⟩, R.z, fun k hk => R.sub k (List.mem_append_left _ hk)⟩
            have s3 : Same H (upd H2 l (.lst (w0.map V.str))) := same_set s2 nl
            have lenR := R.len
            rw [List.length_append] at lenR
            refine ⟨_, rfl, _, rfl, a, ls, y, rfl, cut.same s3, few, fun H4 p ys s4 np eY mem lY => ⟨p, rfl, ⟨_, SqT.of eY⟩, ?_⟩⟩
            have R4 : WayW ls nm H4 d l L w0 := ⟨s4 _ _ R1.ed, s4 _ _ R1.el, R1.nd, R1.rc, fun p hp => ⟨s4 _ _ (R1.tp p hp).1, (R1.tp p hp).2⟩, R1.z, R1.sub⟩
            refine for_tup (xs := ys.map V.str) (fun i σ' H' => ∃ (L' : WayL) (ws' : List Str) (u5 : Option V), σ' = [some (.ref a), some (.str nm), some (.ref d), some (.ref l), some (.str y), u5] ∧ Same H H' ∧ H' p = some (.tup (ys.map V.str)) ∧ WayW ls nm H' d l L' ws' ∧ y ∈ ksW L' ∧
              (∀ x z, Linked ls x z → x ∈ ksW L' → x ∈ ws' ∨ z ∈ ksW L' ∨ (x = y ∧ z ∈ ys.drop i)) ∧ 2 * (61 - L'.length) + ws'.length < 2 * (61 - lenAt H2 d) + lenAt H2 l) ?_ ?_ ?_ ?_
            · refine ⟨L, w0, u5, rfl, s3.trans s4, eY, R4, y1, fun x z h hx => ?_, by rw [lenR]; simp⟩
              rcases cl x z h hx with c | c
              · rcases List.mem_append.mp c with c | c
                · exact .inl c
                · have e := List.mem_singleton.mp c
                  subst e
                  exact .inr (.inr ⟨rfl, (mem z).mpr h⟩)
              · exact .inr (.inl c)
            · rintro i σ' H' _ ⟨_, _, _, _, _, e, _⟩
              exact SqT.of e
            · rintro i v σ' H' hv ⟨L', ws', v5, rfl, s5, eY', R5, y5, cl5, mu⟩
              obtain ⟨x, hx, rfl⟩ := strs_get hv
              have il : i < ys.length := (List.getElem?_eq_some_iff.mp hx).1
              have ex : ys[i] = x := (List.getElem?_eq_some_iff.mp hx).2
              have dr : ys.drop i = x :: ys.drop (i + 1) := by rw [List.drop_eq_getElem_cons il, ex]
              refine ⟨_, rfl, _, rfl, d, _, rfl, DGet.k (k := Sum.inr x) R5.ed, _, rfl, ?_⟩
              by_cases hk : x ∈ ksW L'
              · obtain ⟨p5, hp5, ep5, v5'⟩ := kvW_some hk
                rw [v5']
                refine iteF ⟨L', ws', _, rfl, s5, eY', R5, y5, fun u z h hu' => ?_, mu⟩
                rcases cl5 u z h hu' with c | c | ⟨c, c'⟩
                · exact .inl c
                · exact .inr (.inl c)
                · rw [dr] at c'
                  rcases List.mem_cons.mp c' with rfl | c'
                  · exact .inr (.inl hk)
                  · exact .inr (.inr ⟨c, c'⟩)
              · rw [kvW_none hk]
                obtain ⟨p6, hp6, ep6, v6⟩ := kvW_some y5
                have tp6 := R5.tp p6 hp6
                have lL' := R5.few few
                refine iteT ⟨_, rfl, _, rfl, d, .ref p6.1, rfl, v6 ▸ DGet.k (k := Sum.inr y) R5.ed, _, rfl, by show 1 ≤ sizeLine; decide, fun t nt => ?_⟩
                have kt := same_upd (o := .tup [.str x]) nt
                refine ⟨p6.1, t, p6.2.2.map V.str, [.str x], rfl, rfl, SqT.of (kt _ _ tp6.1), SqT.of upd_same, fun z => tp6.2.2 (List.map_eq_nil_iff.mp z), ?_, (fun z => nomatch z), fun _ p7 n7 => ?_⟩
                · have := tp6.2.1
                  rw [List.length_map, sizeLine_eq]
                  show p6.2.2.length + 1 ≤ _
                  omega
                have k7 := same_upd (o := .tup (p6.2.2.map V.str ++ [.str x])) n7
                have s7 := kt.trans k7
                have ed7 := s7 _ _ R5.ed
                refine ⟨_, rfl, _, rfl, d, _, rfl, DPut.k (k := Sum.inr x) ed7 ?_, ?_⟩
                · rw [kvW, List.length_map, sizeLine_eq]
                  omega
                rw [kvW_put (q := p7) (ys := p6.2.2 ++ [x]) hk]
                have td : ∀ {H' : Hp} {kv : List (Key × V)} {o : HO}, H' d = some (.dK kv) → SameT H' (upd H' d o) := fun {H' kv o} e b xs eb => by
                  by_cases c : b = d
                  · subst c
                    rw [e] at eb
                    exact nomatch eb
                  · rw [upd_ne c]
                    exact eb
                generalize hH8 : upd (upd H' t (.tup [.str x])) p7 (.tup (p6.2.2.map V.str ++ [.str x])) = H8 at *
                have s8 : SameT H8 (upd H8 d (.dK (kvW (L' ++ [(p7, x, p6.2.2 ++ [x])])))) := td ed7
                have el8 : upd H8 d (.dK (kvW (L' ++ [(p7, x, p6.2.2 ++ [x])]))) l = some (.lst (ws'.map V.str)) := by
                  rw [upd_ne ndl.symm]
                  exact s7 _ _ R5.el
                have lw := R5.len
                have mu' := mu
                rw [lenR] at mu'
                rw [List.length_append] at le121
                have lL := R.few few
                refine ⟨_, rfl, .inl ⟨rfl, _, SqL.of el8⟩, _, rfl, l, _, .str x, rfl, rfl, el8, ?_, ?_⟩
                · rw [List.length_map, sizeLine_eq]
                  omega
                have s9 : SameT (upd H8 d (.dK (kvW (L' ++ [(p7, x, p6.2.2 ++ [x])])))) (upd (upd H8 d (.dK (kvW (L' ++ [(p7, x, p6.2.2 ++ [x])])))) l (.lst (ws'.map V.str ++ [.str x]))) := SameT.lst el8
                have s89 := s8.trans s9
                refine ⟨L' ++ [(p7, x, p6.2.2 ++ [x])], ws' ++ [x], _, rfl, same_set (same_set (s5.trans s7) nd) nl, s89 _ _ (s7 _ _ eY'), ⟨by rw [upd_ne ndl]; exact upd_same, by rw [upd_same, List.map_append]; rfl, ?_, fun k' hk' => ?_, fun p' hp' => ?_, ?_, fun k' hk' => ?_⟩, ?_, fun u z h hu' => ?_, ?_⟩
                · rw [ksW, List.map_append, List.nodup_append]
                  refine ⟨R5.nd, by simp, fun u hu' v hv' => ?_⟩
                  rw [List.mem_singleton.mp hv']
                  exact fun e => hk ((show u = x from e) ▸ hu')
                · rw [ksW, List.map_append] at hk'
                  rcases List.mem_append.mp hk' with z | z
                  · exact R5.rc k' z
                  · rw [List.mem_singleton.mp z]
                    exact (R5.rc y y5).trans (.one ((mem x).mp (List.mem_of_getElem? hx)))
                · rcases List.mem_append.mp hp' with z | z
                  · have tz := R5.tp p' z
                    refine ⟨s89 _ _ (s7 _ _ tz.1), ?_, tz.2.2⟩
                    rw [List.length_append]
                    exact Nat.le_succ_of_le tz.2.1
                  · rw [List.mem_singleton.mp z]
                    refine ⟨s89 _ _ ?_, ?_, fun e => ?_⟩
                    · rw [← hH8, upd_same, List.map_append]
                      rfl
                    · rw [List.length_append, List.length_append]
                      exact Nat.succ_le_succ tp6.2.1
                    · exact absurd (List.append_eq_nil_iff.mp e).2 (List.cons_ne_nil _ _)
                · rw [ksW, List.map_append]
                  exact List.mem_append_left _ R5.z
                · rw [ksW, List.map_append]
                  rcases List.mem_append.mp hk' with z | z
                  · exact List.mem_append_left _ (R5.sub k' z)
                  · exact List.mem_append_right _ z
                · rw [ksW, List.map_append]
                  exact List.mem_append_left _ y5
                · rw [ksW, List.map_append] at hu' ⊢
                  rcases List.mem_append.mp hu' with c | c
                  · rcases cl5 u z h c with c | c | ⟨c, c'⟩
                    · exact .inl (List.mem_append_left _ c)
                    · exact .inr (.inl (List.mem_append_left _ c))
                    · rw [dr] at c'
                      rcases List.mem_cons.mp c' with rfl | c'
                      · exact .inr (.inl (List.mem_append_right _ List.mem_cons_self))
                      · exact .inr (.inr ⟨c, c'⟩)
                  · exact .inl (List.mem_append_right _ c)
                · rw [List.length_append, List.length_append]
                  show 2 * (61 - (L'.length + 1)) + (ws'.length + 1) < _
                  omega
            · rintro σ' H' ⟨L', ws', v5, rfl, s5, eY', R5, y5, cl5, mu⟩
              refine ⟨⟨L', ws', _, v5, rfl, s5, R5, fun x z h hx => ?_, by rw [lenR] at mu; rw [List.length_append] at le121; omega⟩, by rw [R5.len]; exact mu⟩
              rw [List.length_map, List.drop_length] at cl5
              rcases cl5 x z h hx with c | c | c
              · exact .inl c
              · exact .inr c
              · exact nomatch c.2
      · rintro σ1 H1 Q Q' hQ ⟨x, e, k, tk, z⟩
        exact ⟨x, e, k, tk, hQ _ _ z⟩
    · rintro σ2 H2 ⟨L, u4, u5, rfl, s2, R, cl⟩
      refine ⟨_, rfl, q H2 d L s2 nd R.ed R.nd (fun x => ⟨R.rc x, fun c => ?_⟩) (R.few few)⟩
      exact c.stays (S := fun x => x ∈ ksW L) (fun u v h hu' => cl u v h hu') R.z
end
end K55
/-! x = {k: v for ..}, x a plain local: the swap of names within. -/
namespace SD
open PySem PySem.Spec PyProof.Rows L2
theorem used_dict {key value : Expr} {cs : List Comprehension} {block : Scope} {at1 at2 : Pos} {name : Str} {line : Nat} {env : Env} (fn : env.scope.kind = .function) (own : env.scope.names.lookup name = some .local) (row : (at2.line == at1.line) = true)
    (other : (block.names.any fun (n, k) => n == name && (k == .local || k == .cell)) = false) : swapsWith (.DictComp key value cs block at1) (some (.Name name at2)) line env = pure true := by
  have k1 : env.kindOf name = some .local := own
  have k2 : env.blockKind = .function := by
    unfold Env.blockKind
    rw [fn]
    rfl
  simp only [swapsWith, k1, k2, other, Expr.pos, row]
  rfl
section
variable {X : Cx}
theorem ps_dictTo {slot : Nat} {name : Str} {at2 : Pos} {key value target source : Expr} {tests : List Expr} {block : Scope} {names : List (Str × Nat)} {at1 line : Pos} {wi : TI} {g : TG} {tt : TT} {tk tv : TE} (calm : X.calm = true) (nd : X.N.Nodup)
    (sits : X.N[slot]? = some name) (plain : X.env.scope.names.lookup name = some .local) (swap : swapsWith (.DictComp key value [⟨target, source, tests, 0⟩] block at1) (some (.Name name at2)) line.line X.env = pure true)
    (walk : PI X target source wi) (fits : BlkOk X.N X.env.scope block names)
    (pg : ∀ (s : Shared) (H : Hp) (C : Addr) (cl : List (Str × Addr)) (fp : List Addr), PG (X.blk s H block (compEnvC block cl C X.env) fp) target g)
    (pt : ∀ (s : Shared) (H : Hp) (C : Addr) (cl : List (Str × Addr)) (fp : List Addr), PTs (X.blk s H block (compEnvC block cl C X.env) fp) tests tt)
    (pk : ∀ (s : Shared) (H : Hp) (C : Addr) (cl : List (Str × Addr)) (fp : List Addr), PE (X.blk s H block (compEnvC block cl C X.env) fp) key tk)
    (pe : ∀ (s : Shared) (H : Hp) (C : Addr) (cl : List (Str × Addr)) (fp : List Addr), PE (X.blk s H block (compEnvC block cl C X.env) fp) value tv) (fold : ∀ x, foldedSetIterable source X.env x = pure x := by intro _; rfl) :
    PS X (.Assign [.Name name at2] (.DictComp key value [⟨target, source, tests, 0⟩] block at1) line) (tAsg (tDc wi g tt tk tv (names.map (·.2))) (gName slot)) := by
  constructor
  intro pins s σ H ends I want
  have want' : tDc wi g tt tk tv (names.map (·.2)) σ H (fun x H1 => gName slot x σ H1 ends.nx) := want
  rw [exec_Assign_Name_used _ _ _ _ swap]
  refine wpAny_bind (wpAny_standAt (wpAny_bind ?_))
  show wpAny _ X.A (comprehension (.DictComp key value [⟨target, source, tests, 0⟩] block at1) block X.env (firstIterPos [⟨target, source, tests, 0⟩] at1) newDict false (eval source X.env) (some (assign (.Name name at2) X.env)) >>= _) _ _ s
  refine wpAny_bind (thn (dc_core (Qf := fun _ after => SP X pins ends .next after) calm nd I walk fits pg pt pk pe fold want' fun D C after m Hn In qn nsn fp => ?_) fun _ after z => wpAny_pure (wpAny_pure z))
  refine (show wpAny _ _ (assign (.Name name at2) X.env (.ref D)) _ _ after from wpAny_assign_Name (store_ok2 (v := V.ref D) In nd sits (.inl plain) rfl (fun s2 I2 z => ?_) (.inr plain)))
  obtain ⟨loc, same, here⟩ := z
  obtain ⟨p0, p1, p2, p3, p4, p5⟩ := fp
  have apart : C ≠ loc := here.elim (fun z => z ▸ p1) fun z e => p4 name loc z e.symm
  exact ⟨m, nsn.sameBut same apart, fun h3 but => ⟨_, Hn, I2.turned (t' := s2.toks) (fun b o hb e => (but.2 b hb).trans e) p0 p1 p3 p4 p5, qn⟩⟩
end
/-- a dict made by a block over anything that is walked -/
theorem dict_it {J : It} {n : Nat} {G : Hp → Prop} {Y : Nat → Hp → V → Hp → Prop} (W : Walk J n G Y) {g : TG} {tt : TT} {tk tv : TE} {vs : List Nat} {σ : L2.St} {H1 : Hp} {D : Addr} {Qd : Hp → Prop} (Pv : Nat → Hp → Prop) (first : Pv 0 (upd H1 D (.dK []))) (stays : ∀ (i : Nat) (H : Hp), i ≤ n → Pv i H → G H)
    (turn : ∀ (i : Nat) (x : V) (H H' : Hp), i < n → Pv i H → Y i H x H' → g x (wipe σ vs) H' fun σ2 H2 => wipe σ2 vs = wipe σ vs ∧ tt σ2 H2 fun b H3 => if b = true then tk σ2 H3 fun y H4 => tv σ2 H4 fun z H5 => ∃ kvs k, y = kV k ∧ H5 D = some (.dK kvs) ∧ kvs.length < sizeLine ∧ Pv (i + 1) (upd H5 D (.dK (putK kvs k z))) else Pv (i + 1) H3)
    (last : ∀ H, Pv n H → Qd H) :
    ∃ W : Nat → Nat → Hp → Prop, (∃ m, W 0 m (upd H1 D (.dK []))) ∧ ∀ (i m : Nat) (H : Hp), W i m H → J.stop i H ∧ Qd H ∨ J.go i H ∧ ∃ Nx : Hp → Prop, (∀ H', Nx H' → ∃ m', m' < m ∧ W (i + 1) m' H') ∧ ∀ (x : V) (H' : Hp), J.yld i H x H' → g x (wipe σ vs) H' fun σ2 H2 => wipe σ2 vs = wipe σ vs ∧ tt σ2 H2 fun b H3 => if b = true then tk σ2 H3 fun y H4 => tv σ2 H4 fun z H5 => ∃ kvs k, y = kV k ∧ H5 D = some (.dK kvs) ∧ kvs.length < sizeLine ∧ Nx (upd H5 D (.dK (putK kvs k z))) else Nx H3 := by
  refine ⟨fun i m H => i ≤ n ∧ m = n - i ∧ Pv i H, ⟨n, Nat.zero_le _, rfl, first⟩, ?_⟩
  rintro i m H ⟨le, rfl, p⟩
  rcases Nat.lt_or_eq_of_le le with lt | rfl
  · exact .inr ⟨W.goes i H lt (stays i H le p), fun H' => Pv (i + 1) H', fun H' z => ⟨n - (i + 1), by omega, lt, rfl, z⟩, fun x H' y => turn i x H H' lt p (W.yields i H x H' lt (stays i H le p) y)⟩
  · exact .inl ⟨W.stops H (stays _ H le p), last H p⟩
end SD
/-! is_without_circle, are_links. -/
namespace K55
open PySem PySem.Spec PyProof.Rows L2 WD NS MC GL
open C8 (pss_cut tCut)
/-- a name to each name -/
abbrev gv (names : List Str) (g : Str → Str) : List (Key × V) := names.map fun x => (Sum.inr x, V.str (g x))
theorem gv_val : ∀ {names : List Str} {g : Str → Str} {x : Str}, x ∈ names → valV (gv names g) (Sum.inr x) = some (.str (g x))
  | [], _, _, h => nomatch h
  | y :: ys, g, x, h => by
    by_cases e : y = x
    · subst e
      simp [valV]
    · have h' : x ∈ ys := by
        rcases List.mem_cons.mp h with z | z
        · exact absurd z.symm e
        · exact z
      rw [← gv_val h']
      simp only [valV, gv, List.map_cons, List.find?_cons, Sum.inr.injEq, e, decide_false]
theorem gv_put {names : List Str} {g : Str → Str} {x y : Str} (h : x ∈ names) : putK (gv names g) (Sum.inr x) (.str y) = gv names (fun z => if z = x then y else g z) := by
  have z : (gv names g).any (fun kv => decide (kv.1 = Sum.inr x)) = true := List.any_eq_true.mpr ⟨(Sum.inr x, V.str (g x)), List.mem_map.mpr ⟨x, h, rfl⟩, decide_eq_true rfl⟩
  unfold putK
  rw [if_pos z, gv, List.map_map]
  refine List.map_congr_left fun u hu => ?_
  by_cases e : u = x
  · subst e
    simp
  · simp [e]
theorem gv_new {names : List Str} {x : Str} {g : Str → Str} (h : x ∉ names) : putK (gv names g) (Sum.inr x) (.str (g x)) = gv (names ++ [x]) g := by
  have z : (gv names g).any (fun kv => decide (kv.1 = Sum.inr x)) = false := by
    rw [List.any_eq_false]
    intro kv hkv
    obtain ⟨p, hp, rfl⟩ := List.mem_map.mp hkv
    rw [decide_eq_true_eq]
    intro e
    exact h (Sum.inr.inj e ▸ hp)
  rw [putK, z, gv, gv, List.map_append]
  rfl
theorem gv_congr {names : List Str} {g g' : Str → Str} (h : ∀ x ∈ names, g x = g' x) : gv names g = gv names g' := List.map_congr_left fun x hx => by rw [h x hx]
/-- regrouped so far -/
def part (names : List Str) (g : Str → Str) (old new : Str) (j : Nat) (x : Str) : Str := if x ∈ names.take j then regroup g old new x else g x
theorem part_next {names : List Str} {g : Str → Str} {old new x : Str} {j : Nat} (nd : names.Nodup) (h : names[j]? = some x) : part names g old new j x = g x ∧ ∀ z ∈ names, part names g old new (j + 1) z = if z = x then regroup g old new x else part names g old new j z := by
  have nx : names.take (j + 1) = names.take j ++ [x] := by rw [List.take_succ, h]; rfl
  have no : x ∉ names.take j := fun h => by
    rw [← List.take_append_drop (j + 1) names, nx, List.append_assoc, List.nodup_append] at nd
    exact nd.2.2 _ h _ List.mem_cons_self rfl
  refine ⟨if_neg no, fun z _ => ?_⟩
  unfold part
  rw [nx]
  by_cases e : z = x
  · subst e
    rw [if_pos (List.mem_append_right _ (List.mem_singleton.mpr rfl)), if_pos rfl]
  · rw [if_neg e]
    by_cases c : z ∈ names.take j
    · rw [if_pos (List.mem_append_left _ c), if_pos c]
    · rw [if_neg c, if_neg]
      intro m
      rcases List.mem_append.mp m with m | m
      · exact c m
      · exact e (List.mem_singleton.mp m)
abbrev sWC : Stmt := topS 31
abbrev nWc : List Str := ["links", "names", "name", "groups", "one", "other", "old", "new"]
theorem scWC : FnScope nWc ["links", "names"] (defScope sWC) := ⟨rfl, rfl, rfl, by decide +kernel, rfl, by decide +kernel, by decide +kernel⟩
/-- links that make no circle, in their order -/
structure Free (names : List Str) (ls : List (Str × Str)) : Prop where
  mem : ∀ l ∈ ls, l.1 ∈ names ∧ l.2 ∈ names
  free : ∀ i l, ls[i]? = some l → ¬ Conn (ls.take i) l.1 l.2
def spWC : Sp := fun vs H Q _ => ∃ (a b : Addr) (L : List (Addr × (Str × Str))) (names : List Str), vs = [.ref a, .ref b] ∧ H a = some (.tup (L.map fun p => V.ref p.1)) ∧ LkAt H L ∧ H b = some (.lst (names.map V.str)) ∧ names.Nodup ∧ names.length < 60 ∧ Free names (L.map (·.2)) ∧
  ∀ H', Same H H' → Q (.bl true) H'
section
variable {P : Program} {w : World} {K : PySem.W.Frag} {mg : Str → Option Value} {base : Heap}
theorem ok_WC {f : Addr} {fd : FuncData} {k : Nat} (F : Fun K "is_without_circle" "is_without_circle" sWC f fd) : FnOk P w K mg base CX0 (k + 1) f fd ["links", "names"] spWC := by
  refine F.ok scWC (fun vs H Q E h => ?_) (fun cdv A outer s H vs Q E hr h => ?_)
  · obtain ⟨a, b, L, names, rfl, _⟩ := h
    rfl
  · obtain ⟨a, b, L, names, rfl, ea, kL, eb, nd, few, fr, q⟩ := h
    have hu := hr.units
    have hu1 := Nat.lt_of_le_of_lt (Nat.add_le_add_left (by decide : 1 ≤ 64) _) hu
    refine ⟨_, pss_cut (SD.ps_dictTo (slot := 3) (names := [("name", 2)]) (g := gName 2) (tt := tYes) (tk := tVar 2) (tv := tVar 2) rfl scWC.nd rfl rfl (SD.used_dict rfl rfl rfl (by decide +kernel))
        (pi_list (pv 1)) (blkOk_by (own := [("name", 2)]) (N := nWc) (sc := defScope sWC) (by decide +kernel))
        (fun _ _ _ _ _ => pg_name (i := 2) scWC.nd rfl (.inl rfl)) (fun _ _ _ _ _ => pts_nil) (fun _ _ _ _ _ => pv 2) (fun _ _ _ _ _ => pv 2))
      (pss_cut (ps_for PassesOwn.never rfl (pi_tup (pv 0)) (pg_tup rfl (pgs_cons (pg_name (i := 4) scWC.nd rfl (.inl rfl)) (pgs_cons (pg_name (i := 5) scWC.nd rfl (.inl rfl)) pgs_nil)))
        (pss_cons (ps_par (i := 6) (j := 7) (by rfl) scWC.nd rfl rfl (by decide) rfl rfl (pa_cons (pe_dget hu1 (pv 3) (pv 4) (fun _ _ => rfl)) (pa_cons (pe_dget hu1 (pv 3) (pv 5) (fun _ _ => rfl)) pa_nil)) (by rfl))
        (pss_cons (ps_if (pt_cmpR op_eq (pv 6) (pv 7) (nomark _)) (pss_one (ps_ret pe_bl)) pss_nil)
        (pss_one (ps_for PassesOwn.never rfl (pi_list (pv 1)) (pg_name (i := 2) scWC.nd rfl (.inl rfl))
          (pss_one (ps_if (pt_cmpR op_eq (pe_dget hu1 (pv 3) (pv 2) (fun _ _ => rfl)) (pv 6) (nomark _)) (pss_one (ps_dput hu1 (pv 3) (pv 2) (pv 7) rfl)) pss_nil)))))))
      (pss_one (ps_ret pe_bl))), ?_⟩
    refine ⟨fun σ' H' => ∃ D, σ' = [some (.ref a), some (.ref b), none, some (.ref D), none, none, none, none] ∧ Same H H' ∧ H D = none ∧ H' D = some (.dK (gv names id)), ?_, ?_⟩
    · refine ⟨_, rfl, b, rfl, ⟨_, SqL.of eb⟩, fun D nD => ?_⟩
      have sD := same_upd (o := .dK []) nD
      refine SD.dict_it (walk_list (xs := names.map V.str)) (fun i H' => Same H H' ∧ H' D = some (.dK (gv (names.take i) id))) ⟨sD, upd_same⟩ (fun i H' _ z => SqL.of (z.1 _ _ eb)) ?_ ?_
      · rintro i v H2 H3 hi ⟨s2, e2⟩ ⟨rfl, hv⟩
        obtain ⟨x, hx, rfl⟩ := strs_get hv
        have nx : names.take (i + 1) = names.take i ++ [x] := by rw [List.take_succ, hx]; rfl
        have no : x ∉ names.take i := fun h => by
          rw [← List.take_append_drop (i + 1) names, nx, List.append_assoc, List.nodup_append] at nd
          exact nd.2.2 _ h _ List.mem_cons_self rfl
        refine ⟨rfl, tYes_ite ⟨_, rfl, _, rfl, _, Sum.inr x, rfl, e2, ?_, same_set s2 nD, ?_⟩⟩
        · rw [List.length_map, List.length_take, sizeLine_eq]
          omega
        · rw [upd_same, nx]
          exact congrArg (fun z => some (HO.dK z)) (gv_new (g := id) no)
      · rintro H2 ⟨s2, e2⟩
        rw [List.length_map, List.take_length] at e2
        exact ⟨D, rfl, s2, nD, e2⟩
    rintro σ1 H1 ⟨D, rfl, s1, nD, eD⟩
    have dd : ∀ {H' : Hp} {o : HO}, Same H H' → Same H (upd H' D o) := fun {H' o} s => same_set s nD
    refine ⟨fun σ' H' => Same H H' , ?_, fun σ' H' s => q H' s⟩
    refine ⟨_, rfl, a, rfl, ⟨_, SqT.of (s1 _ _ ea)⟩, for_tup (xs := L.map fun p => V.ref p.1) (fun i σ' H' => ∃ (u2 u4 u5 u6 u7 : Option V) (g : Str → Str), σ' = [some (.ref a), some (.ref b), u2, some (.ref D), u4, u5, u6, u7] ∧ Same H H' ∧ H' D = some (.dK (gv names g)) ∧ Grp names ((L.map (·.2)).take i) g) ?_ ?_ ?_ ?_⟩
    · exact ⟨_, _, _, _, _, id, rfl, s1, eD, Grp.new⟩
    · rintro i σ' H' _ ⟨_, _, _, _, _, _, _, s, _⟩
      exact SqT.of (s _ _ ea)
    · rintro i v σ' H' hv ⟨u2, u4, u5, u6, u7, g, rfl, s2, e2, G⟩
      rw [List.getElem?_map] at hv
      obtain ⟨p, hp, rfl⟩ := Option.map_eq_some_iff.mp hv
      have hl : (L.map (·.2))[i]? = some p.2 := by rw [List.getElem?_map, hp]; rfl
      have nx : (L.map (·.2)).take (i + 1) = (L.map (·.2)).take i ++ [p.2] := by rw [List.take_succ, hl]; rfl
      obtain ⟨m1, m2⟩ := fr.mem _ (List.mem_of_getElem? hl)
      have nc : g p.2.1 ≠ g p.2.2 := fun e => fr.free i _ hl ((G.same _ m1 _ m2).mp e)
      refine ⟨p.1, _, rfl, SqT.of (s2 _ _ (kL p (List.mem_of_getElem? hp))), rfl, _, _, rfl, _, _, rfl, rfl, ?_⟩
      refine ⟨_, rfl, _, rfl, D, _, rfl, gv_val (g := g) m1 ▸ DGet.k (k := Sum.inr p.2.1) e2, _, rfl, _, rfl, D, _, rfl, gv_val (g := g) m2 ▸ DGet.k (k := Sum.inr p.2.2) e2, ?_⟩
      refine ⟨_, _, rfl, _, rfl, _, rfl, rfl, _, rfl, ifF (decide_eq_false fun z => nc (V.str.inj z)) ?_⟩
      refine ⟨_, rfl, b, rfl, ⟨_, SqL.of (s2 _ _ eb)⟩, for_list (xs := names.map V.str) (fun j σ' H' => ∃ (u2 : Option V), σ' = [some (.ref a), some (.ref b), u2, some (.ref D), some (.str p.2.1), some (.str p.2.2), some (.str (g p.2.1)), some (.str (g p.2.2))] ∧ Same H H' ∧
        H' D = some (.dK (gv names (part names g (g p.2.1) (g p.2.2) j)))) ?_ ?_ ?_ ?_⟩
      · exact ⟨u2, rfl, s2, by rw [e2]; exact congrArg (fun z => some (HO.dK z)) (gv_congr fun x _ => by simp [part])⟩
      · rintro j σ' H' _ ⟨_, _, s, _⟩
        exact SqL.of (s _ _ eb)
      · rintro j v σ' H3 hv3 ⟨w2, rfl, s3, e3⟩
        obtain ⟨x, hx, rfl⟩ := strs_get hv3
        obtain ⟨p1, p2⟩ := part_next (g := g) (old := g p.2.1) (new := g p.2.2) nd hx
        have mx := List.mem_of_getElem? hx
        refine ⟨_, rfl, _, rfl, D, _, rfl, gv_val mx ▸ DGet.k (k := Sum.inr x) e3, _, rfl, rfl, _, rfl, ?_⟩
        rw [p1]
        refine ifB (fun hb => ?_) fun hb => ?_
        · have eb' : g x = g p.2.1 := V.str.inj (of_decide_eq_true hb)
          refine ⟨_, rfl, _, rfl, _, rfl, D, _, rfl, DPut.k (k := Sum.inr x) e3 ?_, ?_⟩
          · rw [List.length_map, sizeLine_eq]
            omega
          · refine ⟨_, rfl, same_set s3 nD, ?_⟩
            rw [upd_same, gv_put mx]
            refine congrArg (fun z => some (HO.dK z)) (gv_congr fun z hz => ?_)
            rw [p2 z hz]
            unfold regroup
            rw [if_pos eb']
        · have nb : ¬ g x = g p.2.1 := fun z => of_decide_eq_false hb (congrArg V.str z)
          refine ⟨_, rfl, s3, ?_⟩
          rw [e3]
          refine congrArg (fun z => some (HO.dK z)) (gv_congr fun z hz => ?_)
          rw [p2 z hz]
          by_cases c : z = x
          · subst c
            rw [if_pos rfl, p1]
            unfold regroup
            rw [if_neg nb]
          · rw [if_neg c]
      · rintro σ' H3 ⟨w2, rfl, s3, e3⟩
        rw [List.length_map] at e3
        refine ⟨_, _, _, _, _, regroup g (g p.2.1) (g p.2.2), rfl, s3, ?_, ?_⟩
        · rw [e3]
          refine congrArg (fun z => some (HO.dK z)) (gv_congr fun z hz => ?_)
          unfold part
          rw [List.take_length, if_pos hz]
        · rw [nx]
          exact G.link m1 m2
    · rintro σ' H' ⟨u2, u4, u5, u6, u7, g, rfl, s2, e2, G⟩
      exact s2
end
end K55
/-! are_links, is_network. -/
namespace K55
open PySem PySem.Spec PyProof.Rows L2 WD NS MC GL
open C8 (pss_cut tCut)
abbrev sAL : Stmt := topS 30
abbrev nAl : List Str := ["value", "names", "link", "one", "other"]
theorem scAL : FnScope nAl ["value", "names"] (defScope sAL) := ⟨rfl, rfl, rfl, by decide +kernel, rfl, by decide +kernel, by decide +kernel⟩
def spAL : Sp := fun vs H Q _ => ∃ (a b : Addr) (L : List (Addr × (Str × Str))) (names : List Str), vs = [.ref a, .ref b] ∧ H a = some (.tup (L.map fun p => V.ref p.1)) ∧ LkAt H L ∧ H b = some (.lst (names.map V.str)) ∧ names.Nodup ∧ names.length < 60 ∧ Free names (L.map (·.2)) ∧
  (∀ l ∈ L.map (·.2), sLt l.1 l.2) ∧ (L.map (·.2)).Pairwise linkLt ∧ L.length < 30 ∧ ∀ H', Same H H' → Q (.bl true) H'
structure TxtA (K : PySem.W.Frag) (mg : Str → Option Value) (fA fWC : Addr) (dA dWC : FuncData) : Prop where
  rg : mg "range" = none
  A : Fun K "is_ascending" "is_ascending" sAsc fA dA
  bA : L2.Binds K dA ["parts"] []
  gA : mg "is_ascending" = some (.ref fA)
  W : Fun K "is_without_circle" "is_without_circle" sWC fWC dWC
  bW : L2.Binds K dWC ["links", "names"] []
  gW : mg "is_without_circle" = some (.ref fWC)
section
variable {P : Program} {w : World} {K : PySem.W.Frag} {mg : Str → Option Value} {base : Heap} {fA fWC : Addr} {dA dWC : FuncData}
theorem ok_AL {f : Addr} {fd : FuncData} {k : Nat} (F : Fun K "are_links" "are_links" sAL f fd) (TN : TxtNm K mg) (T : TxtA K mg fA fWC dA dWC) : FnOk P w K mg base CX0 (k + 2) f fd ["value", "names"] spAL := by
  have GA : FnOk P w K mg base CX0 (k + 1) fA dA ["parts"] (spAsc K) := ok_Asc T.A TN T.rg
  have GW : FnOk P w K mg base CX0 (k + 1) fWC dWC ["links", "names"] spWC := ok_WC T.W
  refine F.ok scAL (fun vs H Q E h => ?_) (fun cdv A outer s H vs Q E hr h => ?_)
  · obtain ⟨a, b, L, names, rfl, _⟩ := h
    rfl
  · obtain ⟨a, b, L, names, rfl, ea, kL, eb, nd, few, fr, lts, asc, l30, q⟩ := h
    have hu := hr.units
    refine ⟨_, pss_cons (ps_if (pt_not (pt_val (pe_callB call_isi (by rfl) TN.isi (by decide +kernel) (pa_cons (pv 0) (pa_cons (pe_bltn (by rfl) TN.tuple (by decide +kernel) (v := .ty "tuple") rfl) pa_nil))))) (pss_one (ps_ret pe_bl)) pss_nil)
      (pss_cut (ps_for PassesOwn.never rfl (pi_tup (pv 0)) (pg_name (i := 2) scAL.nd rfl (.inl rfl))
        (pss_cons (ps_if (PW.pt (pw_or (pt_not (pt_val (pe_callB call_isi (by rfl) TN.isi (by decide +kernel) (pa_cons (pv 2) (pa_cons (pe_bltn (by rfl) TN.tuple (by decide +kernel) (v := .ty "tuple") rfl) pa_nil)))))
            (pw_or1 (pt_cmpR op_ne (pe_callB call_len_seq (by rfl) TN.len PySem.boot_len (pa_cons (pv 2) pa_nil)) pe_int (nomark _))))) (pss_one (ps_ret pe_bl)) pss_nil)
        (pss_cons (ps_asg (pv 2) (pg_tup rfl (pgs_cons (pg_name (i := 3) scAL.nd rfl (.inl rfl)) (pgs_cons (pg_name (i := 4) scAL.nd rfl (.inl rfl)) pgs_nil))))
        (pss_one (ps_if (PW.pt (pw_or (pt_cmpR (show OpR _ (compareOp .NotIn) (rIn K true) from op_notIn_seq) (pv 3) (pv 1) (by rfl)) (pw_or (pt_cmpR (show OpR _ (compareOp .NotIn) (rIn K true) from op_notIn_seq) (pv 4) (pv 1) (by rfl))
            (pw_or1 (pt_not (pt_cmpR (NS.op_ltK hu) (pv 3) (pv 4) (nomark _))))))) (pss_one (ps_ret pe_bl)) pss_nil)))))
      (pss_one (ps_ret (pe_and (pe_call GA hr (by rfl) T.gA T.A.kp T.bA .nil pass0 (pa_cons (pv 0) pa_nil))
        (pe_one (pe_or (pe_cmpR op_lt (pe_callB call_len_seq (by rfl) TN.len PySem.boot_len (pa_cons (pv 0) pa_nil)) pe_int (nomark _))
          (pe_one (pe_call GW hr (by rfl) T.gW T.W.kp T.bW .nil pass0 (pa_cons (pv 0) (pa_cons (pv 1) pa_nil)))))))))), ?_⟩
    refine ⟨_, rfl, _, _, _, .type "tuple", true, rfl, .ty _, .base (.tup ea), kit_ty (by decide +kernel), _, rfl, iteF ?_⟩
    refine ⟨fun σ' H' => H' = H ∧ ∃ u2 u3 u4 : Option V, σ' = [some (.ref a), some (.ref b), u2, u3, u4], ?_, ?_⟩
    · refine ⟨_, rfl, a, rfl, ⟨_, SqT.of ea⟩, for_tup (xs := L.map fun p => V.ref p.1) (fun i σ' H' => H' = H ∧ ∃ u2 u3 u4 : Option V, σ' = [some (.ref a), some (.ref b), u2, u3, u4]) ⟨rfl, none, none, none, rfl⟩ ?_ ?_ fun _ _ z => z⟩
      · rintro i σ' H' _ ⟨rfl, _⟩
        exact SqT.of ea
      · rintro i v σ' H' hv ⟨rfl, u2, u3, u4, rfl⟩
        rw [List.getElem?_map] at hv
        obtain ⟨p, hp, rfl⟩ := Option.map_eq_some_iff.mp hv
        have hl : (L.map (·.2))[i]? = some p.2 := by rw [List.getElem?_map, hp]; rfl
        obtain ⟨m1, m2⟩ := fr.mem _ (List.mem_of_getElem? hl)
        have ep := kL p (List.mem_of_getElem? hp)
        refine ⟨_, rfl, _, _, _, .type "tuple", true, rfl, .ty _, .base (.tup ep), kit_ty (by decide +kernel), _, rfl, iteF ?_⟩
        refine ⟨_, rfl, p.1, _, rfl, .inr (SqT.of ep), rfl, _, rfl, iteF ?_⟩
        refine ⟨_, rfl, p.1, _, rfl, SqT.of ep, rfl, _, _, rfl, _, _, rfl, rfl, ?_⟩
        have fl : (names.map V.str).all flatV = true := flat_strs names
        refine ⟨_, rfl, _, rfl, b, _, rfl, .inl (SqL.of eb), rfl, fl, _, rfl, ?_⟩
        rw [inV_strs m1]
        refine iteF ⟨_, rfl, _, rfl, b, _, rfl, .inl (SqL.of eb), rfl, fl, _, rfl, ?_⟩
        rw [inV_strs m2]
        refine iteF ⟨_, rfl, _, rfl, .text p.2.1, .text p.2.2, .str _, .str _, text_alike _ _, (fun z => nomatch z), Nat.zero_le _, _, rfl, ?_⟩
        rw [text_lt, decide_eq_true (lts _ (List.mem_of_getElem? hl))]
        exact iteF ⟨rfl, _, _, _, rfl⟩
    · rintro σ' H' ⟨rfl, u2, u3, u4, rfl⟩
      have pw : ((L.map (·.2)).map linkKey).Pairwise (fun j k => PySem.W.alike j.data k.data = true ∧ PySem.W.dataLt j.data k.data = true) := List.pairwise_map.mpr (asc.imp fun {x y} h => ⟨link_alike x y, h⟩)
      refine ⟨_, rfl, a, _, _, rfl, .inr (SqT.of ea), kL.all, by rw [List.length_map]; omega, fun j hj => ?_, pw, _, rfl, iteT ?_⟩
      · obtain ⟨l, _, rfl⟩ := List.mem_map.mp hj
        exact ⟨fun z => (nomatch z), by rw [link_depth]; decide⟩
      refine ⟨_, rfl, a, _, rfl, .inr (SqT.of ea), _, _, rfl, rfl, _, rfl, ifB (fun hb => ?_) fun hb => ?_⟩
      · exact q _ fun _ _ e => e
      · exact ⟨_, rfl, _, rfl, a, b, L, names, rfl, ea, kL, eb, nd, few, fr, q⟩
end
end K55
/-! is_network, check_network, check_name. -/
namespace K55
open PySem PySem.Spec PyProof.Rows L2 WD NS MC GL
open C8 (pss_cut tCut)
theorem NetM.Ok.frees {N : NetM} (ok : N.Ok) : Free N.names N.ls := ⟨fun l hl => ⟨(ok.l1 l hl).1, (ok.l1 l hl).2.1⟩, fun i l hl => by
  have il := (List.getElem?_eq_some_iff.mp hl).1
  have el := (List.getElem?_eq_some_iff.mp hl).2
  refine ok.pre (pre := N.ls.take i) (post := N.ls.drop (i + 1)) ?_
  have d : N.ls.drop i = l :: N.ls.drop (i + 1) := by rw [List.drop_eq_getElem_cons il, el]
  rw [← d, List.take_append_drop]⟩
abbrev sIN : Stmt := topS 29
abbrev nIn : List Str := ["value", "machines", "links", "names", "part", "name", "machine", "near", "one", "other"]
theorem scIN : FnScope nIn ["value"] (defScope sIN) := ⟨rfl, rfl, rfl, by decide +kernel, rfl, by decide +kernel, by decide +kernel⟩
def spIN : Sp := fun vs H Q _ => ∃ (a : Addr) (N : NetM), vs = [.ref a] ∧ Kz H (.ref a) N.key ∧ N.Ok ∧ ∀ H', Same H H' → Q (.bl true) H'
structure TxtN (K : PySem.W.Frag) (mg : Str → Option Value) (fAL fI : Addr) (dAL dI : FuncData) : Prop where
  mm : ∃ t, mg "MAX_MACHINES" = some (.int 6 t)
  L : Fun K "are_links" "are_links" sAL fAL dAL
  bL : L2.Binds K dAL ["value", "names"] []
  gL : mg "are_links" = some (.ref fAL)
  I : Fun K "is_network" "is_network" sIN fI dI
  bI : L2.Binds K dI ["value"] []
  gI : mg "is_network" = some (.ref fI)
theorem kz_texts {H : Hp} : ∀ xs : List Str, KzAll H (xs.map V.str) (xs.map NestedKey.text)
  | [] => .nil
  | x :: xs => .cons (.str x) (kz_texts xs)
/-- the other ends of the links -/
def otherEnd (x : Str) (l : Str × Str) : Option Str := if l.1 = x then some l.2 else if l.2 = x then some l.1 else none
theorem ends_next {x : Str} {ls : List (Str × Str)} {i : Nat} {l : Str × Str} (h : ls[i]? = some l) : (ls.take (i + 1)).filterMap (otherEnd x) = (ls.take i).filterMap (otherEnd x) ++ (otherEnd x l).toList := by
  rw [List.take_succ, h, List.filterMap_append]
  cases e : otherEnd x l with
  | none => simp [e]
  | some y => simp [e]
theorem mem_ends {x y : Str} {ls : List (Str × Str)} (h : Linked ls x y) : y ∈ ls.filterMap (otherEnd x) := by
  rw [List.mem_filterMap]
  rcases h with h | h
  · exact ⟨_, h, if_pos rfl⟩
  · refine ⟨_, h, ?_⟩
    unfold otherEnd
    by_cases e : y = x
    · rw [if_pos e, e]
    · rw [if_neg e, if_pos rfl]
section
variable {P : Program} {w : World} {K : PySem.W.Frag} {mg : Str → Option Value} {base : Heap} {fA fWC fAL fI : Addr} {dA dWC dAL dI : FuncData} {fW fF fN fS fT fR fI' fC cM : Addr} {dW dF dN dS dT dR dI' dC : FuncData}
theorem ok_IN {f : Addr} {fd : FuncData} {k : Nat} (F : Fun K "is_network" "is_network" sIN f fd) (TI : TxtI K mg fW fF dW dF) (TN : TxtNm K mg) (TT : TxtT K mg fN dN) (TM : TxtM K mg fS fT fR fI' fC cM dS dT dR dI' dC) (TA : TxtA K mg fA fWC dA dWC) (T : TxtN K mg fAL fI dAL dI) :
    FnOk P w K mg base CX0 (k + 4) f fd ["value"] spIN := by
  have GA : FnOk P w K mg base CX0 (k + 1) fA dA ["parts"] (spAsc K) := ok_Asc TA.A TN TA.rg
  have GN : FnOk P w K mg base CX0 (k + 1) fN dN ["value"] spName := ok_Name TT.N TN
  have GL : FnOk P w K mg base CX0 (k + 2) fAL dAL ["value", "names"] spAL := ok_AL T.L TN TA
  have GR : FnOk P w K mg base CX0 (k + 3) fR dR ["value", "near"] (spNearM K) := ok_NearM TM.R TI TN TT TM
  obtain ⟨t6, g6⟩ := T.mm
  refine F.ok scIN (fun vs H Q E h => ?_) (fun cdv A outer s H vs Q E hr h => ?_)
  · obtain ⟨a, N, rfl, _⟩ := h
    rfl
  · obtain ⟨a, N, rfl, hn, ok, q⟩ := h
    have hu := hr.units
    have hr1 : Room (k + 1) _ := hr.mono (by omega)
    have hr2 : Room (k + 2) _ := hr.mono (by omega)
    refine ⟨_, pss_cons (ps_if (PW.pt (pw_or (pt_not (pt_val (pe_callB call_isi (by rfl) TN.isi (by decide +kernel) (pa_cons (pv 0) (pa_cons (pe_bltn (by rfl) TN.tuple (by decide +kernel) (v := .ty "tuple") rfl) pa_nil)))))
            (pw_or1 (pt_cmpR op_ne (pe_callB call_len_seq (by rfl) TN.len PySem.boot_len (pa_cons (pv 0) pa_nil)) pe_int (nomark _))))) (pss_one (ps_ret pe_bl)) pss_nil)
      (pss_cons (ps_asg (pv 0) (pg_tup rfl (pgs_cons (pg_name (i := 1) scIN.nd rfl (.inl rfl)) (pgs_cons (pg_name (i := 2) scIN.nd rfl (.inl rfl)) pgs_nil))))
      (pss_cons (ps_if (PW.pt (pw_or (pt_not (pt_val (pe_callB call_isi (by rfl) TN.isi (by decide +kernel) (pa_cons (pv 1) (pa_cons (pe_bltn (by rfl) TN.tuple (by decide +kernel) (v := .ty "tuple") rfl) pa_nil)))))
            (pw_or1 (pt_not (pt_chain op_le op_le pe_int (pe_callB call_len_seq (by rfl) TN.len PySem.boot_len (pa_cons (pv 1) pa_nil)) (pe_glob (v := .int 6) rfl g6 ⟨_, rfl⟩)))))) (pss_one (ps_ret pe_bl)) pss_nil)
      (pss_cut (ps_set (i := 3) scIN.nd rfl (.inl rfl) (pe_lst pa_nil))
      (pss_cut (ps_for PassesOwn.never rfl (pi_tup (pv 1)) (pg_name (i := 4) scIN.nd rfl (.inl rfl))
        (pss_cons (ps_if (PW.pt (pw_or (pt_not (pt_val (pe_callB call_isi (by rfl) TN.isi (by decide +kernel) (pa_cons (pv 4) (pa_cons (pe_bltn (by rfl) TN.tuple (by decide +kernel) (v := .ty "tuple") rfl) pa_nil)))))
            (pw_or (pt_cmpR op_ne (pe_callB call_len_seq (by rfl) TN.len PySem.boot_len (pa_cons (pv 4) pa_nil)) pe_int (nomark _))
            (pw_or1 (pt_not (pt_val (pe_call GN hr1 (by rfl) TT.gN TT.N.kp TT.bN .nil pass0 (pa_cons (pe_ix (show IxR _ (rIxT K) from ix_tup) (pv 4) pe_int (fun _ _ => rfl)) pa_nil)))))))) (pss_one (ps_ret pe_bl)) pss_nil)
        (pss_one (ps_expr (pe_bm PySem.F.plainAttrs_list PySem.F.slot_list_append PySem.F.type_list_append mt_append (pv 3) (pa_cons (pe_ix (show IxR _ (rIxT K) from ix_tup) (pv 4) pe_int (fun _ _ => rfl)) pa_nil))))))
      (pss_cut (ps_if (PW.pt (pw_or (pt_not (pt_val (pe_call GA hr1 (by rfl) TA.gA TA.A.kp TA.bA .nil pass0 (pa_cons (pv 3) pa_nil))))
          (pw_or1 (pt_not (pt_val (pe_call GL hr2 (by rfl) T.gL T.L.kp T.bL .nil pass0 (pa_cons (pv 2) (pa_cons (pv 3) pa_nil)))))))) (pss_one (ps_ret pe_bl)) pss_nil)
      (pss_cut (ps_for PassesOwn.never rfl (pi_tup (pv 1)) (pg_tup rfl (pgs_cons (pg_name (i := 5) scIN.nd rfl (.inr rfl)) (pgs_cons (pg_name (i := 6) scIN.nd rfl (.inl rfl)) pgs_nil)))
        (pss_cut (ps_setLc (i := 7) (own := [("one", 8), ("other", 9)]) (g := gTup K 2 (gCons (gName 8) (gCons (gName 9) gNil))) (tt := tOr (tTest (tOp rEq (tVar 8) (tVar 5))) (tTest (tOp rEq (tVar 9) (tVar 5)))) (te := tIf (tTest (tOp rEq (tVar 8) (tVar 5))) (tVar 9) (tVar 8)) rfl scIN.nd rfl rfl (sw_true rfl rfl rfl (by decide +kernel))
            (pi_tup (pv 2)) (blkOk_by (own := [("one", 8), ("other", 9)]) (N := nIn) (sc := defScope sIN) (by decide +kernel))
            (fun _ _ _ _ _ => pg_tup rfl (pgs_cons (pg_name (i := 8) scIN.nd rfl (.inl rfl)) (pgs_cons (pg_name (i := 9) scIN.nd rfl (.inl rfl)) pgs_nil)))
            (fun _ _ _ _ _ => pts_one (PW.pt (pw_or (pt_cmpR op_eq (pv 8) (pv 5) (nomark _)) (pw_or1 (pt_cmpR op_eq (pv 9) (pv 5) (nomark _))))))
            (fun _ _ _ _ _ => pe_ifExp (pt_cmpR op_eq (pv 8) (pv 5) (nomark _)) (pv 9) (pv 8)))
        (pss_one (ps_if (pt_not (pt_val (pe_call GR hr (by rfl) TM.gR TM.R.kp TM.bR .nil pass0 (pa_cons (pv 6) (pa_cons (pv 7) pa_nil))))) (pss_one (ps_ret pe_bl)) pss_nil))))
      (pss_one (ps_ret pe_bl)))))))), ?_⟩
    obtain ⟨M⟩ := net_at hn
    have lx := M.lx
    have n0 := ok.n0
    have n6 := ok.n6
    obtain ⟨L, eL, mL, kL⟩ := lk_of M.lks
    have eB : H M.B = some (.tup (L.map fun p => V.ref p.1)) := eL ▸ M.eb
    have lL : L.length < 30 := by
      have z := ok.lf
      rw [← mL, List.length_map] at z
      exact z
    refine ⟨_, rfl, _, _, _, .type "tuple", true, rfl, .ty _, .base (.tup M.top), kit_ty (by decide +kernel), _, rfl, iteF ?_⟩
    refine ⟨_, rfl, a, _, rfl, .inr (SqT.of M.top), rfl, _, rfl, iteF ?_⟩
    refine ⟨_, rfl, a, _, rfl, SqT.of M.top, rfl, _, _, rfl, _, _, rfl, rfl, ?_⟩
    refine ⟨_, rfl, _, _, _, .type "tuple", true, rfl, .ty _, .base (.tup M.ea), kit_ty (by decide +kernel), _, rfl, iteF ?_⟩
    refine ⟨_, rfl, M.A, _, rfl, .inr (SqT.of M.ea), _, _, rfl, rfl, _, rfl, ifT (decide_eq_true (by omega)) ⟨_, _, rfl, rfl, _, rfl, ?_⟩⟩
    rw [decide_eq_true (show ((M.xs.length : Nat) : Int) ≤ 6 by omega)]
    refine iteF ?_
    -- names = []
    refine ⟨fun σ' H' => ∃ D, σ' = [some (.ref a), some (.ref M.A), some (.ref M.B), some (.ref D), none, none, none, none, none, none] ∧ Same H H' ∧ H D = none ∧ H' D = some (.lst []), ?_, ?_⟩
    · exact ⟨Nat.zero_le _, fun D nD => ⟨D, rfl, same_upd nD, nD, upd_same⟩⟩
    rintro σ1 H1 ⟨D, rfl, s1, nD, eD⟩
    -- the names
    refine ⟨fun σ' H' => ∃ u4 : Option V, σ' = [some (.ref a), some (.ref M.A), some (.ref M.B), some (.ref D), u4, none, none, none, none, none] ∧ Same H H' ∧ H' D = some (.lst (N.names.map V.str)), ?_, ?_⟩
    · refine ⟨_, rfl, M.A, rfl, ⟨_, SqT.of (s1 _ _ M.ea)⟩, for_tup (xs := M.xs) (fun i σ' H' => ∃ u4 : Option V, σ' = [some (.ref a), some (.ref M.A), some (.ref M.B), some (.ref D), u4, none, none, none, none, none] ∧ Same H H' ∧ H' D = some (.lst (((N.ms.take i).map (·.1)).map V.str))) ⟨none, rfl, s1, eD⟩ ?_ ?_ ?_⟩
      · rintro i σ' H' _ ⟨_, _, s, _⟩
        exact SqT.of (s _ _ M.ea)
      · rintro i v σ' H' hv ⟨u4, rfl, s2, e2⟩
        obtain ⟨p, hp, qa, b, rfl, eq, kb⟩ := pair_at M.all hv
        have ep := s2 _ _ eq
        have il := (List.getElem?_eq_some_iff.mp hp).1
        refine ⟨_, rfl, _, _, _, .type "tuple", true, rfl, .ty _, .base (.tup ep), kit_ty (by decide +kernel), _, rfl, iteF ?_⟩
        refine ⟨_, rfl, qa, _, rfl, .inr (SqT.of ep), rfl, _, rfl, iteF ?_⟩
        refine ⟨_, rfl, qa, _, 0, .str p.1, rfl, rfl, SqT.of ep, atI_nat (j := 0) rfl, p.1, rfl, (ok.wd p (List.mem_of_getElem? hp)).1, _, rfl, iteF ?_⟩
        refine ⟨_, rfl, .inl ⟨rfl, _, SqL.of e2⟩, _, rfl, qa, _, 0, .str p.1, rfl, rfl, SqT.of ep, atI_nat (j := 0) rfl, D, _, .str p.1, rfl, rfl, e2, ?_, _, rfl, same_set s2 nD, ?_⟩
        · rw [List.length_map, List.length_map, List.length_take, sizeLine_eq]
          omega
        · rw [upd_same, List.take_succ, hp, Option.toList_some, List.map_append, List.map_append]
          rfl
      · rintro σ' H' ⟨u4, rfl, s2, e2⟩
        rw [lx, List.take_length] at e2
        exact ⟨u4, rfl, s2, e2⟩
    rintro σ2 H2 ⟨u4, rfl, s2, e2⟩
    have ln : N.names.length = N.ms.length := List.length_map _
    -- is_ascending(names), are_links(links, names)
    refine ⟨fun σ' H' => σ' = [some (.ref a), some (.ref M.A), some (.ref M.B), some (.ref D), u4, none, none, none, none, none] ∧ Same H H', ?_, ?_⟩
    · refine ⟨_, rfl, D, _, N.names.map NestedKey.text, rfl, .inl (SqL.of e2), kz_texts _, by rw [List.length_map]; omega, fun j hj => ?_, ?_, _, rfl, iteF ?_⟩
      · obtain ⟨x, _, rfl⟩ := List.mem_map.mp hj
        exact ⟨fun z => (nomatch z), Nat.zero_le _⟩
      · refine List.pairwise_map.mpr (ok.asc.imp fun {x y} h => ⟨text_alike x y, ?_⟩)
        rw [text_lt]
        exact decide_eq_true h
      refine ⟨_, rfl, _, rfl, M.B, D, L, N.names, rfl, s2 _ _ eB, kL.same s2, e2, ok.once, by omega, mL ▸ ok.frees, fun l hl => (ok.l1 l (mL ▸ hl)).2.2, mL ▸ ok.l2, lL, fun H3 s3 => ⟨_, rfl, iteF ⟨rfl, s2.trans s3⟩⟩⟩
    rintro σ3 H3 ⟨rfl, s3⟩
    -- the machines
    refine ⟨fun σ' H' => Same H H', ?_, fun σ' H' s => q H' s⟩
    refine ⟨_, rfl, M.A, rfl, ⟨_, SqT.of (s3 _ _ M.ea)⟩, for_tup (xs := M.xs) (fun i σ' H' => ∃ u5 u6 u7 : Option V, σ' = [some (.ref a), some (.ref M.A), some (.ref M.B), some (.ref D), u4, u5, u6, u7, none, none] ∧ Same H H') ⟨_, _, _, rfl, s3⟩ ?_ ?_ ?_⟩
    · rintro i σ' H' _ ⟨_, _, _, _, s⟩
      exact SqT.of (s _ _ M.ea)
    · rintro i v σ' H4 hv ⟨u5, u6, u7, rfl, s4⟩
      obtain ⟨p, hp, qa, b, rfl, eq, kb⟩ := pair_at M.all hv
      have mp := List.mem_of_getElem? hp
      refine ⟨qa, _, rfl, SqT.of (s4 _ _ eq), rfl, _, _, rfl, _, _, rfl, rfl, ?_⟩
      refine ⟨fun σ' H' => ∃ E, σ' = [some (.ref a), some (.ref M.A), some (.ref M.B), some (.ref D), u4, some (.str p.1), some (.ref b), some (.ref E), none, none] ∧ Same H H' ∧ H' E = some (.lst ((N.ls.filterMap (otherEnd p.1)).map V.str)), ?_, ?_⟩
      · refine ⟨_, rfl, M.B, rfl, ⟨_, SqT.of (s4 _ _ eB)⟩, fun C nC => ?_⟩
        have kC := same_upd (o := .lst []) nC
        refine lc_tup (xs := L.map fun p => V.ref p.1) (fun i H' => Same H4 H' ∧ H' C = some (.lst (((N.ls.take i).filterMap (otherEnd p.1)).map V.str))) ⟨kC, upd_same⟩ (fun i H' _ z => SqT.of (z.1 _ _ (s4 _ _ eB))) ?_ ?_
        · rintro j v H5 hv5 ⟨s5, e5⟩
          rw [List.getElem?_map] at hv5
          obtain ⟨l, hl, rfl⟩ := Option.map_eq_some_iff.mp hv5
          have hl' : N.ls[j]? = some l.2 := by rw [← mL, List.getElem?_map, hl]; rfl
          have jl := (List.getElem?_eq_some_iff.mp hl').1
          have fewE : (((N.ls.take j).filterMap (otherEnd p.1)).map V.str).length < sizeLine := by
            have z := List.length_filterMap_le (otherEnd p.1) (N.ls.take j)
            rw [List.length_take] at z
            have := ok.lf
            rw [List.length_map, sizeLine_eq]
            omega
          have nx := ends_next (x := p.1) hl'
          have fin : ∀ y, otherEnd p.1 l.2 = some y → ∃ acc, H5 C = some (.lst acc) ∧ acc.length < sizeLine ∧ Same H4 (upd H5 C (.lst (acc ++ [.str y]))) ∧ upd H5 C (.lst (acc ++ [.str y])) C = some (.lst (((N.ls.take (j + 1)).filterMap (otherEnd p.1)).map V.str)) := fun y ey => by
            refine ⟨_, e5, fewE, same_set s5 nC, ?_⟩
            rw [upd_same, nx, ey, List.map_append]
            rfl
          refine ⟨l.1, _, rfl, SqT.of (s5 _ _ (s4 _ _ (kL l (List.mem_of_getElem? hl)))), rfl, _, _, rfl, _, _, rfl, rfl, rfl, _, rfl, _, rfl, rfl, _, rfl, ifB (fun hb => ?_) fun hb => ?_⟩
          · have e1 : l.2.1 = p.1 := V.str.inj (of_decide_eq_true hb)
            refine ifT rfl ⟨_, rfl, _, rfl, rfl, _, rfl, ifT (decide_eq_true (congrArg V.str e1)) ⟨_, rfl, fin _ ?_⟩⟩
            exact if_pos e1
          · have n1 : ¬ l.2.1 = p.1 := fun z => of_decide_eq_false hb (congrArg V.str z)
            refine ⟨_, rfl, _, rfl, rfl, _, rfl, ifB (fun hb2 => ?_) fun hb2 => ?_⟩
            · have e2 : l.2.2 = p.1 := V.str.inj (of_decide_eq_true hb2)
              refine ⟨_, rfl, _, rfl, rfl, _, rfl, ifF (decide_eq_false fun z => n1 (V.str.inj z)) ⟨_, rfl, fin _ ?_⟩⟩
              unfold otherEnd
              rw [if_neg n1, if_pos e2]
            · have n2 : ¬ l.2.2 = p.1 := fun z => of_decide_eq_false hb2 (congrArg V.str z)
              refine ⟨s5, ?_⟩
              rw [nx, show otherEnd p.1 l.2 = none by unfold otherEnd; rw [if_neg n1, if_neg n2]]
              rw [Option.toList_none, List.append_nil]
              exact e5
        · rintro H5 ⟨s5, e5⟩
          rw [List.length_map, ← List.length_map (f := fun p : Addr × (Str × Str) => p.2), mL, List.take_length] at e5
          exact ⟨C, rfl, s4.trans s5, e5⟩
      rintro σ5 H5 ⟨E', rfl, s5, e5⟩
      refine ⟨_, rfl, _, rfl, .ref b, .ref E', rfl, .inl ⟨b, p.2, rfl, Kz.same s5 _ _ kb, (ok.wd p mp).2, .inr ⟨E', _, rfl, SqL.of e5, fun r hr' bb n x e => ?_⟩, fun H6 s6 => ⟨_, rfl, iteF ⟨_, _, _, rfl, s5.trans s6⟩⟩⟩⟩
      exact mem_ends (ok.near p mp r hr' bb n x e)
    · rintro σ' H' ⟨_, _, _, rfl, s⟩
      exact s
end
end K55
/-! x in t, t a tuple of data of any depth. -/
namespace ITp
open PySem PySem.Spec PyProof.Rows L2
section
variable {X : Cx}
def rInTp (K : PySem.W.Frag) (neg : Bool) : R2 := fun x y H Q => ∃ (d : PyData) (es : List PyData), Dp K H x d ∧ Dp K H y (.tuple es) ∧ SeqAt.shaped d = true ∧ PyData.canLayAll0 es = true ∧ Q (.bl (if neg = true then !es.any (fun e => PyData.eqv e d) else es.any fun e => PyData.eqv e d)) H
theorem op_inTp (room : X.A.units + 65 < cLine) : OpR X (compareOp .In) (rInTp X.K false) := by
  intro pins s σ H x y v u Q I rx ry want
  obtain ⟨d, es, dx, dy, sh, can, q⟩ := want
  obtain ⟨_, readX⟩ := Dp.reads I d x v dx rx
  obtain ⟨_, readY⟩ := Dp.reads I (.tuple es) y u dy ry
  refine SeqAt.in_tuple_reads readY readX can (SeqAt.canLay_of_shaped sh) (room_in_shaped sh room) ?_
  exact ⟨.bl _, H, I, rfl, q⟩
theorem op_notInTp (room : X.A.units + 65 < cLine) : OpR X (compareOp .NotIn) (rInTp X.K true) := by
  intro pins s σ H x y v u Q I rx ry want
  obtain ⟨d, es, dx, dy, sh, can, q⟩ := want
  obtain ⟨_, readX⟩ := Dp.reads I d x v dx rx
  obtain ⟨_, readY⟩ := Dp.reads I (.tuple es) y u dy ry
  refine SeqAt.notIn_tuple_reads readY readX can (SeqAt.canLay_of_shaped sh) (room_in_shaped sh room) ?_
  exact ⟨.bl _, H, I, rfl, q⟩
end
end ITp
/-! check_network, check_name, check_linked, branch_names. -/
namespace K55
open PySem PySem.Spec PyProof.Rows L2 WD NS MC GL
open C8 (pss_cut tCut)
theorem room65 {k : Nat} {A : Around} (h : Room k A) : A.units + 65 < cLine := by
  have z := h.un
  omega
abbrev sLe (x y : Str) : Prop := x.cps.toList ≤ y.cps.toList
theorem asc_of_sortedS {l : List Str} (h : sortedS l = true) : l.Pairwise sLe := by
  have go : ∀ (l : List Str) (p : Str), risingS p l = true → (p :: l).Pairwise sLe := by
    intro l
    induction l with
    | nil =>
      intro p _
      exact List.pairwise_singleton _ _
    | cons x r ih =>
      intro p h
      rw [risingS, Bool.and_eq_true] at h
      have px : sLe p x := by
        have z := h.1
        rw [ltCps_eq] at z
        exact List.not_lt.mp (by simpa using z)
      have xr := ih x h.2
      refine List.pairwise_cons.mpr ⟨fun y hy => ?_, xr⟩
      rcases List.mem_cons.mp hy with rfl | hy
      · exact px
      · exact List.le_trans px ((List.pairwise_cons.mp xr).1 y hy)
  cases l with
  | nil => exact .nil
  | cons x r => exact go r x h
/-! links as data -/
theorem datas_links : ∀ ls : List (Str × Str), NestedKey.datas (ls.map linkKey) = ls.map fun l => PyData.tuple [.str l.1, .str l.2]
  | [] => rfl
  | l :: ls => by
    rw [List.map_cons, NestedKey.datas, datas_links ls]
    rfl
theorem can_links : ∀ ls : List (Str × Str), (∀ l ∈ ls, Wd l.1 ∧ Wd l.2) → PyData.canLayAll0 (ls.map fun l => PyData.tuple [.str l.1, .str l.2]) = true
  | [], _ => rfl
  | l :: ls, h => by
    rw [List.map_cons, PyData.canLayAll0, can_links ls fun x hx => h x (List.mem_cons_of_mem _ hx)]
    have z := h l List.mem_cons_self
    rw [shaped_can (shaped_two z.1.low z.2.low)]
    rfl
theorem any_links {ls : List (Str × Str)} {o : Str × Str} (h : o ∈ ls) : (ls.map fun l => PyData.tuple [.str l.1, .str l.2]).any (fun e => PyData.eqv e (.tuple [.str o.1, .str o.2])) = true := by
  rw [List.any_eq_true]
  exact ⟨_, List.mem_map.mpr ⟨o, h, rfl⟩, by rw [eqv_two]; exact decide_eq_true ⟨rfl, rfl⟩⟩
theorem link_dp {K : PySem.W.Frag} {H : Hp} {q : Addr} {x y : Str} (e : H q = some (.tup [.str x, .str y])) : Dp K H (.ref q) (.tuple [.str x, .str y]) := .tup (SqT.of e) (.cons (.str _) (.cons (.str _) .nil))
/-! check_network, check_name -/
abbrev sCN : Stmt := topS 33
abbrev sCM : Stmt := topS 34
theorem scCN : FnScope ["network"] ["network"] (defScope sCN) := ⟨rfl, rfl, rfl, by decide +kernel, rfl, by decide +kernel, by decide +kernel⟩
theorem scCM : FnScope ["network", "name"] ["network", "name"] (defScope sCM) := ⟨rfl, rfl, rfl, by decide +kernel, rfl, by decide +kernel, by decide +kernel⟩
def spCN : Sp := fun vs H Q _ => ∃ (a : Addr) (N : NetM), vs = [.ref a] ∧ Kz H (.ref a) N.key ∧ N.Ok ∧ ∀ H', Same H H' → Q .non H'
def spCM : Sp := fun vs H Q _ => ∃ (a : Addr) (N : NetM) (x : Str), vs = [.ref a, .str x] ∧ Kz H (.ref a) N.key ∧ N.Ok ∧ x ∈ N.names ∧ ∀ H', Same H H' → Q .non H'
structure TxtCk (K : PySem.W.Frag) (mg : Str → Option Value) (fNm fCN fCM fO : Addr) (dNm dCN dCM dO : FuncData) : Prop where
  N : Fun K "names_in" "names_in" sNmIn fNm dNm
  bN : L2.Binds K dNm ["network"] []
  gN : mg "names_in" = some (.ref fNm)
  C : Fun K "check_network" "check_network" sCN fCN dCN
  bC : L2.Binds K dCN ["network"] []
  gC : mg "check_network" = some (.ref fCN)
  M : Fun K "check_name" "check_name" sCM fCM dCM
  bM : L2.Binds K dCM ["network", "name"] []
  gM : mg "check_name" = some (.ref fCM)
  O : Fun K "ordered_link" "ordered_link" sOrdL fO dO
  bO : L2.Binds K dO ["one", "other"] []
  gO : mg "ordered_link" = some (.ref fO)
section
variable {P : Program} {w : World} {K : PySem.W.Frag} {mg : Str → Option Value} {base : Heap} {fA fWC fAL fI : Addr} {dA dWC dAL dI : FuncData} {fW fF fN fS fT fR fI' fC cM : Addr} {dW dF dN dS dT dR dI' dC : FuncData} {fNm fCN fCM fO : Addr} {dNm dCN dCM dO : FuncData}
theorem ok_CN {f : Addr} {fd : FuncData} {k : Nat} (F : Fun K "check_network" "check_network" sCN f fd) (TI : TxtI K mg fW fF dW dF) (TN : TxtNm K mg) (TT : TxtT K mg fN dN) (TM : TxtM K mg fS fT fR fI' fC cM dS dT dR dI' dC) (TA : TxtA K mg fA fWC dA dWC) (T : TxtN K mg fAL fI dAL dI) :
    FnOk P w K mg base CX0 (k + 5) f fd ["network"] spCN := by
  have GI : FnOk P w K mg base CX0 (k + 4) fI dI ["value"] spIN := ok_IN T.I TI TN TT TM TA T
  refine F.ok scCN (fun vs H Q E h => ?_) (fun cdv A outer s H vs Q E hr h => ?_)
  · obtain ⟨a, N, rfl, _⟩ := h
    rfl
  · obtain ⟨a, N, rfl, hn, ok, q⟩ := h
    refine ⟨_, pss_one (ps_if (pt_not (pt_val (pe_call GI hr (by rfl) T.gI T.I.kp T.bI .nil pass0 (pa_cons (pv 0) pa_nil)))) pss_never pss_nil), ?_⟩
    exact ⟨_, rfl, a, N, rfl, hn, ok, fun H' s' => ⟨_, rfl, iteF (q H' s')⟩⟩
theorem ok_CM {f : Addr} {fd : FuncData} {k : Nat} (F : Fun K "check_name" "check_name" sCM f fd) (TS : TxtS mg) (T : TxtCk K mg fNm fCN fCM fO dNm dCN dCM dO) : FnOk P w K mg base CX0 (k + 2) f fd ["network", "name"] spCM := by
  have GN : FnOk P w K mg base CX0 (k + 1) fNm dNm ["network"] spNmIn := ok_NmIn T.N TS
  refine F.ok scCM (fun vs H Q E h => ?_) (fun cdv A outer s H vs Q E hr h => ?_)
  · obtain ⟨a, N, x, rfl, _⟩ := h
    rfl
  · obtain ⟨a, N, x, rfl, hn, ok, hx, q⟩ := h
    refine ⟨_, pss_one (ps_if (pt_cmpR (show OpR _ (compareOp .NotIn) (rIn K true) from op_notIn_seq) (pv 1) (pe_call GN hr (by rfl) T.gN T.N.kp T.bN .nil pass0 (pa_cons (pv 0) pa_nil)) (by rfl)) pss_never pss_nil), ?_⟩
    refine ⟨_, rfl, _, rfl, a, N, rfl, hn, ok, fun H' p s' np e => ⟨p, _, rfl, .inr (SqT.of e), rfl, flat_strs _, _, rfl, ?_⟩⟩
    rw [inV_strs hx]
    exact iteF (q H' s')
end
/-! check_linked -/
abbrev sCL : Stmt := topS 48
theorem scCL : FnScope ["network", "one", "other"] ["network", "one", "other"] (defScope sCL) := ⟨rfl, rfl, rfl, by decide +kernel, rfl, by decide +kernel, by decide +kernel⟩
def spCL : Sp := fun vs H Q _ => ∃ (a : Addr) (N : NetM) (x y : Str), vs = [.ref a, .str x, .str y] ∧ Kz H (.ref a) N.key ∧ N.Ok ∧ ordL x y ∈ N.ls ∧ ∀ H', Same H H' → Q .non H'
theorem ord_ends {N : NetM} (ok : N.Ok) {x y : Str} (h : ordL x y ∈ N.ls) : x ∈ N.names ∧ y ∈ N.names ∧ x ≠ y := by
  have z := ok.l1 _ h
  unfold ordL at z
  by_cases c : sLt x y
  · rw [if_pos c] at z
    exact ⟨z.1, z.2.1, fun e => sLt_irr _ (e ▸ z.2.2)⟩
  · rw [if_neg c] at z
    exact ⟨z.2.1, z.1, fun e => sLt_irr _ (e ▸ z.2.2)⟩
section
variable {P : Program} {w : World} {K : PySem.W.Frag} {mg : Str → Option Value} {base : Heap} {fA fWC fAL fI : Addr} {dA dWC dAL dI : FuncData} {fW fF fN fS fT fR fI' fC cM : Addr} {dW dF dN dS dT dR dI' dC : FuncData} {fNm fCN fCM fO : Addr} {dNm dCN dCM dO : FuncData}
theorem ok_CL {f : Addr} {fd : FuncData} {k : Nat} (F : Fun K "check_linked" "check_linked" sCL f fd) (TS : TxtS mg) (TI : TxtI K mg fW fF dW dF) (TN : TxtNm K mg) (TT : TxtT K mg fN dN) (TM : TxtM K mg fS fT fR fI' fC cM dS dT dR dI' dC) (TA : TxtA K mg fA fWC dA dWC) (TW : TxtN K mg fAL fI dAL dI)
    (T : TxtCk K mg fNm fCN fCM fO dNm dCN dCM dO) : FnOk P w K mg base CX0 (k + 6) f fd ["network", "one", "other"] spCL := by
  have GC : FnOk P w K mg base CX0 (k + 5) fCN dCN ["network"] spCN := ok_CN T.C TI TN TT TM TA TW
  have GM : FnOk P w K mg base CX0 (k + 2) fCM dCM ["network", "name"] spCM := ok_CM T.M TS T
  have GO : FnOk P w K mg base CX0 (k + 1) fO dO ["one", "other"] spOrdL := ok_OrdL T.O
  refine F.ok scCL (fun vs H Q E h => ?_) (fun cdv A outer s H vs Q E hr h => ?_)
  · obtain ⟨a, N, x, y, rfl, _⟩ := h
    rfl
  · obtain ⟨a, N, x, y, rfl, hn, ok, hl, q⟩ := h
    have hr1 : Room (k + 1) _ := hr.mono (by omega)
    have hr2 : Room (k + 2) _ := hr.mono (by omega)
    have h65 := room65 hr
    refine ⟨_, pss_cons (ps_expr (pe_call GC hr (by rfl) T.gC T.C.kp T.bC .nil pass0 (pa_cons (pv 0) pa_nil)))
      (pss_cons (ps_expr (pe_call GM hr2 (by rfl) T.gM T.M.kp T.bM .nil pass0 (pa_cons (pv 0) (pa_cons (pv 1) pa_nil))))
      (pss_cons (ps_expr (pe_call GM hr2 (by rfl) T.gM T.M.kp T.bM .nil pass0 (pa_cons (pv 0) (pa_cons (pv 2) pa_nil))))
      (pss_one (ps_if (pt_cmpR (show OpR _ (compareOp .NotIn) (ITp.rInTp K true) from ITp.op_notInTp h65) (pe_call GO hr1 (by rfl) T.gO T.O.kp T.bO .nil pass0 (pa_cons (pv 1) (pa_cons (pv 2) pa_nil))) (pe_ix ix_tup (pv 0) pe_int (fun _ _ => rfl)) (by rfl)) pss_never pss_nil)))), ?_⟩
    obtain ⟨M⟩ := net_at hn
    obtain ⟨mx, my, _⟩ := ord_ends ok hl
    refine ⟨_, rfl, a, N, rfl, hn, ok, fun H1 s1 => ?_⟩
    refine ⟨_, rfl, _, rfl, a, N, x, rfl, Kz.same s1 _ _ hn, ok, mx, fun H2 s2 => ?_⟩
    have s12 := s1.trans s2
    refine ⟨_, rfl, _, rfl, a, N, y, rfl, Kz.same s12 _ _ hn, ok, my, fun H3 s3 => ?_⟩
    have s13 := s12.trans s3
    refine ⟨_, rfl, _, rfl, x, y, rfl, fun H4 p s4 np e => ?_⟩
    have s14 := s13.trans s4
    have wl : ∀ l ∈ N.ls, Wd l.1 ∧ Wd l.2 := fun l h => ⟨ok.wdn (ok.l1 l h).1, ok.wdn (ok.l1 l h).2.1⟩
    have wo := wl _ hl
    have dB : Dp K H4 (.ref M.B) (.tuple (N.ls.map fun l => PyData.tuple [.str l.1, .str l.2])) := by
      rw [← datas_links]
      exact .tup (SqT.of (s14 _ _ M.eb)) (kz_dpAll _ _ (KzAll.same s14 _ _ M.lks))
    refine ⟨_, rfl, a, _, 1, .ref M.B, rfl, rfl, SqT.of (s14 _ _ M.top), atI_nat (j := 1) rfl, _, _, link_dp e, dB, shaped_two wo.1.low wo.2.low, can_links _ wl, _, rfl, ?_⟩
    rw [any_links hl]
    exact iteF (q H4 s14)
end
end K55
/-! branch_names. -/
namespace K55
open PySem PySem.Spec PyProof.Rows L2 WD NS MC GL
open C8 (pss_cut tCut)
/-- the links but one -/
def lsNot (ls : List (Str × Str)) (o : Str × Str) : List (Str × Str) := ls.filter fun l => decide (l ≠ o)
/-- the names of a branch -/
structure BrOf (ls : List (Str × Str)) (x y : Str) (ys : List Str) : Prop where
  mem : ∀ z, z ∈ ys ↔ Conn (lsNot ls (ordL x y)) y z
  asc : ys.Pairwise sLe
  once : ys.Nodup
  few : ys.length < 60
theorem BrOf.ext {ls : List (Str × Str)} {x y : Str} {ys zs : List Str} (a : BrOf ls x y ys) (b : BrOf ls x y zs) : ys = zs := strs_ext a.asc a.once b.asc b.once fun u => (a.mem u).trans (b.mem u).symm
abbrev sBN : Stmt := topS 49
abbrev nBn : List Str := ["network", "one", "other", "outer", "cut", "link"]
theorem scBN : FnScope nBn ["network", "one", "other"] (defScope sBN) := ⟨rfl, rfl, rfl, by decide +kernel, rfl, by decide +kernel, by decide +kernel⟩
def spBN : Sp := fun vs H Q _ => ∃ (a : Addr) (N : NetM) (x y : Str), vs = [.ref a, .str x, .str y] ∧ Kz H (.ref a) N.key ∧ N.Ok ∧ ordL x y ∈ N.ls ∧
  ∀ H' p (ys : List Str), Same H H' → H p = none → H' p = some (.tup (ys.map V.str)) → BrOf N.ls x y ys → Q (.ref p) H'
structure TxtWF (K : PySem.W.Frag) (mg : Str → Option Value) (fWF : Addr) (dWF : FuncData) : Prop where
  list : mg "list" = none
  F : Fun K "ways_from" "ways_from" sWF fWF dWF
  b : L2.Binds K dWF ["network", "name"] []
  g : mg "ways_from" = some (.ref fWF)
theorem ne_link {K : PySem.W.Frag} {H : Hp} {p q : Addr} {l o : Str × Str} {Q : V → Hp → Prop} (hp : H p = some (.tup [.str l.1, .str l.2])) (hq : H q = some (.tup [.str o.1, .str o.2])) (wl : Wd l.1 ∧ Wd l.2) (wo : Wd o.1 ∧ Wd o.2) (k : Q (.bl (decide (l ≠ o))) H) : rNeD K (.ref p) (.ref q) H Q := by
  refine ⟨_, _, link_dp hp, link_dp hq, shaped_two wl.1.low wl.2.low, shaped_two wo.1.low wo.2.low, ?_⟩
  rw [eqv_two]
  have e : (!decide (l.1 = o.1 ∧ l.2 = o.2)) = decide (l ≠ o) := by
    by_cases c : l = o
    · subst c
      simp
    · have n : ¬ (l.1 = o.1 ∧ l.2 = o.2) := fun z => c (Prod.ext z.1 z.2)
      rw [decide_eq_false n, decide_eq_true c]
      rfl
  rw [e]
  exact k
theorem NetM.Ok.wdl {N : NetM} (ok : N.Ok) : ∀ l ∈ N.ls, Wd l.1 ∧ Wd l.2 := fun l h => ⟨ok.wdn (ok.l1 l h).1, ok.wdn (ok.l1 l h).2.1⟩
theorem filter_next {α : Type} {f : α → Bool} {l : List α} {i : Nat} {x : α} (h : l[i]? = some x) : (l.take (i + 1)).filter f = (l.take i).filter f ++ (if f x = true then [x] else []) := by
  rw [List.take_succ, h, Option.toList_some, List.filter_append]
  by_cases e : f x = true
  · rw [if_pos e, List.filter_cons_of_pos e]
    rfl
  · rw [if_neg e, List.filter_cons_of_neg e]
    rfl
section
variable {P : Program} {w : World} {K : PySem.W.Frag} {mg : Str → Option Value} {base : Heap} {fNm fCN fCM fO : Addr} {dNm dCN dCM dO : FuncData} {fCh fL fWF : Addr} {dCh dL dWF : FuncData}
theorem ok_BN {f : Addr} {fd : FuncData} {k : Nat} (F : Fun K "branch_names" "branch_names" sBN f fd) (TS : TxtS mg) (T : TxtCk K mg fNm fCN fCM fO dNm dCN dCM dO) (C : TxtC K mg fCh dCh) (TL : TxtL K mg fL dL) (TW : TxtWF K mg fWF dWF) : FnOk P w K mg base CX0 (k + 4) f fd ["network", "one", "other"] spBN := by
  have GO : FnOk P w K mg base CX0 (k + 1) fO dO ["one", "other"] spOrdL := ok_OrdL T.O
  have GW : FnOk P w K mg base CX0 (k + 3) fWF dWF ["network", "name"] (spWF K) := ok_WF TW.F TS C TL
  refine F.ok scBN (fun vs H Q E h => ?_) (fun cdv A outer s H vs Q E hr h => ?_)
  · obtain ⟨a, N, x, y, rfl, _⟩ := h
    rfl
  · obtain ⟨a, N, x, y, rfl, hn, ok, ho, q⟩ := h
    have hu := hr.units
    have hr1 : Room (k + 1) _ := hr.mono (by omega)
    refine ⟨_, pss_cut (ps_set (i := 3) scBN.nd rfl (.inr rfl) (pe_call GO hr1 (by rfl) T.gO T.O.kp T.bO .nil pass0 (pa_cons (pv 1) (pa_cons (pv 2) pa_nil))))
      (pss_cut (ps_set (i := 4) scBN.nd rfl (.inl rfl) (pe_tup (pa_cons (pe_ix ix_tup (pv 0) pe_int (fun _ _ => rfl)) (pa_cons
          (pe_lc (own := [("link", 5)]) (g := gName 5) (tt := tTest (tOp (rNeD K) (tVar 5) (tVar 3))) (te := tVar 5) rfl scBN.nd (pi_tup (pe_ix ix_tup (pv 0) pe_int (fun _ _ => rfl))) (blkOk_by (own := [("link", 5)]) (N := nBn) (sc := defScope sBN) (by decide +kernel))
            (fun _ _ _ _ _ => pg_name (i := 5) scBN.nd rfl (.inl rfl)) (fun _ _ _ _ _ => pts_one (pt_cmpR (show OpR _ (compareOp .NotEq) (rNeD K) from op_neD hu) (pv 5) (pv 3) (nomark _))) (fun _ _ _ _ _ => pv 5)) pa_nil))))
      (pss_one (ps_ret (pe_callTy call_tuple_of (by rfl) TS.tuple (by decide +kernel) (pa_cons (pe_callB cr_sortedS (by rfl) TS.sorted (by decide +kernel) (pa_cons (pe_callTy (call_list_dK rfl) (by rfl) TW.list (by decide +kernel)
          (pa_cons (pe_call GW hr (by rfl) TW.g TW.F.kp TW.b .nil pass0 (pa_cons (pv 4) (pa_cons (pv 2) pa_nil))) pa_nil)) pa_nil)) pa_nil))))), ?_⟩
    obtain ⟨M⟩ := net_at hn
    obtain ⟨L, eL, mL, kL⟩ := lk_of M.lks
    have eB : H M.B = some (.tup (L.map fun p => V.ref p.1)) := eL ▸ M.eb
    have lL : L.length < 30 := by
      have z := ok.lf
      rw [← mL, List.length_map] at z
      exact z
    have wo := ok.wdl _ ho
    have wl : ∀ p ∈ L, Wd p.2.1 ∧ Wd p.2.2 := fun p hp => ok.wdl p.2 (mL ▸ List.mem_map.mpr ⟨p, hp, rfl⟩)
    refine ⟨fun σ' H' => ∃ o, σ' = [some (.ref a), some (.str x), some (.str y), some (.ref o), none, none] ∧ Same H H' ∧ H' o = some (.tup [.str (ordL x y).1, .str (ordL x y).2]), ?_, ?_⟩
    · exact ⟨_, rfl, _, rfl, x, y, rfl, fun H1 p s1 np e => ⟨p, rfl, s1, e⟩⟩
    rintro σ1 H1 ⟨o, rfl, s1, eo⟩
    refine ⟨fun σ' H' => ∃ c, σ' = [some (.ref a), some (.str x), some (.str y), some (.ref o), some (.ref c), none] ∧ Same H H' ∧ CutAt K H' c (lsNot N.ls (ordL x y)), ?_, ?_⟩
    · refine ⟨_, rfl, a, _, 0, .ref M.A, rfl, rfl, SqT.of (s1 _ _ M.top), atI_nat (j := 0) rfl, _, rfl, a, _, 1, .ref M.B, rfl, rfl, SqT.of (s1 _ _ M.top), atI_nat (j := 1) rfl, M.B, rfl, ⟨_, SqT.of (s1 _ _ eB)⟩, fun D nD => ?_⟩
      have sD := same_upd (o := .lst []) nD
      refine lc_tup (xs := L.map fun p => V.ref p.1) (fun i H' => Same H1 H' ∧ H' D = some (.lst (((L.take i).filter fun p => decide (p.2 ≠ ordL x y)).map fun p => V.ref p.1))) ⟨sD, upd_same⟩ (fun i H' _ z => SqT.of (z.1 _ _ (s1 _ _ eB))) ?_ ?_
      · rintro i v H2 hv ⟨s2, e2⟩
        rw [List.getElem?_map] at hv
        obtain ⟨p, hp, rfl⟩ := Option.map_eq_some_iff.mp hv
        have mp := List.mem_of_getElem? hp
        have il := (List.getElem?_eq_some_iff.mp hp).1
        refine ⟨rfl, _, rfl, _, rfl, ne_link (s2 _ _ (s1 _ _ (kL p mp))) (s2 _ _ eo) (wl p mp) wo ⟨_, rfl, ?_⟩⟩
        have nx := filter_next (f := fun p : Addr × (Str × Str) => decide (p.2 ≠ ordL x y)) hp
        refine ifB (fun hb => ?_) fun hb => ?_
        · refine ⟨_, rfl, _, e2, ?_, same_set s2 nD, ?_⟩
          · have g := List.length_filter_le (fun p : Addr × (Str × Str) => decide (p.2 ≠ ordL x y)) (L.take i)
            rw [List.length_take] at g
            rw [List.length_map, sizeLine_eq]
            omega
          · rw [upd_same, nx, if_pos hb, List.map_append]
            rfl
        · refine ⟨s2, ?_⟩
          rw [nx, if_neg (by rw [hb]; exact Bool.false_ne_true), List.append_nil]
          exact e2
      · rintro H2 ⟨s2, e2⟩
        rw [List.length_map, List.take_length] at e2
        refine ⟨by show 2 ≤ sizeLine; decide, fun c nc => ?_⟩
        have kc := same_upd (o := .tup [.ref M.A, .ref D]) nc
        have s3 := (s1.trans s2).trans kc
        refine ⟨c, rfl, s3, ⟨_, D, L.filter fun p => decide (p.2 ≠ ordL x y), upd_same, .inr (kc _ _ e2), ?_, fun p hp => s3 _ _ (kL p ((List.mem_filter.mp hp).1))⟩⟩
        rw [lsNot, ← mL, List.filter_map]
        rfl
    rintro σ2 H2 ⟨c, rfl, s2, cut⟩
    refine ⟨_, rfl, _, rfl, c, _, y, rfl, cut, Nat.lt_of_le_of_lt (List.length_filter_le _ _) ok.lf, fun H3 d W s3 nd ed once mem few => ⟨d, _, rfl, ed, fun p3 n3 => ?_⟩⟩
    have e3 : (kvW W).map (fun kv => kV kv.1) = (ksW W).map V.str := by
      rw [List.map_map, List.map_map]
      rfl
    rw [e3]
    have k3 := same_upd (o := .lst ((ksW W).map V.str)) n3
    refine ⟨p3, ksW W, rfl, SqL.of upd_same, by rw [List.length_map]; omega, fun ys p4 pm asc n4 => ?_⟩
    have k4 := same_upd (o := .lst (ys.map V.str)) n4
    refine ⟨p4, _, rfl, .inl ⟨SqL.of upd_same, fun p5 n5 => ?_⟩⟩
    have s5 := (s2.trans s3).trans (k3.trans k4)
    refine q _ p5 ys (s5.trans (same_upd n5)) (s5.free n5) upd_same ⟨fun z => pm.mem_iff.trans (mem z), asc_of_sortedS asc, pm.nodup_iff.mpr once, ?_⟩
    rw [pm.length_eq, List.length_map]
    exact few
end
end K55
/-! assembled. -/
namespace K55
open PySem PySem.Spec PyProof.Rows L2 WD NS MC GL
open C8 (pss_cut tCut)
theorem SameT.at {H : Hp} {D : Addr} {u o : HO} (e : H D = some u) (n : ∀ xs, u ≠ .tup xs) : SameT H (upd H D o) := fun b xs eb => by
  by_cases c : b = D
  · subst c
    rw [e] at eb
    exact absurd (Option.some.inj eb) (n xs)
  · rw [upd_ne c]
    exact eb
theorem LkAt.tups {H H' : Hp} {L : List (Addr × (Str × Str))} (h : LkAt H L) (s : SameT H H') : LkAt H' L := fun p hp => s _ _ (h p hp)
/-- machines by their names -/
abbrev MsL := List (Addr × (Str × MachM))
abbrev kvM (L : MsL) : List (Key × V) := L.map fun p => (Sum.inr p.2.1, V.ref p.1)
abbrev nmsM (L : MsL) : List Str := L.map (·.2.1)
abbrev MsAt (H : Hp) (L : MsL) : Prop := ∀ p ∈ L, Kz H (.ref p.1) p.2.2.key
theorem kvM_some : ∀ {L : MsL} {x : Str}, x ∈ nmsM L → ∃ p ∈ L, p.2.1 = x ∧ valV (kvM L) (Sum.inr x) = some (.ref p.1)
  | [], _, h => nomatch h
  | p :: L, x, h => by
    by_cases e : p.2.1 = x
    · subst e
      exact ⟨p, List.mem_cons_self, rfl, by simp [valV, kvM]⟩
    · have h' : x ∈ nmsM L := by
        rcases List.mem_cons.mp h with z | z
        · exact absurd z.symm e
        · exact z
      obtain ⟨r, hr, er, v⟩ := kvM_some h'
      refine ⟨r, List.mem_cons_of_mem _ hr, er, ?_⟩
      rw [← v]
      simp only [valV, kvM, List.map_cons, List.find?_cons, Sum.inr.injEq, e, decide_false]
/-- what is assembled -/
structure AsmOf (ms : List (Str × MachM)) (ls : List (Str × Str)) (N : NetM) : Prop where
  perm : N.ms.Perm ms
  asc : N.names.Pairwise sLe
  mem : ∀ o, o ∈ N.ls ↔ ∃ l ∈ ls, ordL l.1 l.2 = o
  le : N.ls.Pairwise linkLe
  once : N.ls.Nodup
theorem nodup_map_inj {α β : Type} {f : α → β} : ∀ {l : List α}, (l.map f).Nodup → ∀ x ∈ l, ∀ y ∈ l, f x = f y → x = y
  | [], _, _, h, _, _, _ => nomatch h
  | a :: l, nd, x, hx, y, hy, e => by
    rw [List.map_cons, List.nodup_cons] at nd
    rcases List.mem_cons.mp hx with ex | mx <;> rcases List.mem_cons.mp hy with ey | my
    · rw [ex, ey]
    · exact absurd (List.mem_map.mpr ⟨y, my, by rw [← ex, e]⟩) nd.1
    · exact absurd (List.mem_map.mpr ⟨x, mx, by rw [← ey, e]⟩) nd.1
    · exact nodup_map_inj nd.2 x mx y my e
theorem nodup_of_map {α β : Type} {f : α → β} : ∀ {l : List α}, (l.map f).Nodup → l.Nodup
  | [], _ => List.nodup_nil
  | a :: l, nd => by
    rw [List.map_cons, List.nodup_cons] at nd
    exact List.nodup_cons.mpr ⟨fun m => nd.1 (List.mem_map.mpr ⟨a, m, rfl⟩), nodup_of_map nd.2⟩
/-- two lists whose marks differ within each, and whose members are the same -/
theorem perm_of_marks {α β : Type} {f : α → β} {l m : List α} (nl : (l.map f).Nodup) (nm : (m.map f).Nodup) (sub : ∀ x ∈ l, x ∈ m) (all : ∀ x ∈ m, f x ∈ l.map f) : l.Perm m := by
  refine (List.perm_ext_iff_of_nodup (nodup_of_map nl) (nodup_of_map nm)).mpr fun x => ⟨sub x, fun hx => ?_⟩
  obtain ⟨y, hy, e⟩ := List.mem_map.mp (all x hx)
  rw [← nodup_map_inj nm y (sub y hy) x hx e]
  exact hy
abbrev sAsm : Stmt := topS 35
abbrev nAsm : List Str := ["machines", "links", "name", "one", "other"]
theorem scAsm : FnScope nAsm ["machines", "links"] (defScope sAsm) := ⟨rfl, rfl, rfl, by decide +kernel, rfl, by decide +kernel, by decide +kernel⟩
def spAsm : Sp := fun vs H Q _ => ∃ (d l : Addr) (L : MsL) (W : List (Addr × (Str × Str))), vs = [.ref d, .ref l] ∧ H d = some (.dK (kvM L)) ∧ MsAt H L ∧ (nmsM L).Nodup ∧ L.length < 60 ∧ H l = some (.lst (W.map fun p => V.ref p.1)) ∧ LkAt H W ∧ W.length < 60 ∧
  ∀ H' p (N : NetM), Same H H' → H p = none → Kz H' (.ref p) N.key → AsmOf (L.map (·.2)) (W.map (·.2)) N → Q (.ref p) H'
section
variable {P : Program} {w : World} {K : PySem.W.Frag} {mg : Str → Option Value} {base : Heap} {fO : Addr} {dO : FuncData}
theorem ok_Asm {f : Addr} {fd : FuncData} {k : Nat} (F : Fun K "assembled" "assembled" sAsm f fd) (TS : TxtS mg) (li : mg "list" = none) (O : Fun K "ordered_link" "ordered_link" sOrdL fO dO) (bO : L2.Binds K dO ["one", "other"] []) (gO : mg "ordered_link" = some (.ref fO)) :
    FnOk P w K mg base CX0 (k + 2) f fd ["machines", "links"] spAsm := by
  have GO : FnOk P w K mg base CX0 (k + 1) fO dO ["one", "other"] spOrdL := ok_OrdL O
  refine F.ok scAsm (fun vs H Q E h => ?_) (fun cdv A outer s H vs Q E hr h => ?_)
  · obtain ⟨d, l, L, W, rfl, _⟩ := h
    rfl
  · obtain ⟨d, l, L, W, rfl, ed, kM, nd, few, el, kW, lW, q⟩ := h
    have hu := hr.units
    have hu1 := Nat.lt_of_le_of_lt (Nat.add_le_add_left (by decide : 1 ≤ 64) _) hu
    refine ⟨_, pss_one (ps_ret (pe_tup (pa_cons (pe_callTy call_tuple_of (by rfl) TS.tuple (by decide +kernel) (pa_cons
          (pe_lc (own := [("name", 2)]) (g := gName 2) (tt := tYes) (te := tTup (tCons (tVar 2) (tCons (tDGet (tVar 0) (tVar 2)) tNil))) rfl scAsm.nd
            (pi_list (pe_callB cr_sortedS (by rfl) TS.sorted (by decide +kernel) (pa_cons (pe_callTy (call_list_dK rfl) (by rfl) li (by decide +kernel) (pa_cons (pv 0) pa_nil)) pa_nil)))
            (blkOk_by (own := [("name", 2)]) (N := nAsm) (sc := defScope sAsm) (by decide +kernel))
            (fun _ _ _ _ _ => pg_name (i := 2) scAsm.nd rfl (.inl rfl)) (fun _ _ _ _ _ => pts_nil) (fun _ _ _ _ _ => pe_tup (pa_cons (pv 2) (pa_cons (pe_dget hu1 (pv 0) (pv 2) (fun _ _ => rfl)) pa_nil)))) pa_nil))
        (pa_cons (pe_callTy call_tuple_of (by rfl) TS.tuple (by decide +kernel) (pa_cons (pe_callB (NS.cr_sorted rfl hu) (by rfl) TS.sorted (by decide +kernel) (pa_cons
          (pe_sxu (nestK_ok _ _) hu (own := [("one", 3), ("other", 4)]) (g := gTup K 2 (gCons (gName 3) (gCons (gName 4) gNil))) (tt := tYes) (te := tCall spOrdL [] E0 (tCons (tVar 3) (tCons (tVar 4) tNil))) rfl scAsm.nd (pi_list (pv 1)) (blkOk_by (own := [("one", 3), ("other", 4)]) (N := nAsm) (sc := defScope sAsm) (by decide +kernel))
            (fun _ _ _ _ _ => pg_tup rfl (pgs_cons (pg_name (i := 3) scAsm.nd rfl (.inl rfl)) (pgs_cons (pg_name (i := 4) scAsm.nd rfl (.inl rfl)) pgs_nil))) (fun _ _ _ _ _ => pts_nil)
            (fun _ _ _ _ _ => pe_call GO hr (by rfl) gO O.kp bO .nil pass0 (pa_cons (pv 3) (pa_cons (pv 4) pa_nil)))) pa_nil)) pa_nil)) pa_nil)))), ?_⟩
    have e1 : (kvM L).map (fun kv => kV kv.1) = (nmsM L).map V.str := by
      rw [List.map_map, List.map_map]
      rfl
    refine ⟨_, rfl, d, _, rfl, ed, fun p1 n1 => ?_⟩
    rw [e1]
    have k1 := same_upd (o := .lst ((nmsM L).map V.str)) n1
    refine ⟨p1, nmsM L, rfl, SqL.of upd_same, by rw [List.length_map]; omega, fun ys p2 pm asc n2 => ?_⟩
    have k2 := same_upd (o := .lst (ys.map V.str)) n2
    have k12 := k1.trans k2
    have ly : ys.length = L.length := by rw [pm.length_eq, List.length_map]
    refine ⟨p2, rfl, ⟨_, SqL.of upd_same⟩, fun D nD => ?_⟩
    generalize hH2 : upd (upd H p1 (.lst ((nmsM L).map V.str))) p2 (.lst (ys.map V.str)) = H2 at *
    have ey2 : H2 p2 = some (.lst (ys.map V.str)) := by rw [← hH2, upd_same]
    have kD := same_upd (o := .lst []) nD
    have mem_of : ∀ x ∈ ys, x ∈ nmsM L := fun x hx => pm.mem_iff.mp hx
    refine lc_list (xs := ys.map V.str) (fun i H' => Same H2 H' ∧ ∃ R : List (Addr × (Addr × (Str × MachM))), H' D = some (.lst (R.map fun r => V.ref r.1)) ∧ (∀ r ∈ R, H' r.1 = some (.tup [.str r.2.2.1, .ref r.2.1]) ∧ r.2 ∈ L) ∧ R.map (·.2.2.1) = ys.take i) ⟨kD, [], upd_same, (fun _ z => nomatch z), rfl⟩ (fun i H' _ z => SqL.of (z.1 _ _ ey2)) ?_ ?_
    · rintro i v H3 hv ⟨s3, R, e3, kR, mR⟩
      obtain ⟨x, hx, rfl⟩ := strs_get hv
      obtain ⟨p, hp, ep, ev⟩ := kvM_some (mem_of x (List.mem_of_getElem? hx))
      have il := (List.getElem?_eq_some_iff.mp hx).1
      refine ⟨rfl, tYes_ite ⟨_, rfl, _, rfl, _, rfl, d, .ref p.1, rfl, ev ▸ DGet.k (k := Sum.inr x) (s3 _ _ (k12 _ _ ed)), by show 2 ≤ sizeLine; decide, fun t nt => ?_⟩⟩
      have kt := same_upd (o := .tup [.str x, .ref p.1]) nt
      have sU : SameT (upd H3 t (.tup [.str x, .ref p.1])) (upd (upd H3 t (.tup [.str x, .ref p.1])) D (.lst (R.map (fun r => V.ref r.1) ++ [.ref t]))) := SameT.lst (kt _ _ e3)
      refine ⟨_, kt _ _ e3, ?_, same_set (s3.trans kt) nD, R ++ [(t, p)], ?_, fun r hr' => ?_, ?_⟩
      · have z := congrArg List.length mR
        rw [List.length_map, List.length_take] at z
        rw [List.length_map, sizeLine_eq]
        omega
      · rw [upd_same, List.map_append]
        rfl
      · rcases List.mem_append.mp hr' with z | z
        · exact ⟨sU _ _ (kt _ _ (kR r z).1), (kR r z).2⟩
        · rw [List.mem_singleton.mp z]
          exact ⟨sU _ _ (by rw [upd_same, ← ep]), hp⟩
      · rw [List.map_append, mR, List.take_succ, hx, ← ep]
        rfl
    rintro H3 ⟨s3, R, e3, kR, mR⟩
    rw [List.length_map, List.take_length] at mR
    refine ⟨D, _, rfl, .inl ⟨SqL.of e3, fun p4 n4 => ?_⟩⟩
    have k4 := same_upd (o := .tup (R.map fun r => V.ref r.1)) n4
    have s4 := (k12.trans s3).trans k4
    have kM4 : ∀ {H' : Hp}, Same (upd H3 p4 (.tup (R.map fun r => V.ref r.1))) H' → ∀ r ∈ R, Kz H' (.ref r.1) (pairKey r.2.2) := fun {H'} s r hr' => .tup (s _ _ (k4 _ _ (kR r hr').1)) (.cons (.str _) (.cons (Kz.same (s4.trans s) _ _ (kM _ (kR r hr').2)) .nil))
    generalize hH4 : upd H3 p4 (.tup (R.map fun r => V.ref r.1)) = H4 at *
    have e4 : H4 p4 = some (.tup (R.map fun r => V.ref r.1)) := by rw [← hH4, upd_same]
    -- the links
    refine ⟨_, rfl, l, rfl, ⟨_, SqL.of (s4 _ _ el)⟩, fun S nS => ?_⟩
    have kS := same_upd (o := SetO P w S []) nS
    refine sx_it (k := nestK P w) (walk_list (xs := W.map fun p => V.ref p.1)) (fun i H' => Same H4 H' ∧ ∃ U : List (Addr × (Str × Str)), H' S = some (SetO P w S (asRow U)) ∧ LkAt H' U ∧ (U.map (·.2)).Nodup ∧ (∀ o, o ∈ U.map (·.2) ↔ ∃ l ∈ (W.map (·.2)).take i, ordL l.1 l.2 = o) ∧ U.length ≤ i)
      ⟨kS, [], upd_same, (fun _ z => nomatch z), List.nodup_nil, fun o => by simp, Nat.le_refl _⟩ (fun i H' _ z => SqL.of (z.1 _ _ (s4 _ _ el))) ?_ ?_
    · rintro i v H5 H6 hi ⟨s5, U, e5, kU, once, mem, lU⟩ ⟨rfl, hv⟩
      rw [List.getElem?_map] at hv
      obtain ⟨p, hp, rfl⟩ := Option.map_eq_some_iff.mp hv
      rw [List.length_map] at hi
      have hl : (W.map (·.2))[i]? = some p.2 := by rw [List.getElem?_map, hp]; rfl
      have nx : (W.map (·.2)).take (i + 1) = (W.map (·.2)).take i ++ [p.2] := by rw [List.take_succ, hl]; rfl
      refine ⟨p.1, _, rfl, SqT.of (s5 _ _ (s4 _ _ (kW p (List.mem_of_getElem? hp)))), rfl, _, _, rfl, _, _, rfl, rfl, rfl, tYes_ite ⟨_, rfl, _, rfl, p.2.1, p.2.2, rfl, fun H7 o s7 no eo => ?_⟩⟩
      have e7 := s7 _ _ e5
      have kU7 := kU.same s7
      have sS : ∀ {u : HO}, SameT H7 (upd H7 S u) := fun {u} => SameT.at e7 (fun xs z => nomatch z)
      have mem' : ∀ {B : List (Addr × (Str × Str))}, (∀ x, x ∈ B.map (·.2) ↔ x = ordL p.2.1 p.2.2 ∨ x ∈ U.map (·.2)) → ∀ x, x ∈ B.map (·.2) ↔ ∃ l ∈ (W.map (·.2)).take (i + 1), ordL l.1 l.2 = x := fun {B} h x => by
        rw [h x, mem x, nx]
        constructor
        · rintro (rfl | ⟨l, hl, e⟩)
          · exact ⟨_, List.mem_append_right _ List.mem_cons_self, rfl⟩
          · exact ⟨l, List.mem_append_left _ hl, e⟩
        · rintro ⟨l, hl, e⟩
          rcases List.mem_append.mp hl with z | z
          · exact .inr ⟨l, z, e⟩
          · rw [List.mem_singleton.mp z] at e
            exact .inl e.symm
      have ky : keysOf (asRow U) = (U.map (·.2)).map linkKey := by
        rw [keysOf, List.map_map, List.map_map]
        rfl
      refine ⟨o, linkKey (ordL p.2.1 p.2.2), asRow U, rfl, link_kz eo, by rw [link_depth]; decide, e7, rows_of kU7, by rw [List.length_map]; omega, fun L1 once1 same more => ?_⟩
      by_cases c : ordL p.2.1 p.2.2 ∈ U.map (·.2)
      · rw [same (by rw [ky]; exact List.mem_map.mpr ⟨_, c, rfl⟩)]
        refine ⟨same_set (s5.trans s7) nS, U, upd_same, kU7.tups sS, once, mem' fun x => ?_, Nat.le_succ_of_le lU⟩
        exact ⟨.inr, fun z => z.elim (fun z => z ▸ c) id⟩
      · have nin : linkKey (ordL p.2.1 p.2.2) ∉ keysOf (asRow U) := fun z => by
          rw [ky] at z
          obtain ⟨u, hu', e⟩ := List.mem_map.mp z
          exact c (link_inj e ▸ hu')
        obtain ⟨U1, rfl, pU⟩ := perm_map_inv (l := (o, ordL p.2.1 p.2.2) :: U) (f := fun p : Addr × (Str × Str) => ((p.1, linkKey p.2) : NS.Row)) (more nin)
        have pm2 := pU.map (fun p : Addr × (Str × Str) => p.2)
        rw [List.map_cons] at pm2
        refine ⟨same_set (s5.trans s7) nS, U1, upd_same, fun u hu' => sS _ _ ?_, pm2.nodup_iff.mpr (List.nodup_cons.mpr ⟨c, once⟩), mem' fun x => ?_, ?_⟩
        · rcases List.mem_cons.mp (pU.mem_iff.mp hu') with rfl | z
          · exact eo
          · exact kU7 u z
        · rw [pm2.mem_iff, List.mem_cons]
        · rw [pU.length_eq, List.length_cons]
          omega
    · rintro H5 ⟨s5, U, e5, kU, once, mem, lU⟩
      rw [List.length_map] at lU
      rw [List.length_map, List.take_of_length_le (by rw [List.length_map]; exact Nat.le_refl _)] at mem
      refine ⟨S, asRow U, rfl, e5, rows_of kU, alike_links, sortable_links, fun L1 p6 pm6 pw6 l6 n6 => ?_⟩
      obtain ⟨U2, eU, pU, leU⟩ := sorted_of pm6 pw6
      rw [eU]
      have k6 := same_upd (o := .lst (U2.map fun p => V.ref p.1)) n6
      refine ⟨p6, _, rfl, .inl ⟨SqL.of upd_same, fun p7 n7 => ⟨by show 2 ≤ sizeLine; decide, fun p8 n8 => ?_⟩⟩⟩
      have k7 := same_upd (o := .tup (U2.map fun p => V.ref p.1)) n7
      have k8 := same_upd (o := .tup [.ref p4, .ref p7]) n8
      have s8 := s5.trans (k6.trans (k7.trans k8))
      have pm2 := pU.map (fun p : Addr × (Str × Str) => p.2)
      have mR' : (R.map (·.2.2)).map (·.1) = ys := by
        rw [List.map_map]
        exact mR
      have kU2 : LkAt (upd (upd (upd H5 p6 (.lst (U2.map fun p => V.ref p.1))) p7 (.tup (U2.map fun p => V.ref p.1))) p8 (.tup [.ref p4, .ref p7])) U2 := fun u hu' => (k6.trans (k7.trans k8)) _ _ (kU u (pU.mem_iff.mp hu'))
      refine q _ p8 ⟨R.map (·.2.2), U2.map (·.2)⟩ (s4.trans s8) ((s4.trans (s5.trans (k6.trans k7))).free n8) ?_ ⟨?_, ?_, fun o => (pm2.mem_iff).trans (mem o), leU, pm2.nodup_iff.mpr once⟩
      · refine .tup upd_same (.cons (.tup (s8 _ _ e4) ?_) (.cons (.tup (k8 _ _ upd_same) (kU2.all)) .nil))
        have all : ∀ (T : List (Addr × (Addr × (Str × MachM)))), (∀ r ∈ T, r ∈ R) → KzAll _ (T.map fun r => V.ref r.1) ((T.map (·.2.2)).map pairKey) := fun T => by
          induction T with
          | nil => intro _; exact .nil
          | cons r T ih => intro h; exact .cons (kM4 s8 r (h r List.mem_cons_self)) (ih fun z hz => h z (List.mem_cons_of_mem _ hz))
        exact all R fun r hr' => hr'
      · have pR : (R.map (·.2)).Perm L := by
          have nR : ((R.map (·.2)).map (fun p : Addr × (Str × MachM) => p.2.1)) = ys := by
            rw [List.map_map]
            exact mR
          refine perm_of_marks (f := fun p : Addr × (Str × MachM) => p.2.1) (by rw [nR]; exact pm.nodup_iff.mpr nd) nd (fun x hx => ?_) fun x hx => ?_
          · obtain ⟨r, hr', rfl⟩ := List.mem_map.mp hx
            exact (kR r hr').2
          · rw [nR]
            exact pm.mem_iff.mpr (List.mem_map.mpr ⟨x, hx, rfl⟩)
        have z := pR.map (fun p : Addr × (Str × MachM) => p.2)
        rw [List.map_map] at z
        exact z
      · show ((R.map (·.2.2)).map (·.1)).Pairwise sLe
        rw [mR']
        exact asc_of_sortedS asc
end
end K55
/-! with_neighbour, check_machine for machines, check_single, rest_in. -/
namespace K55
open PySem PySem.Spec PyProof.Rows L2 WD NS MC GL
open C8 (pss_cut tCut)
/-- every neighbour by one name -/
def toD (nm : Str) : Deed → Deed
  | .step => .step
  | .ex b _ l => .ex b nm l
def toR (nm : Str) (r : RowM) : RowM := ⟨r.before, toD nm r.deed, r.after⟩
structure ToOf (nm : Str) (m m' : MachM) : Prop where
  size : m'.size = m.size
  fin : m'.finals = m.finals
  perm : m'.rows.Perm (m.rows.map (toR nm))
  asc : m'.rows.Pairwise rowLeM
theorem nu_to {nm : Str} : ∀ {ys : List Str} {x : Str}, x ∈ ys → nu (ys.map fun y => (y, nm)) x = nm
  | [], _, h => nomatch h
  | y :: ys, x, h => by
    rw [List.map_cons, nu]
    by_cases e : y = x
    · rw [if_pos e]
    · rw [if_neg e]
      exact nu_to ((List.mem_cons.mp h).resolve_left fun z => e z.symm)
theorem NewOf.to {nm : Str} {m m' : MachM} {ys : List Str} (n : NewOf (ys.map fun y => (y, nm)) m m') (near : NearOf m ys) : ToOf nm m m' := by
  refine ⟨n.size, n.fin, ?_, n.asc⟩
  have e : m.rows.map (renR (ys.map fun y => (y, nm))) = m.rows.map (toR nm) := List.map_congr_left fun r hr => by
    unfold renR toR
    congr 1
    cases hd : r.deed with
    | step => rfl
    | ex b x l =>
      show Deed.ex b (nu _ x) l = .ex b nm l
      rw [nu_to ((near.mem x).mpr ⟨r, hr, b, l, hd⟩)]
  rw [← e]
  exact n.perm
theorem ToOf.ext {nm : Str} {m m1 m2 : MachM} (a : ToOf nm m m1) (b : ToOf nm m m2) : m1 = m2 := by
  have e := sorted_perm a.asc b.asc (a.perm.trans b.perm.symm)
  cases m1
  cases m2
  simp only [MachM.mk.injEq]
  exact ⟨a.size.trans b.size.symm, a.fin.trans b.fin.symm, e⟩
abbrev sWN : Stmt := topS 51
abbrev nWn2 : List Str := ["machine", "name", "neighbour"]
theorem scWN : FnScope nWn2 ["machine", "name"] (defScope sWN) := ⟨rfl, rfl, rfl, by decide +kernel, rfl, by decide +kernel, by decide +kernel⟩
def spWN : Sp := fun vs H Q _ => ∃ (a : Addr) (m : MachM) (nm : Str), vs = [.ref a, .str nm] ∧ Kz H (.ref a) m.key ∧ m.Ok ∧ Wd nm ∧
  ∀ H' p (m' : MachM), Same H H' → H p = none → ToOf nm m m' → Kz H' (.ref p) m'.key → Q (.ref p) H'
structure TxtWN (K : PySem.W.Frag) (mg : Str → Option Value) (fNN fB : Addr) (dNN dB : FuncData) : Prop where
  N : Fun K "with_neighbours_named" "with_neighbours_named" sWNN fNN dNN
  bN : L2.Binds K dNN ["machine", "names"] []
  gN : mg "with_neighbours_named" = some (.ref fNN)
  B : Fun K "neighbours_in" "neighbours_in" sNbIn fB dB
  bB : L2.Binds K dB ["machine"] []
  gB : mg "neighbours_in" = some (.ref fB)
section
variable {P : Program} {w : World} {K : PySem.W.Frag} {mg : Str → Option Value} {base : Heap} {fX fD fNN fB : Addr} {dX dD dNN dB : FuncData}
theorem ok_WN {f : Addr} {fd : FuncData} {k : Nat} (F : Fun K "with_neighbour" "with_neighbour" sWN f fd) (TS : TxtS mg) (W : TxtX K mg fX dX) (D : TxtD3 K mg fD dD) (T : TxtWN K mg fNN fB dNN dB) : FnOk P w K mg base CX0 (k + 4) f fd ["machine", "name"] spWN := by
  have GN : FnOk P w K mg base CX0 (k + 3) fNN dNN ["machine", "names"] spNew := ok_WNN T.N TS W D
  have GB : FnOk P w K mg base CX0 (k + 2) fB dB ["machine"] spNear := ok_NbIn T.B TS W
  refine F.ok scWN (fun vs H Q E h => ?_) (fun cdv A outer s H vs Q E hr h => ?_)
  · obtain ⟨a, m, nm, rfl, _⟩ := h
    rfl
  · obtain ⟨a, m, nm, rfl, hm, ok, wn, q⟩ := h
    have hr2 : Room (k + 2) _ := hr.mono (by omega)
    refine ⟨_, pss_one (ps_ret (pe_call GN hr (by rfl) T.gN T.N.kp T.bN .nil pass0 (pa_cons (pv 0) (pa_cons
        (pe_dc (own := [("neighbour", 2)]) (g := gName 2) (tt := tYes) (tk := tVar 2) (tv := tVar 1) rfl scWN.nd (pi_tup (pe_call GB hr2 (by rfl) T.gB T.B.kp T.bB .nil pass0 (pa_cons (pv 0) pa_nil))) (blkOk_by (own := [("neighbour", 2)]) (N := nWn2) (sc := defScope sWN) (by decide +kernel))
          (fun _ _ _ _ _ => pg_name (i := 2) scWN.nd rfl (.inl rfl)) (fun _ _ _ _ _ => pts_nil) (fun _ _ _ _ _ => pv 2) (fun _ _ _ _ _ => pv 1)) pa_nil)))), ?_⟩
    refine ⟨_, rfl, _, rfl, a, m, rfl, hm, ok, fun H1 p ys s1 np ey near few => ⟨p, rfl, ⟨_, SqT.of ey⟩, fun D nD => ?_⟩⟩
    have sD := same_upd (o := .dK []) nD
    refine SD.dict_it (walk_tup (xs := ys.map V.str)) (fun i H' => Same H1 H' ∧ H' D = some (.dK (gv (ys.take i) fun _ => nm))) ⟨sD, upd_same⟩ (fun i H' _ z => SqT.of (z.1 _ _ ey)) ?_ ?_
    · rintro i v H2 H3 hi ⟨s2, e2⟩ ⟨rfl, hv⟩
      obtain ⟨x, hx, rfl⟩ := strs_get hv
      have nd := near.once
      have nx : ys.take (i + 1) = ys.take i ++ [x] := by rw [List.take_succ, hx]; rfl
      have no : x ∉ ys.take i := fun h => by
        rw [← List.take_append_drop (i + 1) ys, nx, List.append_assoc, List.nodup_append] at nd
        exact nd.2.2 _ h _ List.mem_cons_self rfl
      refine ⟨rfl, tYes_ite ⟨_, rfl, _, rfl, _, Sum.inr x, rfl, e2, ?_, same_set s2 nD, ?_⟩⟩
      · rw [List.length_map, List.length_take, sizeLine_eq]
        omega
      · rw [upd_same, nx]
        exact congrArg (fun z => some (HO.dK z)) (gv_new (g := fun _ => nm) no)
    · rintro H2 ⟨s2, e2⟩
      rw [List.length_map, List.take_length] at e2
      have s12 := s1.trans s2
      refine ⟨a, D, m, ys.map fun y => (y, nm), rfl, Kz.same s12 _ _ hm, ok, ?_, fun p hp => ?_, fun H3 p3 m' s3 n3 new kz => q H3 p3 m' (s12.trans s3) (s12.free n3) (new.to near) kz⟩
      · rw [e2, gv, kvS, List.map_map]
        rfl
      · obtain ⟨y, hy, rfl⟩ := List.mem_map.mp hp
        obtain ⟨r, hr', b, l, e⟩ := (near.mem y).mp hy
        have z := (ok.r1 r hr').dd
        rw [e] at z
        exact ⟨z.1, wn⟩
end
end K55
/-! check_machine for machines, check_single, rest_in. -/
namespace K55
open PySem PySem.Spec PyProof.Rows L2 WD NS MC GL
open C8 (pss_cut tCut)
def spCk0 : Sp := fun vs H Q _ => ∃ (a : Addr) (m : MachM), vs = [.ref a] ∧ Kz H (.ref a) m.key ∧ m.Ok ∧ ∀ H', Same H H' → Q .non H'
/-- one neighbour at the most -/
def Single (m : MachM) : Prop := ∀ r ∈ m.rows, ∀ r' ∈ m.rows, ∀ b x l b' x' l', r.deed = .ex b x l → r'.deed = .ex b' x' l' → x = x'
theorem Single.len {m : MachM} (h : Single m) {ys : List Str} (near : NearOf m ys) : ys.length ≤ 1 := by
  match ys, near with
  | [], _ => exact Nat.zero_le _
  | [_], _ => exact Nat.le_refl _
  | a :: b :: r, near =>
    exfalso
    obtain ⟨r1, m1, b1, l1, e1⟩ := (near.mem a).mp List.mem_cons_self
    obtain ⟨r2, m2, b2, l2, e2⟩ := (near.mem b).mp (List.mem_cons_of_mem _ List.mem_cons_self)
    have e := h r1 m1 r2 m2 _ _ _ _ _ _ e1 e2
    have nd := near.once
    rw [List.nodup_cons] at nd
    exact nd.1 (e ▸ List.mem_cons_self)
abbrev sCS : Stmt := topS 46
theorem scCS : FnScope ["machine"] ["machine"] (defScope sCS) := ⟨rfl, rfl, rfl, by decide +kernel, rfl, by decide +kernel, by decide +kernel⟩
def spCS : Sp := fun vs H Q _ => ∃ (a : Addr) (m : MachM), vs = [.ref a] ∧ Kz H (.ref a) m.key ∧ m.Ok ∧ Single m ∧ ∀ H', Same H H' → Q .non H'
section
variable {P : Program} {w : World} {K : PySem.W.Frag} {mg : Str → Option Value} {base : Heap} {fW fF fN fS fT fR fI fC cM : Addr} {dW dF dN dS dT dR dI dC : FuncData} {fX fD fNN fB : Addr} {dX dD dNN dB : FuncData}
theorem ok_Ck0 {f : Addr} {fd : FuncData} {k : Nat} (F : Fun K "check_machine" "check_machine" sChkM f fd) (T : TxtI K mg fW fF dW dF) (TN : TxtNm K mg) (TT : TxtT K mg fN dN) (M : TxtM K mg fS fT fR fI fC cM dS dT dR dI dC) : FnOk P w K mg base CX0 (k + 5) f fd ["machine"] spCk0 := by
  have GI : FnOk P w K mg base CX0 (k + 4) fI dI ["value"] (spIsM K) := ok_IsM M.I T TN TT M
  refine F.ok scChkM (fun vs H Q E h => ?_) (fun cdv A outer s H vs Q E hr h => ?_)
  · obtain ⟨a, m, rfl, _⟩ := h
    rfl
  · obtain ⟨a, m, rfl, hm, ok, q⟩ := h
    refine ⟨_, pss_one (ps_if (pt_not (pt_val (pe_call GI hr (by rfl) M.gI M.I.kp M.bI .nil pass0 (pa_cons (pv 0) pa_nil)))) pss_never pss_nil), ?_⟩
    exact ⟨_, rfl, .ref a, rfl, .inl ⟨a, m, rfl, hm, ok, fun H' s' => ⟨_, rfl, iteF (q H' s')⟩⟩⟩
theorem ok_CS {f : Addr} {fd : FuncData} {k : Nat} (F : Fun K "check_single" "check_single" sCS f fd) (TS : TxtS mg) (T : TxtI K mg fW fF dW dF) (TN : TxtNm K mg) (TT : TxtT K mg fN dN) (M : TxtM K mg fS fT fR fI fC cM dS dT dR dI dC) (W : TxtX K mg fX dX) (TB : TxtWN K mg fNN fB dNN dB) : FnOk P w K mg base CX0 (k + 6) f fd ["machine"] spCS := by
  have GC : FnOk P w K mg base CX0 (k + 5) fC dC ["machine"] spCk0 := ok_Ck0 M.C T TN TT M
  have GB : FnOk P w K mg base CX0 (k + 2) fB dB ["machine"] spNear := ok_NbIn TB.B TS W
  refine F.ok scCS (fun vs H Q E h => ?_) (fun cdv A outer s H vs Q E hr h => ?_)
  · obtain ⟨a, m, rfl, _⟩ := h
    rfl
  · obtain ⟨a, m, rfl, hm, ok, one, q⟩ := h
    have hr2 : Room (k + 2) _ := hr.mono (by omega)
    refine ⟨_, pss_cons (ps_expr (pe_call GC hr (by rfl) M.gC M.C.kp M.bC .nil pass0 (pa_cons (pv 0) pa_nil)))
      (pss_one (ps_if (pt_cmpR op_gt (pe_callB call_len_seq (by rfl) TN.len PySem.boot_len (pa_cons (pe_call GB hr2 (by rfl) TB.gB TB.B.kp TB.bB .nil pass0 (pa_cons (pv 0) pa_nil)) pa_nil)) pe_int (nomark _)) pss_never pss_nil)), ?_⟩
    refine ⟨_, rfl, a, m, rfl, hm, ok, fun H1 s1 => ?_⟩
    refine ⟨_, rfl, a, m, rfl, Kz.same s1 _ _ hm, ok, fun H2 p ys s2 np e near few => ⟨p, _, rfl, .inr (SqT.of e), _, _, rfl, rfl, _, rfl, ?_⟩⟩
    have l1 := one.len near
    refine ifF (decide_eq_false ?_) (q H2 (s1.trans s2))
    rw [List.length_map]
    omega
end
/-! rest_in -/
/-- the pairs of a network -/
abbrev PrL := List (Addr × (Addr × (Str × MachM)))
abbrev PrAt (H : Hp) (R : PrL) : Prop := ∀ r ∈ R, H r.1 = some (.tup [.str r.2.2.1, .ref r.2.1]) ∧ Kz H (.ref r.2.1) r.2.2.2.key
theorem PrAt.same {H H' : Hp} {R : PrL} (h : PrAt H R) (s : Same H H') : PrAt H' R := fun r hr => ⟨s _ _ (h r hr).1, Kz.same s _ _ (h r hr).2⟩
theorem pr_of {H : Hp} : ∀ {xs : List V} {ms : List (Str × MachM)}, KzAll H xs (ms.map pairKey) → ∃ R : PrL, xs = R.map (fun p => V.ref p.1) ∧ R.map (·.2.2) = ms ∧ PrAt H R
  | _, [], h => by
    cases h
    exact ⟨[], rfl, rfl, fun _ z => nomatch z⟩
  | _, m :: ms, h => by
    cases h with
    | cons h1 h =>
      obtain ⟨R, rfl, rfl, kR⟩ := pr_of h
      obtain ⟨q, ys, rfl, eq, hs⟩ := kz_tup h1
      cases hs with
      | cons h1 hs =>
        cases hs with
        | cons h2 hs =>
          cases hs
          cases kz_text h1
          obtain ⟨b, us, rfl, _, _⟩ := kz_tup h2
          refine ⟨(q, (b, m)) :: R, rfl, rfl, fun r hr => ?_⟩
          rcases List.mem_cons.mp hr with rfl | hr
          · exact ⟨eq, h2⟩
          · exact kR r hr
abbrev outM (ys : List Str) (p : Str × MachM) : Bool := decide (p.1 ∉ ys)
abbrev outL (ys : List Str) (l : Str × Str) : Bool := decide (l.1 ∉ ys) && decide (l.2 ∉ ys)
abbrev sRI : Stmt := topS 54
abbrev nRi : List Str := ["network", "one", "other", "names", "machines", "pair", "link"]
theorem scRI : FnScope nRi ["network", "one", "other"] (defScope sRI) := ⟨rfl, rfl, rfl, by decide +kernel, rfl, by decide +kernel, by decide +kernel⟩
def spRI : Sp := fun vs H Q _ => ∃ (a : Addr) (N : NetM) (x y : Str), vs = [.ref a, .str x, .str y] ∧ Kz H (.ref a) N.key ∧ N.Ok ∧ ordL x y ∈ N.ls ∧
  ∀ H' p A B (ys : List Str) (R : PrL) (L : List (Addr × (Str × Str))), Same H H' → H p = none → H' p = some (.tup [.ref A, .ref B]) → H' A = some (.lst (R.map fun p => V.ref p.1)) → PrAt H' R → H' B = some (.lst (L.map fun p => V.ref p.1)) → LkAt H' L →
    BrOf N.ls x y ys → R.map (·.2.2) = N.ms.filter (outM ys) → L.map (·.2) = N.ls.filter (outL ys) → Q (.ref p) H'
structure TxtBN (K : PySem.W.Frag) (mg : Str → Option Value) (fBN : Addr) (dBN : FuncData) : Prop where
  F : Fun K "branch_names" "branch_names" sBN fBN dBN
  b : L2.Binds K dBN ["network", "one", "other"] []
  g : mg "branch_names" = some (.ref fBN)
theorem inV_dec {x : Str} {ws : List Str} : inV (.str x) (ws.map V.str) = decide (x ∈ ws) := by
  by_cases c : x ∈ ws
  · rw [inV_strs c, decide_eq_true c]
  · rw [decide_eq_false c]
    cases e : inV (.str x) (ws.map V.str) with
    | false => rfl
    | true =>
      unfold inV at e
      rw [List.any_eq_true] at e
      obtain ⟨v, hv, ev⟩ := e
      obtain ⟨z, hz, rfl⟩ := List.mem_map.mp hv
      have e2 : z = x := by simpa [eqV] using ev
      exact absurd (e2 ▸ hz) c
section
variable {P : Program} {w : World} {K : PySem.W.Frag} {mg : Str → Option Value} {base : Heap} {fNm fCN fCM fO : Addr} {dNm dCN dCM dO : FuncData} {fCh fL fWF fBN : Addr} {dCh dL dWF dBN : FuncData}
theorem ok_RI {f : Addr} {fd : FuncData} {k : Nat} (F : Fun K "rest_in" "rest_in" sRI f fd) (TS : TxtS mg) (T : TxtCk K mg fNm fCN fCM fO dNm dCN dCM dO) (C : TxtC K mg fCh dCh) (TL : TxtL K mg fL dL) (TW : TxtWF K mg fWF dWF) (TB : TxtBN K mg fBN dBN) : FnOk P w K mg base CX0 (k + 5) f fd ["network", "one", "other"] spRI := by
  have GB : FnOk P w K mg base CX0 (k + 4) fBN dBN ["network", "one", "other"] spBN := ok_BN TB.F TS T C TL TW
  refine F.ok scRI (fun vs H Q E h => ?_) (fun cdv A outer s H vs Q E hr h => ?_)
  · obtain ⟨a, N, x, y, rfl, _⟩ := h
    rfl
  · obtain ⟨a, N, x, y, rfl, hn, ok, ho, q⟩ := h
    refine ⟨_, pss_cut (ps_set (i := 3) scRI.nd rfl (.inr rfl) (pe_call GB hr (by rfl) TB.g TB.F.kp TB.b .nil pass0 (pa_cons (pv 0) (pa_cons (pv 1) (pa_cons (pv 2) pa_nil)))))
      (pss_cut (ps_setLc (i := 4) (own := [("pair", 5)]) (g := gName 5) (tt := tTest (tOp (rIn K true) (tOp (rIxT K) (tVar 5) (tC (.int 0))) (tVar 3))) (te := tVar 5) rfl scRI.nd rfl rfl (sw_true rfl rfl rfl (by decide +kernel))
          (pi_tup (pe_ix ix_tup (pv 0) pe_int (fun _ _ => rfl))) (blkOk_by (own := [("pair", 5)]) (N := nRi) (sc := defScope sRI) (by decide +kernel))
          (fun _ _ _ _ _ => pg_name (i := 5) scRI.nd rfl (.inl rfl)) (fun _ _ _ _ _ => pts_one (pt_cmpR (show OpR _ (compareOp .NotIn) (rIn K true) from op_notIn_seq) (pe_ix (show IxR _ (rIxT K) from ix_tup) (pv 5) pe_int (fun _ _ => rfl)) (pv 3) (by rfl))) (fun _ _ _ _ _ => pv 5))
      (pss_one (ps_ret (pe_tup (pa_cons (pv 4) (pa_cons
          (pe_lc (own := [("link", 6)]) (g := gName 6) (tt := tAnd (tTest (tOp (rIn K true) (tOp (rIxT K) (tVar 6) (tC (.int 0))) (tVar 3))) (tTest (tOp (rIn K true) (tOp (rIxT K) (tVar 6) (tC (.int 1))) (tVar 3)))) (te := tVar 6) rfl scRI.nd
            (pi_tup (pe_ix ix_tup (pv 0) pe_int (fun _ _ => rfl))) (blkOk_by (own := [("link", 6)]) (N := nRi) (sc := defScope sRI) (by decide +kernel))
            (fun _ _ _ _ _ => pg_name (i := 6) scRI.nd rfl (.inl rfl))
            (fun _ _ _ _ _ => pts_one (PW.pt (pw_and (pt_cmpR (show OpR _ (compareOp .NotIn) (rIn K true) from op_notIn_seq) (pe_ix (show IxR _ (rIxT K) from ix_tup) (pv 6) pe_int (fun _ _ => rfl)) (pv 3) (by rfl)) (pw_and1 (pt_cmpR (show OpR _ (compareOp .NotIn) (rIn K true) from op_notIn_seq) (pe_ix (show IxR _ (rIxT K) from ix_tup) (pv 6) pe_int (fun _ _ => rfl)) (pv 3) (by rfl))))))
            (fun _ _ _ _ _ => pv 6)) pa_nil)))))), ?_⟩
    obtain ⟨M⟩ := net_at hn
    obtain ⟨L, eL, mL, kL⟩ := lk_of M.lks
    obtain ⟨R, eR, mR, kR⟩ := pr_of M.all
    have eA : H M.A = some (.tup (R.map fun p => V.ref p.1)) := eR ▸ M.ea
    have eB : H M.B = some (.tup (L.map fun p => V.ref p.1)) := eL ▸ M.eb
    have lL : L.length < 30 := by
      have z := ok.lf
      rw [← mL, List.length_map] at z
      exact z
    have lR : R.length ≤ 6 := by
      have z := ok.n6
      rw [← mR, List.length_map] at z
      exact z
    refine ⟨fun σ' H' => ∃ (p : Addr) (ys : List Str), σ' = [some (.ref a), some (.str x), some (.str y), some (.ref p), none, none, none] ∧ Same H H' ∧ H' p = some (.tup (ys.map V.str)) ∧ BrOf N.ls x y ys, ?_, ?_⟩
    · exact ⟨_, rfl, _, rfl, _, rfl, a, N, x, y, rfl, hn, ok, ho, fun H1 p ys s1 np e br => ⟨p, ys, rfl, s1, e, br⟩⟩
    rintro σ1 H1 ⟨p, ys, rfl, s1, ep, br⟩
    have fl : (ys.map V.str).all flatV = true := flat_strs ys
    refine ⟨fun σ' H' => ∃ (D : Addr) (u5 : Option V), σ' = [some (.ref a), some (.str x), some (.str y), some (.ref p), some (.ref D), u5, none] ∧ Same H1 H' ∧ H' D = some (.lst ((R.filter fun r => outM ys r.2.2).map fun r => V.ref r.1)), ?_, ?_⟩
    · refine ⟨_, rfl, a, _, 0, .ref M.A, rfl, rfl, SqT.of (s1 _ _ M.top), atI_nat (j := 0) rfl, M.A, rfl, ⟨_, SqT.of (s1 _ _ eA)⟩, fun D nD => ?_⟩
      have sD := same_upd (o := .lst []) nD
      refine lc_tup (xs := R.map fun p => V.ref p.1) (fun i H' => Same H1 H' ∧ H' D = some (.lst (((R.take i).filter fun r => outM ys r.2.2).map fun r => V.ref r.1))) ⟨sD, upd_same⟩ (fun i H' _ z => SqT.of (z.1 _ _ (s1 _ _ eA))) ?_ ?_
      · rintro i v H2 hv ⟨s2, e2⟩
        rw [List.getElem?_map] at hv
        obtain ⟨r, hr', rfl⟩ := Option.map_eq_some_iff.mp hv
        have il := (List.getElem?_eq_some_iff.mp hr').1
        have er := s2 _ _ (s1 _ _ (kR r (List.mem_of_getElem? hr')).1)
        have nx := filter_next (f := fun r : Addr × (Addr × (Str × MachM)) => outM ys r.2.2) hr'
        refine ⟨rfl, _, rfl, r.1, _, 0, .str r.2.2.1, rfl, rfl, SqT.of er, atI_nat (j := 0) rfl, _, rfl, p, _, rfl, .inr (SqT.of (s2 _ _ ep)), rfl, fl, _, rfl, ?_⟩
        rw [inV_dec]
        refine ifB (fun hb => ?_) fun hb => ?_
        · have hb' : outM ys r.2.2 = true := by simpa [outM] using hb
          refine ⟨_, rfl, _, e2, ?_, same_set s2 nD, ?_⟩
          · have g := List.length_filter_le (fun r : Addr × (Addr × (Str × MachM)) => outM ys r.2.2) (R.take i)
            rw [List.length_take] at g
            rw [List.length_map, sizeLine_eq]
            omega
          · rw [upd_same, nx, if_pos hb', List.map_append]
            rfl
        · have hb' : ¬ outM ys r.2.2 = true := by simpa [outM] using hb
          refine ⟨s2, ?_⟩
          rw [nx, if_neg hb', List.append_nil]
          exact e2
      · rintro H2 ⟨s2, e2⟩
        rw [List.length_map, List.take_length] at e2
        exact ⟨D, _, rfl, s2, e2⟩
    rintro σ2 H2 ⟨D, u5, rfl, s2, eD⟩
    have s12 := s1.trans s2
    refine ⟨_, rfl, _, rfl, a, _, 1, .ref M.B, rfl, rfl, SqT.of (s12 _ _ M.top), atI_nat (j := 1) rfl, M.B, rfl, ⟨_, SqT.of (s12 _ _ eB)⟩, fun C nC => ?_⟩
    have sC := same_upd (o := .lst []) nC
    refine lc_tup (xs := L.map fun p => V.ref p.1) (fun i H' => Same H2 H' ∧ H' C = some (.lst (((L.take i).filter fun r => outL ys r.2).map fun r => V.ref r.1))) ⟨sC, upd_same⟩ (fun i H' _ z => SqT.of (z.1 _ _ (s12 _ _ eB))) ?_ ?_
    · rintro i v H3 hv ⟨s3, e3⟩
      rw [List.getElem?_map] at hv
      obtain ⟨r, hr', rfl⟩ := Option.map_eq_some_iff.mp hv
      have il := (List.getElem?_eq_some_iff.mp hr').1
      have er := s3 _ _ (s12 _ _ (kL r (List.mem_of_getElem? hr')))
      have ep3 := s3 _ _ (s2 _ _ ep)
      have nx := filter_next (f := fun r : Addr × (Str × Str) => outL ys r.2) hr'
      have no : ¬ outL ys r.2 = true → Same H2 H3 ∧ H3 C = some (.lst (((L.take (i + 1)).filter fun r => outL ys r.2).map fun r => V.ref r.1)) := fun hb => by
        refine ⟨s3, ?_⟩
        rw [nx, if_neg hb, List.append_nil]
        exact e3
      refine ⟨rfl, _, rfl, r.1, _, 0, .str r.2.1, rfl, rfl, SqT.of er, atI_nat (j := 0) rfl, _, rfl, p, _, rfl, .inr (SqT.of ep3), rfl, fl, _, rfl, ?_⟩
      rw [inV_dec]
      refine ifB (fun hb => ?_) fun hb => no (by simp_all [outL])
      refine ⟨_, rfl, r.1, _, 1, .str r.2.2, rfl, rfl, SqT.of er, atI_nat (j := 1) rfl, _, rfl, p, _, rfl, .inr (SqT.of ep3), rfl, fl, _, rfl, ?_⟩
      rw [inV_dec]
      refine ifB (fun hb2 => ?_) fun hb2 => no (by simp_all [outL])
      have hb' : outL ys r.2 = true := by simp_all [outL]
      refine ⟨_, rfl, _, e3, ?_, same_set s3 nC, ?_⟩
      · have g := List.length_filter_le (fun r : Addr × (Str × Str) => outL ys r.2) (L.take i)
        rw [List.length_take] at g
        rw [List.length_map, sizeLine_eq]
        omega
      · rw [upd_same, nx, if_pos hb', List.map_append]
        rfl
    · rintro H3 ⟨s3, e3⟩
      rw [List.length_map, List.take_length] at e3
      refine ⟨by show 2 ≤ sizeLine; decide, fun t nt => ?_⟩
      have kt := same_upd (o := .tup [.ref D, .ref C]) nt
      have st := (s12.trans s3).trans kt
      refine q _ t D C ys _ _ st ((s12.trans s3).free nt) upd_same ((s3.trans kt) _ _ eD) (fun r hr' => (kR.same st) r (List.mem_filter.mp hr').1) (kt _ _ e3) (fun r hr' => (kL.same st) r (List.mem_filter.mp hr').1) br ?_ ?_
      · rw [← mR, List.filter_map]
        rfl
      · rw [← mL, List.filter_map]
        rfl
end
end K55
/-! with_branch. -/
namespace K55
open PySem PySem.Spec PyProof.Rows L2 WD NS MC GL
open C8 (pss_cut tCut)
theorem kvM_put {L : MsL} {q : Addr} {x : Str} {m : MachM} (h : x ∉ nmsM L) : putK (kvM L) (Sum.inr x) (V.ref q) = kvM (L ++ [(q, (x, m))]) := by
  have z : (kvM L).any (fun kv => decide (kv.1 = Sum.inr x)) = false := by
    rw [List.any_eq_false]
    intro kv hkv
    obtain ⟨p, hp, rfl⟩ := List.mem_map.mp hkv
    rw [decide_eq_true_eq]
    intro e
    exact h (List.mem_map.mpr ⟨p, hp, Sum.inr.inj e⟩)
  rw [putK, z, kvM, kvM, List.map_append]
  rfl
theorem mergeM : ∀ (L A : MsL), (nmsM (A ++ L)).Nodup → mergeK (kvM A) (kvM L) = kvM (A ++ L)
  | [], A, _ => by rw [List.append_nil]; rfl
  | p :: L, A, nd => by
    have e : A ++ p :: L = A ++ [p] ++ L := by rw [List.append_assoc]; rfl
    have no : p.2.1 ∉ nmsM A := fun h => by
      rw [nmsM, List.map_append, List.nodup_append] at nd
      exact nd.2.2 _ h _ List.mem_cons_self rfl
    show mergeK (putK (kvM A) (Sum.inr p.2.1) (V.ref p.1)) (kvM L) = _
    rw [kvM_put (m := p.2.2) no, e]
    rw [e] at nd
    exact mergeM L (A ++ [p]) nd
theorem paired_of {K : PySem.W.Frag} {H : Hp} : ∀ {R : PrL}, PrAt H R → Paired (fun p (kv : Key × V) => SqT K H p [kV kv.1, kv.2]) (R.map (·.1)) (kvM (R.map (·.2)))
  | [], _ => .nil
  | r :: R, h => .cons (SqT.of (h r List.mem_cons_self).1) (paired_of fun q hq => h q (List.mem_cons_of_mem _ hq))
/-- the branch replaced -/
structure RepOf (N : NetM) (x y : Str) (m : MachM) (N' : NetM) : Prop where
  ex : ∃ (ys : List Str) (m' : MachM), BrOf N.ls x y ys ∧ ToOf x m m' ∧ AsmOf (N.ms.filter (outM ys) ++ [(y, m')]) (N.ls.filter (outL ys) ++ [(x, y)]) N'
abbrev sWB : Stmt := topS 53
abbrev nWb : List Str := ["network", "one", "other", "machine", "rest", "links", "machines"]
theorem scWB : FnScope nWb ["network", "one", "other", "machine"] (defScope sWB) := ⟨rfl, rfl, rfl, by decide +kernel, rfl, by decide +kernel, by decide +kernel⟩
def spWB : Sp := fun vs H Q _ => ∃ (a b : Addr) (N : NetM) (x y : Str) (m : MachM), vs = [.ref a, .str x, .str y, .ref b] ∧ Kz H (.ref a) N.key ∧ N.Ok ∧ ordL x y ∈ N.ls ∧ Kz H (.ref b) m.key ∧ m.Ok ∧ Single m ∧
  ∀ H' p (N' : NetM), Same H H' → H p = none → Kz H' (.ref p) N'.key → RepOf N x y m N' → Q (.ref p) H'
structure TxtWB (K : PySem.W.Frag) (mg : Str → Option Value) (fCL fCS fRI fWN fAs : Addr) (dCL dCS dRI dWN dAs : FuncData) : Prop where
  dict : mg "dict" = none
  L : Fun K "check_linked" "check_linked" sCL fCL dCL
  bL : L2.Binds K dCL ["network", "one", "other"] []
  gL : mg "check_linked" = some (.ref fCL)
  S : Fun K "check_single" "check_single" sCS fCS dCS
  bS : L2.Binds K dCS ["machine"] []
  gS : mg "check_single" = some (.ref fCS)
  R : Fun K "rest_in" "rest_in" sRI fRI dRI
  bR : L2.Binds K dRI ["network", "one", "other"] []
  gR : mg "rest_in" = some (.ref fRI)
  W : Fun K "with_neighbour" "with_neighbour" sWN fWN dWN
  bW : L2.Binds K dWN ["machine", "name"] []
  gW : mg "with_neighbour" = some (.ref fWN)
  A : Fun K "assembled" "assembled" sAsm fAs dAs
  bA : L2.Binds K dAs ["machines", "links"] []
  gA : mg "assembled" = some (.ref fAs)
section
variable {P : Program} {w : World} {K : PySem.W.Frag} {mg : Str → Option Value} {base : Heap} {fA fWC fAL fI : Addr} {dA dWC dAL dI : FuncData} {fW fF fN fS fT fR fI' fC cM : Addr} {dW dF dN dS dT dR dI' dC : FuncData} {fNm fCN fCM fO : Addr} {dNm dCN dCM dO : FuncData}
  {fCh fL fWF fBN : Addr} {dCh dL dWF dBN : FuncData} {fX fD fNN fB : Addr} {dX dD dNN dB : FuncData} {fCL fCS fRI fWN fAs : Addr} {dCL dCS dRI dWN dAs : FuncData}
theorem ok_WB {f : Addr} {fd : FuncData} {k : Nat} (F : Fun K "with_branch" "with_branch" sWB f fd) (TS : TxtS mg) (TI : TxtI K mg fW fF dW dF) (TN : TxtNm K mg) (TT : TxtT K mg fN dN) (TM : TxtM K mg fS fT fR fI' fC cM dS dT dR dI' dC) (TA : TxtA K mg fA fWC dA dWC) (TW : TxtN K mg fAL fI dAL dI)
    (TC : TxtCk K mg fNm fCN fCM fO dNm dCN dCM dO) (CH : TxtC K mg fCh dCh) (TL : TxtL K mg fL dL) (WF : TxtWF K mg fWF dWF) (BN : TxtBN K mg fBN dBN) (XX : TxtX K mg fX dX) (DD : TxtD3 K mg fD dD) (NB : TxtWN K mg fNN fB dNN dB) (T : TxtWB K mg fCL fCS fRI fWN fAs dCL dCS dRI dWN dAs) :
    FnOk P w K mg base CX0 (k + 7) f fd ["network", "one", "other", "machine"] spWB := by
  have GL : FnOk P w K mg base CX0 (k + 6) fCL dCL ["network", "one", "other"] spCL := ok_CL T.L TS TI TN TT TM TA TW TC
  have GS : FnOk P w K mg base CX0 (k + 6) fCS dCS ["machine"] spCS := ok_CS T.S TS TI TN TT TM XX NB
  have GR : FnOk P w K mg base CX0 (k + 5) fRI dRI ["network", "one", "other"] spRI := ok_RI T.R TS TC CH TL WF BN
  have GW : FnOk P w K mg base CX0 (k + 4) fWN dWN ["machine", "name"] spWN := ok_WN T.W TS XX DD NB
  have GA : FnOk P w K mg base CX0 (k + 2) fAs dAs ["machines", "links"] spAsm := ok_Asm T.A TS WF.list TC.O TC.bO TC.gO
  refine F.ok scWB (fun vs H Q E h => ?_) (fun cdv A outer s H vs Q E hr h => ?_)
  · obtain ⟨a, b, N, x, y, m, rfl, _⟩ := h
    rfl
  · obtain ⟨a, b, N, x, y, m, rfl, hn, ok, ho, hm, okm, one, q⟩ := h
    have hu := hr.units
    have hu1 := Nat.lt_of_le_of_lt (Nat.add_le_add_left (by decide : 1 ≤ 64) _) hu
    have hr5 : Room (k + 5) _ := hr.mono (by omega)
    have hr4 : Room (k + 4) _ := hr.mono (by omega)
    have hr2 : Room (k + 2) _ := hr.mono (by omega)
    refine ⟨_, pss_cons (ps_expr (pe_call GL hr (by rfl) T.gL T.L.kp T.bL .nil pass0 (pa_cons (pv 0) (pa_cons (pv 1) (pa_cons (pv 2) pa_nil)))))
      (pss_cons (ps_expr (pe_call GS hr (by rfl) T.gS T.S.kp T.bS .nil pass0 (pa_cons (pv 3) pa_nil)))
      (pss_cut (ps_asg (pe_call GR hr5 (by rfl) T.gR T.R.kp T.bR .nil pass0 (pa_cons (pv 0) (pa_cons (pv 1) (pa_cons (pv 2) pa_nil)))) (pg_tup rfl (pgs_cons (pg_name (i := 4) scWB.nd rfl (.inl rfl)) (pgs_cons (pg_name (i := 5) scWB.nd rfl (.inl rfl)) pgs_nil))))
      (pss_cut (ps_set (i := 6) scWB.nd rfl (.inl rfl) (pe_callTy (call_dictP rfl) (by rfl) T.dict (by decide +kernel) (pa_cons (pv 4) pa_nil)))
      (pss_cut (ps_dput hu1 (pv 6) (pv 2) (pe_call GW hr4 (by rfl) T.gW T.W.kp T.bW .nil pass0 (pa_cons (pv 3) (pa_cons (pv 1) pa_nil))) (by rfl))
      (pss_one (ps_ret (pe_call GA hr2 (by rfl) T.gA T.A.kp T.bA .nil pass0 (pa_cons (pv 6) (pa_cons (pe_lst (StX.pa_star (pv 5) (pa_cons (pe_tup (pa_cons (pv 1) (pa_cons (pv 2) pa_nil))) pa_nil))) pa_nil))))))))), ?_⟩
    obtain ⟨mx, my, nxy⟩ := ord_ends ok ho
    refine ⟨_, rfl, _, rfl, _, rfl, a, N, x, y, rfl, hn, ok, ho, fun H1 s1 => ?_⟩
    refine ⟨_, rfl, b, m, rfl, Kz.same s1 _ _ hm, okm, one, fun H2 s2' => ?_⟩
    have s2 := s1.trans s2'
    refine ⟨fun σ' H' => ∃ (A B : Addr) (ys : List Str) (R : PrL) (L : List (Addr × (Str × Str))), σ' = [some (.ref a), some (.str x), some (.str y), some (.ref b), some (.ref A), some (.ref B), none] ∧ Same H H' ∧ H' A = some (.lst (R.map fun p => V.ref p.1)) ∧ PrAt H' R ∧ H' B = some (.lst (L.map fun p => V.ref p.1)) ∧ LkAt H' L ∧
      BrOf N.ls x y ys ∧ R.map (·.2.2) = N.ms.filter (outM ys) ∧ L.map (·.2) = N.ls.filter (outL ys), ?_, ?_⟩
    · refine ⟨_, rfl, _, rfl, _, rfl, a, N, x, y, rfl, Kz.same s2 _ _ hn, ok, ho, fun H3 p A B ys R L s3 np ep eA kR eB kL br mR mL => ?_⟩
      exact ⟨p, _, rfl, SqT.of ep, rfl, _, _, rfl, _, _, rfl, rfl, A, B, ys, R, L, rfl, s2.trans s3, eA, kR, eB, kL, br, mR, mL⟩
    rintro σ3 H3 ⟨A, B, ys, R, L, rfl, s3, eA, kR, eB, kL, br, mR, mL⟩
    have lR : R.length ≤ 6 := by
      have z := List.length_filter_le (outM ys) N.ms
      rw [← mR, List.length_map] at z
      have := ok.n6
      omega
    have lL : L.length < 30 := by
      have z := List.length_filter_le (outL ys) N.ls
      rw [← mL, List.length_map] at z
      have := ok.lf
      omega
    have nR : nmsM (R.map (·.2)) = (N.ms.filter (outM ys)).map (·.1) := by
      rw [← mR, List.map_map, nmsM, List.map_map]
      rfl
    have ndR : (nmsM (R.map (·.2))).Nodup := by
      rw [nR]
      exact ok.once.sublist (List.Sublist.map _ List.filter_sublist)
    have yys : y ∈ ys := (br.mem y).mpr (.refl _)
    have ny : y ∉ nmsM (R.map (·.2)) := fun h => by
      rw [nR] at h
      obtain ⟨p, hp, e⟩ := List.mem_map.mp h
      exact of_decide_eq_true (List.mem_filter.mp hp).2 (e ▸ yys)
    refine ⟨fun σ' H' => ∃ d, σ' = [some (.ref a), some (.str x), some (.str y), some (.ref b), some (.ref A), some (.ref B), some (.ref d)] ∧ Same H3 H' ∧ H3 d = none ∧ H' d = some (.dK (kvM (R.map (·.2)))), ?_, ?_⟩
    · refine ⟨_, rfl, A, R.map (·.1), kvM (R.map (·.2)), rfl, SqL.of (by rw [List.map_map]; exact eA), paired_of kR, fun d nd => ⟨d, rfl, same_upd nd, nd, ?_⟩⟩
      have mg0 := mergeM (R.map (·.2)) [] (by rw [List.nil_append]; exact ndR)
      rw [List.nil_append] at mg0
      rw [upd_same]
      exact congrArg (fun z => some (HO.dK z)) mg0
    rintro σ4 H4 ⟨d, rfl, s4, nd, ed⟩
    have s34 := s3.trans s4
    refine ⟨fun σ' H' => ∃ (q4 : Addr) (m' : MachM), σ' = [some (.ref a), some (.str x), some (.str y), some (.ref b), some (.ref A), some (.ref B), some (.ref d)] ∧ Same H3 H' ∧ H' d = some (.dK (kvM (R.map (·.2) ++ [(q4, (y, m'))]))) ∧ Kz H' (.ref q4) m'.key ∧ ToOf x m m', ?_, ?_⟩
    · refine ⟨_, rfl, _, rfl, b, m, x, rfl, Kz.same s34 _ _ hm, okm, ok.wdn mx, fun H5 p m' s5 np to kz => ?_⟩
      have ed5 := s5 _ _ ed
      refine ⟨_, rfl, _, rfl, d, _, rfl, DPut.k (k := Sum.inr y) ed5 ?_, p, m', rfl, same_set (s4.trans s5) nd, ?_, Kz.tups (SameT.at ed5 (fun xs z => nomatch z)) _ _ kz, to⟩
      · rw [List.length_map, List.length_map, sizeLine_eq]
        omega
      · rw [upd_same, kvM_put ny]
    rintro σ5 H5 ⟨q4, m', rfl, s5, ed5, kz, to⟩
    have s35 := s3.trans s5
    refine ⟨_, rfl, _, rfl, B, _, rfl, .inr (SqL.of (s5 _ _ eB)), _, rfl, _, rfl, by show 2 ≤ sizeLine; decide, fun t nt => ⟨?_, fun l nl => ?_⟩⟩
    · rw [List.length_append, List.length_map, sizeLine_eq]
      show L.length + 1 ≤ _
      omega
    have kt := same_upd (o := .tup [.str x, .str y]) nt
    have kl := same_upd (o := .lst (L.map (fun p => V.ref p.1) ++ [.ref t])) nl
    have k57 := kt.trans kl
    refine ⟨d, l, R.map (·.2) ++ [(q4, (y, m'))], L ++ [(t, (x, y))], rfl, k57 _ _ ed5, fun p hp => ?_, ?_, ?_, ?_, fun p hp => ?_, ?_, fun H8 p N' s8 np kN asm => ?_⟩
    · rcases List.mem_append.mp hp with z | z
      · obtain ⟨r, hr', rfl⟩ := List.mem_map.mp z
        exact Kz.same (s5.trans k57) _ _ (kR r hr').2
      · rw [List.mem_singleton.mp z]
        exact Kz.same k57 _ _ kz
    · rw [nmsM, List.map_append, List.nodup_append]
      refine ⟨ndR, by simp, fun u hu' v hv => ?_⟩
      rw [List.mem_singleton.mp hv]
      exact fun e => ny ((show u = y from e) ▸ hu')
    · rw [List.length_append, List.length_map]
      show R.length + 1 < 60
      omega
    · rw [upd_same, List.map_append]
      rfl
    · rcases List.mem_append.mp hp with z | z
      · exact (s5.trans k57) _ _ (kL p z)
      · rw [List.mem_singleton.mp z]
        exact kl _ _ upd_same
    · rw [List.length_append]
      show L.length + 1 < 60
      omega
    · refine q H8 p N' ((s35.trans k57).trans s8) ((s35.trans k57).free np) kN ⟨ys, m', br, to, ?_⟩
      rw [List.map_append, List.map_append, List.map_map] at asm
      rw [← mR, ← mL]
      exact asm
end
end K55
/-! Configurations; fits_network, check_configuration. -/
namespace K55
open PySem PySem.Spec PyProof.Rows L2 WD NS MC GL
open C8 (pss_cut tCut)
theorem walk_zipT {K : PySem.W.Frag} {a b : Addr} {xs ys : List V} (same : ys.length = xs.length) : Walk (RZ.ItzT K a b) xs.length (fun H => SqT K H a xs ∧ SqT K H b ys) (YPair (fun i => xs[i]?) fun i => ys[i]?) where
  goes := fun i H lt g => ⟨xs, ys, xs[i], ys[i]'(same ▸ lt), g.1, g.2, List.getElem?_eq_getElem lt, List.getElem?_eq_getElem (same ▸ lt)⟩
  stops := fun H g => ⟨xs, ys, g.1, g.2, .inl (Nat.le_refl _)⟩
  yields := fun i H v H' lt g y => by
    obtain ⟨T, u, z, e1, e2, e3, e4, e5⟩ := y
    exact ⟨T, u, z, e1, e2, e3, e4 xs g.1, e5 ys g.2⟩
/-- a configuration -/
structure CfgM where
  sts : List Int
  qs : List (List Str)
abbrev queueKey (q : List Str) : NestedKey := .tup (q.map NestedKey.text)
def CfgM.key (c : CfgM) : NestedKey := .tup [.tup (c.sts.map .num), .tup (c.qs.map queueKey)]
structure CfgM.Ok (N : NetM) (c : CfgM) : Prop where
  len : c.sts.length = N.ms.length
  st : ∀ (i : Nat) (p : Str × MachM) (z : Int), N.ms[i]? = some p → c.sts[i]? = some z → 0 ≤ z ∧ z < p.2.size
  ql : c.qs.length = 2 * N.ls.length
  wd : ∀ q ∈ c.qs, ∀ x ∈ q, Wd x
structure CfgAt (H : Hp) (a : Addr) (c : CfgM) where
  A : Addr
  B : Addr
  top : H a = some (.tup [.ref A, .ref B])
  ea : H A = some (.tup (c.sts.map V.int))
  T : List (Addr × List Str)
  eb : H B = some (.tup (T.map fun p => V.ref p.1))
  mT : T.map (·.2) = c.qs
  kT : ∀ p ∈ T, H p.1 = some (.tup (p.2.map V.str))
theorem kz_textsI {H : Hp} : ∀ {xs : List V} {ws : List Str}, KzAll H xs (ws.map NestedKey.text) → xs = ws.map V.str
  | _, [], h => by cases h; rfl
  | _, w :: ws, h => by
    cases h with
    | cons h1 h => rw [kz_text h1, kz_textsI h]; rfl
theorem queues_of {H : Hp} : ∀ {xs : List V} {qs : List (List Str)}, KzAll H xs (qs.map queueKey) → ∃ T : List (Addr × List Str), xs = T.map (fun p => V.ref p.1) ∧ T.map (·.2) = qs ∧ ∀ p ∈ T, H p.1 = some (.tup (p.2.map V.str))
  | _, [], h => by
    cases h
    exact ⟨[], rfl, rfl, fun _ z => nomatch z⟩
  | _, q :: qs, h => by
    cases h with
    | cons h1 h =>
      obtain ⟨T, rfl, rfl, kT⟩ := queues_of h
      obtain ⟨b, us, rfl, eb, hs⟩ := kz_tup h1
      have e := kz_textsI hs
      subst e
      refine ⟨(b, q) :: T, rfl, rfl, fun p hp => ?_⟩
      rcases List.mem_cons.mp hp with rfl | hp
      · exact eb
      · exact kT p hp
theorem cfg_at {H : Hp} {a : Addr} {c : CfgM} (h : Kz H (.ref a) c.key) : Nonempty (CfgAt H a c) := by
  cases h with
  | tup e h =>
    cases h with
    | cons h1 h =>
      cases h with
      | cons h2 h =>
        cases h
        obtain ⟨A, xs, rfl, ea, all⟩ := kz_tup h1
        obtain ⟨B, zs, rfl, eb, qs⟩ := kz_tup h2
        have e1 := kz_nums all
        subst e1
        obtain ⟨T, rfl, mT, kT⟩ := queues_of qs
        exact ⟨⟨A, B, e, ea, T, eb, mT, kT⟩⟩
abbrev sSO : Stmt := topS 42
abbrev nSo : List Str := ["network", "value", "state", "_", "machine"]
theorem scSO : FnScope nSo ["network", "value"] (defScope sSO) := ⟨rfl, rfl, rfl, by decide +kernel, rfl, by decide +kernel, by decide +kernel⟩
def spSO : Sp := fun vs H Q _ => ∃ (a b : Addr) (N : NetM) (zs : List Int), vs = [.ref a, .ref b] ∧ Kz H (.ref a) N.key ∧ N.Ok ∧ H b = some (.tup (zs.map V.int)) ∧ zs.length = N.ms.length ∧ (∀ (i : Nat) (p : Str × MachM) (z : Int), N.ms[i]? = some p → zs[i]? = some z → 0 ≤ z ∧ z < p.2.size) ∧ ∀ H', Same H H' → Q (.bl true) H'
structure TxtRw (K : PySem.W.Frag) (mg : Str → Option Value) (fRw : Addr) (dRw : FuncData) : Prop where
  zip : mg "zip" = none
  all : mg "all" = none
  F : Fun K "is_row" "is_row" sIsRow fRw dRw
  b : L2.Binds K dRw ["value", "size"] []
  g : mg "is_row" = some (.ref fRw)
section
variable {P : Program} {w : World} {K : PySem.W.Frag} {mg : Str → Option Value} {base : Heap} {fW fF fN fRw : Addr} {dW dF dN dRw : FuncData}
theorem ok_SO {f : Addr} {fd : FuncData} {k : Nat} (F : Fun K "are_states_of" "are_states_of" sSO f fd) (TI : TxtI K mg fW fF dW dF) (TN : TxtNm K mg) (TT : TxtT K mg fN dN) (R : TxtRw K mg fRw dRw) : FnOk P w K mg base CX0 (k + 2) f fd ["network", "value"] spSO := by
  have GW : FnOk P w K mg base CX0 (k + 1) fW dW ["value"] (spWhole K) := ok_IsWh TI.W TI
  have GR : FnOk P w K mg base CX0 (k + 1) fRw dRw ["value", "size"] (spIsRow K) := ok_IsRow R.F TN
  refine F.ok scSO (fun vs H Q E h => ?_) (fun cdv A outer s H vs Q E hr h => ?_)
  · obtain ⟨a, b, N, zs, rfl, _⟩ := h
    rfl
  · obtain ⟨a, b, N, zs, rfl, hn, ok, eb, lz, st, q⟩ := h
    refine ⟨_, pss_cons (ps_if (pt_not (pt_val (pe_call GR hr (by rfl) R.g R.F.kp R.b .nil pass0 (pa_cons (pv 1) (pa_cons (pe_callB call_len_seq (by rfl) TN.len PySem.boot_len (pa_cons (pe_ix ix_tup (pv 0) pe_int (fun _ _ => rfl)) pa_nil)) pa_nil))))) (pss_one (ps_ret pe_bl)) pss_nil)
      (pss_cut (ps_for PassesOwn.never rfl (RZ.pi_zipA (by rfl) R.zip (pa_cons (pv 1) (pa_cons (pe_ix ix_tup (pv 0) pe_int (fun _ _ => rfl)) pa_nil)))
          (pg_tup rfl (pgs_cons (pg_name (i := 2) scSO.nd rfl (.inl rfl)) (pgs_cons (pg_tup rfl (pgs_cons (pg_name (i := 3) scSO.nd rfl (.inl rfl)) (pgs_cons (pg_name (i := 4) scSO.nd rfl (.inl rfl)) pgs_nil))) pgs_nil)))
        (pss_one (ps_if (PW.pt (pw_or (pt_not (PW.pt (pw_or (pt_cmpR op_isTy (pe_typeOf (by rfl) TT.type (pv 2)) (pe_bltn (by rfl) TI.int (by decide +kernel) (v := .ty "int") rfl) (nomark _)) (pw_or1 (pt_val (pe_call GW hr (by rfl) TI.gW TI.W.kp TI.bW .nil pass0 (pa_cons (pv 2) pa_nil)))))))
            (pw_or1 (pt_not (pt_chain op_le op_lt pe_int (pv 2) (pe_ix ix_tup (pv 4) pe_int (fun _ _ => rfl))))))) (pss_one (ps_ret pe_bl)) pss_nil)))
      (pss_one (ps_ret pe_bl))), ?_⟩
    obtain ⟨M⟩ := net_at hn
    obtain ⟨L, eL, mL, kL⟩ := pr_of M.all
    have eA : H M.A = some (.tup (L.map fun p => V.ref p.1)) := eL ▸ M.ea
    have lL : L.length = N.ms.length := by rw [← mL, List.length_map]
    refine ⟨_, rfl, _, rfl, a, _, 0, .ref M.A, rfl, rfl, SqT.of M.top, atI_nat (j := 0) rfl, M.A, _, rfl, .inr (SqT.of eA), b, _, _, rfl, eb, by simp only [List.length_map]; omega, _, rfl, iteF ?_⟩
    refine ⟨fun σ' H' => Same H H', ?_, fun σ' H' s => q H' s⟩
    refine ⟨_, rfl, _, rfl, a, _, 0, .ref M.A, rfl, rfl, SqT.of M.top, atI_nat (j := 0) rfl, b, M.A, zs.map V.int, L.map (fun p => V.ref p.1), rfl, .inr ⟨SqT.of eb, SqT.of eA, ?_⟩⟩
    have lzz : (zs.map V.int).length = (L.map fun p => V.ref p.1).length := by simp only [List.length_map]; omega
    refine RZ.for_zipT lzz (fun i σ' H' => ∃ u2 u3 u4 : Option V, σ' = [some (.ref a), some (.ref b), u2, u3, u4] ∧ Same H H') ⟨none, none, none, rfl, fun _ _ e => e⟩ ?_ ?_ ?_
    · rintro i σ' H' ⟨_, _, _, _, s⟩
      exact ⟨SqT.of (s _ _ eb), SqT.of (s _ _ eA)⟩
    · rintro i v r T σ' H' hv hr' ⟨u2, u3, u4, rfl, s⟩ nT
      rw [List.getElem?_map] at hv hr'
      obtain ⟨z, hz, rfl⟩ := Option.map_eq_some_iff.mp hv
      obtain ⟨p, hp, rfl⟩ := Option.map_eq_some_iff.mp hr'
      have hp' : N.ms[i]? = some p.2.2 := by rw [← mL, List.getElem?_map, hp]; rfl
      obtain ⟨z0, z1⟩ := st i _ z hp' hz
      have kT := same_upd (o := .tup [.int z, .ref p.1]) nT
      obtain ⟨ep, km⟩ := (kL.same (s.trans kT)) p (List.mem_of_getElem? hp)
      obtain ⟨MM⟩ := mach_at km
      refine ⟨T, _, rfl, SqT.of upd_same, rfl, _, _, rfl, _, _, rfl, ⟨p.1, _, rfl, SqT.of ep, rfl, _, _, rfl, _, _, rfl, rfl, rfl, ?_⟩⟩
      refine ⟨_, rfl, "int", rfl, _, _, rfl, rfl, _, rfl, ifT (by decide) (ifF rfl ?_)⟩
      refine ⟨_, rfl, _, _, rfl, rfl, _, rfl, ifT (decide_eq_true z0) ⟨_, rfl, p.2.1, _, 0, .int p.2.2.2.size, rfl, rfl, SqT.of MM.top, atI_nat (j := 0) rfl, _, _, rfl, rfl, _, rfl, ?_⟩⟩
      rw [decide_eq_true z1]
      exact iteF ⟨_, _, _, rfl, s.trans kT⟩
    · rintro σ' H' ⟨_, _, _, rfl, s⟩
      exact s
end
end K55
/-! are_queues_of, fits_network, check_configuration. -/
namespace K55
open PySem PySem.Spec PyProof.Rows L2 WD NS MC GL
open C8 (pss_cut tCut)
abbrev sQO : Stmt := topS 43
abbrev nQo : List Str := ["network", "value", "queue"]
theorem scQO : FnScope nQo ["network", "value"] (defScope sQO) := ⟨rfl, rfl, rfl, by decide +kernel, rfl, by decide +kernel, by decide +kernel⟩
def spQO : Sp := fun vs H Q _ => ∃ (a b : Addr) (N : NetM) (T : List (Addr × List Str)), vs = [.ref a, .ref b] ∧ Kz H (.ref a) N.key ∧ N.Ok ∧ H b = some (.tup (T.map fun p => V.ref p.1)) ∧ (∀ p ∈ T, H p.1 = some (.tup (p.2.map V.str)) ∧ ∀ x ∈ p.2, Wd x) ∧ T.length = 2 * N.ls.length ∧ ∀ H', Same H H' → Q (.bl true) H'
abbrev sFN : Stmt := topS 41
abbrev nFn : List Str := ["network", "value", "states", "queues"]
theorem scFN : FnScope nFn ["network", "value"] (defScope sFN) := ⟨rfl, rfl, rfl, by decide +kernel, rfl, by decide +kernel, by decide +kernel⟩
def spFN : Sp := fun vs H Q _ => ∃ (a b : Addr) (N : NetM) (c : CfgM), vs = [.ref a, .ref b] ∧ Kz H (.ref a) N.key ∧ N.Ok ∧ Kz H (.ref b) c.key ∧ c.Ok N ∧ ∀ H', Same H H' → Q (.bl true) H'
abbrev sCC : Stmt := topS 44
theorem scCC : FnScope ["network", "configuration"] ["network", "configuration"] (defScope sCC) := ⟨rfl, rfl, rfl, by decide +kernel, rfl, by decide +kernel, by decide +kernel⟩
def spCC : Sp := fun vs H Q _ => ∃ (a b : Addr) (N : NetM) (c : CfgM), vs = [.ref a, .ref b] ∧ Kz H (.ref a) N.key ∧ N.Ok ∧ Kz H (.ref b) c.key ∧ c.Ok N ∧ ∀ H', Same H H' → Q .non H'
structure TxtFN (K : PySem.W.Frag) (mg : Str → Option Value) (fAN fSO fQO fFN : Addr) (dAN dSO dQO dFN : FuncData) : Prop where
  N : Fun K "are_names" "are_names" sAreNm fAN dAN
  bN : L2.Binds K dAN ["value"] []
  gN : mg "are_names" = some (.ref fAN)
  S : Fun K "are_states_of" "are_states_of" sSO fSO dSO
  bS : L2.Binds K dSO ["network", "value"] []
  gS : mg "are_states_of" = some (.ref fSO)
  Q : Fun K "are_queues_of" "are_queues_of" sQO fQO dQO
  bQ : L2.Binds K dQO ["network", "value"] []
  gQ : mg "are_queues_of" = some (.ref fQO)
  F : Fun K "fits_network" "fits_network" sFN fFN dFN
  bF : L2.Binds K dFN ["network", "value"] []
  gF : mg "fits_network" = some (.ref fFN)
section
variable {P : Program} {w : World} {K : PySem.W.Frag} {mg : Str → Option Value} {base : Heap} {fW fF fN fRw : Addr} {dW dF dN dRw : FuncData} {fAN fSO fQO fFN : Addr} {dAN dSO dQO dFN : FuncData}
theorem ok_QO {f : Addr} {fd : FuncData} {k : Nat} (F : Fun K "are_queues_of" "are_queues_of" sQO f fd) (TN : TxtNm K mg) (TT : TxtT K mg fN dN) (R : TxtRw K mg fRw dRw) (T : TxtFN K mg fAN fSO fQO fFN dAN dSO dQO dFN) : FnOk P w K mg base CX0 (k + 3) f fd ["network", "value"] spQO := by
  have GR : FnOk P w K mg base CX0 (k + 1) fRw dRw ["value", "size"] (spIsRow K) := ok_IsRow R.F TN
  have GN : FnOk P w K mg base CX0 (k + 2) fAN dAN ["value"] spAreNm := ok_AreNm T.N TN TT
  refine F.ok scQO (fun vs H Q E h => ?_) (fun cdv A outer s H vs Q E hr h => ?_)
  · obtain ⟨a, b, N, W, rfl, _⟩ := h
    rfl
  · obtain ⟨a, b, N, W, rfl, hn, ok, eb, kW, lW, q⟩ := h
    have hr1 : Room (k + 1) _ := hr.mono (by omega)
    refine ⟨_, pss_one (ps_ret (pe_and (pe_call GR hr1 (by rfl) R.g R.F.kp R.b .nil pass0 (pa_cons (pv 1) (pa_cons (pe_op op_mul pe_int (pe_callB call_len_seq (by rfl) TN.len PySem.boot_len (pa_cons (pe_ix ix_tup (pv 0) pe_int (fun _ _ => rfl)) pa_nil))) pa_nil)))
      (pe_one (pe_callB (cr_all rfl) (by rfl) R.all (by decide +kernel) (pa_cons
        (pe_lc (own := [("queue", 2)]) (g := gName 2) (tt := tYes) (te := tCall spAreNm [] E0 (tCons (tVar 2) tNil)) rfl scQO.nd (pi_tup (pv 1)) (blkOk_by (own := [("queue", 2)]) (N := nQo) (sc := defScope sQO) (by decide +kernel))
          (fun _ _ _ _ _ => pg_name (i := 2) scQO.nd rfl (.inl rfl)) (fun _ _ _ _ _ => pts_nil)
          (fun _ _ _ _ _ => pe_call GN hr (by rfl) T.gN T.N.kp T.bN .nil pass0 (pa_cons (pv 2) pa_nil))) pa_nil))))), ?_⟩
    obtain ⟨M⟩ := net_at hn
    have lz := M.lz
    have lf := ok.lf
    refine ⟨_, rfl, _, rfl, a, _, 1, .ref M.B, rfl, rfl, SqT.of M.top, atI_nat (j := 1) rfl, M.B, _, rfl, .inr (SqT.of M.eb), 2, _, rfl, rfl, .inl ⟨by decide, by decide⟩, b, _, _, rfl, eb, by rw [List.length_map, lW, lz]; omega, _, rfl, iteT ?_⟩
    refine ⟨_, rfl, b, rfl, ⟨_, SqT.of eb⟩, fun D nD => ?_⟩
    have sD := same_upd (o := .lst []) nD
    refine lc_tup (xs := W.map fun p => V.ref p.1) (fun j H' => Same H H' ∧ H' D = some (.lst ((List.replicate j true).map V.bl))) ⟨sD, upd_same⟩ (fun i H' _ z => SqT.of (z.1 _ _ eb)) ?_ ?_
    · rintro i v H2 hv ⟨s2, e2⟩
      rw [List.getElem?_map] at hv
      obtain ⟨p, hp, rfl⟩ := Option.map_eq_some_iff.mp hv
      have il := (List.getElem?_eq_some_iff.mp hp).1
      obtain ⟨ep, wp⟩ := kW p (List.mem_of_getElem? hp)
      refine ⟨rfl, tYes_ite ⟨_, rfl, p.1, p.2, rfl, s2 _ _ ep, wp, _, e2, ?_, same_set s2 nD, ?_⟩⟩
      · rw [List.length_map, List.length_replicate, sizeLine_eq]
        omega
      · rw [upd_same, List.replicate_succ', List.map_append]
        rfl
    · rintro H2 ⟨s2, e2⟩
      refine ⟨D, List.replicate (W.map fun p => V.ref p.1).length true, rfl, SqL.of e2, ?_⟩
      rw [show (List.replicate (W.map fun p => V.ref p.1).length true).all id = true by simp]
      exact q _ s2
theorem ok_FN {f : Addr} {fd : FuncData} {k : Nat} (F : Fun K "fits_network" "fits_network" sFN f fd) (TI : TxtI K mg fW fF dW dF) (TN : TxtNm K mg) (TT : TxtT K mg fN dN) (R : TxtRw K mg fRw dRw) (T : TxtFN K mg fAN fSO fQO fFN dAN dSO dQO dFN) : FnOk P w K mg base CX0 (k + 4) f fd ["network", "value"] spFN := by
  have GR : FnOk P w K mg base CX0 (k + 1) fRw dRw ["value", "size"] (spIsRow K) := ok_IsRow R.F TN
  have GS : FnOk P w K mg base CX0 (k + 2) fSO dSO ["network", "value"] spSO := ok_SO T.S TI TN TT R
  have GQ : FnOk P w K mg base CX0 (k + 3) fQO dQO ["network", "value"] spQO := ok_QO T.Q TN TT R T
  refine F.ok scFN (fun vs H Q E h => ?_) (fun cdv A outer s H vs Q E hr h => ?_)
  · obtain ⟨a, b, N, c, rfl, _⟩ := h
    rfl
  · obtain ⟨a, b, N, c, rfl, hn, ok, hc, okc, q⟩ := h
    have hr1 : Room (k + 1) _ := hr.mono (by omega)
    have hr2 : Room (k + 2) _ := hr.mono (by omega)
    refine ⟨_, pss_cons (ps_if (pt_not (pt_val (pe_call GR hr1 (by rfl) R.g R.F.kp R.b .nil pass0 (pa_cons (pv 1) (pa_cons pe_int pa_nil))))) (pss_one (ps_ret pe_bl)) pss_nil)
      (pss_cons (ps_asg (pv 1) (pg_tup rfl (pgs_cons (pg_name (i := 2) scFN.nd rfl (.inl rfl)) (pgs_cons (pg_name (i := 3) scFN.nd rfl (.inl rfl)) pgs_nil))))
      (pss_one (ps_ret (pe_and (pe_call GS hr2 (by rfl) T.gS T.S.kp T.bS .nil pass0 (pa_cons (pv 0) (pa_cons (pv 2) pa_nil))) (pe_one (pe_call GQ hr (by rfl) T.gQ T.Q.kp T.bQ .nil pass0 (pa_cons (pv 0) (pa_cons (pv 3) pa_nil)))))))), ?_⟩
    obtain ⟨C⟩ := cfg_at hc
    refine ⟨_, rfl, b, _, _, rfl, C.top, rfl, _, rfl, iteF ?_⟩
    refine ⟨_, rfl, b, _, rfl, SqT.of C.top, rfl, _, _, rfl, _, _, rfl, rfl, ?_⟩
    refine ⟨_, rfl, _, rfl, a, C.A, N, c.sts, rfl, hn, ok, C.ea, okc.len, okc.st, fun H1 s1 => ⟨_, rfl, iteT ?_⟩⟩
    refine ⟨_, rfl, _, rfl, a, C.B, N, C.T, rfl, Kz.same s1 _ _ hn, ok, s1 _ _ C.eb, fun p hp => ⟨s1 _ _ (C.kT p hp), okc.wd p.2 (C.mT ▸ List.mem_map.mpr ⟨p, hp, rfl⟩)⟩, ?_, fun H2 s2 => q H2 (s1.trans s2)⟩
    rw [← okc.ql, ← C.mT, List.length_map]
theorem ok_CC {f : Addr} {fd : FuncData} {k : Nat} (F : Fun K "check_configuration" "check_configuration" sCC f fd) (TI : TxtI K mg fW fF dW dF) (TN : TxtNm K mg) (TT : TxtT K mg fN dN) (R : TxtRw K mg fRw dRw) (T : TxtFN K mg fAN fSO fQO fFN dAN dSO dQO dFN) : FnOk P w K mg base CX0 (k + 5) f fd ["network", "configuration"] spCC := by
  have GF : FnOk P w K mg base CX0 (k + 4) fFN dFN ["network", "value"] spFN := ok_FN T.F TI TN TT R T
  refine F.ok scCC (fun vs H Q E h => ?_) (fun cdv A outer s H vs Q E hr h => ?_)
  · obtain ⟨a, b, N, c, rfl, _⟩ := h
    rfl
  · obtain ⟨a, b, N, c, rfl, hn, ok, hc, okc, q⟩ := h
    refine ⟨_, pss_one (ps_if (pt_not (pt_val (pe_call GF hr (by rfl) T.gF T.F.kp T.bF .nil pass0 (pa_cons (pv 0) (pa_cons (pv 1) pa_nil))))) pss_never pss_nil), ?_⟩
    exact ⟨_, rfl, _, rfl, a, b, N, c, rfl, hn, ok, hc, okc, fun H' s' => ⟨_, rfl, iteF (q H' s')⟩⟩
end
end K55
/-! rest_of. -/
namespace K55
open PySem PySem.Spec PyProof.Rows L2 WD NS MC GL
open C8 (pss_cut tCut)
abbrev keepC (ys : List Str) (c : Str × Str) : Bool := decide (c.1 ∉ ys) || decide (c.2 ∉ ys)
/-- what is outside of a branch -/
structure RestOf (N : NetM) (x y : Str) (c r : CfgM) : Prop where
  ex : ∃ (ys : List Str) (cs : List (Str × Str)), BrOf N.ls x y ys ∧ ChOf N.ls cs ∧ r.sts = ((N.ms.zip c.sts).filter fun p => outM ys p.1).map (·.2) ∧ r.qs = ((cs.zip c.qs).filter fun p => keepC ys p.1).map (·.2)
theorem RestOf.ext {N : NetM} {x y : Str} {c r s : CfgM} (a : RestOf N x y c r) (b : RestOf N x y c s) : r = s := by
  obtain ⟨ys, cs, h1, h2, h3, h4⟩ := a.ex
  obtain ⟨zs, ds, g1, g2, g3, g4⟩ := b.ex
  rw [h1.ext g1] at h3 h4
  rw [h2.ext g2] at h4
  cases r
  cases s
  simp only [CfgM.mk.injEq]
  exact ⟨h3.trans g3.symm, h4.trans g4.symm⟩
theorem zip_get {α β : Type} {l : List α} {m : List β} {i : Nat} {a : α} {b : β} (h : l[i]? = some a) (g : m[i]? = some b) : (l.zip m)[i]? = some (a, b) := List.getElem?_zip_eq_some.mpr ⟨h, g⟩
theorem kz_queues {H : Hp} : ∀ {T : List (Addr × List Str)}, (∀ p ∈ T, H p.1 = some (.tup (p.2.map V.str))) → KzAll H (T.map fun p => V.ref p.1) ((T.map (·.2)).map queueKey)
  | [], _ => .nil
  | p :: T, h => .cons (.tup (h p List.mem_cons_self) (kz_texts _)) (kz_queues fun q hq => h q (List.mem_cons_of_mem _ hq))
abbrev sRO : Stmt := topS 55
abbrev nRo : List Str := ["network", "one", "other", "configuration", "names", "states", "queues", "name", "_", "state", "sender", "taker", "queue"]
theorem scRO : FnScope nRo ["network", "one", "other", "configuration"] (defScope sRO) := ⟨rfl, rfl, rfl, by decide +kernel, rfl, by decide +kernel, by decide +kernel⟩
def spRO : Sp := fun vs H Q _ => ∃ (a b : Addr) (N : NetM) (x y : Str) (c : CfgM), vs = [.ref a, .str x, .str y, .ref b] ∧ Kz H (.ref a) N.key ∧ N.Ok ∧ ordL x y ∈ N.ls ∧ Kz H (.ref b) c.key ∧ c.Ok N ∧
  ∀ H' p (r : CfgM), Same H H' → H p = none → Kz H' (.ref p) r.key → RestOf N x y c r → Q (.ref p) H'
structure TxtRO (K : PySem.W.Frag) (mg : Str → Option Value) (fCL fCC : Addr) (dCL dCC : FuncData) : Prop where
  L : Fun K "check_linked" "check_linked" sCL fCL dCL
  bL : L2.Binds K dCL ["network", "one", "other"] []
  gL : mg "check_linked" = some (.ref fCL)
  C : Fun K "check_configuration" "check_configuration" sCC fCC dCC
  bC : L2.Binds K dCC ["network", "configuration"] []
  gC : mg "check_configuration" = some (.ref fCC)
section
variable {P : Program} {w : World} {K : PySem.W.Frag} {mg : Str → Option Value} {base : Heap} {fA fWC fAL fI : Addr} {dA dWC dAL dI : FuncData} {fW fF fN fS fT fR fI' fC cM : Addr} {dW dF dN dS dT dR dI' dC : FuncData} {fNm fCN fCM fO : Addr} {dNm dCN dCM dO : FuncData}
  {fCh fL fWF fBN : Addr} {dCh dL dWF dBN : FuncData} {fRw : Addr} {dRw : FuncData} {fAN fSO fQO fFN : Addr} {dAN dSO dQO dFN : FuncData} {fCL fCC : Addr} {dCL dCC : FuncData}
theorem ok_RO {f : Addr} {fd : FuncData} {k : Nat} (F : Fun K "rest_of" "rest_of" sRO f fd) (TS : TxtS mg) (TI : TxtI K mg fW fF dW dF) (TN : TxtNm K mg) (TT : TxtT K mg fN dN) (TM : TxtM K mg fS fT fR fI' fC cM dS dT dR dI' dC) (TA : TxtA K mg fA fWC dA dWC) (TW : TxtN K mg fAL fI dAL dI)
    (TC : TxtCk K mg fNm fCN fCM fO dNm dCN dCM dO) (CH : TxtC K mg fCh dCh) (TL : TxtL K mg fL dL) (WF : TxtWF K mg fWF dWF) (BN : TxtBN K mg fBN dBN) (R : TxtRw K mg fRw dRw) (FN : TxtFN K mg fAN fSO fQO fFN dAN dSO dQO dFN) (T : TxtRO K mg fCL fCC dCL dCC) :
    FnOk P w K mg base CX0 (k + 7) f fd ["network", "one", "other", "configuration"] spRO := by
  have GL : FnOk P w K mg base CX0 (k + 6) fCL dCL ["network", "one", "other"] spCL := ok_CL T.L TS TI TN TT TM TA TW TC
  have GC : FnOk P w K mg base CX0 (k + 5) fCC dCC ["network", "configuration"] spCC := ok_CC T.C TI TN TT R FN
  have GB : FnOk P w K mg base CX0 (k + 4) fBN dBN ["network", "one", "other"] spBN := ok_BN BN.F TS TC CH TL WF
  have GH : FnOk P w K mg base CX0 (k + 1) fCh dCh ["network"] (spChIn K) := ok_ChIn CH.C TS
  refine F.ok scRO (fun vs H Q E h => ?_) (fun cdv A outer s H vs Q E hr h => ?_)
  · obtain ⟨a, b, N, x, y, c, rfl, _⟩ := h
    rfl
  · obtain ⟨a, b, N, x, y, c, rfl, hn, ok, ho, hc, okc, q⟩ := h
    have hr5 : Room (k + 5) _ := hr.mono (by omega)
    have hr4 : Room (k + 4) _ := hr.mono (by omega)
    have hr1 : Room (k + 1) _ := hr.mono (by omega)
    refine ⟨_, pss_cons (ps_expr (pe_call GL hr (by rfl) T.gL T.L.kp T.bL .nil pass0 (pa_cons (pv 0) (pa_cons (pv 1) (pa_cons (pv 2) pa_nil)))))
      (pss_cons (ps_expr (pe_call GC hr5 (by rfl) T.gC T.C.kp T.bC .nil pass0 (pa_cons (pv 0) (pa_cons (pv 3) pa_nil))))
      (pss_cut (ps_set (i := 4) scRO.nd rfl (.inr rfl) (pe_call GB hr4 (by rfl) BN.g BN.F.kp BN.b .nil pass0 (pa_cons (pv 0) (pa_cons (pv 1) (pa_cons (pv 2) pa_nil)))))
      (pss_cut (ps_setLc (i := 5) (own := [("state", 9), ("name", 7), ("_", 8)]) (g := gTup K 2 (gCons (gTup K 2 (gCons (gName 7) (gCons (gName 8) gNil))) (gCons (gName 9) gNil))) (tt := tTest (tOp (rIn K true) (tVar 7) (tVar 4))) (te := tVar 9) rfl scRO.nd rfl rfl (sw_true rfl rfl rfl (by decide +kernel))
          (RZ.pi_zipA (by rfl) R.zip (pa_cons (pe_ix ix_tup (pv 0) pe_int (fun _ _ => rfl)) (pa_cons (pe_ix ix_tup (pv 3) pe_int (fun _ _ => rfl)) pa_nil))) (blkOk_by (own := [("state", 9), ("name", 7), ("_", 8)]) (N := nRo) (sc := defScope sRO) (by decide +kernel))
          (fun _ _ _ _ _ => pg_tup rfl (pgs_cons (pg_tup rfl (pgs_cons (pg_name (i := 7) scRO.nd rfl (.inl rfl)) (pgs_cons (pg_name (i := 8) scRO.nd rfl (.inl rfl)) pgs_nil))) (pgs_cons (pg_name (i := 9) scRO.nd rfl (.inl rfl)) pgs_nil)))
          (fun _ _ _ _ _ => pts_one (pt_cmpR (show OpR _ (compareOp .NotIn) (rIn K true) from op_notIn_seq) (pv 7) (pv 4) (by rfl))) (fun _ _ _ _ _ => pv 9))
      (pss_cut (ps_setLc (i := 6) (own := [("queue", 12), ("sender", 10), ("taker", 11)]) (g := gTup K 2 (gCons (gTup K 2 (gCons (gName 10) (gCons (gName 11) gNil))) (gCons (gName 12) gNil))) (tt := tOr (tTest (tOp (rIn K true) (tVar 10) (tVar 4))) (tTest (tOp (rIn K true) (tVar 11) (tVar 4)))) (te := tVar 12) rfl scRO.nd rfl rfl (sw_true rfl rfl rfl (by decide +kernel))
          (RZ.pi_zipA (by rfl) R.zip (pa_cons (pe_call GH hr1 (by rfl) CH.gC CH.C.kp CH.bC .nil pass0 (pa_cons (pv 0) pa_nil)) (pa_cons (pe_ix ix_tup (pv 3) pe_int (fun _ _ => rfl)) pa_nil))) (blkOk_by (own := [("queue", 12), ("sender", 10), ("taker", 11)]) (N := nRo) (sc := defScope sRO) (by decide +kernel))
          (fun _ _ _ _ _ => pg_tup rfl (pgs_cons (pg_tup rfl (pgs_cons (pg_name (i := 10) scRO.nd rfl (.inl rfl)) (pgs_cons (pg_name (i := 11) scRO.nd rfl (.inl rfl)) pgs_nil))) (pgs_cons (pg_name (i := 12) scRO.nd rfl (.inl rfl)) pgs_nil)))
          (fun _ _ _ _ _ => pts_one (PW.pt (pw_or (pt_cmpR (show OpR _ (compareOp .NotIn) (rIn K true) from op_notIn_seq) (pv 10) (pv 4) (by rfl)) (pw_or1 (pt_cmpR (show OpR _ (compareOp .NotIn) (rIn K true) from op_notIn_seq) (pv 11) (pv 4) (by rfl)))))) (fun _ _ _ _ _ => pv 12))
      (pss_one (ps_ret (pe_tup (pa_cons (pe_callTy call_tuple_of (by rfl) TS.tuple (by decide +kernel) (pa_cons (pv 5) pa_nil)) (pa_cons (pe_callTy call_tuple_of (by rfl) TS.tuple (by decide +kernel) (pa_cons (pv 6) pa_nil)) pa_nil))))))))), ?_⟩
    obtain ⟨M⟩ := net_at hn
    obtain ⟨C⟩ := cfg_at hc
    obtain ⟨R, eR, mR, kR⟩ := pr_of M.all
    have eA : H M.A = some (.tup (R.map fun p => V.ref p.1)) := eR ▸ M.ea
    have lR : R.length = N.ms.length := by rw [← mR, List.length_map]
    have n6 := ok.n6
    have lf := ok.lf
    have lc := okc.len
    have lT : C.T.length = 2 * N.ls.length := by
      rw [← okc.ql, ← C.mT, List.length_map]
    refine ⟨_, rfl, _, rfl, _, rfl, a, N, x, y, rfl, hn, ok, ho, fun H1 s1 => ?_⟩
    refine ⟨_, rfl, _, rfl, a, b, N, c, rfl, Kz.same s1 _ _ hn, ok, Kz.same s1 _ _ hc, okc, fun H2 s2' => ?_⟩
    have s2 := s1.trans s2'
    refine ⟨fun σ' H' => ∃ (p : Addr) (ys : List Str), σ' = [some (.ref a), some (.str x), some (.str y), some (.ref b), some (.ref p), none, none, none, none, none, none, none, none] ∧ Same H H' ∧ H' p = some (.tup (ys.map V.str)) ∧ BrOf N.ls x y ys, ?_, ?_⟩
    · exact ⟨_, rfl, _, rfl, _, rfl, a, N, x, y, rfl, Kz.same s2 _ _ hn, ok, ho, fun H3 p ys s3 np e br => ⟨p, ys, rfl, s2.trans s3, e, br⟩⟩
    rintro σ3 H3 ⟨p, ys, rfl, s3, ep, br⟩
    have fl : (ys.map V.str).all flatV = true := flat_strs ys
    -- the states
    refine ⟨fun σ' H' => ∃ (D : Addr) (u7 u8 u9 : Option V), σ' = [some (.ref a), some (.str x), some (.str y), some (.ref b), some (.ref p), some (.ref D), none, u7, u8, u9, none, none, none] ∧ Same H3 H' ∧ H' D = some (.lst ((((N.ms.zip c.sts).filter fun p => outM ys p.1).map (·.2)).map V.int)), ?_, ?_⟩
    · refine ⟨_, rfl, a, _, 0, .ref M.A, rfl, rfl, SqT.of (s3 _ _ M.top), atI_nat (j := 0) rfl, _, rfl, b, _, 0, .ref C.A, rfl, rfl, SqT.of (s3 _ _ C.top), atI_nat (j := 0) rfl, M.A, C.A, R.map (fun p => V.ref p.1), c.sts.map V.int, rfl, .inr ⟨SqT.of (s3 _ _ eA), SqT.of (s3 _ _ C.ea), fun D nD => ?_⟩⟩
      have sD := same_upd (o := .lst []) nD
      refine lc_it (walk_zipT (xs := R.map fun p => V.ref p.1) (ys := c.sts.map V.int) (by rw [List.length_map, List.length_map, lc, lR])) (fun i H' => Same H3 H' ∧ H' D = some (.lst (((((N.ms.zip c.sts).take i).filter fun p => outM ys p.1).map (·.2)).map V.int))) ⟨sD, upd_same⟩ (fun i H' _ z => ⟨SqT.of (z.1 _ _ (s3 _ _ eA)), SqT.of (z.1 _ _ (s3 _ _ C.ea))⟩) ?_ ?_
      · rintro i v H4 H5 hi ⟨s4, e4⟩ ⟨T0, v1, v2, rfl, nT, rfl, z1, z2⟩
        replace z1 : (R.map fun p => V.ref p.1)[i]? = some v1 := z1
        replace z2 : (c.sts.map V.int)[i]? = some v2 := z2
        rw [List.getElem?_map] at z1 z2
        obtain ⟨r, hr', rfl⟩ := Option.map_eq_some_iff.mp z1
        obtain ⟨n, hn', rfl⟩ := Option.map_eq_some_iff.mp z2
        have kT := same_upd (o := .tup [.ref r.1, .int n]) nT
        have hp : N.ms[i]? = some r.2.2 := by rw [← mR, List.getElem?_map, hr']; rfl
        have hz := zip_get hp hn'
        have er := (s4.trans kT) _ _ (s3 _ _ (kR r (List.mem_of_getElem? hr')).1)
        have nx := filter_next (f := fun p : (Str × MachM) × Int => outM ys p.1) hz
        have e4' := kT _ _ e4
        refine ⟨T0, _, rfl, SqT.of upd_same, rfl, _, _, rfl, ⟨r.1, _, rfl, SqT.of er, rfl, _, _, rfl, _, _, rfl, rfl, _, _, rfl, rfl, ?_⟩⟩
        refine ⟨rfl, _, rfl, _, rfl, p, _, rfl, .inr (SqT.of ((s4.trans kT) _ _ ep)), rfl, fl, _, rfl, ?_⟩
        rw [inV_dec]
        refine ifB (fun hb => ?_) fun hb => ?_
        · have hb' : outM ys r.2.2 = true := by simpa [outM] using hb
          refine ⟨_, rfl, _, e4', ?_, same_set (s4.trans kT) nD, ?_⟩
          · have g := List.length_filter_le (fun p : (Str × MachM) × Int => outM ys p.1) ((N.ms.zip c.sts).take i)
            rw [List.length_take, List.length_zip] at g
            rw [List.length_map, List.length_map, sizeLine_eq]
            omega
          · rw [upd_same, nx, if_pos hb', List.map_append, List.map_append]
            rfl
        · have hb' : ¬ outM ys r.2.2 = true := by simpa [outM] using hb
          refine ⟨s4.trans kT, ?_⟩
          rw [nx, if_neg hb', List.append_nil]
          exact e4'
      · rintro H4 ⟨s4, e4⟩
        rw [List.length_map, List.take_of_length_le (by rw [List.length_zip]; omega)] at e4
        exact ⟨D, _, _, _, rfl, s4, e4⟩
    rintro σ4 H4 ⟨D, u7, u8, u9, rfl, s4, eD⟩
    have s34 := s3.trans s4
    -- the queues
    refine ⟨fun σ' H' => ∃ (C2 : Addr) (u10 u11 u12 : Option V) (cs : List (Str × Str)) (W : List (Addr × List Str)), σ' = [some (.ref a), some (.str x), some (.str y), some (.ref b), some (.ref p), some (.ref D), some (.ref C2), u7, u8, u9, u10, u11, u12] ∧ Same H4 H' ∧ ChOf N.ls cs ∧ H' C2 = some (.lst (W.map fun p => V.ref p.1)) ∧ (∀ p ∈ W, p ∈ C.T) ∧ W.map (·.2) = ((cs.zip c.qs).filter fun p => keepC ys p.1).map (·.2), ?_, ?_⟩
    · refine ⟨_, rfl, a, N.ls, rfl, M.cut.same s34, ok.lf, fun H5 p5 U s5 np5 eU kU ch => ?_⟩
      have s35 := s34.trans s5
      have lU : U.length = 2 * N.ls.length := by
        have z := ch.len
        rw [List.length_map] at z
        exact z
      have eT := s35 _ _ C.eb
      refine ⟨_, rfl, b, _, 1, .ref C.B, rfl, rfl, SqT.of (s35 _ _ C.top), atI_nat (j := 1) rfl, p5, C.B, U.map (fun p => V.ref p.1), C.T.map (fun p => V.ref p.1), rfl, .inr ⟨SqT.of eU, SqT.of eT, fun C2 nC => ?_⟩⟩
      have sC := same_upd (o := .lst []) nC
      refine lc_it (walk_zipT (xs := U.map fun p => V.ref p.1) (ys := C.T.map fun p => V.ref p.1) (by rw [List.length_map, List.length_map, lT, lU])) (fun i H' => Same H5 H' ∧ H' C2 = some (.lst (((((U.zip C.T).take i).filter fun p => keepC ys p.1.2).map (·.2)).map fun p => V.ref p.1))) ⟨sC, upd_same⟩ (fun i H' _ z => ⟨SqT.of (z.1 _ _ eU), SqT.of (z.1 _ _ eT)⟩) ?_ ?_
      · rintro i v H6 H7 hi ⟨s6, e6⟩ ⟨T0, v1, v2, rfl, nT, rfl, z1, z2⟩
        replace z1 : (U.map fun p => V.ref p.1)[i]? = some v1 := z1
        replace z2 : (C.T.map fun p => V.ref p.1)[i]? = some v2 := z2
        rw [List.getElem?_map] at z1 z2
        obtain ⟨l, hl, rfl⟩ := Option.map_eq_some_iff.mp z1
        obtain ⟨t, ht, rfl⟩ := Option.map_eq_some_iff.mp z2
        have kT := same_upd (o := .tup [.ref l.1, .ref t.1]) nT
        have hz := zip_get hl ht
        have el := (s6.trans kT) _ _ (kU l (List.mem_of_getElem? hl))
        have ep7 := (s6.trans kT) _ _ (s5 _ _ (s4 _ _ ep))
        have nx := filter_next (f := fun p : (Addr × (Str × Str)) × (Addr × List Str) => keepC ys p.1.2) hz
        have e6' := kT _ _ e6
        have s67 := s6.trans kT
        have yes : keepC ys l.2 = true → ∃ acc, upd H6 T0 (.tup [.ref l.1, .ref t.1]) C2 = some (.lst acc) ∧ acc.length < sizeLine ∧ Same H5 (upd (upd H6 T0 (.tup [.ref l.1, .ref t.1])) C2 (.lst (acc ++ [.ref t.1]))) ∧ upd (upd H6 T0 (.tup [.ref l.1, .ref t.1])) C2 (.lst (acc ++ [.ref t.1])) C2 = some (.lst (((((U.zip C.T).take (i + 1)).filter fun p => keepC ys p.1.2).map (·.2)).map fun p => V.ref p.1)) := fun hb => by
          refine ⟨_, e6', ?_, same_set s67 nC, ?_⟩
          · have g := List.length_filter_le (fun p : (Addr × (Str × Str)) × (Addr × List Str) => keepC ys p.1.2) ((U.zip C.T).take i)
            rw [List.length_take, List.length_zip] at g
            rw [List.length_map, List.length_map, sizeLine_eq]
            omega
          · rw [upd_same, nx, if_pos hb, List.map_append, List.map_append]
            rfl
        refine ⟨T0, _, rfl, SqT.of upd_same, rfl, _, _, rfl, ⟨l.1, _, rfl, SqT.of el, rfl, _, _, rfl, _, _, rfl, rfl, _, _, rfl, rfl, ?_⟩⟩
        refine ⟨rfl, _, rfl, _, rfl, p, _, rfl, .inr (SqT.of ep7), rfl, fl, _, rfl, ?_⟩
        rw [inV_dec]
        refine ifB (fun hb => ?_) fun hb => ?_
        · exact ifT rfl ⟨_, rfl, yes (by simp_all [keepC])⟩
        · refine ⟨_, rfl, _, rfl, p, _, rfl, .inr (SqT.of ep7), rfl, fl, _, rfl, ?_⟩
          rw [inV_dec]
          refine ifB (fun hb2 => ⟨_, rfl, yes (by simp_all [keepC])⟩) fun hb2 => ?_
          have hb' : ¬ keepC ys l.2 = true := by simp_all [keepC]
          refine ⟨s67, ?_⟩
          rw [nx, if_neg hb', List.append_nil]
          exact e6'
      · rintro H6 ⟨s6, e6⟩
        rw [List.length_map, List.take_of_length_le (by rw [List.length_zip]; omega)] at e6
        refine ⟨C2, _, _, _, U.map (·.2), ((U.zip C.T).filter fun p => keepC ys p.1.2).map (·.2), rfl, s5.trans s6, ch, e6, fun z hz => ?_, ?_⟩
        · obtain ⟨pr, hpr, rfl⟩ := List.mem_map.mp hz
          exact (List.of_mem_zip (List.mem_filter.mp hpr).1).2
        · rw [← C.mT, List.zip_map, List.filter_map, List.map_map, List.map_map]
          rfl
    rintro σ5 H5 ⟨C2, u10, u11, u12, cs, W, rfl, s5, ch, eW, sub, mW⟩
    have s35 := s34.trans s5
    refine ⟨_, rfl, D, _, rfl, .inl ⟨SqL.of (s5 _ _ eD), fun p6 n6 => ?_⟩⟩
    have k6 := same_upd (o := .tup ((((N.ms.zip c.sts).filter fun p => outM ys p.1).map (·.2)).map V.int)) n6
    refine ⟨_, rfl, C2, _, rfl, .inl ⟨SqL.of (k6 _ _ eW), fun p7 n7 => ⟨by show 2 ≤ sizeLine; decide, fun p8 n8 => ?_⟩⟩⟩
    have k7 := same_upd (o := .tup (W.map fun p => V.ref p.1)) n7
    have k8 := same_upd (o := .tup [.ref p6, .ref p7]) n8
    have s8 := s35.trans (k6.trans (k7.trans k8))
    refine q _ p8 ⟨_, W.map (·.2)⟩ s8 ((s35.trans (k6.trans k7)).free n8) ?_ ⟨ys, cs, br, ch, rfl, mW⟩
    exact .tup upd_same (.cons (.tup ((k7.trans k8) _ _ upd_same) (kz_ints _)) (.cons (.tup (k8 _ _ upd_same) (kz_queues fun t ht => s8 _ _ (C.kT t (sub t ht)))) .nil))
end
end K55
/-! min and max of two texts: of a pair, of two arguments. -/
namespace MnT
open PySem PySem.Spec PyProof.Rows L2
section
variable {P : Program} {w : World} {A : Around} {E : Value → Shared → Prop} {s : Shared}
/-- the text of an item -/
abbrev tx (x y : Str) (i : Nat) : Str := if i = 0 then x else y
theorem two_at {x y : Str} {t u : Tok} {i : Nat} {v : Value} (h : (#[Value.str x t, Value.str y u] : Array Value)[i]? = some v) : ∃ k, v = .str (tx x y i) k := by
  match i, h with
  | 0, h => exact ⟨t, by simpa [tx] using h.symm⟩
  | 1, h => exact ⟨u, by simpa [tx] using h.symm⟩
  | _ + 2, h => simp at h
theorem less_tx {x y : Str} {t u : Tok} : CmpOf P w A .Lt (fun i v => (#[Value.str x t, Value.str y u] : Array Value)[i]? = some v) (fun i j => decide ((tx x y i).cps.toList < (tx x y j).cps.toList)) := fun i j vi vj s Q E hi hj h => by
  obtain ⟨a, rfl⟩ := two_at hi
  obtain ⟨b, rfl⟩ := two_at hj
  exact richCompare_gives (op := .Lt) (typeIs_str s _ a) (typeIs_str s _ b) PySem.F.slot_str_lt PySem.F.entry_str_lt (PySem.F.args_str_lt_2 _ _) (gives_str_lt _ _ a b) (fun z => nomatch z) h
theorem more_tx {x y : Str} {t u : Tok} : CmpOf P w A .Gt (fun i v => (#[Value.str x t, Value.str y u] : Array Value)[i]? = some v) (fun i j => decide ((tx x y i).cps.toList > (tx x y j).cps.toList)) := fun i j vi vj s Q E hi hj h => by
  obtain ⟨a, rfl⟩ := two_at hi
  obtain ⟨b, rfl⟩ := two_at hj
  exact richCompare_gives (op := .Gt) (typeIs_str s _ a) (typeIs_str s _ b) PySem.F.slot_str_gt PySem.F.entry_str_gt (PySem.F.args_str_gt_2 _ _) (gives_str_gt _ _ a b) (fun z => nomatch z) h
/-- the walk of a pair, for min and max -/
theorem pair_walk {c : Addr} {x y : Str} {t u : Tok} {bt : Nat → Nat → Bool} {op : CmpOp} {Q : Value → Shared → Prop} (calm : A.handled = none) (ht : s.heap.IsTuple c #[.str x t, .str y u]) (cmp : CmpOf P w A.in1 op (fun i v => (#[Value.str x t, Value.str y u] : Array Value)[i]? = some v) bt)
    (q : ∀ h' tk k, (∀ b o, s.heap.get? b = some o → h'.get? b = some o) → Q (.str (if bt 1 0 = true then y else x) k) { s with heap := h', toks := tk }) :
    wpAny (model P w) A.in1 (pyIter (.ref c)) (fun it s₂ => ∃ I fp wr n Pv St bt, it = .ref I ∧ Walks P w A.in1 I fp wr n Pv St ∧ St 0 s₂.heap ∧ (∀ b ∈ fp, b < s₂.heap.objs.size) ∧ 0 < n ∧ CmpOf P w A.in1 op Pv bt ∧
      ∀ v h' tk, Pv (argBest bt (n - 1)) v → (∀ b o, b ∉ wr → s₂.heap.get? b = some o → h'.get? b = some o) → Q v { s₂ with heap := h', toks := tk }) E s := by
  have lt : c < s.heap.objs.size := by
    obtain ⟨o, ho, _⟩ := ht
    exact Heap.lt_size ho
  refine wpAny_pyIter_tuple ht ?_
  refine ⟨_, [_, c], [_], 2, _, _, bt, rfl, Walks.tuple (A := A.in1) calm _ c (Nat.ne_of_lt lt) #[.str x t, .str y u], ⟨⟨_, Heap.get?_push_size _ rfl, rfl, rfl⟩, ht.push _⟩, fun b hb => ?_, by decide, cmp, fun v h' tk pv keep => ?_⟩
  · show b < (s.heap.push _).objs.size
    rw [Heap.size_push]
    rcases List.mem_cons.mp hb with rfl | hb
    · exact Nat.lt_succ_self _
    · rw [List.mem_singleton.mp hb]
      exact Nat.lt_succ_of_lt lt
  · have old : ∀ b o, s.heap.get? b = some o → h'.get? b = some o := fun b o e => keep b o (fun m => by
      have z := Heap.lt_size e
      rw [List.mem_singleton.mp m] at z
      exact Nat.lt_irrefl _ z) (Heap.get?_push_of_some _ e)
    have best : argBest bt (2 - 1) = if bt 1 0 = true then 1 else 0 := rfl
    rw [best] at pv
    cases e : bt 1 0 with
    | true =>
      rw [e] at pv
      have z : v = .str y u := by simpa using pv.symm
      have := q h' tk u old
      rw [e] at this
      rw [z]
      exact this
    | false =>
      rw [e] at pv
      have z : v = .str x t := by simpa using pv.symm
      have := q h' tk t old
      rw [e] at this
      rw [z]
      exact this
end
section
variable {X : Cx}
abbrev lesser (x y : Str) : Str := if y.cps.toList < x.cps.toList then y else x
abbrev greater (x y : Str) : Str := if y.cps.toList > x.cps.toList then y else x
def rOfPair (K : PySem.W.Frag) (f : Str → Str → Str) : List V → Hp → VK → Prop := fun vs H Q => ∃ (p : Addr) (x y : Str), vs = [.ref p] ∧ SqT K H p [.str x, .str y] ∧ Q (.str (f x y)) H
def rOfTwo (f : Str → Str → Str) : List V → Hp → VK → Prop := fun vs H Q => ∃ x y : Str, vs = [.str x, .str y] ∧ Q (.str (f x y)) H
theorem pick_less {x y : Str} : (if (decide ((tx x y 1).cps.toList < (tx x y 0).cps.toList)) = true then y else x) = lesser x y := by simp [tx, lesser]
theorem pick_more {x y : Str} : (if (decide ((tx x y 1).cps.toList > (tx x y 0).cps.toList)) = true then y else x) = greater x y := by simp [tx, greater]
theorem call_minP (calm : X.calm = true) : CallR X (.builtin "min") (rOfPair X.K lesser) := by
  intro pins s σ H vs us Q I r want
  obtain ⟨p, x, y, rfl, sq, q⟩ := want
  rw [Vals.ref1 r]
  obtain ⟨its, rv, ht, _⟩ := I.tuple sq
  obtain ⟨u1, u2, e, ⟨t, rfl⟩, ⟨u, rfl⟩⟩ := vals2 rv
  subst e
  refine call_min_walk (pair_walk (x := x) (y := y) (t := t) (u := u) (I.ok.hd calm) ht less_tx fun h' tk k keep => ⟨.str (lesser x y), H, I.kept keep, ⟨k, ?_⟩, q⟩)
  rw [pick_less]
theorem call_maxP (calm : X.calm = true) : CallR X (.builtin "max") (rOfPair X.K greater) := by
  intro pins s σ H vs us Q I r want
  obtain ⟨p, x, y, rfl, sq, q⟩ := want
  rw [Vals.ref1 r]
  obtain ⟨its, rv, ht, _⟩ := I.tuple sq
  obtain ⟨u1, u2, e, ⟨t, rfl⟩, ⟨u, rfl⟩⟩ := vals2 rv
  subst e
  refine call_max_walk (pair_walk (x := x) (y := y) (t := t) (u := u) (I.ok.hd calm) ht more_tx fun h' tk k keep => ⟨.str (greater x y), H, I.kept keep, ⟨k, ?_⟩, q⟩)
  rw [pick_more]
theorem call_minT (calm : X.calm = true) : CallR X (.builtin "min") (rOfTwo lesser) := by
  intro pins s σ H vs us Q I r want
  obtain ⟨x, y, rfl, q⟩ := want
  obtain ⟨u1, u2, rfl, ⟨t, rfl⟩, ⟨u, rfl⟩⟩ := vals2 r
  have at1 : (s.heap.push { cls := .type "tuple", data := .seq #[.str x t, .str y u] }).IsTuple s.heap.objs.size #[.str x t, .str y u] := ⟨_, Heap.get?_push_size _ rfl, rfl, 0, rfl⟩
  refine call_min_two (pair_walk (x := x) (y := y) (t := t) (u := u) (I.ok.hd calm) at1 less_tx fun h' tk k keep => ⟨.str (lesser x y), H, I.kept (fun b o e => keep b o (Heap.get?_push_of_some _ e)), ⟨k, ?_⟩, q⟩)
  rw [pick_less]
theorem call_maxT (calm : X.calm = true) : CallR X (.builtin "max") (rOfTwo greater) := by
  intro pins s σ H vs us Q I r want
  obtain ⟨x, y, rfl, q⟩ := want
  obtain ⟨u1, u2, rfl, ⟨t, rfl⟩, ⟨u, rfl⟩⟩ := vals2 r
  have at1 : (s.heap.push { cls := .type "tuple", data := .seq #[.str x t, .str y u] }).IsTuple s.heap.objs.size #[.str x t, .str y u] := ⟨_, Heap.get?_push_size _ rfl, rfl, 0, rfl⟩
  refine call_max_two (pair_walk (x := x) (y := y) (t := t) (u := u) (I.ok.hd calm) at1 more_tx fun h' tk k keep => ⟨.str (greater x y), H, I.kept (fun b o e => keep b o (Heap.get?_push_of_some _ e)), ⟨k, ?_⟩, q⟩)
  rw [pick_more]
end
end MnT
/-! Trees of names; _law_tree. -/
namespace K55
open PySem PySem.Spec PyProof.Rows L2 WD NS MC GL
open C8 (pss_cut tCut)
abbrev TreeZ := List (Str × Option Str)
def oV : Option Str → V
  | none => .non
  | some x => .str x
abbrev kvZ (Z : TreeZ) : List (Key × V) := Z.map fun p => (Sum.inr p.1, oV p.2)
/-- each parent stands before -/
inductive TreeOk : TreeZ → Prop
  | nil : TreeOk []
  | snoc {Z : TreeZ} {x : Str} {o : Option Str} : TreeOk Z → x ∉ Z.map (·.1) → (∀ y, o = some y → y ∈ Z.map (·.1)) → TreeOk (Z ++ [(x, o)])
def lkZ (Z : TreeZ) : List (Str × Str) := Z.filterMap fun p => p.2.map fun y => ordL p.1 y
theorem lkZ_snoc {Z : TreeZ} {x : Str} {o : Option Str} : lkZ (Z ++ [(x, o)]) = lkZ Z ++ (o.map fun y => ordL x y).toList := by
  rw [lkZ, lkZ, List.filterMap_append]
  cases o <;> rfl
theorem sLt_total {x y : Str} (n : x ≠ y) (h : ¬ sLt x y) : sLt y x := by
  have le : y.cps.toList ≤ x.cps.toList := List.not_lt.mp h
  by_cases c : sLt y x
  · exact c
  · exact absurd (PySem.W.str_of_cps (List.le_antisymm (List.not_lt.mp c) le)) n
theorem ordL_lt {x y : Str} (n : x ≠ y) : sLt (ordL x y).1 (ordL x y).2 := by
  unfold ordL
  by_cases c : sLt x y
  · rw [if_pos c]
    exact c
  · rw [if_neg c]
    exact sLt_total n c
theorem ordL_ends (x y : Str) : ordL x y = (x, y) ∨ ordL x y = (y, x) := by
  unfold ordL
  by_cases c : sLt x y
  · rw [if_pos c]; exact .inl rfl
  · rw [if_neg c]; exact .inr rfl
theorem ordL_comm (x y : Str) : ordL x y = ordL y x := by
  unfold ordL
  by_cases c : sLt x y
  · rw [if_pos c, if_neg fun d => sLt_irr _ (sLt_trans c d)]
  · rw [if_neg c]
    by_cases e : x = y
    · subst e
      rw [if_neg c]
    · rw [if_pos (sLt_total e c)]
theorem ordL_min (x y : Str) : ordL x y = (MnT.lesser x y, MnT.greater x y) := by
  unfold ordL MnT.lesser MnT.greater
  by_cases c : sLt x y
  · have n : ¬ sLt y x := fun d => sLt_irr _ (sLt_trans c d)
    rw [if_pos c, if_neg n, if_pos (show y.cps.toList > x.cps.toList from c)]
  · by_cases e : x = y
    · subst e
      rw [if_neg c]
      simp
    · have d := sLt_total e c
      rw [if_neg c, if_pos d, if_neg (show ¬ y.cps.toList > x.cps.toList from c)]
theorem linked_ord {ls : List (Str × Str)} {x y : Str} : Linked ls x y ∨ Linked ls y x → Linked ls x y := fun h => h.elim id Linked.symm
/-- what is not an end is not connected -/
theorem leaf_alone {ls : List (Str × Str)} {x y : Str} (h : ∀ l ∈ ls, l.1 ≠ x ∧ l.2 ≠ x) (c : Conn ls x y) : y = x := by
  cases c with
  | refl => rfl
  | step l _ =>
    rcases l with l | l
    · exact absurd rfl (h _ l).1
    · exact absurd rfl (h _ l).2
theorem filter_ne_self {ls : List (Str × Str)} {o : Str × Str} (h : o ∉ ls) : (ls.filter fun k => decide (k ≠ o)) = ls := by
  rw [List.filter_eq_self]
  intro k hk
  exact decide_eq_true fun e => h (e ▸ hk)
/-- a leaf more keeps a forest a forest -/
theorem Acyc.leaf {ls : List (Str × Str)} {x y : Str} (A : Acyc ls) (h : ∀ l ∈ ls, l.1 ≠ x ∧ l.2 ≠ x) (n : x ≠ y) : Acyc (ls ++ [ordL x y]) := by
  have no : ordL x y ∉ ls := fun m => by
    rcases ordL_ends x y with e | e
    · exact (h _ (e ▸ m)).1 rfl
    · exact (h _ (e ▸ m)).2 rfl
  have leafP : ∀ {P : List (Str × Str)} {z : Str}, (∀ l ∈ P, l ∈ ls) → Conn P x z → z = x := fun s c => leaf_alone (fun l hl => h l (s l hl)) c
  intro l hl c
  rcases List.mem_append.mp hl with m | m
  · -- an old link
    have ne : l ≠ ordL x y := fun e => no (e ▸ m)
    have e : ((ls ++ [ordL x y]).filter fun k => decide (k ≠ l)) = (ls.filter fun k => decide (k ≠ l)) ++ [ordL x y] := by
      rw [List.filter_append, List.filter_cons_of_pos (by exact decide_eq_true fun z => ne z.symm)]
      rfl
    have sub : ∀ k ∈ ls.filter (fun k => decide (k ≠ l)), k ∈ ls := fun k hk => (List.mem_filter.mp hk).1
    rw [e] at c
    have hx := h l m
    rcases ordL_ends x y with z | z
    · rw [z, Conn.snoc] at c
      rcases c with c | ⟨c, _⟩ | ⟨_, c⟩
      · exact A l m c
      · exact hx.1 (leafP sub c.symm)
      · exact hx.2 (leafP sub c)
    · rw [z, Conn.snoc] at c
      rcases c with c | ⟨_, c⟩ | ⟨c, _⟩
      · exact A l m c
      · exact hx.2 (leafP sub c)
      · exact hx.1 (leafP sub c.symm)
  · -- the new one
    rw [List.mem_singleton.mp m] at c
    have e : ((ls ++ [ordL x y]).filter fun k => decide (k ≠ ordL x y)) = ls := by
      rw [List.filter_append, filter_ne_self no, List.filter_cons_of_neg (by simp)]
      exact List.append_nil _
    rw [e] at c
    rcases ordL_ends x y with z | z
    · rw [z] at c
      exact n (leafP (fun _ m => m) c).symm
    · rw [z] at c
      exact n (leafP (fun _ m => m) c.symm).symm
structure TreeLs (ws : List Str) (ls : List (Str × Str)) : Prop where
  mem : ∀ l ∈ ls, l.1 ∈ ws ∧ l.2 ∈ ws ∧ sLt l.1 l.2
  once : ls.Nodup
  few : ls.length ≤ ws.length
  tree : Acyc ls
theorem TreeOk.links {Z : TreeZ} (T : TreeOk Z) : TreeLs (Z.map (·.1)) (lkZ Z) := by
  induction T with
  | nil => exact ⟨(fun _ h => nomatch h), List.nodup_nil, Nat.le_refl _, fun _ h => nomatch h⟩
  | @snoc Z x o T nx par ih =>
    rw [lkZ_snoc, List.map_append]
    cases o with
    | none =>
      refine ⟨fun l hl => ?_, ?_, ?_, ?_⟩
      · have z := ih.mem l (by simpa using hl)
        exact ⟨List.mem_append_left _ z.1, List.mem_append_left _ z.2.1, z.2.2⟩
      · simpa using ih.once
      · have := ih.few
        simp only [Option.map_none, Option.toList_none, List.append_nil, List.length_append, List.length_map] at this ⊢
        omega
      · simpa using ih.tree
    | some y =>
      have py := par y rfl
      have n : x ≠ y := fun e => nx (e ▸ py)
      have alone : ∀ l ∈ lkZ Z, l.1 ≠ x ∧ l.2 ≠ x := fun l hl => ⟨fun e => nx (e ▸ (ih.mem l hl).1), fun e => nx (e ▸ (ih.mem l hl).2.1)⟩
      have no : ordL x y ∉ lkZ Z := fun m => by
        rcases ordL_ends x y with e | e
        · exact (alone _ (e ▸ m)).1 rfl
        · exact (alone _ (e ▸ m)).2 rfl
      refine ⟨fun l hl => ?_, ?_, ?_, ih.tree.leaf alone n⟩
      · rcases List.mem_append.mp hl with m | m
        · have z := ih.mem l m
          exact ⟨List.mem_append_left _ z.1, List.mem_append_left _ z.2.1, z.2.2⟩
        · have e : l = ordL x y := List.mem_singleton.mp m
          subst e
          have mx : x ∈ Z.map (·.1) ++ [x] := List.mem_append_right _ List.mem_cons_self
          have my : y ∈ Z.map (·.1) ++ [x] := List.mem_append_left _ py
          refine ⟨?_, ?_, ordL_lt n⟩
          · rcases ordL_ends x y with e | e <;> rw [e]
            · exact mx
            · exact my
          · rcases ordL_ends x y with e | e <;> rw [e]
            · exact my
            · exact mx
      · rw [List.nodup_append]
        refine ⟨ih.once, by simp, fun u hu' v hv => ?_⟩
        have e : v = ordL x y := List.mem_singleton.mp hv
        rw [e]
        exact fun z => no (z ▸ hu')
      · have := ih.few
        simp only [Option.map_some, Option.toList_some, List.length_append, List.length_map, List.length_cons, List.length_nil] at this ⊢
        omega
theorem kvZ_put {Z : TreeZ} {x : Str} {o : Option Str} (h : x ∉ Z.map (·.1)) : putK (kvZ Z) (Sum.inr x) (oV o) = kvZ (Z ++ [(x, o)]) := by
  have z : (kvZ Z).any (fun kv => decide (kv.1 = Sum.inr x)) = false := by
    rw [List.any_eq_false]
    intro kv hkv
    obtain ⟨p, hp, rfl⟩ := List.mem_map.mp hkv
    rw [decide_eq_true_eq]
    intro e
    exact h (List.mem_map.mpr ⟨p, hp, Sum.inr.inj e⟩)
  rw [putK, z, kvZ, kvZ, List.map_append]
  rfl
end K55
/-! _law_tree. -/
namespace K55
open PySem PySem.Spec PyProof.Rows L2 WD NS MC GL
open C8 (pss_cut tCut)
/-- all stays but the dice; at p stands u -/
structure KO (H : Hp) (d p : Addr) (c : Nat) (u : HO) (H' : Hp) : Prop where
  ds : DS d H H'
  dice : Dice H' d c
  here : H' p = some u
theorem dice_some {H : Hp} {d : Addr} {n : Nat} (D : Dice H d n) : H d ≠ none := by
  obtain ⟨g, s, c, e, _⟩ := D
  rw [e]
  exact fun z => nomatch z
theorem ne_dice' {H : Hp} {d l : Addr} {n : Nat} (D : Dice H d n) (h : H l = none) : l ≠ d := fun z => dice_some D (z ▸ h)
theorem KO.roll {H H' : Hp} {d p : Addr} {c c' : Nat} {u o : HO} (k : KO H d p c u H') (ne : p ≠ d) (D : Dice (upd H' d o) d c') : KO H d p c' u (upd H' d o) :=
  ⟨fun b x n e => by rw [upd_ne n]; exact k.ds b x n e, D, by rw [upd_ne ne]; exact k.here⟩
theorem KO.new {H H' : Hp} {d p l : Addr} {c : Nat} {u o : HO} (k : KO H d p c u H') (n : H' l = none) : KO H d p c u (upd H' l o) :=
  ⟨fun b x m e => same_upd n b x (k.ds b x m e), k.dice.same (upd_ne (ne_dice' k.dice n).symm), same_upd n _ _ k.here⟩
theorem KO.put {H H' : Hp} {d p : Addr} {c : Nat} {u v : HO} (k : KO H d p c u H') (ne : p ≠ d) (n : H p = none) : KO H d p c v (upd H' p v) :=
  ⟨fun b x m e => by rw [upd_ne (ne_of_none e n)]; exact k.ds b x m e, k.dice.same (upd_ne ne.symm), upd_same⟩
theorem KO.more {H H' : Hp} {d p : Addr} {c c' : Nat} {u : HO} (k : KO H d p c u H') (h : c ≤ c') : KO H d p c' u H' := ⟨k.ds, k.dice.mono h, k.here⟩
theorem DS.free {H H' : Hp} {d t : Addr} {n : Nat} (s : DS d H H') (D : Dice H' d n) (h : H' t = none) : H t = none := by
  cases e : H t with
  | none => rfl
  | some o =>
    exfalso
    by_cases z : t = d
    · exact dice_some D (z ▸ h)
    · rw [s t o z e] at h
      exact nomatch h
theorem cut_tail (xs : List V) : cutV xs (some 1) none = xs.drop 1 := by
  unfold cutV
  rw [show HT.sIx xs.length 0 (some 1) = min 1 xs.length from HT.sIx_nat .. , show HT.sIx xs.length xs.length none = xs.length from rfl]
  by_cases h : xs.length = 0
  · have e : xs = [] := List.eq_nil_of_length_eq_zero h
    subst e
    rfl
  · rw [show min 1 xs.length = 1 by omega]
    exact List.take_of_length_le (by rw [List.length_drop]; exact Nat.le_refl _)
abbrev sTree : Stmt := topS 61
abbrev nTr : List Str := ["_law_dice_here", "_law_names", "_law_parents", "_law_at", "_law_name"]
theorem scTree : FnScope nTr ["_law_dice_here", "_law_names"] (defScope sTree) := ⟨rfl, rfl, rfl, by decide +kernel, rfl, by decide +kernel, by decide +kernel⟩
def spTree : Sp := fun vs H Q _ => ∃ (d l : Addr) (n : Nat) (ws : List Str), vs = [.ref d, .ref l] ∧ Dice H d n ∧ n ≤ 1000000 ∧ l ≠ d ∧ H l = some (.lst (ws.map V.str)) ∧ ws ≠ [] ∧ ws.length ≤ 10 ∧ ws.Nodup ∧
  ∀ H' p (Z : TreeZ), DS d H H' → H p = none → Dice H' d (n + 2 * ws.length) → H' p = some (.dK (kvZ Z)) → TreeOk Z → Z.map (·.1) = ws → Q (.ref p) H'
section
variable {P : Program} {w : World} {K : PySem.W.Frag} {mg : Str → Option Value} {base : Heap} {fR fO : Addr} {dR dO : FuncData}
theorem ok_Tree {f : Addr} {fd : FuncData} {k : Nat} (F : Fun K "_law_tree" "_law_tree" sTree f fd) (W : TxtR K mg fR fO dR dO) (TD : TxtD mg) : FnOk P w K mg base CX0 (k + 2) f fd ["_law_dice_here", "_law_names"] spTree := by
  have GR : FnOk P w K mg base CX0 (k + 1) fR dR ["_law_dice_here", "_law_total"] spRoll := ok_roll W.R
  refine F.ok scTree (fun vs H Q E h => ?_) (fun cdv A outer s H vs Q E hr h => ?_)
  · obtain ⟨d, l, n, ws, rfl, _⟩ := h
    rfl
  · obtain ⟨d, l, n, ws, rfl, D0, hn, ld, el, ne, lw, once, q⟩ := h
    have hu := hr.units
    have hu1 := Nat.lt_of_le_of_lt (Nat.add_le_add_left (by decide : 1 ≤ 64) _) hu
    refine ⟨_, pss_cut (ps_set (i := 2) scTree.nd rfl (.inl rfl) (pe_disp (pps_cons (pe_ix ix_list (pv 1) pe_int (fun _ _ => rfl)) pe_non pps_nil) (by rfl) (by rfl) (fun z => by cases z) (by decide)))
      (pss_cut (ps_for PassesOwn.never rfl (pi_enum (by rfl) TD.enumerate (pa_cons (pe_slice sl_list (pv 1) (po_some pe_int) po_none) pa_nil)) (pg_tup rfl (pgs_cons (pg_name (i := 3) scTree.nd rfl (.inl rfl)) (pgs_cons (pg_name (i := 4) scTree.nd rfl (.inl rfl)) pgs_nil)))
        (pss_one (ps_dput hu1 (pv 2) (pv 4) (pe_ifExp (pt_cmpR op_gt (pe_call GR hr (by rfl) W.gR W.R.kp W.bR .nil pass0 (pa_cons (pv 0) (pa_cons pe_int pa_nil))) pe_int (nomark _))
          (pe_ix ix_list (pv 1) (pe_call GR hr (by rfl) W.gR W.R.kp W.bR .nil pass0 (pa_cons (pv 0) (pa_cons (pe_op op_add (pv 3) pe_int) pa_nil))) (fun _ _ => rfl)) pe_non) (by rfl))))
      (pss_one (ps_ret (pv 2)))), ?_⟩
    obtain ⟨w0, rest, rfl⟩ : ∃ w0 rest, ws = w0 :: rest := by
      cases ws with
      | nil => exact absurd rfl ne
      | cons w0 rest => exact ⟨w0, rest, rfl⟩
    refine ⟨fun σ' H' => ∃ p, σ' = [some (.ref d), some (.ref l), some (.ref p), none, none] ∧ H p = none ∧ p ≠ d ∧ KO H d p n (.dK (kvZ [(w0, none)])) H', ?_, ?_⟩
    · refine fun p np => ?_
      have sp := same_upd (o := .dK []) np
      refine ⟨_, rfl, l, _, 0, .str w0, rfl, rfl, SqL.of (sp _ _ el), atI_nat (j := 0) rfl, upd_same, [(Sum.inr w0, .non)], rfl, (by show 1 ≤ 15; decide), p, rfl, np, ne_dice' D0 np, ?_⟩
      rw [upd_upd]
      exact ⟨fun b x _ e => same_upd np b x e, D0.same (upd_ne (ne_dice' D0 np).symm), upd_same⟩
    rintro σ1 H1 ⟨p, rfl, np, pd, k1⟩
    refine ⟨fun σ' H' => ∃ (u3 u4 : Option V) (Z : TreeZ), σ' = [some (.ref d), some (.ref l), some (.ref p), u3, u4] ∧ KO H d p (n + 2 * rest.length) (.dK (kvZ Z)) H' ∧ TreeOk Z ∧ Z.map (·.1) = w0 :: rest, ?_, ?_⟩
    · have el1 := k1.ds _ _ ld el
      refine ⟨_, rfl, 1, rfl, l, _, rfl, SqL.of el1, fun t nt => ?_⟩
      rw [cut_tail]
      have kt := k1.new (o := .lst (((w0 :: rest).map V.str).drop 1)) nt
      have td := ne_dice' k1.dice nt
      have tp : t ≠ p := fun z => by
        rw [z, k1.here] at nt
        exact nomatch nt
      refine ⟨t, _, rfl, SqL.of upd_same, ?_⟩
      refine for_it (walk_enum (xs := rest.map V.str)) (fun i σ' H' => ∃ (u3 u4 : Option V) (Z : TreeZ), σ' = [some (.ref d), some (.ref l), some (.ref p), u3, u4] ∧ KO H d p (n + 2 * i) (.dK (kvZ Z)) H' ∧ H' t = some (.lst (rest.map V.str)) ∧ TreeOk Z ∧ Z.map (·.1) = (w0 :: rest).take (i + 1)) ?_ ?_ ?_ ?_
      · refine ⟨none, none, [(w0, none)], rfl, kt, upd_same, ?_, rfl⟩
        exact .snoc (Z := []) .nil (fun z => nomatch z) (fun y z => nomatch z)
      · rintro i σ' H' _ ⟨_, _, _, _, _, e, _⟩
        exact SqL.of e
      · rintro i v σ2 H2 H3 hi ⟨u3, u4, Z, rfl, k2, et, T, mZ⟩ ⟨T0, v1, v2, rfl, nT, rfl, z1, z2⟩
        cases z1
        obtain ⟨x, hx, rfl⟩ := strs_get z2
        rw [List.length_map] at hi
        have lw' : rest.length + 1 ≤ 10 := lw
        have k3 := k2.new (o := .tup [.int (i : Nat), .str x]) nT
        have et3 : upd H2 T0 (.tup [.int (i : Nat), .str x]) t = some (.lst (rest.map V.str)) := same_upd nT _ _ et
        have Td := ne_dice' k2.dice nT
        have lenZ : Z.length = i + 1 := by
          have z := congrArg List.length mZ
          rw [List.length_map, List.length_take, List.length_cons] at z
          omega
        have nxt : (w0 :: rest).take (i + 1 + 1) = (w0 :: rest).take (i + 1) ++ [x] := by
          rw [List.take_succ, List.getElem?_cons_succ, hx]
          rfl
        have nx : x ∉ Z.map (·.1) := fun m => by
          rw [mZ] at m
          have od := once
          rw [← List.take_append_drop (i + 1 + 1) (w0 :: rest), nxt, List.append_assoc, List.nodup_append] at od
          exact od.2.2 _ m _ List.mem_cons_self rfl
        have fin : ∀ {H' : Hp} (o : Option Str), KO H d p (n + 2 * i + 2) (.dK (kvZ Z)) H' → H' t = some (.lst (rest.map V.str)) → (∀ y, o = some y → y ∈ Z.map (·.1)) →
            ∃ a r, V.ref p = .ref a ∧ DPut H' a (.str x) (oV o) r ∧ ∃ (u3 u4 : Option V) (Z : TreeZ), [some (.ref d), some (.ref l), some (.ref p), some (.int (i : Nat)), some (.str x)] = [some (V.ref d), some (.ref l), some (.ref p), u3, u4] ∧ KO H d p (n + 2 * (i + 1)) (.dK (kvZ Z)) r ∧ r t = some (.lst (rest.map V.str)) ∧ TreeOk Z ∧ Z.map (·.1) = (w0 :: rest).take (i + 1 + 1) := fun {H'} o k e par => by
          refine ⟨p, _, rfl, DPut.k (k := Sum.inr x) k.here (by rw [List.length_map, sizeLine_eq]; omega), _, _, Z ++ [(x, o)], rfl, ?_, by rw [upd_ne tp]; exact e, T.snoc nx par, ?_⟩
          · rw [kvZ_put nx]
            exact (k.put pd np).more (by omega)
          · rw [List.map_append, mZ, nxt]
            rfl
        refine ⟨T0, _, rfl, SqT.of upd_same, rfl, _, _, rfl, _, _, rfl, rfl, ?_⟩
        refine ⟨_, rfl, d, 6, _, rfl, k3.dice, by omega, by decide, by decide, fun r o r0 r1 D4 => ⟨_, _, rfl, rfl, _, rfl, ?_⟩⟩
        have k4 := k3.roll pd D4
        have et4 : upd (upd H2 T0 (.tup [.int (i : Nat), .str x])) d o t = some (.lst (rest.map V.str)) := by rw [upd_ne td]; exact et3
        refine ifB (fun _ => ?_) fun _ => ?_
        · refine ⟨_, rfl, _, rfl, _, rfl, _, _, rfl, rfl, d, _, _, rfl, k4.dice, by omega, by omega, by omega, fun r2 o2 r20 r21 D5 => ?_⟩
          have k5 := k4.roll pd D5
          have et5 : upd (upd (upd H2 T0 (.tup [.int (i : Nat), .str x])) d o) d o2 t = some (.lst (rest.map V.str)) := by rw [upd_ne td]; exact et4
          obtain ⟨j, rfl⟩ : ∃ j : Nat, r2 = j := ⟨r2.toNat, by omega⟩
          have jl : j < (w0 :: rest).length := by
            rw [List.length_cons]
            omega
          refine ⟨l, _, _, .str (w0 :: rest)[j], rfl, rfl, SqL.of (k5.ds _ _ ld el), atI_nat (by rw [List.getElem?_map, List.getElem?_eq_getElem jl]; rfl), ?_⟩
          refine ⟨_, rfl, _, rfl, ?_⟩
          exact fin (some (w0 :: rest)[j]) k5 et5 fun y e => by
            rw [mZ, ← Option.some.inj e]
            exact List.mem_take_iff_getElem.mpr ⟨j, by omega, rfl⟩
        · refine ⟨_, rfl, _, rfl, ?_⟩
          exact fin none (k4.more (by omega)) et4 fun y z => nomatch z
      · rintro σ2 H2 ⟨u3, u4, Z, rfl, k2, et, T, mZ⟩
        rw [List.length_map] at k2 mZ
        exact ⟨u3, u4, Z, rfl, k2, T, by rw [mZ]; exact List.take_of_length_le (Nat.le_refl _)⟩
    rintro σ2 H2 ⟨u3, u4, Z, rfl, k2, T, mZ⟩
    refine ⟨_, rfl, q H2 p Z k2.ds np (k2.dice.mono ?_) k2.here T mZ⟩
    rw [List.length_cons]
    omega
end
end K55
/-! t + u for any two tuples. -/
namespace CaT
open PySem PySem.Spec PyProof.Rows L2
section
variable {P : Program} {w : World} {A : Around} {E : Value → Shared → Prop} {s : Shared}
theorem cat_empty {t b : Addr} {ws : List Value} {Q : Value → Shared → Prop} (one : IsTup s.heap t #[]) (two : IsTup s.heap b ws.toArray) (q : Q (.ref b) s) : wpAny (model P w) A (binaryOp .Add (.ref t) (.ref b)) Q E s := by
  obtain ⟨⟨c1, d1, x1, s1⟩, o1, k1, n1, e1⟩ := one
  obtain ⟨⟨c2, d2, x2, s2⟩, o2, k2, n2, e2⟩ := two
  simp only at k1 e1 k2 e2
  subst k1 e1 k2 e2
  exact concat_meets ⟨_, o1, rfl⟩ ⟨_, o2, rfl⟩ noFill_tuple_add seq_tuple_add PySem.F.slot_tuple_add PySem.F.entry_tuple_add (PySem.F.args_tuple_add_2 _ _) (tuple_addW0 t b #[] ws.toArray n1 n2 d1 d2 s1 s2 rfl) ⟨o1, o2, q⟩
end
section
variable {X : Cx}
def rCatA (K : PySem.W.Frag) : R2 := fun x y H Q => ∃ a b xs ys, x = .ref a ∧ y = .ref b ∧ SqT K H a xs ∧ SqT K H b ys ∧ xs.length + ys.length ≤ sizeLine ∧ (xs = [] → Q (.ref b) H) ∧ (xs ≠ [] → ys = [] → Q (.ref a) H) ∧ (xs ≠ [] → ys ≠ [] → ∀ p, H p = none → Q (.ref p) (upd H p (.tup (xs ++ ys))))
theorem op_catA : OpR X (binaryOp .Add) (rCatA X.K) := by
  intro pins s σ H x y v u Q I rx ry want
  obtain ⟨a, b, xs, ys, rfl, rfl, ha, hb, fits, q0, q1, q2⟩ := want
  by_cases none : xs = []
  · subst none
    cases rx
    cases ry
    obtain ⟨its, r1, p1, _⟩ := I.tuple ha
    obtain ⟨its2, r2, p2, _⟩ := I.tuple hb
    cases r1
    exact cat_empty p1 p2 ⟨.ref b, H, I, rfl, q0 rfl⟩
  · exact op_catT pins s σ H _ _ v u Q I rx ry ⟨a, b, xs, ys, rfl, rfl, ha, hb, none, fits, q1 none, q2 none⟩
end
end CaT
/-! _law_links, _law_linked, _law_channels, _law_first, _law_put. -/
namespace K55
open PySem PySem.Spec PyProof.Rows L2 WD NS MC GL
open C8 (pss_cut tCut)
abbrev rNotN : R2 := fun x y H Q => y = .non ∧ Q (.bl (!decide (x = .non))) H
theorem kvZ_val : ∀ {Z : TreeZ}, (Z.map (·.1)).Nodup → ∀ p ∈ Z, valV (kvZ Z) (Sum.inr p.1) = some (oV p.2)
  | [], _, _, h => nomatch h
  | q :: Z, nd, p, h => by
    rw [List.map_cons, List.nodup_cons] at nd
    by_cases e : q.1 = p.1
    · have ep : p = q := by
        rcases List.mem_cons.mp h with z | z
        · exact z
        · exact absurd (List.mem_map.mpr ⟨p, z, e.symm⟩) nd.1
      subst ep
      simp [valV, kvZ]
    · have h' : p ∈ Z := by
        rcases List.mem_cons.mp h with z | z
        · exact absurd (congrArg (·.1) z.symm) e
        · exact z
      rw [← kvZ_val nd.2 p h']
      simp only [valV, kvZ, List.map_cons, List.find?_cons, Sum.inr.injEq, e, decide_false]
theorem TreeOk.once {Z : TreeZ} (T : TreeOk Z) : (Z.map (·.1)).Nodup := by
  induction T with
  | nil => exact List.nodup_nil
  | @snoc Z x o _ nx _ ih =>
    rw [List.map_append, List.nodup_append]
    refine ⟨ih, by simp, fun u hu v hv => ?_⟩
    rw [List.mem_singleton.mp hv]
    exact fun e => nx ((show u = x from e) ▸ hu)
/-! _law_links -/
abbrev sLks : Stmt := topS 62
abbrev nLks : List Str := ["_law_parents", "_law_pairs", "_law_name", "_law_pair"]
theorem scLks : FnScope nLks ["_law_parents"] (defScope sLks) := ⟨rfl, rfl, rfl, by decide +kernel, rfl, by decide +kernel, by decide +kernel⟩
def spLks : Sp := fun vs H Q _ => ∃ (d : Addr) (Z : TreeZ), vs = [.ref d] ∧ H d = some (.dK (kvZ Z)) ∧ TreeOk Z ∧ Z.length ≤ 10 ∧
  ∀ H' p (U : List (Addr × (Str × Str))), Same H H' → H p = none → H' p = some (.tup (U.map fun p => V.ref p.1)) → LkAt H' U → (U.map (·.2)).Perm (lkZ Z) → (U.map (·.2)).Pairwise linkLe → Q (.ref p) H'
structure TxtMm (mg : Str → Option Value) : Prop where
  min : mg "min" = none
  max : mg "max" = none
def prZ (Z : TreeZ) : List (Str × Str) := Z.filterMap fun p => p.2.map fun y => (p.1, y)
theorem prZ_next {Z : TreeZ} {i : Nat} {p : Str × Option Str} (h : Z[i]? = some p) : prZ (Z.take (i + 1)) = prZ (Z.take i) ++ (p.2.map fun y => (p.1, y)).toList := by
  rw [prZ, List.take_succ, h, List.filterMap_append, ← prZ]
  cases e : p.2 with
  | none => simp [e]
  | some y => simp [e]
theorem lk_prZ (Z : TreeZ) : (prZ Z).map (fun l => ordL l.1 l.2) = lkZ Z := by
  rw [prZ, lkZ, List.map_filterMap]
  congr 1
  funext p
  cases p.2 <;> rfl
section
variable {P : Program} {w : World} {K : PySem.W.Frag} {mg : Str → Option Value} {base : Heap}
theorem ok_Lks {f : Addr} {fd : FuncData} {k : Nat} (F : Fun K "_law_links" "_law_links" sLks f fd) (TS : TxtS mg) (TM : TxtMm mg) : FnOk P w K mg base CX0 (k + 1) f fd ["_law_parents"] spLks := by
  refine F.ok scLks (fun vs H Q E h => ?_) (fun cdv A outer s H vs Q E hr h => ?_)
  · obtain ⟨d, Z, rfl, _⟩ := h
    rfl
  · obtain ⟨d, Z, rfl, ed, T, l10, q⟩ := h
    have hu := hr.units
    have hu1 := Nat.lt_of_le_of_lt (Nat.add_le_add_left (by decide : 1 ≤ 64) _) hu
    refine ⟨_, pss_cut (ps_lock (ps_setLc (i := 1) (own := [("_law_name", 2)]) (g := gName 2) (tt := tTest (tOp rNotN (tDGet (tVar 0) (tVar 2)) (tC .non))) (te := tTup (tCons (tVar 2) (tCons (tDGet (tVar 0) (tVar 2)) tNil))) rfl scLks.nd rfl rfl (sw_true rfl rfl rfl (by decide +kernel))
          (pi_keys (pv 0)) (blkOk_by (own := [("_law_name", 2)]) (N := nLks) (sc := defScope sLks) (by decide +kernel))
          (fun _ _ _ _ _ => pg_name (i := 2) scLks.nd rfl (.inl rfl)) (fun _ _ _ _ _ => pts_one (pt_cmpR (show OpR _ (compareOp .IsNot) rNotN from op_notN) (pe_dget hu1 (pv 0) (pv 2) (fun _ _ => rfl)) pe_non (nomark _)))
          (fun _ _ _ _ _ => pe_tup (pa_cons (pv 2) (pa_cons (pe_dget hu1 (pv 0) (pv 2) (fun _ _ => rfl)) pa_nil)))))
      (pss_one (ps_ret (pe_callTy call_tuple_of (by rfl) TS.tuple (by decide +kernel) (pa_cons (pe_callB (NS.cr_sortedL rfl hu) (by rfl) TS.sorted (by decide +kernel) (pa_cons
          (pe_lc (own := [("_law_pair", 3)]) (g := gName 3) (tt := tYes) (te := tTup (tCons (tCB (MnT.rOfPair K MnT.lesser) (tCons (tVar 3) tNil)) (tCons (tCB (MnT.rOfPair K MnT.greater) (tCons (tVar 3) tNil)) tNil))) rfl scLks.nd (pi_list (pv 1)) (blkOk_by (own := [("_law_pair", 3)]) (N := nLks) (sc := defScope sLks) (by decide +kernel))
            (fun _ _ _ _ _ => pg_name (i := 3) scLks.nd rfl (.inl rfl)) (fun _ _ _ _ _ => pts_nil)
            (fun _ _ _ _ _ => pe_tup (pa_cons (pe_callB (MnT.call_minP rfl) (by rfl) TM.min (by decide +kernel) (pa_cons (pv 3) pa_nil)) (pa_cons (pe_callB (MnT.call_maxP rfl) (by rfl) TM.max (by decide +kernel) (pa_cons (pv 3) pa_nil)) pa_nil)))) pa_nil)) pa_nil)))), ?_⟩
    refine ⟨fun σ' H' => ∃ (D : Addr) (u2 : Option V) (L : List (Addr × (Str × Str))), σ' = [some (.ref d), some (.ref D), u2, none] ∧ Same H H' ∧ H' D = some (.lst (L.map fun p => V.ref p.1)) ∧ LkAt H' L ∧ L.map (·.2) = prZ Z, ?_, ?_⟩
    · refine ⟨d, _, ed, trivial, fun od => ⟨_, rfl, d, od, rfl, .inl ⟨kvZ Z, upd_same, fun D nD => ?_⟩⟩⟩
      have nDd : D ≠ d := fun z => by
        rw [z, upd_same] at nD
        exact nomatch nD
      have nDH : H D = none := by
        rw [upd_ne nDd] at nD
        exact nD
      have back : ∀ {H' : Hp}, H' d = some (.frz od (.dK (kvZ Z))) → (∀ b y, b ≠ d → H b = some y → H' b = some y) → Same H (upd H' d (.dK (kvZ Z))) := fun {H'} _ kp b y eb => by
        by_cases c : b = d
        · subst c
          rw [upd_same, ← eb, ed]
        · rw [upd_ne c]
          exact kp b y c eb
      refine lc_it walk_keys (fun j H' => (∀ b y, b ≠ d → H b = some y → H' b = some y) ∧ H' d = some (.frz od (.dK (kvZ Z))) ∧ ∃ L : List (Addr × (Str × Str)), H' D = some (.lst (L.map fun p => V.ref p.1)) ∧ (∀ p ∈ L, p.1 ≠ d) ∧ LkAt H' L ∧ L.map (·.2) = prZ (Z.take j)) ?_ (fun j H' _ z => z.2.1) ?_ ?_
      · refine ⟨fun b y c e => ?_, ?_, [], upd_same, (fun _ z => nomatch z), (fun _ z => nomatch z), rfl⟩
        · rw [upd_ne (ne_of_none e nDH), upd_ne c]
          exact e
        · rw [upd_ne nDd.symm]
          exact upd_same
      · rintro j v H2 H3 hj ⟨k2, f2, L, e2, nL, kL, mL⟩ ⟨rfl, kk, vv, hk, rfl⟩
        rw [List.length_map] at hj
        have hz : Z[j]? = some Z[j] := List.getElem?_eq_getElem hj
        rw [List.getElem?_map, hz] at hk
        cases Option.some.inj hk
        have mp := List.getElem_mem hj
        have nx := prZ_next hz
        have val := kvZ_val T.once _ mp
        have get : DGet H3 d (.str Z[j].1) (some (oV Z[j].2)) := .inl ⟨kvZ Z, .inr Z[j].1, .inr ⟨od, f2⟩, rfl, val.symm⟩
        refine ⟨rfl, _, rfl, _, rfl, d, _, rfl, get, rfl, _, rfl, ?_⟩
        cases hp : Z[j].2 with
        | none =>
          refine ifF (by simp [oV]) ⟨k2, f2, L, e2, nL, kL, ?_⟩
          rw [nx, hp]
          simpa using mL
        | some y =>
          rw [hp] at get
          refine ifT (by simp [oV]) ⟨_, rfl, _, rfl, _, rfl, d, .str y, rfl, get, by show 2 ≤ sizeLine; decide, fun t nt => ?_⟩
          have kt := same_upd (o := .tup [.str Z[j].1, .str y]) nt
          have td : t ≠ d := fun z => by
            rw [z, f2] at nt
            exact nomatch nt
          have sU : SameT (upd H3 t (.tup [.str Z[j].1, .str y])) (upd (upd H3 t (.tup [.str Z[j].1, .str y])) D (.lst (L.map (fun p => V.ref p.1) ++ [.ref t]))) := SameT.lst (kt _ _ e2)
          refine ⟨_, kt _ _ e2, ?_, fun b u c e => ?_, ?_, L ++ [(t, (Z[j].1, y))], ?_, fun p hp' => ?_, fun p hp' => ?_, ?_⟩
          · have z := congrArg List.length mL
            rw [List.length_map] at z
            have g := List.length_filterMap_le (fun p : Str × Option Str => p.2.map fun y => (p.1, y)) (Z.take j)
            rw [List.length_take] at g
            rw [List.length_map, z, sizeLine_eq]
            show (List.filterMap _ _).length < _
            omega
          · rw [upd_ne (ne_of_none e nDH)]
            exact kt _ _ (k2 b u c e)
          · rw [upd_ne nDd.symm]
            exact kt _ _ f2
          · rw [upd_same, List.map_append]
            rfl
          · rcases List.mem_append.mp hp' with z | z
            · exact nL p z
            · rw [List.mem_singleton.mp z]
              exact td
          · rcases List.mem_append.mp hp' with z | z
            · exact sU _ _ (kt _ _ (kL p z))
            · rw [List.mem_singleton.mp z]
              exact sU _ _ upd_same
          · rw [List.map_append, mL, nx, hp]
            rfl
      · rintro H2 ⟨k2, f2, L, e2, nL, kL, mL⟩
        rw [List.length_map, List.take_length] at mL
        refine ⟨f2, D, _, L, rfl, back f2 k2, by rw [upd_ne nDd]; exact e2, fun p hp => ?_, mL⟩
        rw [upd_ne (nL p hp)]
        exact kL p hp
    rintro σ1 H1 ⟨D, u2, L, rfl, s1, eD, kL, mL⟩
    have lL : L.length ≤ 10 := by
      have z := congrArg List.length mL
      rw [List.length_map] at z
      have g := List.length_filterMap_le (fun p : Str × Option Str => p.2.map fun y => (p.1, y)) Z
      rw [z]
      exact Nat.le_trans g l10
    refine ⟨_, rfl, D, rfl, ⟨_, SqL.of eD⟩, fun C nC => ?_⟩
    have sC := same_upd (o := .lst []) nC
    refine lc_list (xs := L.map fun p => V.ref p.1) (fun i H' => Same H1 H' ∧ ∃ W : List (Addr × (Str × Str)), H' C = some (.lst (W.map fun p => V.ref p.1)) ∧ LkAt H' W ∧ W.map (·.2) = ((L.map (·.2)).take i).map fun l => ordL l.1 l.2) ⟨sC, [], upd_same, (fun _ z => nomatch z), rfl⟩ (fun i H' _ z => SqL.of (z.1 _ _ eD)) ?_ ?_
    · rintro i v H2 hv ⟨s2, W, eW, kW, mW⟩
      rw [List.getElem?_map] at hv
      obtain ⟨p, hp, rfl⟩ := Option.map_eq_some_iff.mp hv
      have il := (List.getElem?_eq_some_iff.mp hp).1
      have ep := s2 _ _ (kL p (List.mem_of_getElem? hp))
      refine ⟨rfl, tYes_ite ⟨_, rfl, p.1, p.2.1, p.2.2, rfl, SqT.of ep, _, rfl, p.1, p.2.1, p.2.2, rfl, SqT.of ep, by show 2 ≤ sizeLine; decide, fun t nt => ?_⟩⟩
      have kt := same_upd (o := .tup [.str (MnT.lesser p.2.1 p.2.2), .str (MnT.greater p.2.1 p.2.2)]) nt
      have sU : SameT (upd H2 t (.tup [.str (MnT.lesser p.2.1 p.2.2), .str (MnT.greater p.2.1 p.2.2)])) (upd (upd H2 t (.tup [.str (MnT.lesser p.2.1 p.2.2), .str (MnT.greater p.2.1 p.2.2)])) C (.lst (W.map (fun p => V.ref p.1) ++ [.ref t]))) := SameT.lst (kt _ _ eW)
      refine ⟨_, kt _ _ eW, ?_, same_set (s2.trans kt) nC, W ++ [(t, ordL p.2.1 p.2.2)], ?_, fun x hx => ?_, ?_⟩
      · have z := congrArg List.length mW
        rw [List.length_map, List.length_map, List.length_take, List.length_map] at z
        rw [List.length_map, sizeLine_eq]
        omega
      · rw [upd_same, List.map_append]
        rfl
      · rcases List.mem_append.mp hx with z | z
        · exact sU _ _ (kt _ _ (kW x z))
        · rw [List.mem_singleton.mp z, ordL_min]
          exact sU _ _ upd_same
      · rw [List.map_append, mW, List.take_succ, List.getElem?_map, hp, List.map_append]
        rfl
    · rintro H2 ⟨s2, W, eW, kW, mW⟩
      rw [List.length_map, List.take_of_length_le (by rw [List.length_map]; exact Nat.le_refl _), mL, lk_prZ] at mW
      have lW : W.length ≤ 10 := by
        have z := congrArg List.length mW
        rw [List.length_map] at z
        have g := T.links.few
        rw [List.length_map] at g
        omega
      refine ⟨C, asRow W, rfl, SqL.of (by rw [asRow_refs]; exact eW), by rw [List.length_map]; omega, rows_of kW, alike_links, sortable_links, fun L1 p2 pm pw n2 => ?_⟩
      obtain ⟨U, eU, pm, pw⟩ := sorted_of pm pw
      rw [eU]
      have k2 := same_upd (o := .lst (U.map fun p => V.ref p.1)) n2
      refine ⟨p2, _, rfl, .inl ⟨SqL.of upd_same, fun p3 n3 => ?_⟩⟩
      have k3 := same_upd (o := .tup (U.map fun p => V.ref p.1)) n3
      have s4 := (s1.trans s2).trans k2
      refine q _ p3 U (s4.trans k3) (s4.free n3) upd_same (fun x hx => (k2.trans k3) _ _ (kW x (pm.mem_iff.mp hx))) ?_ pw
      have z := pm.map (fun p : Addr × (Str × Str) => p.2)
      rw [mW] at z
      exact z
end
end K55
/-! _law_linked, _law_channels, _law_first, _law_put. -/
namespace K55
open PySem PySem.Spec PyProof.Rows L2 WD NS MC GL
open C8 (pss_cut tCut)
abbrev sLkd : Stmt := topS 65
abbrev nLkd : List Str := ["_law_links_here", "_law_name", "_law_one", "_law_other"]
theorem scLkd : FnScope nLkd ["_law_links_here", "_law_name"] (defScope sLkd) := ⟨rfl, rfl, rfl, by decide +kernel, rfl, by decide +kernel, by decide +kernel⟩
def endL (x : Str) (l : Str × Str) : Option Str := if x = l.1 ∨ x = l.2 then some (if l.2 = x then l.1 else l.2) else none
theorem endL_next {x : Str} {ls : List (Str × Str)} {i : Nat} {l : Str × Str} (h : ls[i]? = some l) : (ls.take (i + 1)).filterMap (endL x) = (ls.take i).filterMap (endL x) ++ (endL x l).toList := by
  rw [List.take_succ, h, List.filterMap_append]
  cases e : endL x l with
  | none => simp [e]
  | some y => simp [e]
theorem mem_endL {x y : Str} {ls : List (Str × Str)} (ne : ∀ l ∈ ls, l.1 ≠ l.2) : y ∈ ls.filterMap (endL x) ↔ Linked ls x y := by
  rw [List.mem_filterMap]
  constructor
  · rintro ⟨l, hl, e⟩
    unfold endL at e
    by_cases c : x = l.1 ∨ x = l.2
    · rw [if_pos c] at e
      by_cases d : l.2 = x
      · rw [if_pos d] at e
        cases e
        subst d
        exact .inr hl
      · rw [if_neg d] at e
        cases e
        have ex : x = l.1 := c.resolve_right fun z => d z.symm
        subst ex
        exact .inl hl
    · rw [if_neg c] at e
      exact nomatch e
  · rintro (h | h)
    · refine ⟨_, h, ?_⟩
      unfold endL
      rw [if_pos (.inl rfl), if_neg fun z => ne _ h z.symm]
    · refine ⟨_, h, ?_⟩
      unfold endL
      rw [if_pos (.inr rfl), if_pos rfl]
def spLkd : Sp := fun vs H Q _ => ∃ (a : Addr) (L : List (Addr × (Str × Str))) (x : Str), vs = [.ref a, .str x] ∧ H a = some (.tup (L.map fun p => V.ref p.1)) ∧ LkAt H L ∧ L.length ≤ 1000 ∧
  ∀ H' p, Same H H' → H p = none → H' p = some (.lst (((L.map (·.2)).filterMap (endL x)).map V.str)) → Q (.ref p) H'
section
variable {P : Program} {w : World} {K : PySem.W.Frag} {mg : Str → Option Value} {base : Heap}
theorem ok_Lkd {f : Addr} {fd : FuncData} {k : Nat} (F : Fun K "_law_linked" "_law_linked" sLkd f fd) : FnOk P w K mg base CX0 (k + 1) f fd ["_law_links_here", "_law_name"] spLkd := by
  refine F.ok scLkd (fun vs H Q E h => ?_) (fun cdv A outer s H vs Q E hr h => ?_)
  · obtain ⟨a, L, x, rfl, _⟩ := h
    rfl
  · obtain ⟨a, L, x, rfl, ea, kL, l1000, q⟩ := h
    refine ⟨_, pss_one (ps_ret (pe_lc (own := [("_law_one", 2), ("_law_other", 3)]) (g := gTup K 2 (gCons (gName 2) (gCons (gName 3) gNil))) (tt := tTest (tOp (rIn K false) (tVar 1) (tTup (tCons (tVar 2) (tCons (tVar 3) tNil))))) (te := tIf (tTest (tOp rEq (tVar 3) (tVar 1))) (tVar 2) (tVar 3)) rfl scLkd.nd
          (pi_tup (pv 0)) (blkOk_by (own := [("_law_one", 2), ("_law_other", 3)]) (N := nLkd) (sc := defScope sLkd) (by decide +kernel))
          (fun _ _ _ _ _ => pg_tup rfl (pgs_cons (pg_name (i := 2) scLkd.nd rfl (.inl rfl)) (pgs_cons (pg_name (i := 3) scLkd.nd rfl (.inl rfl)) pgs_nil)))
          (fun _ _ _ _ _ => pts_one (pt_cmpR (show OpR _ (compareOp .In) (rIn K false) from op_in_seq) (pv 1) (pe_tup (pa_cons (pv 2) (pa_cons (pv 3) pa_nil))) (by rfl)))
          (fun _ _ _ _ _ => pe_ifExp (pt_cmpR op_eq (pv 3) (pv 1) (nomark _)) (pv 2) (pv 3)))), ?_⟩
    refine ⟨_, rfl, a, rfl, ⟨_, SqT.of ea⟩, fun D nD => ?_⟩
    have sD := same_upd (o := .lst []) nD
    refine lc_tup (xs := L.map fun p => V.ref p.1) (fun i H' => Same H H' ∧ H' D = some (.lst ((((L.map (·.2)).take i).filterMap (endL x)).map V.str))) ⟨sD, upd_same⟩ (fun i H' _ z => SqT.of (z.1 _ _ ea)) ?_ ?_
    · rintro i v H2 hv ⟨s2, e2⟩
      rw [List.getElem?_map] at hv
      obtain ⟨p, hp, rfl⟩ := Option.map_eq_some_iff.mp hv
      have il := (List.getElem?_eq_some_iff.mp hp).1
      have hl : (L.map (·.2))[i]? = some p.2 := by rw [List.getElem?_map, hp]; rfl
      have nx := endL_next (x := x) hl
      have ep := s2 _ _ (kL p (List.mem_of_getElem? hp))
      refine ⟨p.1, _, rfl, SqT.of ep, rfl, _, _, rfl, _, _, rfl, rfl, rfl, _, rfl, _, rfl, _, rfl, by show 2 ≤ sizeLine; decide, fun t nt => ⟨t, _, rfl, .inr (SqT.of (xs := [p.2.1, p.2.2].map V.str) upd_same), rfl, rfl, _, rfl, ?_⟩⟩
      have kt := same_upd (o := .tup [.str p.2.1, .str p.2.2]) nt
      have s3 := s2.trans kt
      have e3 := kt _ _ e2
      have fewE : ((((L.map (·.2)).take i).filterMap (endL x)).map V.str).length < sizeLine := by
        have z := List.length_filterMap_le (endL x) ((L.map (·.2)).take i)
        rw [List.length_take, List.length_map] at z
        rw [List.length_map, sizeLine_eq]
        omega
      have fin : ∀ y, endL x p.2 = some y → ∃ acc, upd H2 t (.tup [.str p.2.1, .str p.2.2]) D = some (.lst acc) ∧ acc.length < sizeLine ∧ Same H (upd (upd H2 t (.tup [.str p.2.1, .str p.2.2])) D (.lst (acc ++ [.str y]))) ∧
          upd (upd H2 t (.tup [.str p.2.1, .str p.2.2])) D (.lst (acc ++ [.str y])) D = some (.lst ((((L.map (·.2)).take (i + 1)).filterMap (endL x)).map V.str)) := fun y ey => by
        refine ⟨_, e3, fewE, same_set s3 nD, ?_⟩
        rw [upd_same, nx, ey, List.map_append]
        rfl
      rw [inV_dec]
      refine ifB (fun hb => ?_) fun hb => ?_
      · have c : x = p.2.1 ∨ x = p.2.2 := by simpa using hb
        refine ⟨_, rfl, _, rfl, rfl, _, rfl, ifB (fun hb2 => ⟨_, rfl, fin _ ?_⟩) fun hb2 => ⟨_, rfl, fin _ ?_⟩⟩
        · have d : p.2.2 = x := V.str.inj (of_decide_eq_true hb2)
          unfold endL
          rw [if_pos c, if_pos d]
        · have d : ¬ p.2.2 = x := fun z => of_decide_eq_false hb2 (congrArg V.str z)
          unfold endL
          rw [if_pos c, if_neg d]
      · have c : ¬ (x = p.2.1 ∨ x = p.2.2) := by simpa using hb
        refine ⟨s3, ?_⟩
        rw [nx, show endL x p.2 = none by unfold endL; rw [if_neg c], Option.toList_none, List.append_nil]
        exact e3
    · rintro H2 ⟨s2, e2⟩
      rw [List.length_map, List.take_of_length_le (by rw [List.length_map]; exact Nat.le_refl _)] at e2
      exact q H2 D s2 nD e2
end
/-! _law_put -/
abbrev sPut : Stmt := topS 69
abbrev nPut : List Str := ["_law_row_here", "_law_place", "_law_value"]
theorem scPut : FnScope nPut nPut (defScope sPut) := ⟨rfl, rfl, rfl, by decide +kernel, rfl, by decide +kernel, by decide +kernel⟩
def spPut : Sp := fun vs H Q _ => ∃ (a : Addr) (xs : List V) (i : Nat) (v : V), vs = [.ref a, .int i, v] ∧ H a = some (.tup xs) ∧ i < xs.length ∧ xs.length ≤ 1000 ∧
  ∀ H' p, Same H H' → H p = none → H' p = some (.tup (xs.set i v)) → Q (.ref p) H'
theorem cut_to {xs : List V} {i : Nat} (h : i < xs.length) : cutV xs none (some (i : Int)) = xs.take i := by
  unfold cutV
  rw [HT.sIx_nat, show HT.sIx xs.length 0 none = 0 from rfl, Nat.min_eq_left (Nat.le_of_lt h)]
  rfl
theorem cut_from {xs : List V} {i : Nat} (h : i < xs.length) : cutV xs (some ((i : Int) + 1)) none = xs.drop (i + 1) := by
  unfold cutV
  rw [show ((i : Int) + 1) = ((i + 1 : Nat) : Int) from rfl, HT.sIx_nat, show HT.sIx xs.length xs.length none = xs.length from rfl, Nat.min_eq_left h]
  exact List.take_of_length_le (by rw [List.length_drop]; exact Nat.le_refl _)
theorem set_parts {xs : List V} {i : Nat} {v : V} (h : i < xs.length) : xs.take i ++ [v] ++ xs.drop (i + 1) = xs.set i v := by
  rw [List.set_eq_take_append_cons_drop, if_pos h, List.append_assoc]
  rfl
section
variable {P : Program} {w : World} {K : PySem.W.Frag} {mg : Str → Option Value} {base : Heap}
theorem ok_Put {f : Addr} {fd : FuncData} {k : Nat} (F : Fun K "_law_put" "_law_put" sPut f fd) : FnOk P w K mg base CX0 (k + 1) f fd nPut spPut := by
  refine F.ok scPut (fun vs H Q E h => ?_) (fun cdv A outer s H vs Q E hr h => ?_)
  · obtain ⟨a, xs, i, v, rfl, _⟩ := h
    rfl
  · obtain ⟨a, xs, i, v, rfl, ea, il, l1000, q⟩ := h
    refine ⟨_, pss_one (ps_ret (pe_op CaT.op_catA (pe_op CaT.op_catA (pe_slice (show SlR _ (rSlT K) from sl_tup) (pv 0) po_none (po_some (pv 1))) (pe_tup (pa_cons (pv 2) pa_nil))) (pe_slice (show SlR _ (rSlT K) from sl_tup) (pv 0) (po_some (pe_op op_add (pv 1) pe_int)) po_none))), ?_⟩
    have lt : (xs.take i).length = i := by rw [List.length_take]; omega
    have sl := sizeLine_eq
    refine ⟨_, rfl, _, rfl, _, rfl, a, xs, rfl, SqT.of ea, ?_, fun p1 n1 => ?_⟩
    · rw [HT.sIx_nat]
      exact fun z => by
        have := z.2
        omega
    rw [cut_to il]
    have k1 := same_upd (o := .tup (xs.take i)) n1
    refine ⟨_, rfl, by show 1 ≤ sizeLine; decide, fun p2 n2 => ?_⟩
    have k2 := same_upd (o := .tup [v]) n2
    have k12 := k1.trans k2
    have rest : ∀ {H' : Hp} {b : Addr}, Same H H' → H' b = some (.tup (xs.take i ++ [v])) → (H b = none) → tOp (CaT.rCatA K) (fun σ H Q => Q (.ref b) H) (tSl (rSlT K) (tVar 0) (tPart (tOp (rI0 fun i j => .int (i + j)) (tVar 1) (tC (.int 1)))) tNoPart) [some (V.ref a), some (V.int i), some v] H' Q := fun {H' b} s eb nb => by
      refine ⟨_, rfl, _, rfl, _, _, rfl, rfl, _, rfl, a, xs, rfl, SqT.of (s _ _ ea), ?_, fun p3 n3 => ?_⟩
      · rw [show ((i : Int) + 1) = ((i + 1 : Nat) : Int) from rfl, HT.sIx_nat]
        exact fun z => by
          have := z.1
          omega
      rw [cut_from il]
      have k3 := same_upd (o := .tup (xs.drop (i + 1))) n3
      have ne : xs.take i ++ [v] ≠ [] := fun z => by simpa using congrArg List.length z
      refine ⟨b, p3, _, _, rfl, rfl, SqT.of (k3 _ _ eb), SqT.of upd_same, ?_, fun z => absurd z ne, fun _ z => ?_, fun _ _ p4 n4 => ?_⟩
      · rw [List.length_append, lt, List.length_drop, sl]
        show i + 1 + (xs.length - (i + 1)) ≤ _
        omega
      · refine q _ b (s.trans k3) nb ?_
        have e : xs.set i v = xs.take i ++ [v] := by rw [← set_parts il, z, List.append_nil]
        rw [e]
        exact k3 _ _ eb
      · refine q _ p4 ((s.trans k3).trans (same_upd n4)) ((s.trans k3).free n4) ?_
        rw [upd_same, set_parts il]
    refine ⟨p1, p2, _, _, rfl, rfl, SqT.of (k2 _ _ upd_same), SqT.of upd_same, ?_, fun z => ?_, (fun _ z => nomatch z), fun _ _ p3 n3 => ?_⟩
    · rw [lt, sl]
      show i + 1 ≤ _
      omega
    · refine rest k12 ?_ (k1.free n2)
      rw [upd_same, z]
      rfl
    · refine rest (k12.trans (same_upd n3)) upd_same (k12.free n3)
end
end K55
/-! _law_channels, _law_first. -/
namespace K55
open PySem PySem.Spec PyProof.Rows L2 WD NS MC GL
open C8 (pss_cut tCut)
abbrev sLCh : Stmt := topS 67
abbrev nLCh : List Str := ["_law_net", "_law_pairs", "_law_one", "_law_other"]
theorem scLCh : FnScope nLCh ["_law_net"] (defScope sLCh) := ⟨rfl, rfl, rfl, by decide +kernel, rfl, by decide +kernel, by decide +kernel⟩
def spLCh : Sp := fun vs H Q _ => ∃ (a : Addr) (N : NetM), vs = [.ref a] ∧ Kz H (.ref a) N.key ∧ N.ls.length < 30 ∧
  ∀ H' p (U : List (Addr × (Str × Str))), Same H H' → H p = none → H' p = some (.lst (U.map fun p => V.ref p.1)) → LkAt H' U → ChOf N.ls (U.map (·.2)) → Q (.ref p) H'
/-- a comprehension over links that makes pairs anew -/
theorem lc_links {K : PySem.W.Frag} {a D : Addr} {L : List (Addr × (Str × Str))} {f : Str × Str → Str × Str} {g : TG} {te : TE} {vs : List Nat} {σ : L2.St} {H1 : Hp} {Qd : Hp → Prop} (nD : H1 D = none) (ea : H1 a = some (.tup (L.map fun p => V.ref p.1))) (kL : LkAt H1 L) (few : L.length < 1000)
    (step : ∀ (p : Addr × (Str × Str)) (H : Hp) (R : Hp → Prop), H p.1 = some (.tup [.str p.2.1, .str p.2.2]) → (∀ t, H t = none → ∃ acc, upd H t (.tup [.str (f p.2).1, .str (f p.2).2]) D = some (.lst acc) ∧ acc.length < sizeLine ∧ R (upd (upd H t (.tup [.str (f p.2).1, .str (f p.2).2])) D (.lst (acc ++ [.ref t])))) →
      g (.ref p.1) (wipe σ vs) H fun σ2 H2 => wipe σ2 vs = wipe σ vs ∧ tYes σ2 H2 fun b H3 => if b = true then te σ2 H3 fun y H4 => ∃ acc, H4 D = some (.lst acc) ∧ acc.length < sizeLine ∧ R (upd H4 D (.lst (acc ++ [y]))) else R H3)
    (done : ∀ (H : Hp) (W : List (Addr × (Str × Str))), Same H1 H → H D = some (.lst (W.map fun p => V.ref p.1)) → LkAt H W → W.map (·.2) = (L.map (·.2)).map f → Qd H) :
    ∃ W : Nat → Nat → Hp → Prop, (∃ m, W 0 m (upd H1 D (.lst []))) ∧ ∀ i m H, W i m H → ((Itt K a).stop i H ∧ Qd H) ∨ ((Itt K a).go i H ∧ ∃ Nx : Hp → Prop, (∀ H', Nx H' → ∃ m', m' < m ∧ W (i + 1) m' H') ∧ ∀ x H', (Itt K a).yld i H x H' → g x (wipe σ vs) H' fun σ2 H2 => wipe σ2 vs = wipe σ vs ∧ tYes σ2 H2 fun b H3 =>
        if b = true then te σ2 H3 fun y H4 => ∃ acc, H4 D = some (.lst acc) ∧ acc.length < sizeLine ∧ Nx (upd H4 D (.lst (acc ++ [y]))) else Nx H3) := by
  have sD := same_upd (o := .lst []) nD
  refine lc_tup (xs := L.map fun p => V.ref p.1) (fun i H' => Same H1 H' ∧ ∃ W : List (Addr × (Str × Str)), H' D = some (.lst (W.map fun p => V.ref p.1)) ∧ LkAt H' W ∧ W.map (·.2) = ((L.map (·.2)).take i).map f) ⟨sD, [], upd_same, (fun _ z => nomatch z), rfl⟩ (fun i H' _ z => SqT.of (z.1 _ _ ea)) ?_ ?_
  · rintro i v H2 hv ⟨s2, W, eW, kW, mW⟩
    rw [List.getElem?_map] at hv
    obtain ⟨p, hp, rfl⟩ := Option.map_eq_some_iff.mp hv
    have il := (List.getElem?_eq_some_iff.mp hp).1
    refine step p H2 _ (s2 _ _ (kL p (List.mem_of_getElem? hp))) fun t nt => ?_
    have kt := same_upd (o := .tup [.str (f p.2).1, .str (f p.2).2]) nt
    have sU : SameT (upd H2 t (.tup [.str (f p.2).1, .str (f p.2).2])) (upd (upd H2 t (.tup [.str (f p.2).1, .str (f p.2).2])) D (.lst (W.map (fun p => V.ref p.1) ++ [.ref t]))) := SameT.lst (kt _ _ eW)
    refine ⟨_, kt _ _ eW, ?_, same_set (s2.trans kt) nD, W ++ [(t, f p.2)], ?_, fun x hx => ?_, ?_⟩
    · have z := congrArg List.length mW
      rw [List.length_map, List.length_map, List.length_take, List.length_map] at z
      rw [List.length_map, sizeLine_eq]
      omega
    · rw [upd_same, List.map_append]
      rfl
    · rcases List.mem_append.mp hx with z | z
      · exact sU _ _ (kt _ _ (kW x z))
      · rw [List.mem_singleton.mp z]
        exact sU _ _ upd_same
    · rw [List.map_append, mW, List.take_succ, List.getElem?_map, hp, List.map_append]
      rfl
  · rintro H2 ⟨s2, W, eW, kW, mW⟩
    rw [List.length_map, List.take_of_length_le (by rw [List.length_map]; exact Nat.le_refl _)] at mW
    exact done H2 W s2 eW kW mW
section
variable {P : Program} {w : World} {K : PySem.W.Frag} {mg : Str → Option Value} {base : Heap} {fC : Addr} {dC : FuncData}
theorem ok_LCh {f : Addr} {fd : FuncData} {k : Nat} (F : Fun K "_law_channels" "_law_channels" sLCh f fd) (TS : TxtS mg) : FnOk P w K mg base CX0 (k + 1) f fd ["_law_net"] spLCh := by
  refine F.ok scLCh (fun vs H Q E h => ?_) (fun cdv A outer s H vs Q E hr h => ?_)
  · obtain ⟨a, N, rfl, _⟩ := h
    rfl
  · obtain ⟨a, N, rfl, hn, lf, q⟩ := h
    have hu := hr.units
    refine ⟨_, pss_cut (ps_set (i := 1) scLCh.nd rfl (.inl rfl) (pe_op op_cat
          (pe_lc (own := [("_law_one", 2), ("_law_other", 3)]) (g := gTup K 2 (gCons (gName 2) (gCons (gName 3) gNil))) (tt := tYes) (te := tTup (tCons (tVar 2) (tCons (tVar 3) tNil))) rfl scLCh.nd
            (pi_tup (pe_ix ix_tup (pv 0) pe_int (fun _ _ => rfl))) (blkOk_by (own := [("_law_one", 2), ("_law_other", 3)]) (N := nLCh) (sc := defScope sLCh) (by decide +kernel))
            (fun _ _ _ _ _ => pg_tup rfl (pgs_cons (pg_name (i := 2) scLCh.nd rfl (.inl rfl)) (pgs_cons (pg_name (i := 3) scLCh.nd rfl (.inl rfl)) pgs_nil)))
            (fun _ _ _ _ _ => pts_nil) (fun _ _ _ _ _ => pe_tup (pa_cons (pv 2) (pa_cons (pv 3) pa_nil))))
          (pe_lc (own := [("_law_one", 2), ("_law_other", 3)]) (g := gTup K 2 (gCons (gName 2) (gCons (gName 3) gNil))) (tt := tYes) (te := tTup (tCons (tVar 3) (tCons (tVar 2) tNil))) rfl scLCh.nd
            (pi_tup (pe_ix ix_tup (pv 0) pe_int (fun _ _ => rfl))) (blkOk_by (own := [("_law_one", 2), ("_law_other", 3)]) (N := nLCh) (sc := defScope sLCh) (by decide +kernel))
            (fun _ _ _ _ _ => pg_tup rfl (pgs_cons (pg_name (i := 2) scLCh.nd rfl (.inl rfl)) (pgs_cons (pg_name (i := 3) scLCh.nd rfl (.inl rfl)) pgs_nil)))
            (fun _ _ _ _ _ => pts_nil) (fun _ _ _ _ _ => pe_tup (pa_cons (pv 3) (pa_cons (pv 2) pa_nil))))))
      (pss_one (ps_ret (pe_callB (NS.cr_sortedL rfl hu) (by rfl) TS.sorted (by decide +kernel) (pa_cons (pv 1) pa_nil)))), ?_⟩
    obtain ⟨M⟩ := net_at hn
    obtain ⟨L, eL, mL, kL⟩ := lk_of M.lks
    have eB : H M.B = some (.tup (L.map fun p => V.ref p.1)) := eL ▸ M.eb
    have lL : L.length < 30 := by
      have z := lf
      rw [← mL, List.length_map] at z
      exact z
    refine ⟨fun σ' H' => ∃ (p : Addr) (u2 u3 : Option V) (W : List (Addr × (Str × Str))), σ' = [some (.ref a), some (.ref p), u2, u3] ∧ Same H H' ∧ H' p = some (.lst (W.map fun p => V.ref p.1)) ∧ LkAt H' W ∧ W.map (·.2) = N.ls ++ N.ls.map swapL, ?_, ?_⟩
    · refine ⟨_, rfl, a, _, 1, .ref M.B, rfl, rfl, SqT.of M.top, atI_nat (j := 1) rfl, M.B, rfl, ⟨_, SqT.of eB⟩, fun D nD => ?_⟩
      refine lc_links (f := fun l => l) nD eB kL (by omega) (fun p H2 R ep fin => ⟨p.1, _, rfl, SqT.of ep, rfl, _, _, rfl, _, _, rfl, rfl, rfl, tYes_ite ⟨_, rfl, _, rfl, by show 2 ≤ sizeLine; decide, fin⟩⟩) fun H2 W s2 eW kW mW => ?_
      refine ⟨_, rfl, a, _, 1, .ref M.B, rfl, rfl, SqT.of (s2 _ _ M.top), atI_nat (j := 1) rfl, M.B, rfl, ⟨_, SqT.of (s2 _ _ eB)⟩, fun D2 nD2 => ?_⟩
      refine lc_links (f := swapL) nD2 (s2 _ _ eB) (kL.same s2) (by omega) (fun p H3 R ep fin => ⟨p.1, _, rfl, SqT.of ep, rfl, _, _, rfl, _, _, rfl, rfl, rfl, tYes_ite ⟨_, rfl, _, rfl, by show 2 ≤ sizeLine; decide, fin⟩⟩) fun H3 W2 s3 eW2 kW2 mW2 => ?_
      rw [List.map_id'] at mW
      have l1 : W.length = L.length := by simpa using congrArg List.length mW
      have l2 : W2.length = L.length := by simpa using congrArg List.length mW2
      refine ⟨D, D2, _, _, rfl, rfl, s3 _ _ eW, eW2, ?_, fun p np => ⟨p, _, _, W ++ W2, rfl, (s2.trans s3).trans (same_upd np), ?_, fun x hx => ?_, ?_⟩⟩
      · rw [List.length_map, List.length_map, sizeLine_eq]
        omega
      · rw [upd_same, List.map_append]
      · have kp := same_upd (o := .lst (W.map (fun p => V.ref p.1) ++ W2.map fun p => V.ref p.1)) np
        rcases List.mem_append.mp hx with z | z
        · exact kp _ _ (s3 _ _ (kW x z))
        · exact kp _ _ (kW2 x z)
      · rw [List.map_append, mW, mW2, mL]
    rintro σ1 H1 ⟨p, u2, u3, W, rfl, s1, eW, kW, mW⟩
    have lW : W.length < 60 := by
      have z := congrArg List.length mW
      rw [List.length_map, List.length_append, List.length_map] at z
      omega
    refine ⟨_, rfl, p, asRow W, rfl, SqL.of (by rw [asRow_refs]; exact eW), by rw [List.length_map]; omega, rows_of kW, alike_links, sortable_links, fun L1 p2 pm pw n2 => ?_⟩
    obtain ⟨U, eU, pm, pw⟩ := sorted_of pm pw
    rw [eU]
    have k2 := same_upd (o := .lst (U.map fun p => V.ref p.1)) n2
    refine q _ p2 U (s1.trans k2) (s1.free n2) upd_same (fun x hx => k2 _ _ (kW x (pm.mem_iff.mp hx))) ⟨?_, pw⟩
    have z := pm.map (fun p : Addr × (Str × Str) => p.2)
    rw [mW] at z
    exact z
end
/-! _law_first -/
def cfg0 (N : NetM) : CfgM := ⟨List.replicate N.ms.length 0, List.replicate (2 * N.ls.length) []⟩
abbrev sFst : Stmt := topS 68
theorem scFst : FnScope ["_law_net"] ["_law_net"] (defScope sFst) := ⟨rfl, rfl, rfl, by decide +kernel, rfl, by decide +kernel, by decide +kernel⟩
def spFst : Sp := fun vs H Q _ => ∃ (a : Addr) (N : NetM), vs = [.ref a] ∧ Kz H (.ref a) N.key ∧ N.ls.length < 30 ∧ 2 ≤ N.ms.length ∧ N.ms.length ≤ 6 ∧ 1 ≤ N.ls.length ∧
  ∀ H' p, Same H H' → H p = none → Kz H' (.ref p) (cfg0 N).key → Q (.ref p) H'
structure TxtLC (K : PySem.W.Frag) (mg : Str → Option Value) (fC : Addr) (dC : FuncData) : Prop where
  len : mg "len" = none
  F : Fun K "_law_channels" "_law_channels" sLCh fC dC
  b : L2.Binds K dC ["_law_net"] []
  g : mg "_law_channels" = some (.ref fC)
theorem kz_rep {H : Hp} {v : V} {k : NestedKey} (h : Kz H v k) : ∀ n : Nat, KzAll H (List.replicate n v) (List.replicate n k)
  | 0 => .nil
  | n + 1 => .cons h (kz_rep h n)
section
variable {P : Program} {w : World} {K : PySem.W.Frag} {mg : Str → Option Value} {base : Heap} {fC : Addr} {dC : FuncData}
theorem ok_Fst {f : Addr} {fd : FuncData} {k : Nat} (F : Fun K "_law_first" "_law_first" sFst f fd) (TS : TxtS mg) (C : TxtLC K mg fC dC) : FnOk P w K mg base CX0 (k + 2) f fd ["_law_net"] spFst := by
  have GC : FnOk P w K mg base CX0 (k + 1) fC dC ["_law_net"] spLCh := ok_LCh C.F TS
  refine F.ok scFst (fun vs H Q E h => ?_) (fun cdv A outer s H vs Q E hr h => ?_)
  · obtain ⟨a, N, rfl, _⟩ := h
    rfl
  · obtain ⟨a, N, rfl, hn, lf, n2, n6, l1, q⟩ := h
    refine ⟨_, pss_one (ps_ret (pe_tup (pa_cons (pe_op op_repT (pe_tup (pa_cons pe_int pa_nil)) (pe_callB call_len_seq (by rfl) C.len PySem.boot_len (pa_cons (pe_ix ix_tup (pv 0) pe_int (fun _ _ => rfl)) pa_nil)))
        (pa_cons (pe_op op_repT (pe_tup (pa_cons (pe_tup pa_nil) pa_nil)) (pe_callB call_len_seq (by rfl) C.len PySem.boot_len (pa_cons (pe_call GC hr (by rfl) C.g C.F.kp C.b .nil pass0 (pa_cons (pv 0) pa_nil)) pa_nil))) pa_nil)))), ?_⟩
    obtain ⟨M⟩ := net_at hn
    have lx := M.lx
    refine ⟨by show 1 ≤ sizeLine; decide, fun p1 np1 => ?_⟩
    have k1 := same_upd (o := .tup [.int 0]) np1
    refine ⟨_, rfl, a, _, 0, .ref M.A, rfl, rfl, SqT.of (k1 _ _ M.top), atI_nat (j := 0) rfl, M.A, _, rfl, .inr (SqT.of (k1 _ _ M.ea)), ?_⟩
    refine ⟨p1, _, [.int 0], rfl, rfl, SqT.of upd_same, List.cons_ne_nil _ _, by omega, by omega, by show 1 ≤ 1000; decide, fun p2 np2 => ?_⟩
    rw [List.flatten_replicate_singleton]
    have k2 := same_upd (o := .tup (List.replicate (M.xs.length : Int).toNat (V.int 0))) np2
    refine ⟨Nat.zero_le _, fun p3 np3 => ⟨by show 1 ≤ sizeLine; decide, fun p4 np4 => ?_⟩⟩
    have k3 := same_upd (o := .tup []) np3
    have k4 := same_upd (o := .tup [.ref p3]) np4
    have s4 := (k1.trans k2).trans (k3.trans k4)
    refine ⟨_, rfl, a, N, rfl, Kz.same s4 _ _ hn, lf, fun H5 p5 U s5 np5 eU kU ch => ⟨p5, _, rfl, .inl (SqL.of eU), ?_⟩⟩
    have lU : U.length = 2 * N.ls.length := by
      have z := ch.len
      rw [List.length_map] at z
      exact z
    have lU' : (U.map fun p => V.ref p.1).length = 2 * N.ls.length := by rw [List.length_map, lU]
    refine ⟨p4, _, [.ref p3], rfl, rfl, SqT.of (s5 _ _ upd_same), List.cons_ne_nil _ _, by omega, by omega, by show 1 ≤ 1000; decide, fun p6 np6 => ⟨by show 2 ≤ sizeLine; decide, fun p7 np7 => ?_⟩⟩
    rw [List.flatten_replicate_singleton] at np7 ⊢
    have k6 := same_upd (o := .tup (List.replicate ((U.map fun p => V.ref p.1).length : Int).toNat (V.ref p3))) np6
    have k7 := same_upd (o := .tup [.ref p2, .ref p6]) np7
    have s7 := (s4.trans s5).trans (k6.trans k7)
    refine q _ p7 s7 (((s4.trans s5).trans k6).free np7) (.tup upd_same (.cons (.tup ((k3.trans k4) _ _ upd_same |> s5 _ _ |> (k6.trans k7) _ _) ?_) (.cons (.tup (k7 _ _ upd_same) ?_) .nil)))
    · rw [Int.toNat_natCast, lx]
      show KzAll _ _ ((List.replicate N.ms.length 0).map NestedKey.num)
      rw [List.map_replicate]
      exact kz_rep (.int 0) _
    · have e : ((U.map fun p => V.ref p.1).length : Int).toNat = 2 * N.ls.length := by rw [Int.toNat_natCast, lU']
      show KzAll _ _ ((List.replicate (2 * N.ls.length) []).map queueKey)
      rw [List.map_replicate, ← e]
      exact kz_rep (.tup ((k6.trans k7) _ _ (s5 _ _ (k4 _ _ upd_same))) .nil) _
end
end K55
/-! _law_members. -/
namespace K55
open PySem PySem.Spec PyProof.Rows L2 WD NS MC GL
open C8 (pss_cut tCut)
abbrev sMem : Stmt := topS 74
abbrev nMem : List Str := ["_law_net", "_law_one", "_law_other", "_law_found", "_law_waiting", "_law_name"]
theorem scMem : FnScope nMem ["_law_net", "_law_one", "_law_other"] (defScope sMem) := ⟨rfl, rfl, rfl, by decide +kernel, rfl, by decide +kernel, by decide +kernel⟩
def spMem : Sp := fun vs H Q _ => ∃ (a : Addr) (N : NetM) (x y : Str), vs = [.ref a, .str x, .str y] ∧ Kz H (.ref a) N.key ∧ N.Ok ∧ ordL x y ∈ N.ls ∧
  ∀ H' p (ys : List Str), Same H H' → H p = none → H' p = some (.lst (ys.map V.str)) → BrOf N.ls x y ys → Q (.ref p) H'
structure TxtLk (K : PySem.W.Frag) (mg : Str → Option Value) (fLk : Addr) (dLk : FuncData) : Prop where
  F : Fun K "_law_linked" "_law_linked" sLkd fLk dLk
  b : L2.Binds K dLk ["_law_links_here", "_law_name"] []
  g : mg "_law_linked" = some (.ref fLk)
theorem cut_off {N : NetM} (ok : N.Ok) {x y : Str} (h : ordL x y ∈ N.ls) : ¬ Conn (lsNot N.ls (ordL x y)) y x := fun c => by
  have z := ok.tree _ h
  rcases ordL_ends x y with e | e
  · rw [e] at z
    rw [e] at c
    exact z c.symm
  · rw [e] at z
    rw [e] at c
    exact z c
theorem lsNot_link {ls : List (Str × Str)} {x y a b : Str} (h : Linked ls a b) (nb : b ≠ x) (na : a ≠ x) : Linked (lsNot ls (ordL x y)) a b := by
  have ne : ∀ l : Str × Str, l.1 ≠ x → l.2 ≠ x → l ≠ ordL x y := fun l h1 h2 e => by
    rcases ordL_ends x y with z | z
    · rw [z] at e
      exact h1 (congrArg (·.1) e)
    · rw [z] at e
      exact h2 (congrArg (·.2) e)
  rcases h with h | h
  · exact .inl (List.mem_filter.mpr ⟨h, decide_eq_true (ne _ na nb)⟩)
  · exact .inr (List.mem_filter.mpr ⟨h, decide_eq_true (ne _ nb na)⟩)
theorem lsNot_of {ls : List (Str × Str)} {o : Str × Str} {a b : Str} (h : Linked (lsNot ls o) a b) : Linked ls a b := h.imp (fun z => (List.mem_filter.mp z).1) fun z => (List.mem_filter.mp z).1
/-- the state of the search -/
structure MemW (ls : List (Str × Str)) (x y : Str) (H : Hp) (f l : Addr) (fs ws : List Str) : Prop where
  ef : H f = some (.lst (fs.map V.str))
  el : H l = some (.lst (ws.map V.str))
  nd : fs.Nodup
  rc : ∀ k ∈ fs, Conn (lsNot ls (ordL x y)) y k
  z : y ∈ fs
  sub : ∀ k ∈ ws, k ∈ fs
theorem MemW.len {ls : List (Str × Str)} {x y : Str} {H : Hp} {f l : Addr} {fs ws : List Str} (R : MemW ls x y H f l fs ws) : 2 * (61 - lenAt H f) + lenAt H l = 2 * (61 - fs.length) + ws.length := by
  rw [lenAt, lenAt, R.ef, R.el]
  simp only [List.length_map]
theorem MemW.few {ls : List (Str × Str)} {x y : Str} {H : Hp} {f l : Addr} {fs ws : List Str} (R : MemW ls x y H f l fs ws) (few : ls.length < 30) : fs.length < 60 := conn_few R.nd R.rc (Nat.lt_of_le_of_lt (List.length_filter_le _ _) few)
section
variable {P : Program} {w : World} {K : PySem.W.Frag} {mg : Str → Option Value} {base : Heap} {fLk : Addr} {dLk : FuncData}
theorem ok_Mem {f : Addr} {fd : FuncData} {k : Nat} (F : Fun K "_law_members" "_law_members" sMem f fd) (TS : TxtS mg) (T : TxtLk K mg fLk dLk) : FnOk P w K mg base CX0 (k + 2) f fd ["_law_net", "_law_one", "_law_other"] spMem := by
  have GL : FnOk P w K mg base CX0 (k + 1) fLk dLk ["_law_links_here", "_law_name"] spLkd := ok_Lkd T.F
  refine F.ok scMem (fun vs H Q E h => ?_) (fun cdv A outer s H vs Q E hr h => ?_)
  · obtain ⟨a, N, x, y, rfl, _⟩ := h
    rfl
  · obtain ⟨a, N, x, y, rfl, hn, ok, ho, q⟩ := h
    have hu := hr.units
    refine ⟨_, pss_cut (ps_par (i := 3) (j := 4) (by rfl) scMem.nd rfl rfl (by decide) rfl rfl (pa_cons (pe_lst (pa_cons (pv 2) pa_nil)) (pa_cons (pe_lst (pa_cons (pv 2) pa_nil)) pa_nil)) (by rfl))
      (pss_cut (ps_while PassesOwn.never (pt_cmpR (show OpR _ (compareOp .NotEq) (rNeD K) from op_neD hu) (pv 4) (pe_lst pa_nil) (nomark _))
        (pss_one (ps_for PassesOwn.never rfl (pi_list (pe_call GL hr (by rfl) T.g T.F.kp T.b .nil pass0 (pa_cons (pe_ix ix_tup (pv 0) pe_int (fun _ _ => rfl)) (pa_cons (pe_bm0 PySem.F.plainAttrs_list PySem.F.slot_list_pop PySem.F.type_list_pop mt_pop (pv 4)) pa_nil)))) (pg_name (i := 5) scMem.nd rfl (.inl rfl))
          (pss_one (ps_if (PW.pt (pw_and (pt_cmpR op_ne (pv 5) (pv 1) (nomark _)) (pw_and1 (pt_cmpR (show OpR _ (compareOp .NotIn) (rIn K true) from op_notIn_seq) (pv 5) (pv 3) (by rfl)))))
            (pss_cons (ps_expr (pe_bm PySem.F.plainAttrs_list PySem.F.slot_list_append PySem.F.type_list_append mt_append (pv 3) (pa_cons (pv 5) pa_nil)))
            (pss_one (ps_expr (pe_bm PySem.F.plainAttrs_list PySem.F.slot_list_append PySem.F.type_list_append mt_append (pv 4) (pa_cons (pv 5) pa_nil)))))
            pss_nil)))))
      (pss_one (ps_ret (pe_callB cr_sortedS (by rfl) TS.sorted (by decide +kernel) (pa_cons (pv 3) pa_nil))))), ?_⟩
    obtain ⟨M⟩ := net_at hn
    obtain ⟨L, eL, mL, kL⟩ := lk_of M.lks
    have eB : H M.B = some (.tup (L.map fun p => V.ref p.1)) := eL ▸ M.eb
    have lf := ok.lf
    have lL : L.length < 30 := by
      rw [← mL, List.length_map] at lf
      exact lf
    obtain ⟨mx, my, nxy⟩ := ord_ends ok ho
    have cutO := cut_off ok ho
    have nel : ∀ l ∈ N.ls, l.1 ≠ l.2 := fun l hl e => sLt_irr _ (e ▸ (ok.l1 l hl).2.2 : sLt l.1 l.1)
    have wdc : ∀ k, Conn (lsNot N.ls (ordL x y)) y k → Wd k := fun k c => by
      rcases conn_end c with e | e
      · rw [e]
        exact ok.wdn my
      · rcases List.mem_append.mp e with e | e
        · obtain ⟨l, hl, rfl⟩ := List.mem_map.mp e
          exact (ok.wdl l (List.mem_filter.mp hl).1).1
        · obtain ⟨l, hl, rfl⟩ := List.mem_map.mp e
          exact (ok.wdl l (List.mem_filter.mp hl).1).2
    refine ⟨fun σ' H' => ∃ f l, f ≠ l ∧ H f = none ∧ H l = none ∧ Same H H' ∧ σ' = [some (.ref a), some (.str x), some (.str y), some (.ref f), some (.ref l), none] ∧ MemW N.ls x y H' f l [y] [y], ?_, ?_⟩
    · refine ⟨_, rfl, by show 1 ≤ sizeLine; decide, fun f nf => ⟨_, rfl, by show 1 ≤ sizeLine; decide, fun l nl => ?_⟩⟩
      have kf := same_upd (o := .lst [.str y]) nf
      have kl := same_upd (o := .lst [.str y]) nl
      refine ⟨_, _, rfl, f, l, ne_of_none upd_same nl, nf, kf.free nl, kf.trans kl, rfl, ⟨kl _ _ upd_same, upd_same, by simp, fun k hk => ?_, List.mem_cons_self, fun k hk => hk⟩⟩
      rw [List.mem_singleton.mp hk]
      exact .refl _
    rintro σ1 H1 ⟨f, l, nfl, nf, nl, s1, rfl, R0⟩
    refine ⟨fun σ' H' => ∃ (fs : List Str) (u5 : Option V), σ' = [some (.ref a), some (.str x), some (.str y), some (.ref f), some (.ref l), u5] ∧ Same H H' ∧ MemW N.ls x y H' f l fs [] ∧ ∀ u v, Linked N.ls u v → u ∈ fs → v = x ∨ v ∈ fs, ?_, ?_⟩
    · refine while_by (fun σ' H' => ∃ (fs ws : List Str) (u5 : Option V), σ' = [some (.ref a), some (.str x), some (.str y), some (.ref f), some (.ref l), u5] ∧ Same H H' ∧ MemW N.ls x y H' f l fs ws ∧ (∀ u v, Linked N.ls u v → u ∈ fs → u ∈ ws ∨ v = x ∨ v ∈ fs) ∧ 2 * (61 - fs.length) + ws.length ≤ 121)
        (fun σ' H' => 2 * (61 - lenAt H' f) + lenAt H' l) ?_ ?_ ?_
      · exact ⟨_, _, none, rfl, s1, R0, fun u v _ hb => .inl hb, (by show 2 * (61 - 1) + 1 ≤ 121; decide)⟩
      · rintro σ2 H2 ⟨fs, ws, u5, rfl, s2, R, cl, le121⟩
        refine ⟨_, rfl, Nat.zero_le _, fun e ne => ?_⟩
        have ke := same_upd (o := .lst []) ne
        have Re : MemW N.ls x y (upd H2 e (.lst [])) f l fs ws := ⟨ke _ _ R.ef, ke _ _ R.el, R.nd, R.rc, R.z, R.sub⟩
        have wws : ∀ k ∈ ws, Wd k := fun k hk => wdc k (R.rc k (R.sub k hk))
        refine ⟨_, _, .lst (SqL.of Re.el) (dp_strs ws), .lst (SqL.of upd_same) .nil, shaped_strs ws wws, rfl, _, rfl, ?_⟩
        have lens : lenAt (upd H2 e (.lst [])) f = lenAt H2 f ∧ lenAt (upd H2 e (.lst [])) l = lenAt H2 l := by
          constructor
          · rw [lenAt, lenAt, Re.ef, R.ef]
          · rw [lenAt, lenAt, Re.el, R.el]
        rcases List.eq_nil_or_concat ws with rfl | ⟨w0, z, rfl⟩
        · exact iteF ⟨fs, u5, rfl, s2.trans ke, Re, fun u v h hx => (cl u v h hx).resolve_left (fun z => nomatch z)⟩
        · rw [List.concat_eq_append] at *
          rw [show (!PyData.eqv (.list ((w0 ++ [z]).map PyData.str)) (.list [])) = true by cases w0 <;> rfl]
          refine iteT ?_
          have tl : ∀ {H' : Hp} {zs ys : List V}, H' l = some (.lst zs) → SameT H' (upd H' l (.lst ys)) := fun e => SameT.lst e
          have z1 : z ∈ fs := R.sub _ (List.mem_append_right _ List.mem_cons_self)
          have zx : z ≠ x := fun e => cutO (e ▸ R.rc z z1)
          have s3 : Same H (upd (upd H2 e (.lst [])) l (.lst (w0.map V.str))) := same_set (s2.trans ke) nl
          have lenR := R.len
          rw [List.length_append] at lenR
          refine ⟨_, rfl, a, _, 1, .ref M.B, rfl, rfl, SqT.of ((s2.trans ke) _ _ M.top), atI_nat (j := 1) rfl, _, rfl, .inl ⟨rfl, _, SqL.of Re.el⟩, l, _, .str z, rfl, rfl, Re.el, ?_, ?_⟩
          · rw [List.map_append, List.length_append]
            simp
          · have ew : (List.map V.str (w0 ++ [z])).dropLast = w0.map V.str := by
              rw [List.map_append]
              exact List.dropLast_concat
            rw [ew]
            have R1 : MemW N.ls x y (upd (upd H2 e (.lst [])) l (.lst (w0.map V.str))) f l fs w0 := ⟨by rw [upd_ne nfl]; exact Re.ef, upd_same, R.nd, R.rc, R.z, fun k hk => R.sub k (List.mem_append_left _ hk)⟩
            refine ⟨M.B, L, z, rfl, s3 _ _ eB, kL.same s3, by omega, fun H4 p s4 np eY => ⟨p, rfl, ⟨_, SqL.of eY⟩, ?_⟩⟩
            rw [mL] at eY
            have memY : ∀ v, v ∈ N.ls.filterMap (endL z) ↔ Linked N.ls z v := fun v => mem_endL nel
            have R4 : MemW N.ls x y H4 f l fs w0 := ⟨s4 _ _ R1.ef, s4 _ _ R1.el, R1.nd, R1.rc, R1.z, R1.sub⟩
            have pf : p ≠ f := (ne_of_none R1.ef np).symm
            have pl : p ≠ l := (ne_of_none R1.el np).symm
            refine for_list (xs := (N.ls.filterMap (endL z)).map V.str) (fun i σ' H' => ∃ (fs' ws' : List Str) (u5 : Option V), σ' = [some (.ref a), some (.str x), some (.str y), some (.ref f), some (.ref l), u5] ∧ Same H H' ∧ H' p = some (.lst ((N.ls.filterMap (endL z)).map V.str)) ∧ MemW N.ls x y H' f l fs' ws' ∧ z ∈ fs' ∧
              (∀ u v, Linked N.ls u v → u ∈ fs' → u ∈ ws' ∨ v = x ∨ v ∈ fs' ∨ (u = z ∧ v ∈ (N.ls.filterMap (endL z)).drop i)) ∧ 2 * (61 - fs'.length) + ws'.length < 2 * (61 - lenAt H2 f) + lenAt H2 l) ?_ ?_ ?_ ?_
            · refine ⟨fs, w0, u5, rfl, s3.trans s4, eY, R4, z1, fun u v h hx => ?_, by rw [lenR]; simp⟩
              rcases cl u v h hx with c | c | c
              · rcases List.mem_append.mp c with c | c
                · exact .inl c
                · have e := List.mem_singleton.mp c
                  subst e
                  exact .inr (.inr (.inr ⟨rfl, (memY v).mpr h⟩))
              · exact .inr (.inl c)
              · exact .inr (.inr (.inl c))
            · rintro i σ' H' _ ⟨_, _, _, _, _, e, _⟩
              exact SqL.of e
            · rintro i v σ' H' hv ⟨fs', ws', v5, rfl, s5, eY', R5, z5, cl5, mu⟩
              obtain ⟨n, hn', rfl⟩ := strs_get hv
              have il := (List.getElem?_eq_some_iff.mp hn').1
              have en : (N.ls.filterMap (endL z))[i] = n := (List.getElem?_eq_some_iff.mp hn').2
              have dr : (N.ls.filterMap (endL z)).drop i = n :: (N.ls.filterMap (endL z)).drop (i + 1) := by rw [List.drop_eq_getElem_cons il, en]
              have lk : Linked N.ls z n := (memY n).mp (List.mem_of_getElem? hn')
              have skip : n = x ∨ n ∈ fs' → ∀ u v, Linked N.ls u v → u ∈ fs' → u ∈ ws' ∨ v = x ∨ v ∈ fs' ∨ (u = z ∧ v ∈ (N.ls.filterMap (endL z)).drop (i + 1)) := fun c u v h hu' => by
                rcases cl5 u v h hu' with d | d | d | ⟨d, d'⟩
                · exact .inl d
                · exact .inr (.inl d)
                · exact .inr (.inr (.inl d))
                · rw [dr] at d'
                  rcases List.mem_cons.mp d' with rfl | d'
                  · exact .inr (c.imp id .inl)
                  · exact .inr (.inr (.inr ⟨d, d'⟩))
              refine ⟨_, rfl, _, rfl, rfl, _, rfl, ifB (fun hb => ?_) fun hb => ?_⟩
              · have nx : n ≠ x := by simpa using hb
                refine ⟨_, rfl, _, rfl, f, _, rfl, .inl (SqL.of R5.ef), rfl, flat_strs _, _, rfl, ?_⟩
                rw [inV_dec]
                by_cases hk : n ∈ fs'
                · rw [decide_eq_true hk]
                  exact iteF ⟨fs', ws', _, rfl, s5, eY', R5, z5, skip (.inr hk), mu⟩
                · rw [decide_eq_false hk]
                  have lfs := R5.few ok.lf
                  have lw := R5.len
                  have mu' := mu
                  rw [lenR] at mu'
                  rw [List.length_append] at le121
                  have lF := R.few ok.lf
                  have zx5 : z ≠ x := zx
                  have rcn : Conn (lsNot N.ls (ordL x y)) y n := (R5.rc z z5).trans (.one (lsNot_link lk nx zx))
                  have el6 : upd H' f (.lst (fs'.map V.str ++ [.str n])) l = some (.lst (ws'.map V.str)) := by
                    rw [upd_ne nfl.symm]
                    exact R5.el
                  refine iteT ⟨_, rfl, .inl ⟨rfl, _, SqL.of R5.ef⟩, _, rfl, f, _, .str n, rfl, rfl, R5.ef, ?_, ?_⟩
                  · rw [List.length_map, sizeLine_eq]
                    omega
                  refine ⟨_, rfl, .inl ⟨rfl, _, SqL.of el6⟩, _, rfl, l, _, .str n, rfl, rfl, el6, ?_, ?_⟩
                  · rw [List.length_map, sizeLine_eq]
                    omega
                  refine ⟨fs' ++ [n], ws' ++ [n], _, rfl, same_set (same_set s5 nf) nl, by rw [upd_ne pl, upd_ne pf]; exact eY', ⟨by rw [upd_ne nfl, upd_same, List.map_append]; rfl, by rw [upd_same, List.map_append]; rfl, ?_, fun k' hk' => ?_, List.mem_append_left _ R5.z, fun k' hk' => ?_⟩, List.mem_append_left _ z5, fun u v h hu' => ?_, ?_⟩
                  · rw [List.nodup_append]
                    refine ⟨R5.nd, by simp, fun u hu' v hv => ?_⟩
                    rw [List.mem_singleton.mp hv]
                    exact fun e => hk (e ▸ hu')
                  · rcases List.mem_append.mp hk' with d | d
                    · exact R5.rc k' d
                    · rw [List.mem_singleton.mp d]
                      exact rcn
                  · rcases List.mem_append.mp hk' with d | d
                    · exact List.mem_append_left _ (R5.sub k' d)
                    · exact List.mem_append_right _ d
                  · rcases List.mem_append.mp hu' with d | d
                    · rcases cl5 u v h d with d | d | d | ⟨d, d'⟩
                      · exact .inl (List.mem_append_left _ d)
                      · exact .inr (.inl d)
                      · exact .inr (.inr (.inl (List.mem_append_left _ d)))
                      · rw [dr] at d'
                        rcases List.mem_cons.mp d' with rfl | d'
                        · exact .inr (.inr (.inl (List.mem_append_right _ List.mem_cons_self)))
                        · exact .inr (.inr (.inr ⟨d, d'⟩))
                    · exact .inl (List.mem_append_right _ d)
                  · rw [List.length_append, List.length_append]
                    show 2 * (61 - (fs'.length + 1)) + (ws'.length + 1) < _
                    omega
              · have nx : n = x := by simpa using hb
                exact iteF ⟨fs', ws', _, rfl, s5, eY', R5, z5, skip (.inl nx), mu⟩
            · rintro σ' H' ⟨fs', ws', v5, rfl, s5, eY', R5, z5, cl5, mu⟩
              refine ⟨⟨fs', ws', v5, rfl, s5, R5, fun u v h hx => ?_, by rw [lenR] at mu; rw [List.length_append] at le121; omega⟩, by rw [R5.len]; exact mu⟩
              rw [List.length_map, List.drop_length] at cl5
              rcases cl5 u v h hx with c | c | c | c
              · exact .inl c
              · exact .inr (.inl c)
              · exact .inr (.inr c)
              · exact nomatch c.2
      · rintro σ1 H1 Q Q' hQ ⟨u, e, k, z⟩
        refine ⟨u, e, k, fun p np => ?_⟩
        obtain ⟨d1, d2, h1, h2, h3, h4, b, hb, z⟩ := z p np
        exact ⟨d1, d2, h1, h2, h3, h4, b, hb, hQ _ _ z⟩
    · rintro σ2 H2 ⟨fs, u5, rfl, s2, R, cl⟩
      refine ⟨_, rfl, f, fs, rfl, SqL.of R.ef, by have := R.few ok.lf; omega, fun ys p3 pm asc n3 => ?_⟩
      refine q _ p3 ys (s2.trans (same_upd n3)) (s2.free n3) upd_same ⟨fun v => pm.mem_iff.trans ⟨R.rc v, fun c => ?_⟩, asc_of_sortedS asc, pm.nodup_iff.mpr R.nd, by rw [pm.length_eq]; exact R.few ok.lf⟩
      refine c.stays (S := fun v => v ∈ fs) (fun u v h hu' => ?_) R.z
      rcases cl u v (lsNot_of h) hu' with e | e
      · exact absurd ((R.rc u hu').trans (.one (e ▸ h))) cutO
      · exact e
end
end K55
/-! _law_single, _law_any. -/
namespace K55
open PySem PySem.Spec PyProof.Rows L2 WD NS MC GL
open C8 (pss_cut tCut)
/-- all stays but the dice -/
structure DD (H : Hp) (d : Addr) (c : Nat) (H' : Hp) : Prop where
  ds : DS d H H'
  dice : Dice H' d c
theorem DD.refl {H : Hp} {d : Addr} {n : Nat} (D : Dice H d n) : DD H d n H := ⟨fun _ _ _ e => e, D⟩
theorem DD.roll {H H' : Hp} {d : Addr} {c c' : Nat} {o : HO} (k : DD H d c H') (D : Dice (upd H' d o) d c') : DD H d c' (upd H' d o) := ⟨fun b x n e => by rw [upd_ne n]; exact k.ds b x n e, D⟩
theorem DD.new {H H' : Hp} {d l : Addr} {c : Nat} {o : HO} (k : DD H d c H') (n : H' l = none) : DD H d c (upd H' l o) := ⟨fun b x m e => same_upd n b x (k.ds b x m e), k.dice.same (upd_ne (ne_dice' k.dice n).symm)⟩
theorem DD.put {H H' : Hp} {d p : Addr} {c : Nat} {v : HO} (k : DD H d c H') (ne : p ≠ d) (n : H p = none) : DD H d c (upd H' p v) := ⟨fun b x m e => by rw [upd_ne (ne_of_none e n)]; exact k.ds b x m e, k.dice.same (upd_ne ne.symm)⟩
theorem DD.more {H H' : Hp} {d : Addr} {c c' : Nat} (k : DD H d c H') (h : c ≤ c') : DD H d c' H' := ⟨k.ds, k.dice.mono h⟩
theorem DD.then {H H' H'' : Hp} {d : Addr} {c c' : Nat} (k : DD H d c H') (s : DS d H' H'') (D : Dice H'' d c') : DD H d c' H'' := ⟨k.ds.trans s, D⟩
theorem dice_same {H H' : Hp} {d : Addr} {n : Nat} (D : Dice H d n) (s : Same H H') : Dice H' d n := by
  obtain ⟨g, y, c, e, r⟩ := D
  exact ⟨g, y, c, s _ _ e, r⟩
theorem DD.same {H H' H'' : Hp} {d : Addr} {c : Nat} (k : DD H d c H') (s : Same H' H'') : DD H d c H'' := ⟨k.ds.trans (WD.Same.ds s), dice_same k.dice s⟩
theorem ds_tups {H H' : Hp} {d : Addr} {n : Nat} (D : Dice H d n) (s : DS d H H') : Tups H H' := fun b xs e => s b _ (fun z => by
  obtain ⟨g, y, c, ed, _⟩ := D
  rw [z, ed] at e
  exact nomatch e) e
theorem DD.kz {H H' : Hp} {d : Addr} {n c : Nat} (k : DD H d c H') (D : Dice H d n) {q : NestedKey} {v : V} (h : Kz H v q) : Kz H' v q := kz_tups (ds_tups D k.ds) _ _ h
theorem DD.free {H H' : Hp} {d t : Addr} {c : Nat} (k : DD H d c H') (h : H' t = none) : H t = none := K55.DS.free k.ds k.dice h
abbrev sSgl : Stmt := topS 75
abbrev nSgl : List Str := ["_law_dice_here", "_law_other", "_law_size", "_law_rows", "_law_turn"]
theorem scSgl : FnScope nSgl ["_law_dice_here", "_law_other"] (defScope sSgl) := ⟨rfl, rfl, rfl, by decide +kernel, rfl, by decide +kernel, by decide +kernel⟩
def spSgl : Sp := fun vs H Q _ => ∃ (d : Addr) (n : Nat) (x : Str), vs = [.ref d, .str x] ∧ Dice H d n ∧ n ≤ 900000 ∧ Wd x ∧
  ∀ H' p (m : MachM), DD H d (n + 40) H' → H p = none → m.Ok → m.rows.length ≤ 6 → (∀ r ∈ m.rows, ∀ b z l, r.deed = .ex b z l → z = x) → Kz H' (.ref p) m.key → Q (.ref p) H'
structure TxtMk (K : PySem.W.Frag) (mg : Str → Option Value) (fE fP : Addr) (dE dP : FuncData) : Prop where
  range : mg "range" = none
  E : Fun K "_law_row" "_law_row" sRowL fE dE
  bE : L2.Binds K dE ["_law_dice_here", "_law_size", "_law_others"] []
  gE : mg "_law_row" = some (.ref fE)
  P : Fun K "_law_made" "_law_made" sMade fP dP
  bP : L2.Binds K dP nMd []
  gP : mg "_law_made" = some (.ref fP)
theorem rep_strs (k : Nat) (x : Str) : (List.replicate k [V.str x]).flatten = (List.replicate k x).map V.str := by
  rw [List.flatten_replicate_singleton, List.map_replicate]
section
variable {P : Program} {w : World} {K : PySem.W.Frag} {mg : Str → Option Value} {base : Heap} {fR fO fE fP : Addr} {dR dO dE dP : FuncData}
theorem ok_Sgl {f : Addr} {fd : FuncData} (F : Fun K "_law_single" "_law_single" sSgl f fd) (W : TxtR K mg fR fO dR dO) (TD : TxtD mg) (TS : TxtS mg) (T : TxtMk K mg fE fP dE dP) : FnOk P w K mg base CX0 4 f fd ["_law_dice_here", "_law_other"] spSgl := by
  have GR : FnOk P w K mg base CX0 1 fR dR ["_law_dice_here", "_law_total"] spRoll := ok_roll W.R
  have GE : FnOk P w K mg base CX0 3 fE dE ["_law_dice_here", "_law_size", "_law_others"] (spRowL K) := ok_RowL T.E W TD
  have GP : FnOk P w K mg base CX0 1 fP dP nMd (spMade K) := ok_Made T.P TS
  refine F.ok scSgl (fun vs H Q E h => ?_) (fun cdv A outer s H vs Q E hr h => ?_)
  · obtain ⟨d, n, x, rfl, _⟩ := h
    rfl
  · obtain ⟨d, n, x, rfl, D0, hn, wx, q⟩ := h
    have hr1 : Room 1 _ := hr.mono (by decide)
    refine ⟨_, pss_cut (ps_set (i := 2) scSgl.nd rfl (.inr rfl) (pe_op op_add pe_int (pe_call GR hr1 (by rfl) W.gR W.R.kp W.bR .nil pass0 (pa_cons (pv 0) (pa_cons pe_int pa_nil)))))
      (pss_cut (ps_setLc (i := 3) (own := [("_law_turn", 4)]) (g := gName 4) (tt := tYes) (te := tCall (spRowL K) [] C8.E0 (tCons (tVar 0) (tCons (tVar 2) (tCons (tOp rRep (tLst (tCons (tVar 1) tNil)) (tCall spRoll [] C8.E0 (tCons (tVar 0) (tCons (tC (.int 2)) tNil)))) tNil)))) rfl scSgl.nd rfl rfl (sw_true rfl rfl rfl (by decide +kernel))
          (pi_range1 rfl T.range (pa_cons (pe_call GR hr1 (by rfl) W.gR W.R.kp W.bR .nil pass0 (pa_cons (pv 0) (pa_cons pe_int pa_nil))) pa_nil)) (blkOk_by (own := [("_law_turn", 4)]) (N := nSgl) (sc := defScope sSgl) (by decide +kernel))
          (fun _ _ _ _ _ => pg_name (i := 4) scSgl.nd rfl (.inl rfl)) (fun _ _ _ _ _ => pts_nil)
          (fun _ _ _ _ _ => pe_call GE hr (by rfl) T.gE T.E.kp T.bE .nil pass0 (pa_cons (pv 0) (pa_cons (pv 2) (pa_cons (pe_op op_rep (pe_lst (pa_cons (pv 1) pa_nil)) (pe_call GR hr1 (by rfl) W.gR W.R.kp W.bR .nil pass0 (pa_cons (pv 0) (pa_cons pe_int pa_nil)))) pa_nil)))))
      (pss_one (ps_ret (pe_call GP hr1 (by rfl) T.gP T.P.kp T.bP .nil pass0 (pa_cons (pv 2) (pa_cons
          (pe_lc (own := [("_law_turn", 4)]) (g := gName 4) (tt := tYes) (te := tCall spRoll [] C8.E0 (tCons (tVar 0) (tCons (tVar 2) tNil))) rfl scSgl.nd
            (pi_range1 rfl T.range (pa_cons (pe_call GR hr1 (by rfl) W.gR W.R.kp W.bR .nil pass0 (pa_cons (pv 0) (pa_cons pe_int pa_nil))) pa_nil)) (blkOk_by (own := [("_law_turn", 4)]) (N := nSgl) (sc := defScope sSgl) (by decide +kernel))
            (fun _ _ _ _ _ => pg_name (i := 4) scSgl.nd rfl (.inl rfl)) (fun _ _ _ _ _ => pts_nil)
            (fun _ _ _ _ _ => pe_call GR hr1 (by rfl) W.gR W.R.kp W.bR .nil pass0 (pa_cons (pv 0) (pa_cons (pv 2) pa_nil)))) (pa_cons (pv 3) pa_nil))))))), ?_⟩
    refine ⟨fun σ' H' => ∃ size : Nat, σ' = [some (.ref d), some (.str x), some (.int size), none, none] ∧ 0 < size ∧ size ≤ 4 ∧ DD H d (n + 1) H', ?_, ?_⟩
    · refine ⟨_, rfl, d, 4, n, rfl, D0, by omega, by decide, by decide, fun r o r0 r1 D1 => ⟨_, _, rfl, rfl, ?_⟩⟩
      obtain ⟨size, hs⟩ : ∃ size : Nat, 1 + r = (size : Int) := ⟨(1 + r).toNat, by omega⟩
      refine ⟨size, ?_, by omega, by omega, (DD.refl D0).roll D1⟩
      rw [← hs]
      rfl
    rintro σ1 H1 ⟨size, rfl, z0, z4, k1⟩
    refine ⟨fun σ' H' => ∃ (u4 : Option V) (lr : Addr) (L : List NS.Row), σ' = [some (.ref d), some (.str x), some (.int size), some (.ref lr), u4] ∧ DD H d (n + 30) H' ∧ H' lr = some (.lst (L.map fun p => V.ref p.1)) ∧ lr ≠ d ∧ H lr = none ∧ L.length ≤ 6 ∧ (∀ p ∈ L, Kz H' (.ref p.1) p.2 ∧ ∃ r : RowM, r.Ok size ∧ p.2 = r.key ∧ ∀ b z l, r.deed = .ex b z l → z = x), ?_, ?_⟩
    · refine ⟨_, rfl, d, 6, n + 1, rfl, k1.dice, by omega, by decide, by decide, fun r o r0 r1 D2 => ?_⟩
      have k2 := k1.roll D2
      obtain ⟨kk, rfl⟩ : ∃ kk : Nat, r = kk := ⟨r.toNat, by omega⟩
      refine ⟨(kk : Int), rfl, by omega, by omega, ?_⟩
      rw [Int.toNat_natCast]
      intro D nD
      have Dd := ne_dice' k2.dice nD
      have nDH := k2.free nD
      refine lc_range (lo := 0) (n := kk) (fun t H' => DD H d (n + 2 + 4 * t) H' ∧ ∃ L : List NS.Row, L.length = t ∧ H' D = some (.lst (L.map fun p => V.ref p.1)) ∧ ∀ p ∈ L, Kz H' (.ref p.1) p.2 ∧ ∃ r : RowM, r.Ok size ∧ p.2 = r.key ∧ ∀ b z l, r.deed = .ex b z l → z = x)
        ⟨k2.new nD, [], rfl, upd_same, fun _ z => (nomatch z)⟩ (fun t H' ht z => ?_) (fun H6 z => ?_)
      · obtain ⟨k, L, lL, eL, hL⟩ := z
        refine ⟨rfl, tYes_ite ⟨_, rfl, _, rfl, _, rfl, by show 1 ≤ sizeLine; decide, fun l1 n1 => ?_⟩⟩
        have k3 := k.new (o := .lst [.str x]) n1
        have l1d := ne_dice' k.dice n1
        refine ⟨_, rfl, d, 2, n + 2 + 4 * t, rfl, k3.dice, by omega, by decide, by decide, fun r2 o2 r20 r21 D4 => ?_⟩
        have k4 := k3.roll D4
        obtain ⟨j, rfl⟩ : ∃ j : Nat, r2 = j := ⟨r2.toNat, by omega⟩
        have e4 : upd (upd H' l1 (.lst [.str x])) d o2 l1 = some (.lst [.str x]) := by rw [upd_ne l1d]; exact upd_same
        refine ⟨l1, j, _, rfl, rfl, e4, by omega, by omega, ?_, fun l2 n2 => ?_⟩
        · rw [Int.toNat_natCast, sizeLine_eq]
          show 1 * j ≤ _
          omega
        rw [Int.toNat_natCast, rep_strs]
        have k5 := k4.new (o := .lst ((List.replicate j x).map V.str)) n2
        have l2d := ne_dice' k4.dice n2
        refine ⟨d, l2, size, n + 2 + 4 * t + 1, List.replicate j x, rfl, k5.dice, by omega, z0, by omega, l2d, SqL.of upd_same, by rw [List.length_replicate]; omega, fun y hy => by rw [(List.mem_replicate.mp hy).2]; exact wx, fun H5 pr r5 ds npr tps D5 okr ind kzr => ?_⟩
        have eL4 : upd (upd (upd H' l1 (.lst [.str x])) d o2) l2 (.lst ((List.replicate j x).map V.str)) D = some (.lst (L.map fun p => V.ref p.1)) := same_upd n2 _ _ (by rw [upd_ne Dd]; exact same_upd n1 _ _ eL)
        have eL5 := ds _ _ Dd eL4
        have tU : Tups H' (upd (upd (upd H' l1 (.lst [.str x])) d o2) l2 (.lst ((List.replicate j x).map V.str))) := ((tups_same (same_upd n1)).trans (tups_dice k3.dice)).trans (tups_same (same_upd n2))
        refine ⟨_, eL5, ?_, ((k5.then ds D5).put Dd nDH).more (by omega), L ++ [(pr, r5.key)], ?_, ?_, fun q hq => ?_⟩
        · rw [List.length_map, sizeLine_eq]
          omega
        · rw [List.length_append, lL]
          rfl
        · rw [upd_same, List.map_append]
          rfl
        · rcases List.mem_append.mp hq with z | z
          · exact ⟨kz_tups ((tU.trans tps).trans (tups_list eL5)) _ _ (hL q z).1, (hL q z).2⟩
          · rw [List.mem_singleton.mp z]
            exact ⟨kz_tups (tups_list eL5) _ _ kzr, r5, okr, rfl, fun b z l e => (List.mem_replicate.mp (ind b z l e)).2⟩
      · obtain ⟨k, L, lL, eL, hL⟩ := z
        exact ⟨_, D, L, rfl, k.more (by omega), eL, Dd, nDH, by omega, hL⟩
    rintro σ2 H2 ⟨u4, lr, L, rfl, k2, elr, lrd, nlr, lL, hL⟩
    refine ⟨_, rfl, _, rfl, d, 3, n + 30, rfl, k2.dice, by omega, by decide, by decide, fun r o r0 r1 D3 => ?_⟩
    have k3 := k2.roll D3
    obtain ⟨kk, rfl⟩ : ∃ kk : Nat, r = kk := ⟨r.toNat, by omega⟩
    refine ⟨(kk : Int), rfl, by omega, by omega, ?_⟩
    rw [Int.toNat_natCast]
    intro D nD
    have Dd := ne_dice' k3.dice nD
    have nDH := k3.free nD
    have elr3 : upd H2 d o lr = some (.lst (L.map fun p => V.ref p.1)) := by rw [upd_ne lrd]; exact elr
    have lrD : lr ≠ D := ne_of_none elr3 nD
    refine lc_range (lo := 0) (n := kk) (fun t H' => DD H d (n + 31 + t) H' ∧ Tups H2 H' ∧ H' lr = some (.lst (L.map fun p => V.ref p.1)) ∧ ∃ fs : List Int, fs.length = t ∧ H' D = some (.lst (fs.map V.int)) ∧ ∀ k ∈ fs, 0 ≤ k ∧ k < size)
      ⟨k3.new nD, (tups_dice k2.dice).trans (tups_same (same_upd nD)), by rw [upd_ne lrD]; exact elr3, [], rfl, upd_same, fun _ z => (nomatch z)⟩ (fun t H' ht z => ?_) (fun H6 z => ?_)
    · obtain ⟨k, tu, el, fs, lf, ef, hf⟩ := z
      refine ⟨rfl, tYes_ite ⟨_, rfl, _, rfl, d, size, n + 31 + t, rfl, k.dice, by omega, by omega, by omega, fun r2 o2 r20 r21 D4 => ?_⟩⟩
      have k4 := k.roll D4
      have ef4 : upd H' d o2 D = some (.lst (fs.map V.int)) := by rw [upd_ne Dd]; exact ef
      refine ⟨_, ef4, ?_, (k4.put Dd nDH).more (by omega), (tu.trans (tups_dice k.dice)).trans (tups_list ef4), by rw [upd_ne lrD, upd_ne lrd]; exact el, fs ++ [r2], ?_, ?_, fun z hz => ?_⟩
      · rw [List.length_map, sizeLine_eq]
        omega
      · rw [List.length_append, lf]
        rfl
      · rw [upd_same, List.map_append]
        rfl
      · rcases List.mem_append.mp hz with y | y
        · exact hf z y
        · rw [List.mem_singleton.mp y]
          exact ⟨r20, r21⟩
    · obtain ⟨k, tu, el, fs, lf, ef, hf⟩ := z
      refine ⟨_, rfl, D, lr, size, fs, L, rfl, z0, by omega, SqL.of ef, by omega, hf, SqL.of el, by omega, fun p hp => ⟨kz_tups tu _ _ (hL p hp).1, let ⟨r, okr, e, _⟩ := (hL p hp).2; ⟨r, okr, e⟩⟩, fun H' p m s' np em rl okm rows km => ?_⟩
      refine q H' p m ((k.same s').more (by omega)) (k.free np) okm (by omega) (fun r hr' b z l e => ?_) km
      obtain ⟨p', hp', e'⟩ := rows r hr'
      obtain ⟨r', _, e2, ind⟩ := (hL p' hp').2
      have er : r' = r := row_inj (e2.symm.trans e')
      exact ind b z l (er ▸ e)
end
end K55
/-! _law_any. -/
namespace K55
open PySem PySem.Spec PyProof.Rows L2 WD NS MC GL
open C8 (pss_cut tCut)
abbrev sAny : Stmt := topS 78
abbrev nAny : List Str := ["_law_dice_here", "_law_net", "_law_states", "_law_queues", "_law_name", "_law_machine", "_law_pair", "_law_turn"]
theorem scAny : FnScope nAny ["_law_dice_here", "_law_net"] (defScope sAny) := ⟨rfl, rfl, rfl, by decide +kernel, rfl, by decide +kernel, by decide +kernel⟩
def spAny : Sp := fun vs H Q _ => ∃ (d a : Addr) (n : Nat) (N : NetM), vs = [.ref d, .ref a] ∧ Dice H d n ∧ n ≤ 900000 ∧ Kz H (.ref a) N.key ∧ N.Ok ∧
  ∀ H' p (c : CfgM), DD H d (n + 300) H' → H p = none → c.Ok N → Kz H' (.ref p) c.key → Q (.ref p) H'
theorem wd_xyz {v : V} (h : v ∈ [V.str "x", V.str "y", V.str "zz"]) : ∃ x, v = .str x ∧ Wd x := by
  have wd : ∀ x : Str, (x.cps.toList.all fun c => decide (97 ≤ c ∧ c ≤ 122)) = true → 0 < x.length → x.length ≤ 8 → Wd x := fun x a b c => ⟨fun c hc => by
    rw [List.all_eq_true] at a
    exact of_decide_eq_true (a c hc), b, c⟩
  simp only [List.mem_cons, List.not_mem_nil, or_false] at h
  rcases h with rfl | rfl | rfl
  · exact ⟨_, rfl, wd _ (by decide +kernel) (by decide +kernel) (by decide +kernel)⟩
  · exact ⟨_, rfl, wd _ (by decide +kernel) (by decide +kernel) (by decide +kernel)⟩
  · exact ⟨_, rfl, wd _ (by decide +kernel) (by decide +kernel) (by decide +kernel)⟩
abbrev QAt (H : Hp) (T : List (Addr × List Str)) : Prop := ∀ p ∈ T, H p.1 = some (.tup (p.2.map V.str)) ∧ ∀ x ∈ p.2, Wd x
theorem QAt.tups {H H' : Hp} {T : List (Addr × List Str)} (h : QAt H T) (s : Tups H H') : QAt H' T := fun p hp => ⟨s _ _ (h p hp).1, (h p hp).2⟩
section
variable {P : Program} {w : World} {K : PySem.W.Frag} {mg : Str → Option Value} {base : Heap} {fR fO fC : Addr} {dR dO dC : FuncData}
theorem ok_Any {f : Addr} {fd : FuncData} {k : Nat} (F : Fun K "_law_any" "_law_any" sAny f fd) (W : TxtR K mg fR fO dR dO) (TD : TxtD mg) (TS : TxtS mg) (range : mg "range" = none) (C : TxtLC K mg fC dC) : FnOk P w K mg base CX0 (k + 3) f fd ["_law_dice_here", "_law_net"] spAny := by
  have GR : FnOk P w K mg base CX0 (k + 1) fR dR ["_law_dice_here", "_law_total"] spRoll := ok_roll W.R
  have GO : FnOk P w K mg base CX0 (k + 2) fO dO ["_law_dice_here", "_law_items"] spOneOf := ok_oneOf W.O W.R W.bR W.gR TD
  have GC : FnOk P w K mg base CX0 (k + 1) fC dC ["_law_net"] spLCh := ok_LCh C.F TS
  refine F.ok scAny (fun vs H Q E h => ?_) (fun cdv A outer s H vs Q E hr h => ?_)
  · obtain ⟨d, a, n, N, rfl, _⟩ := h
    rfl
  · obtain ⟨d, a, n, N, rfl, D0, hn, hN, ok, q⟩ := h
    have hr1 : Room (k + 1) _ := hr.mono (by omega)
    refine ⟨_, pss_cut (ps_set (i := 2) scAny.nd rfl (.inl rfl) (pe_callTy call_tuple_of (by rfl) TS.tuple (by decide +kernel) (pa_cons
          (pe_lc (own := [("_law_name", 4), ("_law_machine", 5)]) (g := gTup K 2 (gCons (gName 4) (gCons (gName 5) gNil))) (tt := tYes) (te := tCall spRoll [] C8.E0 (tCons (tVar 0) (tCons (tOp (rIxT K) (tVar 5) (tC (.int 0))) tNil))) rfl scAny.nd
            (pi_tup (pe_ix ix_tup (pv 1) pe_int (fun _ _ => rfl))) (blkOk_by (own := [("_law_name", 4), ("_law_machine", 5)]) (N := nAny) (sc := defScope sAny) (by decide +kernel))
            (fun _ _ _ _ _ => pg_tup rfl (pgs_cons (pg_name (i := 4) scAny.nd rfl (.inl rfl)) (pgs_cons (pg_name (i := 5) scAny.nd rfl (.inl rfl)) pgs_nil)))
            (fun _ _ _ _ _ => pts_nil)
            (fun _ _ _ _ _ => pe_call GR hr1 (by rfl) W.gR W.R.kp W.bR .nil pass0 (pa_cons (pv 0) (pa_cons (pe_ix (show IxR _ (rIxT K) from ix_tup) (pv 5) pe_int (fun _ _ => rfl)) pa_nil)))) pa_nil)))
      (pss_cut (ps_set (i := 3) scAny.nd rfl (.inl rfl) (pe_lst pa_nil))
      (pss_cut (ps_for PassesOwn.never rfl (pi_list (pe_call GC hr1 (by rfl) C.g C.F.kp C.b .nil pass0 (pa_cons (pv 1) pa_nil))) (pg_name (i := 6) scAny.nd rfl (.inl rfl))
        (pss_one (ps_expr (pe_bm PySem.F.plainAttrs_list PySem.F.slot_list_append PySem.F.type_list_append mt_append (pv 3) (pa_cons (pe_callTy call_tuple_of (by rfl) TS.tuple (by decide +kernel) (pa_cons
          (pe_lc (own := [("_law_turn", 7)]) (g := gName 7) (tt := tYes) (te := tCall spOneOf [] C8.E0 (tCons (tVar 0) (tCons (tLst (tCons (tC (.str "x")) (tCons (tC (.str "y")) (tCons (tC (.str "zz")) tNil)))) tNil))) rfl scAny.nd
            (pi_range1 rfl range (pa_cons (pe_call GR hr1 (by rfl) W.gR W.R.kp W.bR .nil pass0 (pa_cons (pv 0) (pa_cons pe_int pa_nil))) pa_nil)) (blkOk_by (own := [("_law_turn", 7)]) (N := nAny) (sc := defScope sAny) (by decide +kernel))
            (fun _ _ _ _ _ => pg_name (i := 7) scAny.nd rfl (.inl rfl)) (fun _ _ _ _ _ => pts_nil)
            (fun _ _ _ _ _ => pe_call GO hr (by rfl) W.gO W.O.kp W.bO .nil pass0 (pa_cons (pv 0) (pa_cons (pe_lst (pa_cons pe_str (pa_cons pe_str (pa_cons pe_str pa_nil)))) pa_nil)))) pa_nil)) pa_nil)))))
      (pss_one (ps_ret (pe_tup (pa_cons (pv 2) (pa_cons (pe_callTy call_tuple_of (by rfl) TS.tuple (by decide +kernel) (pa_cons (pv 3) pa_nil)) pa_nil))))))), ?_⟩
    obtain ⟨M⟩ := net_at hN
    obtain ⟨R, eR, mR, kR⟩ := pr_of M.all
    have eA : H M.A = some (.tup (R.map fun p => V.ref p.1)) := eR ▸ M.ea
    have n6 := ok.n6
    have lf := ok.lf
    have lR : R.length = N.ms.length := by rw [← mR, List.length_map]
    -- the states
    refine ⟨fun σ' H' => ∃ (ps : Addr) (zs : List Int), σ' = [some (.ref d), some (.ref a), some (.ref ps), none, none, none, none, none] ∧ DD H d (n + 6) H' ∧ H' ps = some (.tup (zs.map V.int)) ∧ zs.length = N.ms.length ∧ (∀ (i : Nat) (p : Str × MachM) (z : Int), N.ms[i]? = some p → zs[i]? = some z → 0 ≤ z ∧ z < p.2.size), ?_, ?_⟩
    · refine ⟨_, rfl, a, _, 0, .ref M.A, rfl, rfl, SqT.of M.top, atI_nat (j := 0) rfl, M.A, rfl, ⟨_, SqT.of eA⟩, fun D nD => ?_⟩
      have Dd := ne_dice' D0 nD
      refine lc_tup (xs := R.map fun p => V.ref p.1) (fun i H' => DD H d (n + i) H' ∧ ∃ zs : List Int, zs.length = i ∧ H' D = some (.lst (zs.map V.int)) ∧ (∀ (j : Nat) (p : Str × MachM) (z : Int), N.ms[j]? = some p → zs[j]? = some z → 0 ≤ z ∧ z < p.2.size)) ⟨(DD.refl D0).new nD, [], rfl, upd_same, fun j p z _ h => by simp at h⟩ (fun i H' _ z => SqT.of (ds_tups D0 z.1.ds _ _ eA)) ?_ ?_
      · rintro i v H2 hv ⟨k2, zs, lz, e2, hz⟩
        rw [List.getElem?_map] at hv
        obtain ⟨r, hr', rfl⟩ := Option.map_eq_some_iff.mp hv
        have il := (List.getElem?_eq_some_iff.mp hr').1
        have mr := List.mem_of_getElem? hr'
        have hp : N.ms[i]? = some r.2.2 := by rw [← mR, List.getElem?_map, hr']; rfl
        have okm := (ok.wd _ (List.mem_of_getElem? hp)).2
        obtain ⟨MM⟩ := mach_at (kR r mr).2
        have tu := ds_tups D0 k2.ds
        refine ⟨r.1, _, rfl, SqT.of (tu _ _ (kR r mr).1), rfl, _, _, rfl, _, _, rfl, rfl, rfl, tYes_ite ⟨_, rfl, _, rfl, r.2.1, _, 0, .int r.2.2.2.size, rfl, rfl, SqT.of (tu _ _ MM.top), atI_nat (j := 0) rfl, d, r.2.2.2.size, n + i, rfl, k2.dice, by omega, ?_, ?_, fun z o z0 z1 D3 => ?_⟩⟩
        · have := okm.s0
          omega
        · have := okm.s1
          omega
        · have e3 : upd H2 d o D = some (.lst (zs.map V.int)) := by rw [upd_ne Dd]; exact e2
          refine ⟨_, e3, ?_, ((k2.roll D3).put Dd nD).more (by omega), zs ++ [z], ?_, ?_, fun j p y hj hy => ?_⟩
          · rw [List.length_map, sizeLine_eq]
            omega
          · rw [List.length_append, lz]
            rfl
          · rw [upd_same, List.map_append]
            rfl
          · by_cases c : j < zs.length
            · rw [List.getElem?_append_left c] at hy
              exact hz j p y hj hy
            · rw [List.getElem?_append_right (by omega)] at hy
              have ej : j = i := by
                have z := (List.getElem?_eq_some_iff.mp hy).1
                simp only [List.length_cons, List.length_nil] at z
                omega
              subst ej
              rw [hp] at hj
              cases hj
              rw [lz, Nat.sub_self] at hy
              cases hy
              exact ⟨z0, z1⟩
      · rintro H2 ⟨k2, zs, lz, e2, hz⟩
        rw [List.length_map] at k2 lz
        refine ⟨D, _, rfl, .inl ⟨SqL.of e2, fun p np => ⟨p, zs, rfl, (k2.new np).more (by omega), upd_same, by omega, hz⟩⟩⟩
    rintro σ1 H1 ⟨ps, zs, rfl, k1, eps, lz, hz⟩
    have psd : ps ≠ d := fun z => by
      obtain ⟨g, y, c, ed, _⟩ := k1.dice
      rw [z, ed] at eps
      exact nomatch eps
    refine ⟨fun σ' H' => ∃ D, σ' = [some (.ref d), some (.ref a), some (.ref ps), some (.ref D), none, none, none, none] ∧ H1 D = none ∧ D ≠ d ∧ DD H d (n + 6) H' ∧ Tups H1 H' ∧ H' D = some (.lst []), ?_, ?_⟩
    · exact ⟨Nat.zero_le _, fun D nD => ⟨D, rfl, nD, ne_dice' k1.dice nD, k1.new nD, tups_same (same_upd nD), upd_same⟩⟩
    rintro σ2 H2 ⟨D, rfl, nD, Dd, k2, t2, eD⟩
    have nDH := k1.free nD
    refine ⟨fun σ' H' => ∃ (u6 : Option V) (T : List (Addr × List Str)), σ' = [some (.ref d), some (.ref a), some (.ref ps), some (.ref D), none, none, u6, none] ∧ DD H d (n + 6 + 4 * (2 * N.ls.length)) H' ∧ Tups H1 H' ∧ H' D = some (.lst (T.map fun p => V.ref p.1)) ∧ QAt H' T ∧ T.length = 2 * N.ls.length, ?_, ?_⟩
    · refine ⟨_, rfl, a, N, rfl, k2.kz D0 hN, ok.lf, fun H3 p U s3 np eU kU ch => ⟨p, rfl, ⟨_, SqL.of eU⟩, ?_⟩⟩
      have lU : U.length = 2 * N.ls.length := by
        have z := ch.len
        rw [List.length_map] at z
        exact z
      have pd : p ≠ d := ne_dice' k2.dice np
      have pD : p ≠ D := (ne_of_none eD np).symm
      refine for_list (xs := U.map fun p => V.ref p.1) (fun i σ' H' => ∃ (u6 : Option V) (T : List (Addr × List Str)), σ' = [some (.ref d), some (.ref a), some (.ref ps), some (.ref D), none, none, u6, none] ∧ DD H d (n + 6 + 4 * i) H' ∧ Tups H1 H' ∧ H' D = some (.lst (T.map fun p => V.ref p.1)) ∧ QAt H' T ∧ T.length = i ∧ H' p = some (.lst (U.map fun p => V.ref p.1))) ⟨none, [], rfl, k2.same s3, t2.trans (tups_same s3), s3 _ _ eD, (fun _ z => nomatch z), rfl, eU⟩ ?_ ?_ ?_
      · rintro i σ' H' _ ⟨_, _, _, _, _, _, _, _, e⟩
        exact SqL.of e
      · rintro i v σ' H4 hv ⟨u6, T, rfl, k4, t4, e4, kT, lT, ep⟩
        have il := (List.getElem?_eq_some_iff.mp hv).1
        rw [List.length_map] at il
        refine ⟨_, rfl, .inl ⟨rfl, _, SqL.of e4⟩, _, rfl, d, 4, n + 6 + 4 * i, rfl, k4.dice, by omega, by decide, by decide, fun r o r0 r1 D5 => ?_⟩
        have k5 := k4.roll D5
        obtain ⟨kk, rfl⟩ : ∃ kk : Nat, r = kk := ⟨r.toNat, by omega⟩
        refine ⟨(kk : Int), rfl, by omega, by omega, ?_⟩
        rw [Int.toNat_natCast]
        intro B nB
        have Bd := ne_dice' k5.dice nB
        have nBH := k5.free nB
        have e5 : upd H4 d o D = some (.lst (T.map fun p => V.ref p.1)) := by rw [upd_ne Dd]; exact e4
        have ep5 : upd H4 d o p = some (.lst (U.map fun p => V.ref p.1)) := by rw [upd_ne pd]; exact ep
        have DB : D ≠ B := ne_of_none e5 nB
        have pB : p ≠ B := ne_of_none ep5 nB
        have t5 : Tups H4 (upd H4 d o) := tups_dice k4.dice
        refine lc_range (lo := 0) (n := kk) (fun t H' => DD H d (n + 6 + 4 * i + 1 + t) H' ∧ Tups H4 H' ∧ H' D = some (.lst (T.map fun p => V.ref p.1)) ∧ H' p = some (.lst (U.map fun p => V.ref p.1)) ∧ ∃ ws : List Str, ws.length = t ∧ H' B = some (.lst (ws.map V.str)) ∧ ∀ x ∈ ws, Wd x)
          ⟨k5.new nB, t5.trans (tups_same (same_upd nB)), by rw [upd_ne DB]; exact e5, by rw [upd_ne pB]; exact ep5, [], rfl, upd_same, fun _ z => (nomatch z)⟩ (fun t H' ht z => ?_) (fun H6 z => ?_)
        · obtain ⟨k6, t6, e6, ep6, ws, lw, eB, hw⟩ := z
          refine ⟨rfl, tYes_ite ⟨_, rfl, by show 3 ≤ sizeLine; decide, fun l nl => ?_⟩⟩
          have kl := same_upd (o := .lst [.str "x", .str "y", .str "zz"]) nl
          have ld := ne_dice' k6.dice nl
          have k7 := k6.new (o := .lst [.str "x", .str "y", .str "zz"]) nl
          refine ⟨d, l, _, _, rfl, k7.dice, by omega, upd_same, ld, by decide, by decide, fun v o2 hv2 D8 => ?_⟩
          have k8 := k7.roll D8
          obtain ⟨x, rfl, wx⟩ := wd_xyz hv2
          have eB8 : upd (upd H' l (.lst [.str "x", .str "y", .str "zz"])) d o2 B = some (.lst (ws.map V.str)) := by rw [upd_ne Bd]; exact kl _ _ eB
          refine ⟨_, eB8, ?_, (k8.put Bd nBH).more (by omega), ((t6.trans (tups_same kl)).trans (tups_dice k7.dice)).trans (tups_list eB8), ?_, ?_, ws ++ [x], ?_, ?_, fun y hy => ?_⟩
          · rw [List.length_map, sizeLine_eq]
            omega
          · rw [upd_ne DB, upd_ne Dd]
            exact kl _ _ e6
          · rw [upd_ne pB, upd_ne pd]
            exact kl _ _ ep6
          · rw [List.length_append, lw]
            rfl
          · rw [upd_same, List.map_append]
            rfl
          · rcases List.mem_append.mp hy with z | z
            · exact hw y z
            · rw [List.mem_singleton.mp z]
              exact wx
        · obtain ⟨k6, t6, e6, ep6, ws, lw, eB, hw⟩ := z
          refine ⟨B, _, rfl, .inl ⟨SqL.of eB, fun t nt => ?_⟩⟩
          have kt := same_upd (o := .tup (ws.map V.str)) nt
          have e7 := kt _ _ e6
          refine ⟨D, _, .ref t, rfl, rfl, e7, ?_, ?_⟩
          · rw [List.length_map, sizeLine_eq]
            omega
          refine ⟨_, T ++ [(t, ws)], rfl, ((k6.new nt).put Dd nDH).more (by omega), ((t4.trans t6).trans (tups_same kt)).trans (tups_list e7), ?_, ?_, ?_, ?_⟩
          · rw [upd_same, List.map_append]
            rfl
          · intro z hz
            rcases List.mem_append.mp hz with y | y
            · exact ((kT.tups (t6.trans (tups_same kt))).tups (tups_list e7)) z y
            · rw [List.mem_singleton.mp y]
              exact ⟨tups_list e7 _ _ upd_same, hw⟩
          · rw [List.length_append, lT]
            rfl
          · rw [upd_ne pD]
            exact kt _ _ ep6
      · rintro σ' H4 ⟨u6, T, rfl, k4, t4, e4, kT, lT, ep⟩
        rw [List.length_map, lU] at k4 lT
        exact ⟨u6, T, rfl, k4, t4, e4, kT, lT⟩
    rintro σ3 H3 ⟨u6, T, rfl, k3, t3, e3, kT, lT⟩
    refine ⟨_, rfl, _, rfl, D, _, rfl, .inl ⟨SqL.of e3, fun p np => ⟨by show 2 ≤ sizeLine; decide, fun r nr => ?_⟩⟩⟩
    have kp := same_upd (o := .tup (T.map fun p => V.ref p.1)) np
    have kr := same_upd (o := .tup [.ref ps, .ref p]) nr
    refine q _ r ⟨zs, T.map (·.2)⟩ (((k3.new np).new nr).more (by omega)) ((k3.new np).free nr) ⟨lz, hz, by rw [List.length_map]; exact lT, fun x hx => ?_⟩ ?_
    · obtain ⟨t, ht, rfl⟩ := List.mem_map.mp hx
      exact (kT t ht).2
    · exact .tup upd_same (.cons (.tup ((kp.trans kr) _ _ (t3 _ _ eps)) (kz_ints _)) (.cons (.tup (kr _ _ upd_same) (kz_queues fun t ht => (kp.trans kr) _ _ (kT t ht).1)) .nil))
end
end K55
/-! Named machines in order; networks from drawn parts. -/
namespace K55
open PySem PySem.Spec PyProof.Rows L2 WD NS MC GL
open C8 (pss_cut tCut)
theorem alike_ints : ∀ ns ms : List Int, PySem.W.alikeAll (ns.map PyData.int) (ms.map PyData.int) = true
  | [], [] => rfl
  | [], _ :: _ => by simp only [List.map_cons, List.map_nil, PySem.W.alikeAll]
  | _ :: _, [] => by simp only [List.map_cons, List.map_nil, PySem.W.alikeAll]
  | n :: ns, m :: ms => by
    simp only [List.map_cons, PySem.W.alikeAll, PySem.W.alike, alike_ints ns ms]
    rfl
theorem alike_rowsM : ∀ rs ss : List RowM, PySem.W.alikeAll (NestedKey.datas (rs.map RowM.key)) (NestedKey.datas (ss.map RowM.key)) = true
  | [], [] => rfl
  | [], _ :: _ => by simp only [List.map_cons, List.map_nil, NestedKey.datas, PySem.W.alikeAll]
  | _ :: _, [] => by simp only [List.map_cons, List.map_nil, NestedKey.datas, PySem.W.alikeAll]
  | r :: rs, s :: ss => by
    simp only [List.map_cons, NestedKey.datas, PySem.W.alikeAll, row_alike r s, alike_rowsM rs ss]
    rfl
theorem pair_alike (a b : Str × MachM) : PySem.W.alike (pairKey a).data (pairKey b).data = true := by
  show PySem.W.alike (.tuple [.str a.1, .tuple [.int a.2.size, .tuple (NestedKey.datas (a.2.finals.map .num)), .tuple (NestedKey.datas (a.2.rows.map RowM.key))]]) (.tuple [.str b.1, .tuple [.int b.2.size, .tuple (NestedKey.datas (b.2.finals.map .num)), .tuple (NestedKey.datas (b.2.rows.map RowM.key))]]) = true
  simp only [PySem.W.alike, PySem.W.alikeAll, datas_ints, alike_ints, alike_rowsM, Bool.and_self]
theorem pair_depth {p : Str × MachM} (ok : p.2.Ok) : (pairKey p).depth ≤ 8 := by
  rw [← NS.depth_data]
  have h := (can_rows p.2.rows ok.r1).2
  show PyData.depth (.tuple [.str p.1, .tuple [.int p.2.size, .tuple (NestedKey.datas (p.2.finals.map .num)), .tuple (NestedKey.datas (p.2.rows.map RowM.key))]]) ≤ 8
  rw [datas_ints]
  simp only [PyData.depth, PyData.depthAll, depth_ints]
  omega
theorem pair_toks (p : Str × MachM) : ∃ X, PySem.W.keyToks (pairKey p).data = .inl 1 :: .inr p.1.cps.toList :: X := by
  refine ⟨PySem.W.keyToksAll [p.2.key.data], ?_⟩
  show PySem.W.keyToks (.tuple [.str p.1, p.2.key.data]) = _
  rw [PySem.W.keyToks, PySem.W.keyToksAll, PySem.W.keyToks]
  rfl
theorem pair_lt {a b : Str × MachM} (h : sLt a.1 b.1) : PySem.W.dataLt (pairKey a).data (pairKey b).data = true := by
  obtain ⟨X, ea⟩ := pair_toks a
  obtain ⟨Y, eb⟩ := pair_toks b
  show PyProof.Rows.lexLt itemOrd (PySem.W.keyToks (pairKey a).data) (PySem.W.keyToks (pairKey b).data) = true
  rw [ea, eb]
  show (itemLt (.inl 1) (.inl 1) || !itemLt (.inl 1) (.inl 1) && (itemLt (.inr a.1.cps.toList) (.inr b.1.cps.toList) || _)) = true
  have e : itemLt (.inr a.1.cps.toList) (.inr b.1.cps.toList) = true := by
    have z := text_lt a.1 b.1
    have y : (itemLt (.inr a.1.cps.toList) (.inr b.1.cps.toList) || !itemLt (.inr b.1.cps.toList) (.inr a.1.cps.toList) && false) = decide (sLt a.1 b.1) := z
    rw [Bool.and_false, Bool.or_false] at y
    rw [y]
    exact decide_eq_true h
  rw [e]
  rfl
/-- pairs that stand sorted, with names that differ, stand by their names -/
theorem asc_pairs {L : List (Str × MachM)} (le : L.Pairwise fun a b => PySem.W.dataLt (pairKey b).data (pairKey a).data = false) (nd : (L.map (·.1)).Nodup) : (L.map (·.1)).Pairwise sLt := by
  rw [List.pairwise_map]
  have n2 : L.Pairwise fun a b => a.1 ≠ b.1 := List.pairwise_map.mp nd
  refine (le.and n2).imp fun {a b} z => ?_
  by_cases c : sLt a.1 b.1
  · exact c
  · have d := pair_lt (sLt_total z.2 c)
    rw [z.1] at d
    exact nomatch d
/-- pairs at their addresses -/
abbrev PkAt (H : Hp) (L : List (Addr × (Str × MachM))) : Prop := ∀ p ∈ L, Kz H (.ref p.1) (pairKey p.2)
abbrev asPair (L : List (Addr × (Str × MachM))) : List NS.Row := L.map fun p => (p.1, pairKey p.2)
theorem asPair_refs (L : List (Addr × (Str × MachM))) : (asPair L).map (fun p => V.ref p.1) = L.map fun p => V.ref p.1 := by
  rw [asPair, List.map_map]
  rfl
theorem alike_pairs {L : List (Addr × (Str × MachM))} : PySem.W.AllAlike ((asPair L).map fun p => p.2.data) := by
  intro d hd e he
  obtain ⟨p, hp, rfl⟩ := List.mem_map.mp hd
  obtain ⟨q, hq, rfl⟩ := List.mem_map.mp he
  obtain ⟨x, _, rfl⟩ := List.mem_map.mp hp
  obtain ⟨y, _, rfl⟩ := List.mem_map.mp hq
  exact pair_alike x.2 y.2
theorem sortable_pairs {L : List (Addr × (Str × MachM))} : PySem.W.Sortable ((asPair L).map fun p => p.2.data) := by
  refine .inl fun d hd => ?_
  obtain ⟨p, hp, rfl⟩ := List.mem_map.mp hd
  obtain ⟨x, _, rfl⟩ := List.mem_map.mp hp
  exact ⟨.str x.2.1, [x.2.2.key.data], rfl⟩
theorem pairs_of {H : Hp} {L : List (Addr × (Str × MachM))} (kL : PkAt H L) (ok : ∀ p ∈ L, p.2.2.Ok) : ∀ p ∈ asPair L, Kz H (.ref p.1) p.2 ∧ p.2.depth ≤ 8 := fun p hp => by
  obtain ⟨x, hx, rfl⟩ := List.mem_map.mp hp
  exact ⟨kL x hx, pair_depth (ok x hx)⟩
theorem sorted_pairs {L : List (Addr × (Str × MachM))} {L1 : List NS.Row} (pm : L1.Perm (asPair L)) (pw : L1.Pairwise (fun x y => NS.rowLe x y = true)) : ∃ U : List (Addr × (Str × MachM)), L1.map (fun r => V.ref r.1) = U.map (fun p => V.ref p.1) ∧ U.Perm L ∧ (U.map (·.2)).Pairwise fun a b => PySem.W.dataLt (pairKey b).data (pairKey a).data = false := by
  obtain ⟨U, rfl, pU⟩ := perm_map_inv pm
  refine ⟨U, asPair_refs U, pU, ?_⟩
  rw [List.pairwise_map] at pw ⊢
  refine pw.imp fun {a b} q => ?_
  have q' : (!PySem.W.dataLt (pairKey b.2).data (pairKey a.2).data) = true := q
  simpa using q'
theorem kz_pairs {H : Hp} : ∀ {L : List (Addr × (Str × MachM))}, PkAt H L → KzAll H (L.map fun p => V.ref p.1) ((L.map (·.2)).map pairKey)
  | [], _ => .nil
  | p :: L, h => .cons (h p List.mem_cons_self) (kz_pairs fun q hq => h q (List.mem_cons_of_mem _ hq))
theorem PkAt.tups {H H' : Hp} {L : List (Addr × (Str × MachM))} (h : PkAt H L) (s : Tups H H') : PkAt H' L := fun p hp => kz_tups s _ _ (h p hp)
/-- sorted links, each once, ascend strictly -/
theorem strict_links {l : List (Str × Str)} (le : l.Pairwise linkLe) (nd : l.Nodup) : l.Pairwise linkLt := (le.and nd).imp fun {a b} z => linkLt_of z.2 z.1
end K55
/-! _law_wild. -/
namespace K55
open PySem PySem.Spec PyProof.Rows L2 WD NS MC GL
open C8 (pss_cut tCut)
abbrev sWl : Stmt := topS 66
abbrev nWl : List Str := ["_law_dice_here", "_law_names", "_law_links_here", "_law_found", "_law_name", "_law_size", "_law_others", "_law_rows", "_law_turn"]
theorem scWl : FnScope nWl ["_law_dice_here", "_law_names"] (defScope sWl) := ⟨rfl, rfl, rfl, by decide +kernel, rfl, by decide +kernel, by decide +kernel⟩
def spWl : Sp := fun vs H Q _ => ∃ (d l : Addr) (n : Nat) (ws : List Str), vs = [.ref d, .ref l] ∧ Dice H d n ∧ n ≤ 800000 ∧ l ≠ d ∧ H l = some (.lst (ws.map V.str)) ∧ ws ≠ [] ∧ ws.length ≤ 6 ∧ ws.Nodup ∧ (∀ x ∈ ws, Wd x) ∧
  ∀ H' p (N : NetM), DD H d (n + 200) H' → H p = none → N.Ok → N.ms.length = ws.length → Kz H' (.ref p) N.key → Q (.ref p) H'
structure TxtWl (K : PySem.W.Frag) (mg : Str → Option Value) (fTr fLs fLk : Addr) (dTr dLs dLk : FuncData) : Prop where
  T : Fun K "_law_tree" "_law_tree" sTree fTr dTr
  bT : L2.Binds K dTr ["_law_dice_here", "_law_names"] []
  gT : mg "_law_tree" = some (.ref fTr)
  L : Fun K "_law_links" "_law_links" sLks fLs dLs
  bL : L2.Binds K dLs ["_law_parents"] []
  gL : mg "_law_links" = some (.ref fLs)
/-- a drawn machine at a name -/
abbrev MkOk (ls : List (Str × Str)) (p : Str × MachM) : Prop := p.2.Ok ∧ ∀ r ∈ p.2.rows, ∀ b x l, r.deed = .ex b x l → Linked ls p.1 x
section
variable {P : Program} {w : World} {K : PySem.W.Frag} {mg : Str → Option Value} {base : Heap} {fR fO fE fP fTr fLs fLk : Addr} {dR dO dE dP dTr dLs dLk : FuncData}
theorem ok_Wl {f : Addr} {fd : FuncData} (F : Fun K "_law_wild" "_law_wild" sWl f fd) (W : TxtR K mg fR fO dR dO) (TD : TxtD mg) (TS : TxtS mg) (MM : TxtMm mg) (T : TxtMk K mg fE fP dE dP) (TW : TxtWl K mg fTr fLs fLk dTr dLs dLk) (TL : TxtLk K mg fLk dLk) : FnOk P w K mg base CX0 4 f fd ["_law_dice_here", "_law_names"] spWl := by
  have GR : FnOk P w K mg base CX0 1 fR dR ["_law_dice_here", "_law_total"] spRoll := ok_roll W.R
  have GE : FnOk P w K mg base CX0 3 fE dE ["_law_dice_here", "_law_size", "_law_others"] (spRowL K) := ok_RowL T.E W TD
  have GP : FnOk P w K mg base CX0 1 fP dP nMd (spMade K) := ok_Made T.P TS
  have GT : FnOk P w K mg base CX0 2 fTr dTr ["_law_dice_here", "_law_names"] spTree := ok_Tree TW.T W TD
  have GS : FnOk P w K mg base CX0 1 fLs dLs ["_law_parents"] spLks := ok_Lks TW.L TS MM
  have GK : FnOk P w K mg base CX0 1 fLk dLk ["_law_links_here", "_law_name"] spLkd := ok_Lkd TL.F
  refine F.ok scWl (fun vs H Q E h => ?_) (fun cdv A outer s H vs Q E hr h => ?_)
  · obtain ⟨d, l, n, ws, rfl, _⟩ := h
    rfl
  · obtain ⟨d, l, n, ws, rfl, D0, hn, ld, el, ne, l6, once, wd, q⟩ := h
    have hu := hr.units
    have hr1 : Room 1 _ := hr.mono (by decide)
    have hr2 : Room 2 _ := hr.mono (by decide)
    refine ⟨_, pss_cut (ps_par (i := 2) (j := 3) (by rfl) scWl.nd rfl rfl (by decide) rfl rfl (pa_cons (pe_call GS hr1 (by rfl) TW.gL TW.L.kp TW.bL .nil pass0 (pa_cons (pe_call GT hr2 (by rfl) TW.gT TW.T.kp TW.bT .nil pass0 (pa_cons (pv 0) (pa_cons (pv 1) pa_nil))) pa_nil)) (pa_cons (pe_lst pa_nil) pa_nil)) (by rfl))
      (pss_cut (ps_for PassesOwn.never rfl (pi_list (pv 1)) (pg_name (i := 4) scWl.nd rfl (.inl rfl))
        (pss_cut (ps_asg (pe_tup (pa_cons (pe_op op_add pe_int (pe_call GR hr1 (by rfl) W.gR W.R.kp W.bR .nil pass0 (pa_cons (pv 0) (pa_cons pe_int pa_nil)))) (pa_cons (pe_call GK hr1 (by rfl) TL.g TL.F.kp TL.b .nil pass0 (pa_cons (pv 2) (pa_cons (pv 4) pa_nil))) pa_nil)))
            (pg_tup rfl (pgs_cons (pg_name (i := 5) scWl.nd rfl (.inr rfl)) (pgs_cons (pg_name (i := 6) scWl.nd rfl (.inr rfl)) pgs_nil))))
        (pss_cut (ps_setLc (i := 7) (own := [("_law_turn", 8)]) (g := gName 8) (tt := tYes) (te := tCall (spRowL K) [] C8.E0 (tCons (tVar 0) (tCons (tVar 5) (tCons (tVar 6) tNil)))) rfl scWl.nd rfl rfl (sw_true rfl rfl rfl (by decide +kernel))
            (pi_range1 rfl T.range (pa_cons (pe_op op_add pe_int (pe_call GR hr1 (by rfl) W.gR W.R.kp W.bR .nil pass0 (pa_cons (pv 0) (pa_cons pe_int pa_nil)))) pa_nil)) (blkOk_by (own := [("_law_turn", 8)]) (N := nWl) (sc := defScope sWl) (by decide +kernel))
            (fun _ _ _ _ _ => pg_name (i := 8) scWl.nd rfl (.inl rfl)) (fun _ _ _ _ _ => pts_nil)
            (fun _ _ _ _ _ => pe_call GE hr (by rfl) T.gE T.E.kp T.bE .nil pass0 (pa_cons (pv 0) (pa_cons (pv 5) (pa_cons (pv 6) pa_nil)))))
        (pss_one (ps_expr (pe_bm PySem.F.plainAttrs_list PySem.F.slot_list_append PySem.F.type_list_append mt_append (pv 3) (pa_cons (pe_tup (pa_cons (pv 4) (pa_cons (pe_call GP hr1 (by rfl) T.gP T.P.kp T.bP .nil pass0 (pa_cons (pv 5) (pa_cons (pe_lst (pa_cons (pe_call GR hr1 (by rfl) W.gR W.R.kp W.bR .nil pass0 (pa_cons (pv 0) (pa_cons (pv 5) pa_nil))) pa_nil)) (pa_cons (pv 7) pa_nil)))) pa_nil))) pa_nil)))))))
      (pss_one (ps_ret (pe_tup (pa_cons (pe_callTy call_tuple_of (by rfl) TS.tuple (by decide +kernel) (pa_cons (pe_callB (NS.cr_sortedL rfl hu) (by rfl) TS.sorted (by decide +kernel) (pa_cons (pv 3) pa_nil)) pa_nil)) (pa_cons (pv 2) pa_nil)))))), ?_⟩
    have lpos : 0 < ws.length := List.length_pos_iff.mpr ne
    -- the links
    refine ⟨fun σ' H' => ∃ (p F : Addr) (U : List (Addr × (Str × Str))), σ' = [some (.ref d), some (.ref l), some (.ref p), some (.ref F), none, none, none, none, none] ∧ DD H d (n + 2 * ws.length) H' ∧ H F = none ∧ F ≠ d ∧ H' F = some (.lst []) ∧ H' p = some (.tup (U.map fun p => V.ref p.1)) ∧ LkAt H' U ∧ TreeLs ws (U.map (·.2)) ∧ (U.map (·.2)).Pairwise linkLe, ?_, ?_⟩
    · refine ⟨_, rfl, _, rfl, d, l, n, ws, rfl, D0, by omega, ld, el, ne, by omega, once, fun H1 t Z ds1 nt D1 et TZ mZ => ?_⟩
      have k1 : DD H d (n + 2 * ws.length) H1 := ⟨ds1, D1⟩
      have lZ : Z.length = ws.length := by rw [← mZ, List.length_map]
      refine ⟨t, Z, rfl, et, TZ, by omega, fun H2 p U s2 np ep kU pU leU => ⟨Nat.zero_le _, fun F nF => ?_⟩⟩
      have kF := same_upd (o := .lst []) nF
      have k2 := k1.same s2
      have tl := TZ.links
      rw [mZ] at tl
      refine ⟨_, _, rfl, p, F, U, rfl, k2.new nF, k2.free nF, ne_dice' k2.dice nF, upd_same, kF _ _ ep, kU.same kF, ⟨fun o ho => tl.mem o (pU.mem_iff.mp ho), pU.nodup_iff.mpr tl.once, by rw [pU.length_eq]; exact tl.few, tl.tree.sub fun o ho => pU.mem_iff.mp ho⟩, leU⟩
    rintro σ1 H1 ⟨p, F, U, rfl, k1, nF, Fd, eF, ep, kU, TL', leU⟩
    have lU : U.length ≤ 6 := by
      have z := TL'.few
      rw [List.length_map] at z
      omega
    have nel : ∀ o ∈ U.map (·.2), o.1 ≠ o.2 := fun o ho e => sLt_irr _ (e ▸ (TL'.mem o ho).2.2 : sLt o.1 o.1)
    -- the machines
    refine ⟨fun σ' H' => ∃ (u4 u5 u6 u7 : Option V) (L : List (Addr × (Str × MachM))), σ' = [some (.ref d), some (.ref l), some (.ref p), some (.ref F), u4, u5, u6, u7, none] ∧ DD H d (n + 2 * ws.length + 20 * ws.length) H' ∧ Tups H1 H' ∧ H' F = some (.lst (L.map fun p => V.ref p.1)) ∧ PkAt H' L ∧ L.map (·.2.1) = ws ∧ ∀ x ∈ L, MkOk (U.map (·.2)) x.2, ?_, ?_⟩
    · refine ⟨_, rfl, l, rfl, ⟨_, SqL.of (k1.ds _ _ ld el)⟩, for_list (xs := ws.map V.str) (fun i σ' H' => ∃ (u4 u5 u6 u7 : Option V) (L : List (Addr × (Str × MachM))), σ' = [some (.ref d), some (.ref l), some (.ref p), some (.ref F), u4, u5, u6, u7, none] ∧ DD H d (n + 2 * ws.length + 20 * i) H' ∧ Tups H1 H' ∧ H' F = some (.lst (L.map fun p => V.ref p.1)) ∧ PkAt H' L ∧ L.map (·.2.1) = ws.take i ∧ ∀ x ∈ L, MkOk (U.map (·.2)) x.2)
        ⟨none, none, none, none, [], rfl, k1, fun _ _ e => e, eF, (fun _ z => nomatch z), rfl, fun _ z => nomatch z⟩ (fun i σ' H' _ ⟨_, _, _, _, _, _, k, _⟩ => SqL.of (k.ds _ _ ld el)) ?_ ?_⟩
      · rintro i v σ2 H2 hv ⟨u4, u5, u6, u7, L, rfl, k2, t2, e2, kL, mL, okL⟩
        obtain ⟨x, hx, rfl⟩ := strs_get hv
        have il := (List.getElem?_eq_some_iff.mp hx).1
        have lL : L.length ≤ 6 := by
          have z := congrArg List.length mL
          rw [List.length_map, List.length_take] at z
          omega
        -- size, others
        refine ⟨fun σ' H' => ∃ (size : Nat) (o : Addr), σ' = [some (.ref d), some (.ref l), some (.ref p), some (.ref F), some (.str x), some (.int size), some (.ref o), u7, none] ∧ 0 < size ∧ size ≤ 3 ∧ DD H d (n + 2 * ws.length + 20 * i + 1) H' ∧ Tups H2 H' ∧ H' F = some (.lst (L.map fun p => V.ref p.1)) ∧ o ≠ d ∧ o ≠ F ∧ H' o = some (.lst (((U.map (·.2)).filterMap (endL x)).map V.str)), ?_, ?_⟩
        · refine ⟨_, rfl, d, 3, _, rfl, k2.dice, by omega, by decide, by decide, fun r ob r0 r1 D3 => ?_⟩
          have k3 := k2.roll D3
          have t3 : Tups H2 (upd H2 d ob) := tups_dice k2.dice
          have e3 : upd H2 d ob F = some (.lst (L.map fun p => V.ref p.1)) := by rw [upd_ne Fd]; exact e2
          refine ⟨_, _, rfl, rfl, _, rfl, _, rfl, p, U, x, rfl, t3 _ _ (t2 _ _ ep), fun y hy => t3 _ _ (t2 _ _ (kU y hy)), by omega, fun H4 o s4 no eo => ⟨by show 2 ≤ sizeLine; decide, fun t nt => ?_⟩⟩
          have kt := same_upd (o := .tup [.int (1 + r), .ref o]) nt
          obtain ⟨size, hs⟩ : ∃ size : Nat, 1 + r = (size : Int) := ⟨(1 + r).toNat, by omega⟩
          refine ⟨t, _, rfl, SqT.of upd_same, rfl, _, _, rfl, _, _, rfl, rfl, size, o, ?_, by omega, by omega, ((k3.same s4).new nt), (t3.trans (tups_same s4)).trans (tups_same kt), kt _ _ (s4 _ _ e3), ne_dice' k3.dice no, (ne_of_none e3 no).symm, kt _ _ eo⟩
          rw [← hs]
          rfl
        rintro σ3 H3 ⟨size, o, rfl, z0, z3, k3, t3, e3, od, oF, eo⟩
        have few : ((U.map (·.2)).filterMap (endL x)).length ≤ 6 := by
          have z := List.length_filterMap_le (endL x) (U.map (·.2))
          rw [List.length_map] at z
          omega
        have wdo : ∀ y ∈ (U.map (·.2)).filterMap (endL x), Wd y := fun y hy => by
          rcases (mem_endL nel).mp hy with h | h
          · exact wd _ (TL'.mem _ h).2.1
          · exact wd _ (TL'.mem _ h).1
        -- rows
        refine ⟨fun σ' H' => ∃ (lr : Addr) (B : List NS.Row), σ' = [some (.ref d), some (.ref l), some (.ref p), some (.ref F), some (.str x), some (.int size), some (.ref o), some (.ref lr), none] ∧ DD H d (n + 2 * ws.length + 20 * i + 16) H' ∧ Tups H2 H' ∧ H' F = some (.lst (L.map fun p => V.ref p.1)) ∧ H' lr = some (.lst (B.map fun p => V.ref p.1)) ∧ lr ≠ d ∧ lr ≠ F ∧ B.length ≤ 6 ∧
          (∀ p ∈ B, Kz H' (.ref p.1) p.2 ∧ ∃ r : RowM, r.Ok size ∧ p.2 = r.key ∧ ∀ b z l, r.deed = .ex b z l → z ∈ (U.map (·.2)).filterMap (endL x)), ?_, ?_⟩
        · refine ⟨_, rfl, d, 4, _, rfl, k3.dice, by omega, by decide, by decide, fun r ob r0 r1 D4 => ⟨_, _, rfl, rfl, ?_⟩⟩
          have k4 := k3.roll D4
          obtain ⟨kk, hk⟩ : ∃ kk : Nat, 1 + r = (kk : Int) := ⟨(1 + r).toNat, by omega⟩
          refine ⟨(kk : Int), congrArg (fun z => [V.int z]) hk, by omega, by omega, ?_⟩
          rw [Int.toNat_natCast]
          intro D nD
          have Dd := ne_dice' k4.dice nD
          have nDH := k4.free nD
          have e4 : upd H3 d ob F = some (.lst (L.map fun p => V.ref p.1)) := by rw [upd_ne Fd]; exact e3
          have eo4 : upd H3 d ob o = some (.lst (((U.map (·.2)).filterMap (endL x)).map V.str)) := by rw [upd_ne od]; exact eo
          have FD : F ≠ D := ne_of_none e4 nD
          have oD : o ≠ D := ne_of_none eo4 nD
          refine lc_range (lo := 0) (n := kk) (fun t H' => DD H d (n + 2 * ws.length + 20 * i + 2 + 3 * t) H' ∧ Tups H2 H' ∧ H' F = some (.lst (L.map fun p => V.ref p.1)) ∧ H' o = some (.lst (((U.map (·.2)).filterMap (endL x)).map V.str)) ∧ ∃ B : List NS.Row, B.length = t ∧ H' D = some (.lst (B.map fun p => V.ref p.1)) ∧ ∀ p ∈ B, Kz H' (.ref p.1) p.2 ∧ ∃ r : RowM, r.Ok size ∧ p.2 = r.key ∧ ∀ b z l, r.deed = .ex b z l → z ∈ (U.map (·.2)).filterMap (endL x))
            ⟨k4.new nD, (t3.trans (tups_dice k3.dice)).trans (tups_same (same_upd nD)), by rw [upd_ne FD]; exact e4, by rw [upd_ne oD]; exact eo4, [], rfl, upd_same, fun _ z => (nomatch z)⟩ (fun t H' ht z => ?_) (fun H6 z => ?_)
          · obtain ⟨k5, t5, e5, eo5, B, lB, eB, hB⟩ := z
            refine ⟨rfl, tYes_ite ⟨_, rfl, _, rfl, _, rfl, d, o, size, _, (U.map (·.2)).filterMap (endL x), rfl, k5.dice, by omega, z0, by omega, od, SqL.of eo5, by omega, wdo, fun H6 pr r6 ds npr tps D6 okr ind kzr => ?_⟩⟩
            have eB6 := ds _ _ Dd eB
            refine ⟨_, eB6, ?_, ((k5.then ds D6).put Dd nDH).more (by omega), (t5.trans tps).trans (tups_list eB6), by rw [upd_ne FD]; exact ds _ _ Fd e5, by rw [upd_ne oD]; exact ds _ _ od eo5, B ++ [(pr, r6.key)], ?_, ?_, fun q hq => ?_⟩
            · rw [List.length_map, sizeLine_eq]
              omega
            · rw [List.length_append, lB]
              rfl
            · rw [upd_same, List.map_append]
              rfl
            · rcases List.mem_append.mp hq with z | z
              · exact ⟨kz_tups (tps.trans (tups_list eB6)) _ _ (hB q z).1, (hB q z).2⟩
              · rw [List.mem_singleton.mp z]
                exact ⟨kz_tups (tups_list eB6) _ _ kzr, r6, okr, rfl, ind⟩
          · obtain ⟨k5, t5, e5, eo5, B, lB, eB, hB⟩ := z
            exact ⟨D, B, rfl, k5.more (by omega), t5, e5, eB, Dd, FD.symm, by omega, hB⟩
        rintro σ4 H4 ⟨lr, B, rfl, k4, t4, e4, elr, lrd, lrF, lB, hB⟩
        -- the pair
        refine ⟨_, rfl, .inl ⟨rfl, _, SqL.of e4⟩, _, rfl, _, rfl, _, rfl, _, rfl, d, size, _, rfl, k4.dice, by omega, by omega, by omega, fun r ob r0 r1 D5 => ⟨by show 1 ≤ sizeLine; decide, fun lf nlf => ?_⟩⟩
        have k5 := k4.roll D5
        have klf := same_upd (o := .lst [.int r]) nlf
        have t5 : Tups H4 (upd (upd H4 d ob) lf (.lst [.int r])) := (tups_dice k4.dice).trans (tups_same klf)
        have e5 : upd (upd H4 d ob) lf (.lst [.int r]) F = some (.lst (L.map fun p => V.ref p.1)) := klf _ _ (by rw [upd_ne Fd]; exact e4)
        have elr5 : upd (upd H4 d ob) lf (.lst [.int r]) lr = some (.lst (B.map fun p => V.ref p.1)) := klf _ _ (by rw [upd_ne lrd]; exact elr)
        refine ⟨_, rfl, lf, lr, size, [r], B, rfl, z0, by omega, SqL.of upd_same, (by show 1 < 64; decide), fun k hk => ?_, SqL.of elr5, by omega, fun y hy => ⟨kz_tups t5 _ _ (hB y hy).1, let ⟨r, okr, e, _⟩ := (hB y hy).2; ⟨r, okr, e⟩⟩, fun H6 pm m s6 npm em rl okm rows km => ⟨by show 2 ≤ sizeLine; decide, fun t nt => ?_⟩⟩
        · rw [List.mem_singleton.mp hk]
          exact ⟨r0, r1⟩
        have kt := same_upd (o := .tup [.str x, .ref pm]) nt
        have e6 := kt _ _ (s6 _ _ e5)
        have t6 : Tups H4 (upd H6 t (.tup [.str x, .ref pm])) := (t5.trans (tups_same s6)).trans (tups_same kt)
        refine ⟨F, _, .ref t, rfl, rfl, e6, ?_, ?_⟩
        · rw [List.length_map, sizeLine_eq]
          omega
        have tu := tups_list (o := .lst (L.map (fun p => V.ref p.1) ++ [.ref t])) e6
        refine ⟨_, _, _, _, L ++ [(t, (x, m))], rfl, (((((k5.new nlf).same s6).new nt).put Fd nF).more (by omega)), ((t2.trans t4).trans t6).trans tu, ?_, ?_, ?_, ?_⟩
        · rw [upd_same, List.map_append]
          rfl
        · intro y hy
          rcases List.mem_append.mp hy with z | z
          · exact ((kL.tups ((t4.trans t6).trans tu))) y z
          · rw [List.mem_singleton.mp z]
            exact .tup (tu _ _ upd_same) (.cons (.str _) (.cons (kz_tups ((tups_same kt).trans tu) _ _ km) .nil))
        · rw [List.map_append, mL, List.take_succ, hx]
          rfl
        · intro y hy
          rcases List.mem_append.mp hy with z | z
          · exact okL y z
          · rw [List.mem_singleton.mp z]
            refine ⟨okm, fun rr hrr b zz ll e => ?_⟩
            obtain ⟨p', hp', e'⟩ := rows rr hrr
            obtain ⟨r', _, e2, ind⟩ := (hB p' hp').2
            have er : r' = rr := row_inj (e2.symm.trans e')
            exact (mem_endL nel).mp (ind b zz ll (er ▸ e))
      · rintro σ2 H2 ⟨u4, u5, u6, u7, L, rfl, k2, t2, e2, kL, mL, okL⟩
        rw [List.length_map] at k2 mL
        rw [List.take_length] at mL
        exact ⟨u4, u5, u6, u7, L, rfl, k2, t2, e2, kL, mL, okL⟩
    rintro σ2 H2 ⟨u4, u5, u6, u7, L, rfl, k2, t2, e2, kL, mL, okL⟩
    have lL : L.length = ws.length := by rw [← mL, List.length_map]
    refine ⟨_, rfl, F, asPair L, rfl, SqL.of (by rw [asPair_refs]; exact e2), by rw [List.length_map]; omega, pairs_of kL fun x hx => (okL x hx).1, alike_pairs, sortable_pairs, fun L1 p3 pm pw n3 => ?_⟩
    obtain ⟨V', eV, pV, leV⟩ := sorted_pairs pm pw
    rw [eV]
    have k3 := same_upd (o := .lst (V'.map fun p => V.ref p.1)) n3
    refine ⟨p3, _, rfl, .inl ⟨SqL.of upd_same, fun p4 n4 => ⟨_, rfl, by show 2 ≤ sizeLine; decide, fun p5 n5 => ?_⟩⟩⟩
    have k4 := same_upd (o := .tup (V'.map fun p => V.ref p.1)) n4
    have k5 := same_upd (o := .tup [.ref p4, .ref p]) n5
    have pn := pV.map (fun p : Addr × (Str × MachM) => p.2.1)
    rw [mL] at pn
    have lV : V'.length = ws.length := by rw [pV.length_eq, lL]
    have nms : (V'.map (·.2)).map (·.1) = V'.map (·.2.1) := by rw [List.map_map]; rfl
    have memn : ∀ y, y ∈ (V'.map (·.2)).map (·.1) ↔ y ∈ ws := fun y => by rw [nms]; exact pn.mem_iff
    refine q _ p5 ⟨V'.map (·.2), U.map (·.2)⟩ ((((k2.new n3).new n4).new n5).more (by omega)) (((k2.new n3).new n4).free n5) ?_ (by rw [List.length_map]; exact lV) ?_
    · refine ⟨by rw [List.length_map]; omega, by rw [List.length_map]; omega, fun y hy => ?_, ?_, fun o ho => ?_, strict_links leU TL'.once, by rw [List.length_map]; omega, fun y hy r hr' b z ll e => ?_, TL'.tree⟩
      · have my : y.1 ∈ ws := (memn y.1).mp (List.mem_map.mpr ⟨y, hy, rfl⟩)
        obtain ⟨v, hv, rfl⟩ := List.mem_map.mp hy
        exact ⟨wd _ my, (okL v (pV.mem_iff.mp hv)).1⟩
      · refine asc_pairs leV ?_
        rw [nms]
        exact pn.nodup_iff.mpr once
      · have z := TL'.mem o ho
        exact ⟨(memn _).mpr z.1, (memn _).mpr z.2.1, z.2.2⟩
      · obtain ⟨v, hv, rfl⟩ := List.mem_map.mp hy
        exact (okL v (pV.mem_iff.mp hv)).2 r hr' b z ll e
    · have s5 := (k3.trans k4).trans k5
      refine .tup upd_same (.cons (.tup (k5 _ _ upd_same) (kz_pairs fun y hy => Kz.same s5 _ _ (kL y (pV.mem_iff.mp hy)))) (.cons (.tup (s5 _ _ (t2 _ _ ep)) (LkAt.all fun y hy => s5 _ _ (t2 _ _ (kU y hy)))) .nil))
end
end K55
/-! One of any items; the written network. -/
namespace K55
open PySem PySem.Spec PyProof.Rows L2 WD NS MC GL
open C8 (pss_cut tCut)
def spOneA (K : PySem.W.Frag) : Sp := fun vs H Q _ => ∃ (d l : Addr) (n : Nat) (xs : List V), vs = [.ref d, .ref l] ∧ Dice H d n ∧ n ≤ 1000000000 ∧ SqA K H l xs ∧ (∀ o, SqA K (upd H d o) l xs) ∧ 0 < xs.length ∧ xs.length < 1000000 ∧
  ∀ (x : V) (o : HO), x ∈ xs → Dice (upd H d o) d (n + 1) → Q x (upd H d o)
section
variable {P : Program} {w : World} {K : PySem.W.Frag} {mg : Str → Option Value} {base : Heap}
theorem ok_oneA {f fR : Addr} {fd fdR : FuncData} {k : Nat} (F : Fun K "_law_one_of" "_law_one_of" sOneOf f fd) (FR : Fun K "_law_roll" "_law_roll" sRoll fR fdR) (bR : Binds K fdR ["_law_dice_here", "_law_total"] []) (gR : mg "_law_roll" = some (.ref fR)) (T : TxtD mg) :
    FnOk P w K mg base CX0 (k + 2) f fd ["_law_dice_here", "_law_items"] (spOneA K) := by
  have GR : FnOk P w K mg base CX0 (k + 1) fR fdR ["_law_dice_here", "_law_total"] spRoll := ok_roll FR
  refine F.ok scOneOf (fun vs H Q E h => ?_) (fun cdv A outer s H vs Q E hr h => ?_)
  · obtain ⟨d, l, n, xs, rfl, _⟩ := h
    rfl
  · obtain ⟨d, l, n, xs, rfl, hd, hn, hl, keep, x0, x1, q⟩ := h
    refine ⟨_, pss_one (ps_ret (pe_ix (show IxR _ (rIxA K) from ix_any) (pv 1) (pe_call GR hr (by rfl) gR FR.kp bR .nil pass0 (pa_cons (pv 0) (pa_cons (pe_callB call_len_seq (by rfl) T.len PySem.boot_len (pa_cons (pv 1) pa_nil)) pa_nil))) (fun _ _ => rfl))), ?_⟩
    refine ⟨_, rfl, _, rfl, _, rfl, l, _, rfl, hl, d, _, n, rfl, hd, hn, by omega, by omega, fun r o r0 r1 D => ?_⟩
    obtain ⟨j, rfl⟩ : ∃ j : Nat, r = j := ⟨r.toNat, by omega⟩
    have hj : j < xs.length := by omega
    exact rIxA_of (keep o) (atI_nat (List.getElem?_eq_getElem hj)) (q _ o (List.getElem_mem hj) D)
end
/-! the written network -/
def mWA : MachM := ⟨2, [0], [⟨0, .ex true "b" "x", 1⟩, ⟨1, .ex false "b" "y", 0⟩]⟩
def mWB : MachM := ⟨1, [], [⟨0, .step, 0⟩, ⟨0, .ex false "a" "x", 0⟩]⟩
def netW : NetM := ⟨[("a", mWA), ("b", mWB)], [("a", "b")]⟩
theorem wd_of (x : Str) (a : (x.cps.toList.all fun c => decide (97 ≤ c ∧ c ≤ 122)) = true) (b : 0 < x.length) (c : x.length ≤ 8) : Wd x := ⟨fun c hc => by
  rw [List.all_eq_true] at a
  exact of_decide_eq_true (a c hc), b, c⟩
theorem wd_a : Wd "a" := wd_of _ (by decide +kernel) (by decide +kernel) (by decide +kernel)
theorem wd_b : Wd "b" := wd_of _ (by decide +kernel) (by decide +kernel) (by decide +kernel)
theorem wd_x : Wd "x" := wd_of _ (by decide +kernel) (by decide +kernel) (by decide +kernel)
theorem wd_y : Wd "y" := wd_of _ (by decide +kernel) (by decide +kernel) (by decide +kernel)
theorem okWA : mWA.Ok := by
  refine ⟨by decide, by decide, fun k hk => ?_, ?_, ?_, fun r hr => ?_, ?_, ?_⟩
  · have e : k = 0 := List.mem_singleton.mp hk
    subst e
    decide
  · exact List.pairwise_singleton _ _
  · decide
  · have e : r = ⟨0, .ex true "b" "x", 1⟩ ∨ r = ⟨1, .ex false "b" "y", 0⟩ := by simpa [mWA] using hr
    rcases e with rfl | rfl
    · exact ⟨by decide, by decide, ⟨wd_b, wd_x⟩, by decide, by decide⟩
    · exact ⟨by decide, by decide, ⟨wd_b, wd_y⟩, by decide, by decide⟩
  · refine List.pairwise_cons.mpr ⟨fun s hs => ?_, List.pairwise_singleton _ _⟩
    rw [List.mem_singleton.mp hs]
    exact (by decide +kernel : PySem.W.dataLt (RowM.key ⟨0, .ex true "b" "x", 1⟩).data (RowM.key ⟨1, .ex false "b" "y", 0⟩).data = true)
  · decide
theorem okWB : mWB.Ok := by
  refine ⟨by decide, by decide, (fun k hk => nomatch hk), .nil, ?_, fun r hr => ?_, ?_, ?_⟩
  · decide
  · have e : r = ⟨0, .step, 0⟩ ∨ r = ⟨0, .ex false "a" "x", 0⟩ := by simpa [mWB] using hr
    rcases e with rfl | rfl
    · exact ⟨by decide, by decide, trivial, by decide, by decide⟩
    · exact ⟨by decide, by decide, ⟨wd_a, wd_x⟩, by decide, by decide⟩
  · refine List.pairwise_cons.mpr ⟨fun s hs => ?_, List.pairwise_singleton _ _⟩
    rw [List.mem_singleton.mp hs]
    exact (by decide +kernel : PySem.W.dataLt (RowM.key ⟨0, .step, 0⟩).data (RowM.key ⟨0, .ex false "a" "x", 0⟩).data = true)
  · decide
theorem a_lt_b : sLt "a" "b" := by
  show ("a" : Str).cps.toList < ("b" : Str).cps.toList
  decide +kernel
theorem okNW : netW.Ok := by
  have ab : ("a" : Str) ≠ "b" := by decide +kernel
  refine ⟨by decide, by decide, fun p hp => ?_, ?_, fun l hl => ?_, List.pairwise_singleton _ _, by decide, fun p hp r hr b x l e => ?_, fun l hl c => ?_⟩
  · have e : p = ((("a" : Str), mWA) : Str × MachM) ∨ p = ((("b" : Str), mWB) : Str × MachM) := by simpa [netW] using hp
    rcases e with rfl | rfl
    · exact ⟨wd_a, okWA⟩
    · exact ⟨wd_b, okWB⟩
  · show [("a" : Str), "b"].Pairwise sLt
    refine List.pairwise_cons.mpr ⟨fun s hs => ?_, List.pairwise_singleton _ _⟩
    rw [List.mem_singleton.mp hs]
    exact a_lt_b
  · rw [List.mem_singleton.mp hl]
    exact ⟨List.mem_cons_self, List.mem_cons_of_mem _ List.mem_cons_self, a_lt_b⟩
  · have e' : p = ((("a" : Str), mWA) : Str × MachM) ∨ p = ((("b" : Str), mWB) : Str × MachM) := by simpa [netW] using hp
    rcases e' with rfl | rfl
    · have er : r = ⟨0, .ex true "b" "x", 1⟩ ∨ r = ⟨1, .ex false "b" "y", 0⟩ := by simpa [mWA] using hr
      rcases er with rfl | rfl <;> (cases e; exact .inl List.mem_cons_self)
    · have er : r = ⟨0, .step, 0⟩ ∨ r = ⟨0, .ex false "a" "x", 0⟩ := by simpa [mWB] using hr
      rcases er with rfl | rfl
      · exact nomatch e
      · cases e
        exact .inr List.mem_cons_self
  · rw [List.mem_singleton.mp hl] at c
    have e : (netW.ls.filter fun k => decide (k ≠ ((("a" : Str), ("b" : Str)) : Str × Str))) = [] := by
      show ([((("a" : Str), ("b" : Str)) : Str × Str)].filter fun k => decide (k ≠ ((("a" : Str), ("b" : Str)) : Str × Str))) = []
      simp
    rw [e] at c
    have c' : Conn [] "a" "b" := c
    have z := leaf_alone (ls := []) (x := "a") (y := "b") (fun _ h => nomatch h) c'
    exact ab z.symm
end K55
/-! _law_joined. -/
namespace K55
open PySem PySem.Spec PyProof.Rows L2 WD NS MC GL
open C8 (pss_cut tCut)
abbrev sJn : Stmt := topS 73
abbrev nJn : List Str := ["_law_dice_here", "_law_total", "_law_net", "_law_one", "_law_pair"]
theorem scJn : FnScope nJn ["_law_dice_here", "_law_total"] (defScope sJn) := ⟨rfl, rfl, rfl, by decide +kernel, rfl, by decide +kernel, by decide +kernel⟩
def spJn : Sp := fun vs H Q _ => ∃ (d : Addr) (n : Nat), vs = [.ref d, .int 4] ∧ Dice H d n ∧ n ≤ 700000 ∧
  ∀ H' p a (N : NetM) (x y : Str), DD H d (n + 300) H' → H p = none → H' p = some (.lst [.ref a, .str x, .str y]) → Kz H' (.ref a) N.key → N.Ok → 2 ≤ N.ms.length → ordL x y ∈ N.ls → Q (.ref p) H'
structure TxtJn (K : PySem.W.Frag) (mg : Str → Option Value) (fWd fWl : Addr) (dWd dWl : FuncData) : Prop where
  D : Fun K "_law_words" "_law_words" sWords fWd dWd
  bD : L2.Binds K dWd ["_law_dice_here", "_law_total"] []
  gD : mg "_law_words" = some (.ref fWd)
  W : Fun K "_law_wild" "_law_wild" sWl fWl dWl
  bW : L2.Binds K dWl ["_law_dice_here", "_law_names"] []
  gW : mg "_law_wild" = some (.ref fWl)
theorem ordL_back {x y : Str} (h : sLt x y) : ordL x y = (x, y) ∧ ordL y x = (x, y) := by
  have e : ordL x y = (x, y) := by unfold ordL; rw [if_pos h]
  exact ⟨e, by rw [ordL_comm]; exact e⟩
theorem depth_links : ∀ ls : List (Str × Str), PyData.depthAll (ls.map fun l => PyData.tuple [.str l.1, .str l.2]) ≤ 2
  | [] => Nat.zero_le _
  | l :: ls => by
    have ih := depth_links ls
    simp only [List.map_cons, PyData.depthAll, PyData.depth] at ih ⊢
    omega
theorem links_shaped {ls : List (Str × Str)} (h : ∀ l ∈ ls, Wd l.1 ∧ Wd l.2) : SeqAt.shaped (.tuple (ls.map fun l => PyData.tuple [.str l.1, .str l.2])) = true := by
  have d := depth_links ls
  rw [SeqAt.shaped, Bool.and_eq_true]
  refine ⟨by rw [PyData.canLay0, can_links ls h], decide_eq_true ?_⟩
  rw [PyData.depth]
  omega
section
variable {P : Program} {w : World} {K : PySem.W.Frag} {mg : Str → Option Value} {base : Heap} {fR fO fE fP fTr fLs fLk fWd fWl : Addr} {dR dO dE dP dTr dLs dLk dWd dWl : FuncData}
theorem ok_Jn {f : Addr} {fd : FuncData} (F : Fun K "_law_joined" "_law_joined" sJn f fd) (W : TxtR K mg fR fO dR dO) (TD : TxtD mg) (TS : TxtS mg) (MM : TxtMm mg) (T : TxtMk K mg fE fP dE dP) (TW : TxtWl K mg fTr fLs fLk dTr dLs dLk) (TL : TxtLk K mg fLk dLk) (J : TxtJn K mg fWd fWl dWd dWl) :
    FnOk P w K mg base CX0 5 f fd ["_law_dice_here", "_law_total"] spJn := by
  have GR : FnOk P w K mg base CX0 1 fR dR ["_law_dice_here", "_law_total"] spRoll := ok_roll W.R
  have GO : FnOk P w K mg base CX0 2 fO dO ["_law_dice_here", "_law_items"] (spOneA K) := ok_oneA W.O W.R W.bR W.gR TD
  have GD : FnOk P w K mg base CX0 2 fWd dWd ["_law_dice_here", "_law_total"] spWords := ok_Words J.D ⟨W.R, W.bR, W.gR, T.range⟩
  have GW : FnOk P w K mg base CX0 4 fWl dWl ["_law_dice_here", "_law_names"] spWl := ok_Wl J.W W TD TS MM T TW TL
  refine F.ok scJn (fun vs H Q E h => ?_) (fun cdv A outer s H vs Q E hr h => ?_)
  · obtain ⟨d, n, rfl, _⟩ := h
    rfl
  · obtain ⟨d, n, rfl, D0, hn, q⟩ := h
    have hu := hr.units
    have hr1 : Room 1 _ := hr.mono (by decide)
    have hr2 : Room 2 _ := hr.mono (by decide)
    refine ⟨_, pss_cut (ps_set (i := 2) scJn.nd rfl (.inl rfl) (pe_call GW hr (by rfl) J.gW J.W.kp J.bW .nil pass0 (pa_cons (pv 0) (pa_cons (pe_call GD hr2 (by rfl) J.gD J.D.kp J.bD .nil pass0 (pa_cons (pv 0) (pa_cons (pe_op op_add pe_int (pe_call GR hr1 (by rfl) W.gR W.R.kp W.bR .nil pass0 (pa_cons (pv 0) (pa_cons (pe_op op_sub (pv 1) pe_int) pa_nil)))) pa_nil))) pa_nil))))
      (pss_cut (ps_if (pt_cmpR (show OpR _ (compareOp .Eq) (rEqD K) from op_eqD hu) (pe_ix (show IxR _ (rIxT K) from ix_tup) (pv 2) pe_int (fun _ _ => rfl)) (pe_tup pa_nil) (nomark _))
        (pss_cut (ps_set (i := 3) scJn.nd rfl (.inl rfl) (pe_tup (pa_cons pe_int (pa_cons (pe_tup (pa_cons pe_int pa_nil)) (pa_cons (pe_tup (pa_cons (pe_tup (pa_cons pe_int (pa_cons (pe_tup (pa_cons pe_str (pa_cons pe_str (pa_cons pe_str pa_nil)))) (pa_cons pe_int pa_nil)))) (pa_cons (pe_tup (pa_cons pe_int (pa_cons (pe_tup (pa_cons pe_str (pa_cons pe_str (pa_cons pe_str pa_nil)))) (pa_cons pe_int pa_nil)))) pa_nil))) pa_nil)))))
        (pss_one (ps_set (i := 2) scJn.nd rfl (.inl rfl) (pe_tup (pa_cons (pe_tup (pa_cons (pe_tup (pa_cons pe_str (pa_cons (pv 3) pa_nil))) (pa_cons (pe_tup (pa_cons pe_str (pa_cons (pe_tup (pa_cons pe_int (pa_cons (pe_tup pa_nil) (pa_cons (pe_tup (pa_cons (pe_tup (pa_cons pe_int (pa_cons (pe_tup (pa_cons pe_str pa_nil)) (pa_cons pe_int pa_nil)))) (pa_cons (pe_tup (pa_cons pe_int (pa_cons (pe_tup (pa_cons pe_str (pa_cons pe_str (pa_cons pe_str pa_nil)))) (pa_cons pe_int pa_nil)))) pa_nil))) pa_nil)))) pa_nil))) pa_nil)))
            (pa_cons (pe_tup (pa_cons (pe_tup (pa_cons pe_str (pa_cons pe_str pa_nil))) pa_nil)) pa_nil)))))) pss_nil)
      (pss_cut (ps_set (i := 4) scJn.nd rfl (.inl rfl) (pe_call GO hr2 (by rfl) W.gO W.O.kp W.bO .nil pass0 (pa_cons (pv 0) (pa_cons (pe_ix (show IxR _ (rIxT K) from ix_tup) (pv 2) pe_int (fun _ _ => rfl)) pa_nil))))
      (pss_one (ps_ret (pe_ifExp (pt_cmpR op_eq (pe_call GR hr1 (by rfl) W.gR W.R.kp W.bR .nil pass0 (pa_cons (pv 0) (pa_cons pe_int pa_nil))) pe_int (nomark _))
        (pe_lst (pa_cons (pv 2) (pa_cons (pe_ix (show IxR _ (rIxT K) from ix_tup) (pv 4) pe_int (fun _ _ => rfl)) (pa_cons (pe_ix (show IxR _ (rIxT K) from ix_tup) (pv 4) pe_int (fun _ _ => rfl)) pa_nil))))
        (pe_lst (pa_cons (pv 2) (pa_cons (pe_ix (show IxR _ (rIxT K) from ix_tup) (pv 4) pe_int (fun _ _ => rfl)) (pa_cons (pe_ix (show IxR _ (rIxT K) from ix_tup) (pv 4) pe_int (fun _ _ => rfl)) pa_nil))))))))), ?_⟩
    -- the drawn network
    refine ⟨fun σ' H' => ∃ (a : Addr) (N : NetM), σ' = [some (.ref d), some (.int 4), some (.ref a), none, none] ∧ DD H d (n + 260) H' ∧ Kz H' (.ref a) N.key ∧ N.Ok ∧ 2 ≤ N.ms.length, ?_, ?_⟩
    · refine ⟨_, rfl, _, rfl, _, rfl, _, rfl, _, _, rfl, rfl, d, 3, n, rfl, D0, by omega, by decide, by decide, fun r o r0 r1 D1 => ⟨_, _, rfl, rfl, ?_⟩⟩
      have k1 := (DD.refl D0).roll D1
      obtain ⟨m, hm⟩ : ∃ m : Nat, 2 + r = (m : Int) := ⟨(2 + r).toNat, by omega⟩
      refine ⟨d, m, n + 1, congrArg (fun z => [V.ref d, V.int z]) hm, k1.dice, by omega, by omega, fun H2 p ws ds2 np D2 ep lw wws onceW => ?_⟩
      have k2 := k1.then ds2 D2
      refine ⟨d, p, _, ws, rfl, D2, by omega, ne_dice' k1.dice np, ep, fun z => ?_, by omega, onceW, wws, fun H3 a N k3 na okN lN kN => ?_⟩
      · rw [z] at lw
        have e : 0 = m := lw
        omega
      · exact ⟨a, N, rfl, (k2.then k3.ds k3.dice).more (by omega), kN, okN, by omega⟩
    rintro σ1 H1 ⟨a, N, rfl, k1, kN, okN, n2⟩
    -- with links
    refine ⟨fun σ' H' => ∃ (a : Addr) (N : NetM) (u3 : Option V), σ' = [some (.ref d), some (.int 4), some (.ref a), u3, none] ∧ DD H d (n + 260) H' ∧ Kz H' (.ref a) N.key ∧ N.Ok ∧ 2 ≤ N.ms.length ∧ N.ls ≠ [], ?_, ?_⟩
    · obtain ⟨M⟩ := net_at kN
      refine ⟨_, rfl, a, _, 1, .ref M.B, rfl, rfl, SqT.of M.top, atI_nat (j := 1) rfl, Nat.zero_le _, fun e ne => ?_⟩
      have ke := same_upd (o := .tup []) ne
      have dB : Dp K (upd H1 e (.tup [])) (.ref M.B) (.tuple (N.ls.map fun l => PyData.tuple [.str l.1, .str l.2])) := by
        rw [← datas_links]
        exact .tup (SqT.of (ke _ _ M.eb)) (kz_dpAll _ _ (KzAll.same ke _ _ M.lks))
      refine ⟨_, _, dB, .tup (SqT.of upd_same) .nil, links_shaped okN.wdl, rfl, _, rfl, ?_⟩
      cases hl : N.ls with
      | cons o os =>
        refine ifF rfl ⟨a, N, _, rfl, k1.new ne, Kz.same ke _ _ kN, okN, n2, by rw [hl]; exact List.cons_ne_nil _ _⟩
      | nil =>
        refine ifT rfl ⟨fun σ' H' => ∃ o, σ' = [some (.ref d), some (.int 4), some (.ref a), some (.ref o), none] ∧ DD H d (n + 260) H' ∧ Kz H' (.ref o) mWA.key, ?_, ?_⟩
        · have kk := k1.new (o := .tup []) ne
          refine ⟨by show 1 ≤ sizeLine; decide, fun t1 n1 => ⟨by show 3 ≤ sizeLine; decide, fun t2 n2 => ⟨by show 3 ≤ sizeLine; decide, fun t3 n3 => ⟨by show 3 ≤ sizeLine; decide, fun t4 n4 => ⟨by show 3 ≤ sizeLine; decide, fun t5 n5 => ⟨by show 2 ≤ sizeLine; decide, fun t6 n6 => ⟨by show 3 ≤ sizeLine; decide, fun t7 n7 => ?_⟩⟩⟩⟩⟩⟩⟩
          refine ⟨t7, rfl, ((((((kk.new n1).new n2).new n3).new n4).new n5).new n6).new n7, ?_⟩
          have s2 := same_upd (o := .tup [.str "send", .str "b", .str "x"]) n2
          have s3 := same_upd (o := .tup [.int 0, .ref t2, .int 1]) n3
          have s4 := same_upd (o := .tup [.str "take", .str "b", .str "y"]) n4
          have s5 := same_upd (o := .tup [.int 1, .ref t4, .int 0]) n5
          have s6 := same_upd (o := .tup [.ref t3, .ref t5]) n6
          have s7 := same_upd (o := .tup [.int 2, .ref t1, .ref t6]) n7
          have s57 := s5.trans (s6.trans s7)
          have s47 := s4.trans s57
          have s37 := s3.trans s47
          exact .tup upd_same (.cons (.int 2) (.cons (.tup ((s2.trans s37) _ _ upd_same) (.cons (.int 0) .nil)) (.cons (.tup (s7 _ _ upd_same)
            (.cons (.tup (s47 _ _ upd_same) (.cons (.int 0) (.cons (.tup (s37 _ _ upd_same) (.cons (.str _) (.cons (.str _) (.cons (.str _) .nil)))) (.cons (.int 1) .nil))))
            (.cons (.tup ((s6.trans s7) _ _ upd_same) (.cons (.int 1) (.cons (.tup (s57 _ _ upd_same) (.cons (.str _) (.cons (.str _) (.cons (.str _) .nil)))) (.cons (.int 0) .nil)))) .nil))) .nil)))
        rintro σ2 H2 ⟨o, rfl, k2, ko⟩
        refine ⟨_, rfl, by show 2 ≤ sizeLine; decide, fun t1 n1 => ⟨Nat.zero_le _, fun t2 n2 => ⟨by show 1 ≤ sizeLine; decide, fun t3 n3 => ⟨by show 3 ≤ sizeLine; decide, fun t4 n4 => ⟨by show 3 ≤ sizeLine; decide, fun t5 n5 => ⟨by show 3 ≤ sizeLine; decide, fun t6 n6 => ⟨by show 2 ≤ sizeLine; decide, fun t7 n7 => ⟨by show 3 ≤ sizeLine; decide, fun t8 n8 => ⟨by show 2 ≤ sizeLine; decide, fun t9 n9 => ⟨by show 2 ≤ sizeLine; decide, fun t10 n10 => ⟨by show 2 ≤ sizeLine; decide, fun t11 n11 => ⟨by show 1 ≤ sizeLine; decide, fun t12 n12 => ⟨by show 2 ≤ sizeLine; decide, fun t13 n13 => ?_⟩⟩⟩⟩⟩⟩⟩⟩⟩⟩⟩⟩⟩
        refine ⟨t13, netW, _, rfl, ((((((((((((k2.new n1).new n2).new n3).new n4).new n5).new n6).new n7).new n8).new n9).new n10).new n11).new n12).new n13, ?_, okNW, by decide, List.cons_ne_nil _ _⟩
        have s1 := same_upd (o := .tup [.str "a", .ref o]) n1
        have s2 := same_upd (o := .tup []) n2
        have s3 := same_upd (o := .tup [.str "step"]) n3
        have s4 := same_upd (o := .tup [.int 0, .ref t3, .int 0]) n4
        have s5 := same_upd (o := .tup [.str "take", .str "a", .str "x"]) n5
        have s6 := same_upd (o := .tup [.int 0, .ref t5, .int 0]) n6
        have s7 := same_upd (o := .tup [.ref t4, .ref t6]) n7
        have s8 := same_upd (o := .tup [.int 1, .ref t2, .ref t7]) n8
        have s9 := same_upd (o := .tup [.str "b", .ref t8]) n9
        have s10 := same_upd (o := .tup [.ref t1, .ref t9]) n10
        have s11 := same_upd (o := .tup [.str "a", .str "b"]) n11
        have s12 := same_upd (o := .tup [.ref t11]) n12
        have s13 := same_upd (o := .tup [.ref t10, .ref t12]) n13
        have a12 := s12.trans s13
        have a11 := s11.trans a12
        have a10 := s10.trans a11
        have a9 := s9.trans a10
        have a8 := s8.trans a9
        have a7 := s7.trans a8
        have a6 := s6.trans a7
        have a5 := s5.trans a6
        have a4 := s4.trans a5
        have a3 := s3.trans a4
        have a2 := s2.trans a3
        have mB : Kz _ (.ref t8) mWB.key := .tup (a9 _ _ upd_same) (.cons (.int 1) (.cons (.tup (a3 _ _ upd_same) .nil) (.cons (.tup (a8 _ _ upd_same)
          (.cons (.tup (a5 _ _ upd_same) (.cons (.int 0) (.cons (.tup (a4 _ _ upd_same) (.cons (.str _) .nil)) (.cons (.int 0) .nil))))
          (.cons (.tup (a7 _ _ upd_same) (.cons (.int 0) (.cons (.tup (a6 _ _ upd_same) (.cons (.str _) (.cons (.str _) (.cons (.str _) .nil)))) (.cons (.int 0) .nil)))) .nil))) .nil)))
        exact .tup upd_same (.cons (.tup (a11 _ _ upd_same) (.cons (.tup (a2 _ _ upd_same) (.cons (.str _) (.cons (Kz.same (s1.trans a2) _ _ ko) .nil))) (.cons (.tup (a10 _ _ upd_same) (.cons (.str _) (.cons mB .nil))) .nil)))
          (.cons (.tup (s13 _ _ upd_same) (.cons (.tup (a12 _ _ upd_same) (.cons (.str _) (.cons (.str _) .nil))) .nil)) .nil))
    rintro σ2 H2 ⟨a, N, u3, rfl, k2, kN, okN, n2, nl⟩
    obtain ⟨M⟩ := net_at kN
    obtain ⟨L, eL, mL, kL⟩ := lk_of M.lks
    have eB : H2 M.B = some (.tup (L.map fun p => V.ref p.1)) := eL ▸ M.eb
    have lL : L.length < 30 := by
      have z := okN.lf
      rw [← mL, List.length_map] at z
      exact z
    have lp : 0 < L.length := by
      have z := List.length_pos_iff.mpr nl
      rw [← mL, List.length_map] at z
      exact z
    refine ⟨fun σ' H' => ∃ (pr : Addr × (Str × Str)), σ' = [some (.ref d), some (.int 4), some (.ref a), u3, some (.ref pr.1)] ∧ DD H d (n + 261) H' ∧ Tups H2 H' ∧ pr.2 ∈ N.ls ∧ H2 pr.1 = some (.tup [.str pr.2.1, .str pr.2.2]), ?_, ?_⟩
    · have td : ∀ o, Tups H2 (upd H2 d o) := fun o => tups_dice k2.dice
      refine ⟨_, rfl, _, rfl, a, _, 1, .ref M.B, rfl, rfl, SqT.of M.top, atI_nat (j := 1) rfl, d, M.B, _, _, rfl, k2.dice, by omega, .inr (SqT.of eB), fun o => .inr (SqT.of (td o _ _ eB)), by rw [List.length_map]; exact lp, by rw [List.length_map]; omega, fun v o hv D3 => ?_⟩
      obtain ⟨pr, hpr, rfl⟩ := List.mem_map.mp hv
      exact ⟨pr, rfl, (k2.roll D3), td o, mL ▸ List.mem_map.mpr ⟨pr, hpr, rfl⟩, kL pr hpr⟩
    rintro σ3 H3 ⟨pr, rfl, k3, t3, hpr, epr⟩
    refine ⟨_, rfl, d, 2, n + 261, rfl, k3.dice, by omega, by decide, by decide, fun r o r0 r1 D4 => ⟨rfl, _, rfl, ?_⟩⟩
    have k4 := k3.roll D4
    have t4 : Tups H2 (upd H3 d o) := t3.trans (tups_dice k3.dice)
    have ep4 := t4 _ _ epr
    have lt := (okN.l1 _ hpr).2.2
    refine ifB (fun _ => ?_) fun _ => ?_
    · refine ⟨_, rfl, _, rfl, pr.1, _, 0, .str pr.2.1, rfl, rfl, SqT.of ep4, atI_nat (j := 0) rfl, _, rfl, pr.1, _, 1, .str pr.2.2, rfl, rfl, SqT.of ep4, atI_nat (j := 1) rfl, by show 3 ≤ sizeLine; decide, fun t nt => ?_⟩
      refine q _ t a N pr.2.1 pr.2.2 ((k4.new nt).more (by omega)) (k4.free nt) upd_same (kz_tups (t4.trans (tups_same (same_upd nt))) _ _ kN) okN n2 ?_
      rw [(ordL_back lt).1]
      exact hpr
    · refine ⟨_, rfl, _, rfl, pr.1, _, 1, .str pr.2.2, rfl, rfl, SqT.of ep4, atI_nat (j := 1) rfl, _, rfl, pr.1, _, 0, .str pr.2.1, rfl, rfl, SqT.of ep4, atI_nat (j := 0) rfl, by show 3 ≤ sizeLine; decide, fun t nt => ?_⟩
      refine q _ t a N pr.2.2 pr.2.1 ((k4.new nt).more (by omega)) (k4.free nt) upd_same (kz_tups (t4.trans (tups_same (same_upd nt))) _ _ kN) okN n2 ?_
      rw [(ordL_back lt).2]
      exact hpr
end
end K55
/-! What a replaced branch is. -/
namespace K55
open PySem PySem.Spec PyProof.Rows L2 WD NS MC GL
theorem toR_inj {nm : Str} {m : MachM} (one : Single m) {r s : RowM} (hr : r ∈ m.rows) (hs : s ∈ m.rows) (e : toR nm r = toR nm s) : r = s := by
  have e1 : r.before = s.before := by
    have z : (toR nm r).before = (toR nm s).before := by rw [e]
    exact z
  have e3 : r.after = s.after := by
    have z : (toR nm r).after = (toR nm s).after := by rw [e]
    exact z
  have e2 : toD nm r.deed = toD nm s.deed := by
    have z : (toR nm r).deed = (toR nm s).deed := by rw [e]
    exact z
  have ed : r.deed = s.deed := by
    cases h1 : r.deed with
    | step =>
      cases h2 : s.deed with
      | step => rfl
      | ex b x l =>
        rw [h1, h2] at e2
        exact nomatch e2
    | ex b x l =>
      cases h2 : s.deed with
      | step =>
        rw [h1, h2] at e2
        exact nomatch e2
      | ex b' x' l' =>
        rw [h1, h2] at e2
        injection e2 with ea eb ec
        rw [ea, ec, one r hr s hs _ _ _ _ _ _ h1 h2]
  obtain ⟨b, d, a⟩ := r
  obtain ⟨b', d', a'⟩ := s
  simp only at e1 e3 ed
  rw [e1, e3, ed]
theorem rowLt_of_le {r s : RowM} (ne : r ≠ s) (le : rowLeM r s) : rowLt r s := lt_of_le (row_alike r s) (fun e => ne (row_inj e)) le
theorem rowLt_irr {r : RowM} (h : rowLt r r) : False := by
  have h' : PyProof.Rows.lexLt itemOrd (PySem.W.keyToks r.key.data) (PySem.W.keyToks r.key.data) = true := h
  rw [PyProof.Rows.lex_irrefl] at h'
  exact nomatch h'
theorem onceR {m : MachM} (ok : m.Ok) : m.rows.Nodup := ok.r2.imp fun {a b} h e => by
  subst e
  exact rowLt_irr h
theorem ToOf.ok {nm : Str} {m m' : MachM} (t : ToOf nm m m') (ok : m.Ok) (one : Single m) (wn : Wd nm) : m'.Ok := by
  have nd : (m.rows.map (toR nm)).Nodup := by
    refine List.pairwise_map.mpr (List.Pairwise.imp_of_mem (fun {a b} ha hb h e => h (toR_inj one ha hb e)) (onceR ok))
  have nd' : m'.rows.Nodup := t.perm.nodup_iff.mpr nd
  have lr : m'.rows.length = m.rows.length := by rw [t.perm.length_eq, List.length_map]
  refine ⟨by rw [t.size]; exact ok.s0, by rw [t.size]; exact ok.s1, fun k hk => ?_, by rw [t.fin]; exact ok.f2, by rw [t.fin]; exact ok.f3, fun r hr => ?_, (t.asc.and nd').imp fun {a b} z => rowLt_of_le z.2 z.1, by rw [lr]; exact ok.r3⟩
  · rw [t.fin] at hk
    rw [t.size]
    exact ok.f1 k hk
  · obtain ⟨s, hs, rfl⟩ := List.mem_map.mp (t.perm.mem_iff.mp hr)
    have z := ok.r1 s hs
    rw [t.size]
    refine ⟨z.b0, z.b1, ?_, z.a0, z.a1⟩
    have y := z.dd
    cases h : s.deed with
    | step =>
      show (toD nm s.deed).Ok
      rw [h]
      trivial
    | ex b x l =>
      show (toD nm s.deed).Ok
      rw [h] at y ⊢
      exact ⟨wn, y.2⟩
theorem ToOf.names {nm : Str} {m m' : MachM} (t : ToOf nm m m') {r : RowM} (hr : r ∈ m'.rows) {b : Bool} {x l : Str} (e : r.deed = .ex b x l) : x = nm := by
  obtain ⟨s, hs, rfl⟩ := List.mem_map.mp (t.perm.mem_iff.mp hr)
  have e' : toD nm s.deed = .ex b x l := e
  cases h : s.deed with
  | step =>
    rw [h] at e'
    exact nomatch e'
  | ex b' x' l' =>
    rw [h] at e'
    injection e' with _ e2 _
    exact e2.symm
/-- a machine whose neighbour is that name stays -/
theorem ToOf.self {nm : Str} {m : MachM} (ok : m.Ok) (h : ∀ r ∈ m.rows, ∀ b x l, r.deed = .ex b x l → x = nm) : ToOf nm m m := by
  have e : m.rows.map (toR nm) = m.rows := by
    conv => rhs; rw [← List.map_id m.rows]
    refine List.map_congr_left fun r hr => ?_
    obtain ⟨bf, dd, af⟩ := r
    cases dd with
    | step => rfl
    | ex b x l =>
      have z := h _ hr b x l rfl
      subst z
      rfl
  exact ⟨rfl, rfl, by rw [e], ok.r2.imp fun {a b} z => by
    have y : PyProof.Rows.lexLt itemOrd (PySem.W.keyToks a.key.data) (PySem.W.keyToks b.key.data) = true := z
    exact lex_asym _ _ y⟩
theorem AsmOf.ext {ms : List (Str × MachM)} {ls : List (Str × Str)} {N N' : NetM} (nd : (ms.map (·.1)).Nodup) (a : AsmOf ms ls N) (b : AsmOf ms ls N') : N = N' := by
  have nl : N.ls = N'.ls := by
    refine sorted_links a.le b.le ((List.perm_ext_iff_of_nodup a.once b.once).mpr fun o => (a.mem o).trans (b.mem o).symm)
  have n1 : N.names.Nodup := (a.perm.map (fun p : Str × MachM => p.1)).nodup_iff.mpr nd
  have n2 : N'.names.Nodup := (b.perm.map (fun p : Str × MachM => p.1)).nodup_iff.mpr nd
  have nm : N.names = N'.names := strs_ext a.asc n1 b.asc n2 fun x => ((a.perm.map (fun p : Str × MachM => p.1)).mem_iff).trans ((b.perm.map (fun p : Str × MachM => p.1)).mem_iff).symm
  have ms' : N.ms = N'.ms := by
    have p := a.perm.trans b.perm.symm
    refine List.ext_getElem p.length_eq fun i h1 h2 => ?_
    have e : (N.ms[i]).1 = (N'.ms[i]).1 := by
      have z : N.names[i]'(by rw [NetM.names, List.length_map]; exact h1) = N'.names[i]'(by rw [NetM.names, List.length_map]; exact h2) := by
        congr 1
      simpa [NetM.names] using z
    exact nodup_map_inj n2 _ (p.mem_iff.mp (List.getElem_mem h1)) _ (List.getElem_mem h2) e
  cases N
  cases N'
  simp only at nl ms'
  rw [nl, ms']
end K55
/-! The network with a branch replaced: valid, replaced once more the same. -/
namespace K55
open PySem PySem.Spec PyProof.Rows L2 WD NS MC GL
section
variable {N : NetM} {x y : Str} {ys : List Str}
theorem br_other (br : BrOf N.ls x y ys) : y ∈ ys := (br.mem y).mpr (.refl _)
theorem br_one (ok : N.Ok) (ho : ordL x y ∈ N.ls) (br : BrOf N.ls x y ys) : x ∉ ys := fun h => cut_off ok ho ((br.mem x).mp h)
theorem br_cross (ok : N.Ok) (ho : ordL x y ∈ N.ls) (br : BrOf N.ls x y ys) {a b : Str} (h : Linked N.ls a b) (na : a ∉ ys) (hb : b ∈ ys) : a = x ∧ b = y := by
  have yy := br_other br
  have nx := br_one ok ho br
  have back : ∀ l ∈ N.ls, (l = (a, b) ∨ l = (b, a)) → l = ordL x y := fun l hl e => Classical.byContradiction fun n => na ((br.mem a).mpr (((br.mem b).mp hb).trans (.one (by
    have m : l ∈ lsNot N.ls (ordL x y) := List.mem_filter.mpr ⟨hl, decide_eq_true n⟩
    rcases e with rfl | rfl
    · exact .inr m
    · exact .inl m))))
  rcases h with h | h
  · have e := back _ h (.inl rfl)
    rcases ordL_ends x y with z | z
    · rw [z] at e
      exact ⟨congrArg (·.1) e, congrArg (·.2) e⟩
    · rw [z] at e
      exact absurd yy ((show a = y from congrArg (·.1) e) ▸ na)
  · have e := back _ h (.inr rfl)
    rcases ordL_ends x y with z | z
    · rw [z] at e
      exact absurd hb ((show b = x from congrArg (·.1) e) ▸ nx)
    · rw [z] at e
      exact ⟨congrArg (·.2) e, congrArg (·.1) e⟩
theorem names_out (p : Str) : p ∈ (N.ms.filter (outM ys)).map (·.1) ↔ p ∈ N.names ∧ p ∉ ys := by
  rw [List.mem_map]
  constructor
  · rintro ⟨q, hq, rfl⟩
    have z := List.mem_filter.mp hq
    exact ⟨List.mem_map.mpr ⟨q, z.1, rfl⟩, of_decide_eq_true z.2⟩
  · rintro ⟨h, n⟩
    obtain ⟨q, hq, rfl⟩ := List.mem_map.mp h
    exact ⟨q, List.mem_filter.mpr ⟨hq, decide_eq_true n⟩, rfl⟩
theorem out_nodup (ok : N.Ok) (br : BrOf N.ls x y ys) (m : MachM) : ((N.ms.filter (outM ys) ++ [(y, m)]).map (·.1)).Nodup := by
  rw [List.map_append, List.nodup_append]
  refine ⟨ok.once.sublist (List.Sublist.map _ List.filter_sublist), by simp, fun u hu v hv e => ?_⟩
  have ev : v = y := List.mem_singleton.mp hv
  exact ((names_out u).mp hu).2 (e ▸ ev ▸ br_other br)
theorem outL_mem (l : Str × Str) : l ∈ N.ls.filter (outL ys) ↔ l ∈ N.ls ∧ l.1 ∉ ys ∧ l.2 ∉ ys := by
  rw [List.mem_filter, outL, Bool.and_eq_true, decide_eq_true_eq, decide_eq_true_eq]
/-- the links of what is assembled -/
theorem rep_links (ok : N.Ok) {ms : List (Str × MachM)} {N' : NetM} (A : AsmOf ms (N.ls.filter (outL ys) ++ [(x, y)]) N') (o : Str × Str) : o ∈ N'.ls ↔ (o ∈ N.ls ∧ o.1 ∉ ys ∧ o.2 ∉ ys) ∨ o = ordL x y := by
  rw [A.mem o]
  constructor
  · rintro ⟨l, hl, rfl⟩
    rcases List.mem_append.mp hl with h | h
    · have z := (outL_mem l).mp h
      have e : ordL l.1 l.2 = l := (ordL_back (ok.l1 l z.1).2.2).1
      rw [e]
      exact .inl z
    · rw [List.mem_singleton.mp h]
      exact .inr rfl
  · rintro (h | rfl)
    · refine ⟨o, List.mem_append_left _ ((outL_mem o).mpr h), (ordL_back (ok.l1 o h.1).2.2).1⟩
    · exact ⟨(x, y), List.mem_append_right _ List.mem_cons_self, rfl⟩
theorem RepOf.ok {m : MachM} {N' : NetM} (R : RepOf N x y m N') (ok : N.Ok) (ho : ordL x y ∈ N.ls) (okm : m.Ok) (one : Single m) : N'.Ok := by
  obtain ⟨ys, m', br, to, A⟩ := R.ex
  obtain ⟨mx, my, nxy⟩ := ord_ends ok ho
  have okm' := to.ok okm one (ok.wdn mx)
  have yy := br_other br
  have nx := br_one ok ho br
  have lks := rep_links ok A
  have sub : ∀ o ∈ N'.ls, o ∈ N.ls := fun o h => ((lks o).mp h).elim (fun z => z.1) fun z => z ▸ ho
  have outer : ordL x y ∈ N'.ls := (lks _).mpr (.inr rfl)
  have memn : ∀ z, z ∈ N'.names ↔ (z ∈ N.names ∧ z ∉ ys) ∨ z = y := fun z => by
    have e := (A.perm.map (fun p : Str × MachM => p.1)).mem_iff (a := z)
    rw [List.map_append, List.mem_append, names_out] at e
    rw [show N'.names = N'.ms.map (fun p => p.1) from rfl, e]
    simp
  have lk1 : Linked N'.ls x y := by
    rcases ordL_ends x y with e | e
    · exact .inl (e ▸ outer)
    · exact .inr (e ▸ outer)
  have len : N'.ms.length = (N.ms.filter (outM ys)).length + 1 := by rw [A.perm.length_eq, List.length_append]; rfl
  have lt : (N.ms.filter (outM ys)).length < N.ms.length := by
    obtain ⟨p, hp, e⟩ := List.mem_map.mp my
    refine Nat.lt_of_le_of_ne (List.length_filter_le _ _) fun z => ?_
    have all := List.length_filter_eq_length_iff.mp z p hp
    exact (of_decide_eq_true all : p.1 ∉ ys) (e ▸ yy)
  have onceN : N'.names.Nodup := (A.perm.map (fun p : Str × MachM => p.1)).nodup_iff.mpr (out_nodup ok br m')
  have n6 := ok.n6
  refine ⟨by omega, by omega, fun p hp => ?_, (A.asc.and onceN).imp fun {a b} z => ?_, fun o h => ?_, strict_links A.le A.once, ?_, fun p hp r hr b z l e => ?_, ok.tree.sub sub⟩
  · rcases List.mem_append.mp (A.perm.mem_iff.mp hp) with h | h
    · exact ok.wd p (List.mem_filter.mp h).1
    · rw [List.mem_singleton.mp h]
      exact ⟨ok.wdn my, okm'⟩
  · by_cases c : sLt a b
    · exact c
    · exact absurd (PySem.W.str_of_cps (List.le_antisymm z.1 (List.not_lt.mp c))) z.2
  · have l1 := ok.l1 o (sub o h)
    rcases (lks o).mp h with z | z
    · exact ⟨(memn _).mpr (.inl ⟨l1.1, z.2.1⟩), (memn _).mpr (.inl ⟨l1.2.1, z.2.2⟩), l1.2.2⟩
    · have hx : x ∈ N'.names := (memn x).mpr (.inl ⟨mx, nx⟩)
      have hy : y ∈ N'.names := (memn y).mpr (.inr rfl)
      refine ⟨?_, ?_, l1.2.2⟩
      · rw [z]
        rcases ordL_ends x y with e | e <;> rw [e]
        · exact hx
        · exact hy
      · rw [z]
        rcases ordL_ends x y with e | e <;> rw [e]
        · exact hy
        · exact hx
  · exact Nat.lt_of_le_of_lt (List.Nodup.length_le_of_subset A.once sub) ok.lf
  · rcases List.mem_append.mp (A.perm.mem_iff.mp hp) with h | h
    · have z1 := List.mem_filter.mp h
      have np : p.1 ∉ ys := of_decide_eq_true z1.2
      have lk := ok.near p z1.1 r hr b z l e
      by_cases c : z ∈ ys
      · obtain ⟨ea, eb⟩ := br_cross ok ho br lk np c
        rw [ea, eb]
        exact lk1
      · rcases lk with k | k
        · exact .inl ((lks _).mpr (.inl ⟨k, np, c⟩))
        · exact .inr ((lks _).mpr (.inl ⟨k, c, np⟩))
    · have ep := List.mem_singleton.mp h
      rw [ep] at hr ⊢
      rw [to.names hr e]
      exact lk1.symm
theorem RepOf.outer {m : MachM} {N' : NetM} (R : RepOf N x y m N') (ok : N.Ok) : ordL x y ∈ N'.ls := by
  obtain ⟨ys, m', br, to, A⟩ := R.ex
  exact (rep_links ok A _).mpr (.inr rfl)
theorem RepOf.ext {m : MachM} {N1 N2 : NetM} (a : RepOf N x y m N1) (b : RepOf N x y m N2) (ok : N.Ok) : N1 = N2 := by
  obtain ⟨ys, m1, br, to, A⟩ := a.ex
  obtain ⟨zs, m2, br2, to2, B⟩ := b.ex
  have e := br.ext br2
  subst e
  have e2 := to.ext to2
  subst e2
  exact A.ext (out_nodup ok br m1) B
/-- the branch of a replaced network: the one machine -/
theorem RepOf.branch {m : MachM} {N' : NetM} (R : RepOf N x y m N') (ok : N.Ok) (ho : ordL x y ∈ N.ls) : BrOf N'.ls x y [y] := by
  obtain ⟨ys, m', br, to, A⟩ := R.ex
  have yy := br_other br
  refine ⟨fun z => ?_, List.pairwise_singleton _ _, by simp, by show 1 < 60; decide⟩
  have alone : ∀ l ∈ lsNot N'.ls (ordL x y), l.1 ≠ y ∧ l.2 ≠ y := fun l hl => by
    have h := List.mem_filter.mp hl
    have n : l ≠ ordL x y := of_decide_eq_true h.2
    rcases (rep_links ok A l).mp h.1 with k | k
    · exact ⟨fun e => k.2.1 (e ▸ yy), fun e => k.2.2 (e ▸ yy)⟩
    · exact absurd k n
  rw [List.mem_singleton]
  constructor
  · rintro rfl
    exact .refl _
  · intro c
    exact leaf_alone alone c
theorem RepOf.again {m : MachM} {N' : NetM} (R : RepOf N x y m N') (ok : N.Ok) (ho : ordL x y ∈ N.ls) (okN : N'.Ok) : RepOf N' x y m N' := by
  have br' := R.branch ok ho
  have outer' := R.outer ok
  obtain ⟨ys, m', br, to, A⟩ := R.ex
  have yy := br_other br
  refine ⟨[y], m', br', to, ?_, A.asc, fun o => ?_, A.le, A.once⟩
  · have f1 : (N.ms.filter (outM ys) ++ [(y, m')]).filter (outM [y]) = N.ms.filter (outM ys) := by
      rw [List.filter_append, List.filter_eq_self.mpr, List.filter_cons_of_neg (by simp [outM])]
      · exact List.append_nil _
      · intro p hp
        have n : p.1 ∉ ys := of_decide_eq_true (List.mem_filter.mp hp).2
        exact decide_eq_true fun z => n ((List.mem_singleton.mp z) ▸ yy)
    have p2 := A.perm.filter (outM [y])
    rw [f1] at p2
    exact A.perm.trans (p2.symm.append_right _)
  · constructor
    · intro h
      by_cases c : o.1 = y ∨ o.2 = y
      · have e : o = ordL x y := by
          rcases (rep_links ok A o).mp h with k | k
          · rcases c with c | c
            · exact absurd (c ▸ yy) k.2.1
            · exact absurd (c ▸ yy) k.2.2
          · exact k
        exact ⟨(x, y), List.mem_append_right _ List.mem_cons_self, e.symm⟩
      · refine ⟨o, List.mem_append_left _ ((outL_mem o).mpr ⟨h, fun z => c (.inl (List.mem_singleton.mp z)), fun z => c (.inr (List.mem_singleton.mp z))⟩), (ordL_back (okN.l1 o h).2.2).1⟩
    · rintro ⟨l, hl, rfl⟩
      rcases List.mem_append.mp hl with h | h
      · have z := (outL_mem l).mp h
        rw [(ordL_back (okN.l1 l z.1).2.2).1]
        exact z.1
      · rw [List.mem_singleton.mp h]
        exact outer'
/-- a branch of one machine, replaced by that machine -/
theorem RepOf.same {m : MachM} (ok : N.Ok) (ho : ordL x y ∈ N.ls) (br : BrOf N.ls x y [y]) (hm : (y, m) ∈ N.ms) : RepOf N x y m N ∧ Single m := by
  have only : ∀ r ∈ m.rows, ∀ b z l, r.deed = .ex b z l → z = x := fun r hr b z l e => by
    have lk := ok.near _ hm r hr b z l e
    by_cases c : z ∈ [y]
    · have ez := List.mem_singleton.mp c
      rw [ez] at lk
      rcases lk with k | k <;> exact absurd (ok.l1 _ k).2.2 (sLt_irr _)
    · exact (br_cross ok ho br lk.symm c List.mem_cons_self).1
  refine ⟨⟨[y], m, br, ToOf.self (ok.wd _ hm).2 only, ?_, ok.asc.imp fun {a b} h => List.le_of_lt h, fun o => ?_, ok.l2.imp fun {a b} h => linkLt_asym h, ok.lonce⟩, fun r hr r' hr' b z l b' z' l' e e' => (only r hr b z l e).trans (only r' hr' b' z' l' e').symm⟩
  · refine (List.perm_ext_iff_of_nodup (nodup_of_map ok.once) (nodup_of_map (out_nodup ok br m))).mpr fun p => ?_
    rw [List.mem_append, List.mem_filter, List.mem_singleton]
    constructor
    · intro h
      by_cases c : p.1 = y
      · exact .inr (nodup_map_inj ok.once p h (y, m) hm c)
      · exact .inl ⟨h, decide_eq_true fun z => c (List.mem_singleton.mp z)⟩
    · rintro (h | rfl)
      · exact h.1
      · exact hm
  · constructor
    · intro h
      by_cases c : o.1 = y ∨ o.2 = y
      · have e : o = ordL x y := by
          have nl : o.1 ≠ o.2 := fun e => sLt_irr _ (e ▸ (ok.l1 o h).2.2 : sLt o.1 o.1)
          have lt := (ok.l1 o h).2.2
          have eo := ordL_back lt
          rcases c with c | c
          · have z := (br_cross ok ho br (a := o.2) (b := o.1) (.inr h) (fun z => nl (c.trans (List.mem_singleton.mp z).symm)) (c ▸ List.mem_cons_self)).1
            rw [← z, ← c, eo.2]
          · have z := (br_cross ok ho br (a := o.1) (b := o.2) (.inl h) (fun z => nl ((List.mem_singleton.mp z).trans c.symm)) (c ▸ List.mem_cons_self)).1
            rw [← z, ← c, eo.1]
        exact ⟨(x, y), List.mem_append_right _ List.mem_cons_self, e.symm⟩
      · refine ⟨o, List.mem_append_left _ ((outL_mem o).mpr ⟨h, fun z => c (.inl (List.mem_singleton.mp z)), fun z => c (.inr (List.mem_singleton.mp z))⟩), (ordL_back (ok.l1 o h).2.2).1⟩
    · rintro ⟨l, hl, rfl⟩
      rcases List.mem_append.mp hl with h | h
      · have z := (outL_mem l).mp h
        rw [(ordL_back (ok.l1 l z.1).2.2).1]
        exact z.1
      · rw [List.mem_singleton.mp h]
        exact ho
end
end K55
/-! _law_replaced. -/
namespace K55
open PySem PySem.Spec PyProof.Rows L2 WD NS MC GL
open C8 (pss_cut tCut)
abbrev sRp : Stmt := topS 76
abbrev nRp : List Str := ["_law_net", "_law_one", "_law_other", "_law_machine", "_law_names", "_law_rows", "_law_state", "_law_deed", "_law_later", "_law_pairs", "_law_links_here", "_law_pair", "_law_link"]
theorem scRp : FnScope nRp ["_law_net", "_law_one", "_law_other", "_law_machine"] (defScope sRp) := ⟨rfl, rfl, rfl, by decide +kernel, rfl, by decide +kernel, by decide +kernel⟩
structure TxtMb (K : PySem.W.Frag) (mg : Str → Option Value) (fMb : Addr) (dMb : FuncData) : Prop where
  F : Fun K "_law_members" "_law_members" sMem fMb dMb
  b : L2.Binds K dMb ["_law_net", "_law_one", "_law_other"] []
  g : mg "_law_members" = some (.ref fMb)
theorem eqv_step (d : Deed) : PyData.eqv d.key.data (.tuple [.str "step"]) = decide (d = .step) := eqv_deed d .step
section
variable {P : Program} {w : World} {K : PySem.W.Frag} {mg : Str → Option Value} {base : Heap} {fLk fMb : Addr} {dLk dMb : FuncData}
theorem ok_Rp {f : Addr} {fd : FuncData} {k : Nat} (F : Fun K "_law_replaced" "_law_replaced" sRp f fd) (TS : TxtS mg) (MM : TxtMm mg) (TL : TxtLk K mg fLk dLk) (T : TxtMb K mg fMb dMb) : FnOk P w K mg base CX0 (k + 3) f fd ["_law_net", "_law_one", "_law_other", "_law_machine"] spWB := by
  have GM : FnOk P w K mg base CX0 (k + 2) fMb dMb ["_law_net", "_law_one", "_law_other"] spMem := ok_Mem T.F TS TL
  refine F.ok scRp (fun vs H Q E h => ?_) (fun cdv A outer s H vs Q E hr h => ?_)
  · obtain ⟨a, b, N, x, y, m, rfl, _⟩ := h
    rfl
  · obtain ⟨a, b, N, x, y, m, rfl, hn, ok, ho, hm, okm, one, q⟩ := h
    have hu := hr.units
    refine ⟨_, pss_cut (ps_asg (pe_tup (pa_cons (pe_call GM hr (by rfl) T.g T.F.kp T.b .nil pass0 (pa_cons (pv 0) (pa_cons (pv 1) (pa_cons (pv 2) pa_nil)))) (pa_cons (pe_lst pa_nil) pa_nil))) (pg_tup rfl (pgs_cons (pg_name (i := 4) scRp.nd rfl (.inr rfl)) (pgs_cons (pg_name (i := 5) scRp.nd rfl (.inl rfl)) pgs_nil))))
      (pss_cut (ps_for PassesOwn.never rfl (pi_tup (pe_ix ix_tup (pv 3) pe_int (fun _ _ => rfl))) (pg_tup rfl (pgs_cons (pg_name (i := 6) scRp.nd rfl (.inl rfl)) (pgs_cons (pg_name (i := 7) scRp.nd rfl (.inl rfl)) (pgs_cons (pg_name (i := 8) scRp.nd rfl (.inl rfl)) pgs_nil))))
        (pss_one (ps_expr (pe_bm PySem.F.plainAttrs_list PySem.F.slot_list_append PySem.F.type_list_append mt_append (pv 5) (pa_cons (pe_tup (pa_cons (pv 6) (pa_cons (pe_ifExp (pt_cmpR (show OpR _ (compareOp .Eq) (rEqD K) from op_eqD hu) (pv 7) (pe_tup (pa_cons pe_str pa_nil)) (nomark _)) (pv 7)
            (pe_tup (pa_cons (pe_ix (show IxR _ (rIxT K) from ix_tup) (pv 7) pe_int (fun _ _ => rfl)) (pa_cons (pv 1) (pa_cons (pe_ix (show IxR _ (rIxT K) from ix_tup) (pv 7) pe_int (fun _ _ => rfl)) pa_nil))))) (pa_cons (pv 8) pa_nil)))) pa_nil)))))
      (pss_cut (ps_setLc (i := 9) (own := [("_law_pair", 11)]) (g := gName 11) (tt := tTest (tOp (rIn K true) (tOp (rIxT K) (tVar 11) (tC (.int 0))) (tVar 4))) (te := tVar 11) rfl scRp.nd rfl rfl (sw_true rfl rfl rfl (by decide +kernel))
          (pi_tup (pe_ix ix_tup (pv 0) pe_int (fun _ _ => rfl))) (blkOk_by (own := [("_law_pair", 11)]) (N := nRp) (sc := defScope sRp) (by decide +kernel))
          (fun _ _ _ _ _ => pg_name (i := 11) scRp.nd rfl (.inl rfl)) (fun _ _ _ _ _ => pts_one (pt_cmpR (show OpR _ (compareOp .NotIn) (rIn K true) from op_notIn_seq) (pe_ix (show IxR _ (rIxT K) from ix_tup) (pv 11) pe_int (fun _ _ => rfl)) (pv 4) (by rfl))) (fun _ _ _ _ _ => pv 11))
      (pss_cut (ps_setLc (i := 10) (own := [("_law_link", 12)]) (g := gName 12) (tt := tAnd (tTest (tOp (rIn K true) (tOp (rIxT K) (tVar 12) (tC (.int 0))) (tVar 4))) (tTest (tOp (rIn K true) (tOp (rIxT K) (tVar 12) (tC (.int 1))) (tVar 4)))) (te := tVar 12) rfl scRp.nd rfl rfl (sw_true rfl rfl rfl (by decide +kernel))
          (pi_tup (pe_ix ix_tup (pv 0) pe_int (fun _ _ => rfl))) (blkOk_by (own := [("_law_link", 12)]) (N := nRp) (sc := defScope sRp) (by decide +kernel))
          (fun _ _ _ _ _ => pg_name (i := 12) scRp.nd rfl (.inl rfl))
          (fun _ _ _ _ _ => pts_one (PW.pt (pw_and (pt_cmpR (show OpR _ (compareOp .NotIn) (rIn K true) from op_notIn_seq) (pe_ix (show IxR _ (rIxT K) from ix_tup) (pv 12) pe_int (fun _ _ => rfl)) (pv 4) (by rfl)) (pw_and1 (pt_cmpR (show OpR _ (compareOp .NotIn) (rIn K true) from op_notIn_seq) (pe_ix (show IxR _ (rIxT K) from ix_tup) (pv 12) pe_int (fun _ _ => rfl)) (pv 4) (by rfl))))))
          (fun _ _ _ _ _ => pv 12))
      (pss_cut (ps_expr (pe_bm PySem.F.plainAttrs_list PySem.F.slot_list_append PySem.F.type_list_append mt_append (pv 9) (pa_cons (pe_tup (pa_cons (pv 2) (pa_cons (pe_tup (pa_cons (pe_ix (show IxR _ (rIxT K) from ix_tup) (pv 3) pe_int (fun _ _ => rfl)) (pa_cons (pe_ix (show IxR _ (rIxT K) from ix_tup) (pv 3) pe_int (fun _ _ => rfl))
          (pa_cons (pe_callTy call_tuple_of (by rfl) TS.tuple (by decide +kernel) (pa_cons (pe_callB (NS.cr_sortedL rfl hu) (by rfl) TS.sorted (by decide +kernel) (pa_cons (pv 5) pa_nil)) pa_nil)) pa_nil)))) pa_nil))) pa_nil)))
      (pss_one (ps_ret (pe_tup (pa_cons (pe_callTy call_tuple_of (by rfl) TS.tuple (by decide +kernel) (pa_cons (pe_callB (NS.cr_sortedL rfl hu) (by rfl) TS.sorted (by decide +kernel) (pa_cons (pv 9) pa_nil)) pa_nil))
        (pa_cons (pe_callTy call_tuple_of (by rfl) TS.tuple (by decide +kernel) (pa_cons (pe_callB (NS.cr_sortedL rfl hu) (by rfl) TS.sorted (by decide +kernel) (pa_cons (pe_op op_cat (pv 10) (pe_lst (pa_cons (pe_tup (pa_cons (pe_callB (MnT.call_minT rfl) (by rfl) MM.min (by decide +kernel) (pa_cons (pv 1) (pa_cons (pv 2) pa_nil))) (pa_cons (pe_callB (MnT.call_maxT rfl) (by rfl) MM.max (by decide +kernel) (pa_cons (pv 1) (pa_cons (pv 2) pa_nil))) pa_nil))) pa_nil))) pa_nil)) pa_nil)) pa_nil))))))))), ?_⟩
    obtain ⟨M⟩ := net_at hn
    obtain ⟨MB⟩ := mach_at hm
    obtain ⟨L, eL, mL, kL⟩ := lk_of M.lks
    obtain ⟨R, eR, mR, kR⟩ := pr_of M.all
    have eA : H M.A = some (.tup (R.map fun p => V.ref p.1)) := eR ▸ M.ea
    have eB : H M.B = some (.tup (L.map fun p => V.ref p.1)) := eL ▸ M.eb
    obtain ⟨mx, my, nxy⟩ := ord_ends ok ho
    have lf := ok.lf
    have n6 := ok.n6
    have r3 := okm.r3
    have lL : L.length < 30 := by
      rw [← mL, List.length_map] at lf
      exact lf
    have lR : R.length ≤ 6 := by
      have z := n6
      rw [← mR, List.length_map] at z
      exact z
    have lx : MB.xs.length = m.rows.length := by
      have z := kz_len MB.all
      rw [List.length_map] at z
      exact z
    -- names, rows
    refine ⟨fun σ' H' => ∃ (p D : Addr) (ys : List Str), σ' = [some (.ref a), some (.str x), some (.str y), some (.ref b), some (.ref p), some (.ref D), none, none, none, none, none, none, none] ∧ Same H H' ∧ p ≠ D ∧ H D = none ∧ H' p = some (.lst (ys.map V.str)) ∧ BrOf N.ls x y ys ∧ H' D = some (.lst []), ?_, ?_⟩
    · refine ⟨_, rfl, _, rfl, _, rfl, a, N, x, y, rfl, hn, ok, ho, fun H1 p ys s1 np ep br => ⟨Nat.zero_le _, fun D nD => ⟨by show 2 ≤ sizeLine; decide, fun t nt => ?_⟩⟩⟩
      have kD := same_upd (o := .lst []) nD
      have kt := same_upd (o := .tup [.ref p, .ref D]) nt
      exact ⟨t, _, rfl, SqT.of upd_same, rfl, _, _, rfl, _, _, rfl, rfl, p, D, ys, rfl, s1.trans (kD.trans kt), ne_of_none ep nD, s1.free nD, kt _ _ (kD _ _ ep), br, kt _ _ upd_same⟩
    rintro σ1 H1 ⟨p, D, ys, rfl, s1, pD, nD, ep, br, eD⟩
    have fl : (ys.map V.str).all flatV = true := flat_strs ys
    -- the rows
    refine ⟨fun σ' H' => ∃ (u6 u7 u8 : Option V) (W : List (Addr × RowM)), σ' = [some (.ref a), some (.str x), some (.str y), some (.ref b), some (.ref p), some (.ref D), u6, u7, u8, none, none, none, none] ∧ Same H H' ∧ H' p = some (.lst (ys.map V.str)) ∧ H' D = some (.lst (W.map fun p => V.ref p.1)) ∧ W.map (·.2) = m.rows.map (toR x) ∧ ∀ p ∈ W, Kz H' (.ref p.1) p.2.key, ?_, ?_⟩
    · refine ⟨_, rfl, b, _, 2, .ref MB.t, rfl, rfl, SqT.of (s1 _ _ MB.top), atI_nat (j := 2) rfl, MB.t, rfl, ⟨_, SqT.of (s1 _ _ MB.row)⟩, for_tup (xs := MB.xs) (fun i σ' H' => ∃ (u6 u7 u8 : Option V) (W : List (Addr × RowM)), σ' = [some (.ref a), some (.str x), some (.str y), some (.ref b), some (.ref p), some (.ref D), u6, u7, u8, none, none, none, none] ∧ Same H H' ∧ H' p = some (.lst (ys.map V.str)) ∧ H' D = some (.lst (W.map fun p => V.ref p.1)) ∧ W.map (·.2) = (m.rows.take i).map (toR x) ∧ ∀ p ∈ W, Kz H' (.ref p.1) p.2.key)
        ⟨none, none, none, [], rfl, s1, ep, eD, rfl, fun _ z => nomatch z⟩ (fun i σ' H' _ ⟨_, _, _, _, _, s, _⟩ => SqT.of (s _ _ MB.row)) ?_ ?_⟩
      · rintro i v σ' H2 hv ⟨u6, u7, u8, W, rfl, s2, ep2, e2, mW, kW⟩
        obtain ⟨r, hr', ra, dv, rfl, er, kd⟩ := row_at MB.all hv
        obtain ⟨qd, rfl, ed⟩ := deed_at kd
        have er2 := s2 _ _ er
        have ed2 := s2 _ _ ed
        have il := (List.getElem?_eq_some_iff.mp hr').1
        have lW : W.length < sizeLine := by
          have z := congrArg List.length mW
          rw [List.length_map, List.length_map, List.length_take] at z
          rw [sizeLine_eq]
          omega
        have okd := (okm.r1 r (List.mem_of_getElem? hr')).dd
        have fin : ∀ (H4 : Hp) (q4 : Addr), Same H2 H4 → H4 q4 = some (.tup ((toD x r.deed).signs.map V.str)) → ∀ t, H4 t = none → ∃ l xs v, V.ref D = .ref l ∧ [V.ref t] = [v] ∧ upd H4 t (.tup [.int r.before, .ref q4, .int r.after]) l = some (.lst xs) ∧ xs.length < sizeLine ∧
            ∃ (u6 u7 u8 : Option V) (W : List (Addr × RowM)), [some (V.ref a), some (.str x), some (.str y), some (.ref b), some (.ref p), some (.ref D), some (.int r.before), some (.ref qd), some (.int r.after), none, none, none, none] = [some (.ref a), some (.str x), some (.str y), some (.ref b), some (.ref p), some (.ref D), u6, u7, u8, none, none, none, none] ∧ Same H (upd (upd H4 t (.tup [.int r.before, .ref q4, .int r.after])) l (.lst (xs ++ [v]))) ∧ upd (upd H4 t (.tup [.int r.before, .ref q4, .int r.after])) l (.lst (xs ++ [v])) p = some (.lst (ys.map V.str)) ∧
              upd (upd H4 t (.tup [.int r.before, .ref q4, .int r.after])) l (.lst (xs ++ [v])) D = some (.lst (W.map fun p => V.ref p.1)) ∧ W.map (·.2) = (m.rows.take (i + 1)).map (toR x) ∧ ∀ p ∈ W, Kz (upd (upd H4 t (.tup [.int r.before, .ref q4, .int r.after])) l (.lst (xs ++ [v]))) (.ref p.1) p.2.key := fun H4 q4 s4 e4 t nt => by
          have kt := same_upd (o := .tup [.int r.before, .ref q4, .int r.after]) nt
          have e5 := kt _ _ (s4 _ _ e2)
          have tu := tups_list (o := .lst (W.map (fun p => V.ref p.1) ++ [.ref t])) e5
          refine ⟨D, _, .ref t, rfl, rfl, e5, by rw [List.length_map]; exact lW, _, _, _, W ++ [(t, toR x r)], rfl, same_set ((s2.trans s4).trans kt) nD, by rw [upd_ne pD]; exact kt _ _ (s4 _ _ ep2), ?_, ?_, fun z hz => ?_⟩
          · rw [upd_same, List.map_append]
            rfl
          · rw [List.map_append, mW, List.take_succ, hr', List.map_append]
            rfl
          · rcases List.mem_append.mp hz with z1 | z1
            · exact kz_tups ((tups_same (s4.trans kt)).trans tu) _ _ (kW z z1)
            · rw [List.mem_singleton.mp z1]
              exact .tup (tu _ _ upd_same) (.cons (.int _) (.cons (kz_tups ((tups_same kt).trans tu) _ _ (deed_kz e4)) (.cons (.int _) .nil)))
        refine ⟨ra, _, rfl, SqT.of er2, rfl, _, _, rfl, _, _, rfl, _, _, rfl, rfl, ?_⟩
        refine ⟨_, rfl, .inl ⟨rfl, _, SqL.of e2⟩, _, rfl, _, rfl, by show 1 ≤ sizeLine; decide, fun c nc => ?_⟩
        have kc := same_upd (o := .tup [.str "step"]) nc
        refine ⟨_, _, deed_dp (kc _ _ ed2), .tup (SqT.of (xs := [.str "step"]) upd_same) (.cons (.str _) .nil), deed_shaped okd, shaped_one low_step, _, rfl, ?_⟩
        rw [eqv_step]
        cases hd : r.deed with
        | step =>
          rw [hd] at ed2
          refine ifT (by simp) ⟨_, rfl, _, rfl, by show 3 ≤ sizeLine; decide, fun t nt => ?_⟩
          have z := fin _ qd kc (by rw [hd]; exact kc _ _ ed2) t nt
          exact z
        | ex bb nn ll =>
          rw [hd] at ed2
          have e2' := kc _ _ ed2
          refine ifF (by simp) ⟨_, rfl, qd, _, 0, .str (wordOf bb), rfl, rfl, SqT.of e2', atI_nat (j := 0) rfl, _, rfl, _, rfl, qd, _, 2, .str ll, rfl, rfl, SqT.of e2', atI_nat (j := 2) rfl, by show 3 ≤ sizeLine; decide, fun q4 n4 => ⟨_, rfl, by show 3 ≤ sizeLine; decide, fun t nt => ?_⟩⟩
          have k4 := same_upd (o := .tup [.str (wordOf bb), .str x, .str ll]) n4
          have z := fin _ q4 (kc.trans k4) (by rw [hd]; exact upd_same) t nt
          exact z
      · rintro σ' H2 ⟨u6, u7, u8, W, rfl, s2, ep2, e2, mW, kW⟩
        rw [lx, List.take_length] at mW
        exact ⟨u6, u7, u8, W, rfl, s2, ep2, e2, mW, kW⟩
    rintro σ2 H2 ⟨u6, u7, u8, W, rfl, s2, ep2, eW, mW, kW⟩
    have lW : W.length < 64 := by
      have z := congrArg List.length mW
      rw [List.length_map, List.length_map] at z
      omega
    -- the pairs outside
    refine ⟨fun σ' H' => ∃ (B : Addr) (u11 : Option V), σ' = [some (.ref a), some (.str x), some (.str y), some (.ref b), some (.ref p), some (.ref D), u6, u7, u8, some (.ref B), none, u11, none] ∧ Same H2 H' ∧ H2 B = none ∧ H' B = some (.lst ((R.filter fun r => outM ys r.2.2).map fun r => V.ref r.1)), ?_, ?_⟩
    · refine ⟨_, rfl, a, _, 0, .ref M.A, rfl, rfl, SqT.of (s2 _ _ M.top), atI_nat (j := 0) rfl, M.A, rfl, ⟨_, SqT.of (s2 _ _ eA)⟩, fun B nB => ?_⟩
      have sB := same_upd (o := .lst []) nB
      refine lc_tup (xs := R.map fun p => V.ref p.1) (fun i H' => Same H2 H' ∧ H' B = some (.lst (((R.take i).filter fun r => outM ys r.2.2).map fun r => V.ref r.1))) ⟨sB, upd_same⟩ (fun i H' _ z => SqT.of (z.1 _ _ (s2 _ _ eA))) ?_ ?_
      · rintro i v H3 hv ⟨s3, e3⟩
        rw [List.getElem?_map] at hv
        obtain ⟨r, hr', rfl⟩ := Option.map_eq_some_iff.mp hv
        have il := (List.getElem?_eq_some_iff.mp hr').1
        have er := s3 _ _ (s2 _ _ (kR r (List.mem_of_getElem? hr')).1)
        have nx := filter_next (f := fun r : Addr × (Addr × (Str × MachM)) => outM ys r.2.2) hr'
        refine ⟨rfl, _, rfl, r.1, _, 0, .str r.2.2.1, rfl, rfl, SqT.of er, atI_nat (j := 0) rfl, _, rfl, p, _, rfl, .inl (SqL.of (s3 _ _ ep2)), rfl, fl, _, rfl, ?_⟩
        rw [inV_dec]
        refine ifB (fun hb => ?_) fun hb => ?_
        · have hb' : outM ys r.2.2 = true := by simpa [outM] using hb
          refine ⟨_, rfl, _, e3, ?_, same_set s3 nB, ?_⟩
          · have g := List.length_filter_le (fun r : Addr × (Addr × (Str × MachM)) => outM ys r.2.2) (R.take i)
            rw [List.length_take] at g
            rw [List.length_map, sizeLine_eq]
            omega
          · rw [upd_same, nx, if_pos hb', List.map_append]
            rfl
        · have hb' : ¬ outM ys r.2.2 = true := by simpa [outM] using hb
          refine ⟨s3, ?_⟩
          rw [nx, if_neg hb', List.append_nil]
          exact e3
      · rintro H3 ⟨s3, e3⟩
        rw [List.length_map, List.take_length] at e3
        exact ⟨B, _, rfl, s3, nB, e3⟩
    rintro σ3 H3 ⟨B, u11, rfl, s3, nB, eB3⟩
    have s23 := s2.trans s3
    -- the links outside
    refine ⟨fun σ' H' => ∃ (C : Addr) (u12 : Option V), σ' = [some (.ref a), some (.str x), some (.str y), some (.ref b), some (.ref p), some (.ref D), u6, u7, u8, some (.ref B), some (.ref C), u11, u12] ∧ Same H3 H' ∧ C ≠ B ∧ H' C = some (.lst ((L.filter fun r => outL ys r.2).map fun r => V.ref r.1)), ?_, ?_⟩
    · refine ⟨_, rfl, a, _, 1, .ref M.B, rfl, rfl, SqT.of (s23 _ _ M.top), atI_nat (j := 1) rfl, M.B, rfl, ⟨_, SqT.of (s23 _ _ eB)⟩, fun C nC => ?_⟩
      have sC := same_upd (o := .lst []) nC
      refine lc_tup (xs := L.map fun p => V.ref p.1) (fun i H' => Same H3 H' ∧ H' C = some (.lst (((L.take i).filter fun r => outL ys r.2).map fun r => V.ref r.1))) ⟨sC, upd_same⟩ (fun i H' _ z => SqT.of (z.1 _ _ (s23 _ _ eB))) ?_ ?_
      · rintro i v H4 hv ⟨s4, e4⟩
        rw [List.getElem?_map] at hv
        obtain ⟨r, hr', rfl⟩ := Option.map_eq_some_iff.mp hv
        have il := (List.getElem?_eq_some_iff.mp hr').1
        have er := s4 _ _ (s23 _ _ (kL r (List.mem_of_getElem? hr')))
        have ep4 := s4 _ _ (s3 _ _ ep2)
        have nx := filter_next (f := fun r : Addr × (Str × Str) => outL ys r.2) hr'
        have no : ¬ outL ys r.2 = true → Same H3 H4 ∧ H4 C = some (.lst (((L.take (i + 1)).filter fun r => outL ys r.2).map fun r => V.ref r.1)) := fun hb => by
          refine ⟨s4, ?_⟩
          rw [nx, if_neg hb, List.append_nil]
          exact e4
        refine ⟨rfl, _, rfl, r.1, _, 0, .str r.2.1, rfl, rfl, SqT.of er, atI_nat (j := 0) rfl, _, rfl, p, _, rfl, .inl (SqL.of ep4), rfl, fl, _, rfl, ?_⟩
        rw [inV_dec]
        refine ifB (fun hb => ?_) fun hb => no (by simp_all [outL])
        refine ⟨_, rfl, r.1, _, 1, .str r.2.2, rfl, rfl, SqT.of er, atI_nat (j := 1) rfl, _, rfl, p, _, rfl, .inl (SqL.of ep4), rfl, fl, _, rfl, ?_⟩
        rw [inV_dec]
        refine ifB (fun hb2 => ?_) fun hb2 => no (by simp_all [outL])
        have hb' : outL ys r.2 = true := by simp_all [outL]
        refine ⟨_, rfl, _, e4, ?_, same_set s4 nC, ?_⟩
        · have g := List.length_filter_le (fun r : Addr × (Str × Str) => outL ys r.2) (L.take i)
          rw [List.length_take] at g
          rw [List.length_map, sizeLine_eq]
          omega
        · rw [upd_same, nx, if_pos hb', List.map_append]
          rfl
      · rintro H4 ⟨s4, e4⟩
        rw [List.length_map, List.take_length] at e4
        exact ⟨C, _, rfl, s4, (ne_of_none eB3 nC).symm, e4⟩
    rintro σ4 H4 ⟨C, u12, rfl, s4, CB, eC⟩
    have s24 := s23.trans s4
    have kW4 : ∀ z ∈ W, Kz H4 (.ref z.1) z.2.key := fun z hz => Kz.same (s3.trans s4) _ _ (kW z hz)
    -- the machine
    refine ⟨fun σ' H' => ∃ (t : Addr) (m' : MachM), σ' = [some (.ref a), some (.str x), some (.str y), some (.ref b), some (.ref p), some (.ref D), u6, u7, u8, some (.ref B), some (.ref C), u11, u12] ∧ Same H H' ∧ H' C = some (.lst ((L.filter fun r => outL ys r.2).map fun r => V.ref r.1)) ∧ H' B = some (.lst (((R.filter fun r => outM ys r.2.2).map fun r => V.ref r.1) ++ [.ref t])) ∧ Kz H' (.ref t) (pairKey (y, m')) ∧ ToOf x m m', ?_, ?_⟩
    · have eW' : H4 D = some (.lst ((W.map fun p => ((p.1, p.2.key) : NS.Row)).map fun p => V.ref p.1)) := by
        rw [List.map_map]
        exact (s3.trans s4) _ _ eW
      refine ⟨_, rfl, .inl ⟨rfl, _, SqL.of (s4 _ _ eB3)⟩, _, rfl, _, rfl, b, _, 0, .int m.size, rfl, rfl, SqT.of (s24 _ _ MB.top), atI_nat (j := 0) rfl, _, rfl, b, _, 1, .ref MB.f, rfl, rfl, SqT.of (s24 _ _ MB.top), atI_nat (j := 1) rfl, _, rfl, D, W.map fun p => (p.1, p.2.key), rfl, SqL.of eW', by rw [List.length_map]; exact lW, fun z hz => ?_, alike_rowsA, sortable_rowsA, fun L1 p3 pm pw n3 => ?_⟩
      · obtain ⟨v, hv, rfl⟩ := List.mem_map.mp hz
        exact ⟨kW4 v hv, by show v.2.key.depth ≤ 8; rw [row_depth]; decide⟩
      obtain ⟨U, rfl, pU⟩ := as_rowsA pm
      have e3 : (U.map fun p => ((p.1, p.2.key) : NS.Row)).map (fun r => V.ref r.1) = U.map fun p => V.ref p.1 := by
        rw [List.map_map]
        rfl
      rw [e3]
      have k3 := same_upd (o := .lst (U.map fun p => V.ref p.1)) n3
      refine ⟨p3, _, rfl, .inl ⟨SqL.of upd_same, fun p4 n4 => ⟨by show 3 ≤ sizeLine; decide, fun p5 n5 => ⟨by show 2 ≤ sizeLine; decide, fun p6 n6 => ?_⟩⟩⟩⟩
      have k4 := same_upd (o := .tup (U.map fun p => V.ref p.1)) n4
      have k5 := same_upd (o := .tup [.int m.size, .ref MB.f, .ref p4]) n5
      have k6 := same_upd (o := .tup [.str y, .ref p5]) n6
      have k36 := k3.trans (k4.trans (k5.trans k6))
      have e6 := k36 _ _ (s4 _ _ eB3)
      have tu := tups_list (o := .lst (((R.filter fun r => outM ys r.2.2).map fun r => V.ref r.1) ++ [.ref p6])) e6
      have nBH : H B = none := s2.free nB
      refine ⟨B, _, .ref p6, rfl, rfl, e6, ?_, p6, ⟨m.size, m.finals, U.map (·.2)⟩, rfl, same_set (s24.trans k36) nBH, by rw [upd_ne CB]; exact k36 _ _ eC, upd_same, ?_, ⟨rfl, rfl, by rw [← mW]; exact pU.map _, le_rows pw⟩⟩
      · have g := List.length_filter_le (fun r : Addr × (Addr × (Str × MachM)) => outM ys r.2.2) R
        rw [List.length_map, sizeLine_eq]
        omega
      · exact kz_tups tu _ _ (.tup upd_same (.cons (.str _) (.cons (.tup (k6 _ _ upd_same) (.cons (.int _) (.cons (.tup ((s24.trans k36) _ _ MB.fin) (kz_ints _)) (.cons (.tup ((k5.trans k6) _ _ upd_same) (kzL fun z hz => Kz.same k36 _ _ (kW4 z (pU.mem_iff.mp hz)))) .nil)))) .nil)))
    rintro σ5 H5 ⟨t, m', rfl, s5, eC5, eB5, kt5, to⟩
    have okm' := to.ok okm one (ok.wdn mx)
    -- the network
    have eP : ∃ L5 : List (Addr × (Str × MachM)), L5.map (fun p => V.ref p.1) = ((R.filter fun r => outM ys r.2.2).map fun r => V.ref r.1) ++ [.ref t] ∧ L5.map (·.2) = N.ms.filter (outM ys) ++ [(y, m')] ∧ PkAt H5 L5 ∧ ∀ z ∈ L5, z.2.2.Ok := by
      refine ⟨((R.filter fun r => outM ys r.2.2).map fun r => (r.1, r.2.2)) ++ [(t, (y, m'))], ?_, ?_, fun z hz => ?_, fun z hz => ?_⟩
      · rw [List.map_append, List.map_map]
        rfl
      · rw [List.map_append, List.map_map, ← mR, List.filter_map]
        rfl
      · rcases List.mem_append.mp hz with h | h
        · obtain ⟨r, hr', rfl⟩ := List.mem_map.mp h
          have k := (kR.same s5) r (List.mem_filter.mp hr').1
          exact .tup k.1 (.cons (.str _) (.cons k.2 .nil))
        · rw [List.mem_singleton.mp h]
          exact kt5
      · rcases List.mem_append.mp hz with h | h
        · obtain ⟨r, hr', rfl⟩ := List.mem_map.mp h
          exact (ok.wd r.2.2 (mR ▸ List.mem_map.mpr ⟨r, (List.mem_filter.mp hr').1, rfl⟩)).2
        · rw [List.mem_singleton.mp h]
          exact okm'
    obtain ⟨L5, e5, m5, k5, ok5⟩ := eP
    rw [← e5] at eB5
    have l5 : L5.length < 64 := by
      have z := congrArg List.length m5
      have g := List.length_filter_le (outM ys) N.ms
      rw [List.length_map, List.length_append] at z
      have z' : L5.length = (N.ms.filter (outM ys)).length + 1 := z
      omega
    refine ⟨_, rfl, B, asPair L5, rfl, SqL.of (by rw [asPair_refs]; exact eB5), by rw [List.length_map]; exact l5, pairs_of k5 ok5, alike_pairs, sortable_pairs, fun L1 p6 pm pw n6 => ?_⟩
    obtain ⟨V6, e6, pV, leV⟩ := sorted_pairs pm pw
    rw [e6]
    have k6 := same_upd (o := .lst (V6.map fun p => V.ref p.1)) n6
    refine ⟨p6, _, rfl, .inl ⟨SqL.of upd_same, fun p7 n7 => ?_⟩⟩
    have k7 := same_upd (o := .tup (V6.map fun p => V.ref p.1)) n7
    refine ⟨_, rfl, _, rfl, _, rfl, x, y, rfl, _, rfl, _, rfl, x, y, rfl, by show 2 ≤ sizeLine; decide, fun p8 n8 => ⟨by show 1 ≤ sizeLine; decide, fun p9 n9 => ?_⟩⟩
    have k8 := same_upd (o := .tup [.str (MnT.lesser x y), .str (MnT.greater x y)]) n8
    have k9 := same_upd (o := .lst [.ref p8]) n9
    have k69 := k6.trans (k7.trans (k8.trans k9))
    have lfl : (L.filter fun r => outL ys r.2).length < 30 := Nat.lt_of_le_of_lt (List.length_filter_le _ _) lL
    refine ⟨C, p9, _, _, rfl, rfl, k69 _ _ eC5, upd_same, ?_, fun p10 n10 => ?_⟩
    · rw [List.length_map, sizeLine_eq]
      show (L.filter fun r => outL ys r.2).length + 1 ≤ _
      omega
    have k10 := same_upd (o := .lst (((L.filter fun r => outL ys r.2).map fun r => V.ref r.1) ++ [.ref p8])) n10
    have e10 : ((L.filter fun r => outL ys r.2).map fun r => V.ref r.1) ++ [V.ref p8] = ((L.filter fun r => outL ys r.2) ++ [(p8, ordL x y)]).map fun r => V.ref r.1 := by
      rw [List.map_append]
      rfl
    have kL10 : LkAt (upd (upd (upd (upd (upd H5 p6 (.lst (V6.map fun p => V.ref p.1))) p7 (.tup (V6.map fun p => V.ref p.1))) p8 (.tup [.str (MnT.lesser x y), .str (MnT.greater x y)])) p9 (.lst [.ref p8])) p10 (.lst (((L.filter fun r => outL ys r.2).map fun r => V.ref r.1) ++ [.ref p8]))) ((L.filter fun r => outL ys r.2) ++ [(p8, ordL x y)]) := fun z hz => by
      rcases List.mem_append.mp hz with h | h
      · exact (k69.trans k10) _ _ (s5 _ _ (kL z (List.mem_filter.mp h).1))
      · rw [List.mem_singleton.mp h, ordL_min]
        exact (k9.trans k10) _ _ upd_same
    refine ⟨p10, asRow ((L.filter fun r => outL ys r.2) ++ [(p8, ordL x y)]), rfl, SqL.of (by rw [asRow_refs, upd_same, e10]), by rw [List.length_map, List.length_append]; show (L.filter fun r => outL ys r.2).length + 1 < 64; omega, rows_of kL10, alike_links, sortable_links, fun L11 p11 pm11 pw11 n11 => ?_⟩
    obtain ⟨U, eU, pU, leU⟩ := sorted_of pm11 pw11
    rw [eU]
    have k11 := same_upd (o := .lst (U.map fun p => V.ref p.1)) n11
    refine ⟨p11, _, rfl, .inl ⟨SqL.of upd_same, fun p12 n12 => ⟨by show 2 ≤ sizeLine; decide, fun p13 n13 => ?_⟩⟩⟩
    have k12 := same_upd (o := .tup (U.map fun p => V.ref p.1)) n12
    have k13 := same_upd (o := .tup [.ref p7, .ref p12]) n13
    have a13 := k8.trans (k9.trans (k10.trans (k11.trans (k12.trans k13))))
    have s13 := s5.trans ((k6.trans k7).trans a13)
    have fL : (L.filter fun r => outL ys r.2).map (·.2) = N.ls.filter (outL ys) := by
      rw [← mL, List.filter_map]
      rfl
    have pm2 := pU.map (fun p : Addr × (Str × Str) => p.2)
    rw [List.map_append, fL] at pm2
    have pm3 := pV.map (fun p : Addr × (Str × MachM) => p.2)
    rw [m5] at pm3
    have yy := br_other br
    have no : ordL x y ∉ N.ls.filter (outL ys) := fun z => by
      have h := (outL_mem _).mp z
      rcases ordL_ends x y with e | e
      · rw [e] at h
        exact h.2.2 yy
      · rw [e] at h
        exact h.2.1 yy
    have ndl : (U.map (·.2)).Nodup := pm2.nodup_iff.mpr (by
      rw [List.nodup_append]
      refine ⟨ok.lonce.sublist List.filter_sublist, by simp, fun u hu' v hv e => no ?_⟩
      have ev : v = ordL x y := List.mem_singleton.mp hv
      rw [← ev, ← e]
      exact hu')
    have ndn : ((V6.map (·.2)).map (·.1)).Nodup := (pm3.map (fun p : Str × MachM => p.1)).nodup_iff.mpr (out_nodup ok br m')
    refine q _ p13 ⟨V6.map (·.2), U.map (·.2)⟩ s13 ((s5.trans ((k6.trans k7).trans (k8.trans (k9.trans (k10.trans (k11.trans k12)))))).free n13) ?_ ⟨ys, m', br, to, pm3, ?_, fun o => ?_, leU, ndl⟩
    · have kk : PkAt _ V6 := fun z hz => Kz.same ((k6.trans k7).trans a13) _ _ (k5 z (pV.mem_iff.mp hz))
      refine .tup upd_same (.cons (.tup (a13 _ _ upd_same) (kz_pairs kk)) (.cons (.tup (k13 _ _ upd_same) (LkAt.all fun z hz => ?_)) .nil))
      exact (k11.trans (k12.trans k13)) _ _ (kL10 z (pU.mem_iff.mp hz))
    · exact (asc_pairs leV ndn).imp fun {u v} h => List.le_of_lt h
    · show o ∈ U.map (·.2) ↔ _
      rw [pm2.mem_iff, List.mem_append]
      constructor
      · rintro (h | h)
        · have z := (outL_mem o).mp h
          exact ⟨o, List.mem_append_left _ h, (ordL_back (ok.l1 o z.1).2.2).1⟩
        · exact ⟨(x, y), List.mem_append_right _ List.mem_cons_self, (List.mem_singleton.mp h).symm⟩
      · rintro ⟨l, hl, rfl⟩
        rcases List.mem_append.mp hl with h | h
        · rw [(ordL_back (ok.l1 l ((outL_mem l).mp h).1).2.2).1]
          exact .inl h
        · rw [List.mem_singleton.mp h]
          exact .inr List.mem_cons_self
end
end K55
/-! _law_done. -/
namespace K55
open PySem PySem.Spec PyProof.Rows L2 WD NS MC GL
open C8 (pss_cut tCut)
abbrev sDn : Stmt := topS 70
abbrev nDn : List Str := ["_law_net", "_law_here", "_law_move", "_law_names", "_law_place", "_law_state", "_law_deed", "_law_later", "_law_states", "_law_queues", "_law_at", "_law_pair"]
theorem scDn : FnScope nDn ["_law_net", "_law_here", "_law_move"] (defScope sDn) := ⟨rfl, rfl, rfl, by decide +kernel, rfl, by decide +kernel, by decide +kernel⟩
abbrev QLe (c : CfgM) (B : Nat) : Prop := ∀ q ∈ c.qs, q.length ≤ B
/-- a move may be done -/
def En (N : NetM) (c : CfgM) (i j : Nat) (p : Str × MachM) : Prop := ∃ r : RowM, p.2.rows[j]? = some r ∧ c.sts[i]? = some r.before ∧ ∀ nm ll cs, r.deed = .ex false nm ll → ChOf N.ls cs → ((c.qs[cs.findIdx fun z => decide (z = (nm, p.1))]?).getD []).take 1 = [ll]
def spDn : Sp := fun vs H Q _ => ∃ (a h mv : Addr) (N : NetM) (c : CfgM) (B i j : Nat) (p : Str × MachM), vs = [.ref a, .ref h, .ref mv] ∧ Kz H (.ref a) N.key ∧ N.Ok ∧ Kz H (.ref h) c.key ∧ c.Ok N ∧ QLe c B ∧ B ≤ 900 ∧ N.ms[i]? = some p ∧ j < p.2.rows.length ∧ H mv = some (.tup [.str p.1, .int j]) ∧
  (¬ En N c i j p → ∀ H', Same H H' → Q .non H') ∧ (En N c i j p → ∀ H' q (c' : CfgM), Same H H' → H q = none → c'.Ok N → QLe c' (B + 1) → Kz H' (.ref q) c'.key → Q (.ref q) H')
theorem set_get {α : Type} {l : List α} {i k : Nat} {v z : α} (h : (l.set i v)[k]? = some z) : (k = i ∧ z = v) ∨ (k ≠ i ∧ l[k]? = some z) := by
  by_cases e : k = i
  · subst e
    rw [List.getElem?_set] at h
    rw [if_pos rfl] at h
    by_cases c : k < l.length
    · rw [if_pos c] at h
      exact .inl ⟨rfl, (Option.some.inj h).symm⟩
    · rw [if_neg c] at h
      exact nomatch h
  · rw [List.getElem?_set_ne (fun z => e z.symm)] at h
    exact .inr ⟨e, h⟩
theorem mem_set {α : Type} {l : List α} {i : Nat} {v z : α} (h : z ∈ l.set i v) : z = v ∨ z ∈ l := by
  obtain ⟨k, hk⟩ := List.getElem?_of_mem h
  rcases set_get hk with ⟨_, e⟩ | ⟨_, e⟩
  · exact .inl e
  · exact .inr (List.mem_of_getElem? e)
theorem CfgM.Ok.put {N : NetM} {c : CfgM} (ok : c.Ok N) {i : Nat} {p : Str × MachM} {z : Int} (hp : N.ms[i]? = some p) (z0 : 0 ≤ z) (z1 : z < p.2.size) : (⟨c.sts.set i z, c.qs⟩ : CfgM).Ok N := by
  refine ⟨by rw [List.length_set]; exact ok.len, fun k p' z' hp' hz' => ?_, ok.ql, ok.wd⟩
  rcases set_get hz' with ⟨e, ez⟩ | ⟨_, h⟩
  · subst e
    rw [hp] at hp'
    cases hp'
    rw [ez]
    exact ⟨z0, z1⟩
  · exact ok.st k p' z' hp' h
theorem CfgM.Ok.queue {N : NetM} {c : CfgM} (ok : c.Ok N) {k : Nat} {q : List Str} (wq : ∀ x ∈ q, Wd x) : (⟨c.sts, c.qs.set k q⟩ : CfgM).Ok N := by
  refine ⟨ok.len, ok.st, by rw [List.length_set]; exact ok.ql, fun r hr x hx => ?_⟩
  rcases mem_set hr with e | h
  · exact wq x (e ▸ hx)
  · exact ok.wd r h x hx
/-- the place of a name -/
theorem first_place {N : NetM} (ok : N.Ok) {i : Nat} {p : Str × MachM} (hp : N.ms[i]? = some p) : (N.names.map V.str)[i]? = some (.str p.1) ∧ ∀ (m : Nat) (z : V), m < i → (N.names.map V.str)[m]? = some z → eqV z (.str p.1) = false := by
  have hn : N.names[i]? = some p.1 := by rw [NetM.names, List.getElem?_map, hp]; rfl
  refine ⟨by rw [List.getElem?_map, hn]; rfl, fun m z lt hz => ?_⟩
  obtain ⟨y, hy, rfl⟩ := strs_get hz
  show (y == p.1) = false
  rw [beq_eq_false_iff_ne]
  rintro rfl
  have il := (List.getElem?_eq_some_iff.mp hn).1
  have ml := (List.getElem?_eq_some_iff.mp hy).1
  have e := (List.getElem?_eq_some_iff.mp hn).2
  have e' := (List.getElem?_eq_some_iff.mp hy).2
  have := List.pairwise_iff_getElem.mp ok.once m i ml il lt
  exact this (e'.trans e.symm)
/-- the place of a channel -/
theorem chan_place {cs : List (Str × Str)} {c : Str × Str} (h : c ∈ cs) : ∃ k : Nat, cs[k]? = some c ∧ ∀ (m : Nat) (z : Str × Str), m < k → cs[m]? = some z → z ≠ c := by
  induction cs with
  | nil => exact nomatch h
  | cons a cs ih =>
    by_cases e : a = c
    · exact ⟨0, by rw [e]; rfl, fun m z lt => absurd lt (Nat.not_lt_zero _)⟩
    · obtain ⟨k, hk, first⟩ := ih ((List.mem_cons.mp h).resolve_left fun z => e z.symm)
      refine ⟨k + 1, hk, fun m z lt hz => ?_⟩
      cases m with
      | zero =>
        cases hz
        exact e
      | succ m => exact first m z (by omega) hz
/-- queues at their addresses, one set anew -/
theorem kz_set {H : Hp} : ∀ {vs : List V} {ks : List NestedKey} {v : V} {k : NestedKey}, KzAll H vs ks → Kz H v k → ∀ i : Nat, KzAll H (vs.set i v) (ks.set i k)
  | _, _, _, _, .nil, _, _ => .nil
  | _, _, _, _, .cons h t, g, 0 => .cons g t
  | _, _, _, _, .cons h t, g, i + 1 => .cons h (kz_set t g i)
theorem links_listed {cs : List (Str × Str)} (h : ∀ l ∈ cs, Wd l.1 ∧ Wd l.2) : SeqAt.shaped (.list (cs.map fun l => PyData.tuple [.str l.1, .str l.2])) = true := by
  have d := depth_links cs
  rw [SeqAt.shaped, Bool.and_eq_true]
  refine ⟨by rw [PyData.canLay0, can_links cs h], decide_eq_true ?_⟩
  rw [PyData.depth]
  omega
theorem lk_dp {K : PySem.W.Frag} {H : Hp} : ∀ {U : List (Addr × (Str × Str))}, LkAt H U → DpAll K H (U.map fun p => V.ref p.1) ((U.map (·.2)).map fun l => PyData.tuple [.str l.1, .str l.2])
  | [], _ => .nil
  | p :: U, h => .cons (link_dp (h p List.mem_cons_self)) (lk_dp fun q hq => h q (List.mem_cons_of_mem _ hq))
theorem ChOf.wd {N : NetM} (ok : N.Ok) {cs : List (Str × Str)} (h : ChOf N.ls cs) : ∀ l ∈ cs, Wd l.1 ∧ Wd l.2 := fun l hl => by
  rcases h.mem.mp (show (l.1, l.2) ∈ cs from hl) with z | z
  · exact ok.wdl _ z
  · exact ⟨(ok.wdl _ z).2, (ok.wdl _ z).1⟩
/-- the first place of a pair among the channels, as parts of a rule's want -/
theorem chan_parts {K : PySem.W.Frag} {H : Hp} {D t : Addr} {U : List (Addr × (Str × Str))} {c : Str × Str} (eU : H D = some (.lst (U.map fun p => V.ref p.1))) (kU : LkAt H U) (wd : ∀ l ∈ U.map (·.2), Wd l.1 ∧ Wd l.2) (et : H t = some (.tup [.str c.1, .str c.2])) (m : c ∈ U.map (·.2)) :
    ∃ k : Nat, (U.map (·.2))[k]? = some c ∧ ((U.map (·.2)).findIdx fun z => decide (z = c)) = k ∧ ∃ (ds : List PyData) (z : PyData), Dp K H (.ref D) (.list ds) ∧ Dp K H (.ref t) (.tuple [.str c.1, .str c.2]) ∧ SeqAt.shaped (.list ds) = true ∧ SeqAt.shaped (.tuple [.str c.1, .str c.2]) = true ∧ ds[k]? = some z ∧ PyData.eqv z (.tuple [.str c.1, .str c.2]) = true ∧
      ∀ (m : Nat) (z' : PyData), m < k → ds[m]? = some z' → PyData.eqv z' (.tuple [.str c.1, .str c.2]) = false := by
  obtain ⟨k, hk, first⟩ := chan_place m
  have wc := wd c m
  have get : ∀ {j : Nat} {z : PyData}, ((U.map (·.2)).map fun l => PyData.tuple [.str l.1, .str l.2])[j]? = some z → ∃ l, (U.map (·.2))[j]? = some l ∧ z = .tuple [.str l.1, .str l.2] := fun {j z} h => by
    rw [List.getElem?_map] at h
    obtain ⟨l, hl, e⟩ := Option.map_eq_some_iff.mp h
    exact ⟨l, hl, e.symm⟩
  have at_k : ((U.map (·.2)).findIdx fun z => decide (z = c)) = k := by
    have kl := (List.getElem?_eq_some_iff.mp hk).1
    have ek := (List.getElem?_eq_some_iff.mp hk).2
    refine (List.findIdx_eq kl).mpr ⟨decide_eq_true ek, fun j lt => decide_eq_false (first j _ lt (List.getElem?_eq_getElem (by omega)))⟩
  refine ⟨k, hk, at_k, (U.map (·.2)).map fun l => PyData.tuple [.str l.1, .str l.2], .tuple [.str c.1, .str c.2], .lst (SqL.of eU) (lk_dp kU), link_dp et, links_listed wd, shaped_two wc.1.low wc.2.low, ?_, ?_, fun j z lt hz => ?_⟩
  · rw [List.getElem?_map, hk]
    rfl
  · rw [eqv_two]
    exact decide_eq_true ⟨rfl, rfl⟩
  · obtain ⟨l, hl, rfl⟩ := get hz
    rw [eqv_two]
    exact decide_eq_false fun e => first j l lt hl (Prod.ext e.1 e.2)
end K55
/-! _law_done. -/
namespace K55
open PySem PySem.Spec PyProof.Rows L2 WD NS MC GL
open C8 (pss_cut tCut)
structure TxtPt (K : PySem.W.Frag) (mg : Str → Option Value) (fPt : Addr) (dPt : FuncData) : Prop where
  F : Fun K "_law_put" "_law_put" sPut fPt dPt
  b : L2.Binds K dPt nPut []
  g : mg "_law_put" = some (.ref fPt)
section
variable {P : Program} {w : World} {K : PySem.W.Frag} {mg : Str → Option Value} {base : Heap} {fC fPt : Addr} {dC dPt : FuncData}
theorem ok_Dn {f : Addr} {fd : FuncData} {k : Nat} (F : Fun K "_law_done" "_law_done" sDn f fd) (TS : TxtS mg) (C : TxtLC K mg fC dC) (T : TxtPt K mg fPt dPt) : FnOk P w K mg base CX0 (k + 2) f fd ["_law_net", "_law_here", "_law_move"] spDn := by
  have GC : FnOk P w K mg base CX0 (k + 1) fC dC ["_law_net"] spLCh := ok_LCh C.F TS
  have GP : FnOk P w K mg base CX0 (k + 1) fPt dPt nPut spPut := ok_Put T.F
  refine F.ok scDn (fun vs H Q E h => ?_) (fun cdv A outer s H vs Q E hr h => ?_)
  · obtain ⟨a, h, mv, N, c, B, i, j, p, rfl, _⟩ := h
    rfl
  · obtain ⟨a, h, mv, N, c, B, i, j, p, rfl, hn, ok, hc, okc, lq, b900, hp, jl, emv, q1, q2⟩ := h
    have hu := hr.units
    have h65 := room65 hr
    refine ⟨_, pss_cut (ps_setLc (i := 3) (own := [("_law_pair", 11)]) (g := gName 11) (tt := tYes) (te := tOp (rIxT K) (tVar 11) (tC (.int 0))) rfl scDn.nd rfl rfl (sw_true rfl rfl rfl (by decide +kernel))
          (pi_tup (pe_ix ix_tup (pv 0) pe_int (fun _ _ => rfl))) (blkOk_by (own := [("_law_pair", 11)]) (N := nDn) (sc := defScope sDn) (by decide +kernel))
          (fun _ _ _ _ _ => pg_name (i := 11) scDn.nd rfl (.inl rfl)) (fun _ _ _ _ _ => pts_nil) (fun _ _ _ _ _ => pe_ix (show IxR _ (rIxT K) from ix_tup) (pv 11) pe_int (fun _ _ => rfl)))
      (pss_cut (ps_set (i := 4) scDn.nd rfl (.inl rfl) (pe_bm PySem.F.plainAttrs_list PySem.F.slot_list_index PySem.F.type_list_index mt_index (pv 3) (pa_cons (pe_ix (show IxR _ (rIxT K) from ix_tup) (pv 2) pe_int (fun _ _ => rfl)) pa_nil)))
      (pss_cut (ps_asg (pe_ix (show IxR _ (rIxT K) from ix_tup) (pe_ix (show IxR _ (rIxT K) from ix_tup) (pe_ix (show IxR _ (rIxT K) from ix_tup) (pe_ix (show IxR _ (rIxT K) from ix_tup) (pe_ix (show IxR _ (rIxT K) from ix_tup) (pv 0) pe_int (fun _ _ => rfl)) (pv 4) (fun _ _ => rfl)) pe_int (fun _ _ => rfl)) pe_int (fun _ _ => rfl)) (pe_ix (show IxR _ (rIxT K) from ix_tup) (pv 2) pe_int (fun _ _ => rfl)) (fun _ _ => rfl))
          (pg_tup rfl (pgs_cons (pg_name (i := 5) scDn.nd rfl (.inl rfl)) (pgs_cons (pg_name (i := 6) scDn.nd rfl (.inl rfl)) (pgs_cons (pg_name (i := 7) scDn.nd rfl (.inl rfl)) pgs_nil)))))
      (pss_cut (ps_if (pt_cmpR op_ne (pe_ix (show IxR _ (rIxT K) from ix_tup) (pe_ix (show IxR _ (rIxT K) from ix_tup) (pv 1) pe_int (fun _ _ => rfl)) (pv 4) (fun _ _ => rfl)) (pv 5) (nomark _)) (pss_one (ps_ret pe_non)) pss_nil)
      (pss_cut (ps_par (i := 8) (j := 9) (by rfl) scDn.nd rfl rfl (by decide) rfl rfl (pa_cons (pe_call GP hr (by rfl) T.g T.F.kp T.b .nil pass0 (pa_cons (pe_ix (show IxR _ (rIxT K) from ix_tup) (pv 1) pe_int (fun _ _ => rfl)) (pa_cons (pv 4) (pa_cons (pv 7) pa_nil)))) (pa_cons (pe_ix (show IxR _ (rIxT K) from ix_tup) (pv 1) pe_int (fun _ _ => rfl)) pa_nil)) (by rfl))
      (pss_cons (ps_if (pt_cmpR op_eq (pe_ix (show IxR _ (rIxT K) from ix_tup) (pv 6) pe_int (fun _ _ => rfl)) pe_str (nomark _))
          (pss_cut (ps_set (i := 10) scDn.nd rfl (.inl rfl) (pe_bm PySem.F.plainAttrs_list PySem.F.slot_list_index PySem.F.type_list_index (mt_indexD h65) (pe_call GC hr (by rfl) C.g C.F.kp C.b .nil pass0 (pa_cons (pv 0) pa_nil)) (pa_cons (pe_tup (pa_cons (pe_ix (show IxR _ (rIxT K) from ix_tup) (pv 2) pe_int (fun _ _ => rfl)) (pa_cons (pe_ix (show IxR _ (rIxT K) from ix_tup) (pv 6) pe_int (fun _ _ => rfl)) pa_nil))) pa_nil)))
          (pss_one (ps_ret (pe_tup (pa_cons (pv 8) (pa_cons (pe_call GP hr (by rfl) T.g T.F.kp T.b .nil pass0 (pa_cons (pv 9) (pa_cons (pv 10) (pa_cons (pe_op CaT.op_catA (pe_ix (show IxR _ (rIxT K) from ix_tup) (pv 9) (pv 10) (fun _ _ => rfl)) (pe_tup (pa_cons (pe_ix (show IxR _ (rIxT K) from ix_tup) (pv 6) pe_int (fun _ _ => rfl)) pa_nil))) pa_nil)))) pa_nil)))))) pss_nil)
      (pss_cons (ps_if (pt_cmpR op_eq (pe_ix (show IxR _ (rIxT K) from ix_tup) (pv 6) pe_int (fun _ _ => rfl)) pe_str (nomark _))
          (pss_cut (ps_set (i := 10) scDn.nd rfl (.inl rfl) (pe_bm PySem.F.plainAttrs_list PySem.F.slot_list_index PySem.F.type_list_index (mt_indexD h65) (pe_call GC hr (by rfl) C.g C.F.kp C.b .nil pass0 (pa_cons (pv 0) pa_nil)) (pa_cons (pe_tup (pa_cons (pe_ix (show IxR _ (rIxT K) from ix_tup) (pv 6) pe_int (fun _ _ => rfl)) (pa_cons (pe_ix (show IxR _ (rIxT K) from ix_tup) (pv 2) pe_int (fun _ _ => rfl)) pa_nil))) pa_nil)))
          (pss_cons (ps_if (pt_cmpR (show OpR _ (compareOp .NotEq) (rNeD K) from op_neD hu) (pe_slice (show SlR _ (rSlA K) from sl_tupA) (pe_ix (show IxR _ (rIxT K) from ix_tup) (pv 9) (pv 10) (fun _ _ => rfl)) po_none (po_some pe_int)) (pe_tup (pa_cons (pe_ix (show IxR _ (rIxT K) from ix_tup) (pv 6) pe_int (fun _ _ => rfl)) pa_nil)) (nomark _)) (pss_one (ps_ret pe_non)) pss_nil)
          (pss_one (ps_ret (pe_tup (pa_cons (pv 8) (pa_cons (pe_call GP hr (by rfl) T.g T.F.kp T.b .nil pass0 (pa_cons (pv 9) (pa_cons (pv 10) (pa_cons (pe_slice (show SlR _ (rSlA K) from sl_tupA) (pe_ix (show IxR _ (rIxT K) from ix_tup) (pv 9) (pv 10) (fun _ _ => rfl)) (po_some pe_int) po_none) pa_nil)))) pa_nil))))))) pss_nil)
      (pss_one (ps_ret (pe_tup (pa_cons (pv 8) (pa_cons (pv 9) pa_nil))))))))))), ?_⟩
    obtain ⟨M⟩ := net_at hn
    obtain ⟨D⟩ := cfg_at hc
    obtain ⟨R, eR, mR, kR⟩ := pr_of M.all
    have eA : H M.A = some (.tup (R.map fun p => V.ref p.1)) := eR ▸ M.ea
    have n6 := ok.n6
    have lf := ok.lf
    have lR : R.length = N.ms.length := by rw [← mR, List.length_map]
    have il := (List.getElem?_eq_some_iff.mp hp).1
    obtain ⟨r, hr', er⟩ : ∃ r, R[i]? = some r ∧ r.2.2 = p := by
      have z := hp
      rw [← mR, List.getElem?_map] at z
      exact Option.map_eq_some_iff.mp z
    subst er
    have mr := List.mem_of_getElem? hr'
    have okm := (ok.wd _ (List.mem_of_getElem? hp)).2
    obtain ⟨MM⟩ := mach_at (kR r mr).2
    have lc := okc.len
    have lT : D.T.length = 2 * N.ls.length := by
      rw [← okc.ql, ← D.mT, List.length_map]
    -- names
    refine ⟨fun σ' H' => ∃ (L : Addr) (u11 : Option V), σ' = [some (.ref a), some (.ref h), some (.ref mv), some (.ref L), none, none, none, none, none, none, none, u11] ∧ Same H H' ∧ H' L = some (.lst (N.names.map V.str)), ?_, ?_⟩
    · refine ⟨_, rfl, a, _, 0, .ref M.A, rfl, rfl, SqT.of M.top, atI_nat (j := 0) rfl, M.A, rfl, ⟨_, SqT.of eA⟩, fun L nL => ?_⟩
      have sL := same_upd (o := .lst []) nL
      refine lc_tup (xs := R.map fun p => V.ref p.1) (fun i H' => Same H H' ∧ H' L = some (.lst (((N.ms.take i).map (·.1)).map V.str))) ⟨sL, upd_same⟩ (fun i H' _ z => SqT.of (z.1 _ _ eA)) ?_ ?_
      · rintro i v H2 hv ⟨s2, e2⟩
        rw [List.getElem?_map] at hv
        obtain ⟨r, hr', rfl⟩ := Option.map_eq_some_iff.mp hv
        have er := s2 _ _ (kR r (List.mem_of_getElem? hr')).1
        have hp : N.ms[i]? = some r.2.2 := by rw [← mR, List.getElem?_map, hr']; rfl
        refine ⟨rfl, tYes_ite ⟨_, rfl, r.1, _, 0, .str r.2.2.1, rfl, rfl, SqT.of er, atI_nat (j := 0) rfl, _, e2, ?_, same_set s2 nL, ?_⟩⟩
        · rw [List.length_map, List.length_map, List.length_take, sizeLine_eq]
          omega
        · rw [upd_same, List.take_succ, hp, Option.toList_some, List.map_append, List.map_append]
          rfl
      · rintro H2 ⟨s2, e2⟩
        rw [List.length_map, lR, List.take_length] at e2
        exact ⟨L, _, rfl, s2, e2⟩
    rintro σ1 H1 ⟨L, u11, rfl, s1, eL⟩
    -- the place
    obtain ⟨at1, first⟩ := first_place ok hp
    refine ⟨fun σ' H' => σ' = [some (.ref a), some (.ref h), some (.ref mv), some (.ref L), some (.int i), none, none, none, none, none, none, u11] ∧ H' = H1, ?_, ?_⟩
    · exact ⟨_, rfl, .inl ⟨rfl, _, SqL.of eL⟩, _, rfl, mv, _, 0, .str r.2.2.1, rfl, rfl, SqT.of (s1 _ _ emv), atI_nat (j := 0) rfl, L, _, .str r.2.2.1, i, .str r.2.2.1, rfl, rfl, SqL.of eL, rfl, flat_strs _, at1, by simp [eqV], first, rfl, rfl⟩
    rintro σ2 H2 ⟨rfl, rfl⟩
    -- the row
    obtain ⟨rw', hrw⟩ : ∃ rw', r.2.2.2.rows[j]? = some rw' := ⟨_, List.getElem?_eq_getElem jl⟩
    have lx : MM.xs.length = r.2.2.2.rows.length := by
      have z := kz_len MM.all
      rw [List.length_map] at z
      exact z
    have hx : MM.xs[j]? = some (MM.xs[j]'(by omega)) := List.getElem?_eq_getElem (by omega)
    obtain ⟨rr, hrr, ra, dv, ev, era, kd⟩ := row_at MM.all hx
    obtain ⟨qd, rfl, ed⟩ := deed_at kd
    have mrr := List.mem_of_getElem? hrr
    have okr := okm.r1 rr mrr
    refine ⟨fun σ' H' => σ' = [some (.ref a), some (.ref h), some (.ref mv), some (.ref L), some (.int i), some (.int rr.before), some (.ref qd), some (.int rr.after), none, none, none, u11] ∧ H' = H2, ?_, ?_⟩
    · refine ⟨_, rfl, a, _, 0, .ref M.A, rfl, rfl, SqT.of (s1 _ _ M.top), atI_nat (j := 0) rfl, _, rfl, M.A, _, i, .ref r.1, rfl, rfl, SqT.of (s1 _ _ eA), atI_nat (by rw [List.getElem?_map, hr']; rfl), r.1, _, 1, .ref r.2.1, rfl, rfl, SqT.of (s1 _ _ (kR r mr).1), atI_nat (j := 1) rfl, r.2.1, _, 2, .ref MM.t, rfl, rfl, SqT.of (s1 _ _ MM.top), atI_nat (j := 2) rfl,
        _, rfl, mv, _, 1, .int j, rfl, rfl, SqT.of (s1 _ _ emv), atI_nat (j := 1) rfl, MM.t, _, j, .ref ra, rfl, rfl, SqT.of (s1 _ _ MM.row), atI_nat (ev ▸ hx), ra, _, rfl, SqT.of (s1 _ _ era), rfl, _, _, rfl, _, _, rfl, _, _, rfl, rfl, rfl, rfl⟩
    rintro σ3 H3 ⟨rfl, rfl⟩
    -- the state
    obtain ⟨zst, hzs⟩ : ∃ z, c.sts[i]? = some z := ⟨_, List.getElem?_eq_getElem (by omega)⟩
    refine ⟨fun σ' H' => σ' = [some (.ref a), some (.ref h), some (.ref mv), some (.ref L), some (.int i), some (.int rr.before), some (.ref qd), some (.int rr.after), none, none, none, u11] ∧ H' = H3 ∧ zst = rr.before, ?_, ?_⟩
    · refine ⟨_, rfl, h, _, 0, .ref D.A, rfl, rfl, SqT.of (s1 _ _ D.top), atI_nat (j := 0) rfl, _, rfl, D.A, _, i, .int zst, rfl, rfl, SqT.of (s1 _ _ D.ea), atI_nat (by rw [List.getElem?_map, hzs]; rfl), _, rfl, rfl, _, rfl, ifB (fun hb => q1 (fun en => by
        obtain ⟨r', hr2, hz2, _⟩ := en
        rw [hrr] at hr2
        cases hr2
        rw [hzs] at hz2
        cases hz2
        simp at hb) _ s1) fun hb => ⟨rfl, rfl, by simpa using hb⟩⟩
    rintro σ4 H4 ⟨rfl, rfl, ezs⟩
    -- states, queues
    have okc1 := okc.put (z := rr.after) hp okr.a0 okr.a1
    refine ⟨fun σ' H' => ∃ ps : Addr, σ' = [some (.ref a), some (.ref h), some (.ref mv), some (.ref L), some (.int i), some (.int rr.before), some (.ref qd), some (.int rr.after), some (.ref ps), some (.ref D.B), none, u11] ∧ Same H H' ∧ H' ps = some (.tup ((c.sts.set i rr.after).map V.int)), ?_, ?_⟩
    · refine ⟨_, rfl, h, _, 0, .ref D.A, rfl, rfl, SqT.of (s1 _ _ D.top), atI_nat (j := 0) rfl, _, rfl, _, rfl, D.A, _, i, .int rr.after, rfl, s1 _ _ D.ea, by rw [List.length_map]; omega, by rw [List.length_map]; omega, fun H5 ps s5 np5 e5 => ?_⟩
      refine ⟨_, rfl, h, _, 1, .ref D.B, rfl, rfl, SqT.of ((s1.trans s5) _ _ D.top), atI_nat (j := 1) rfl, _, _, rfl, ps, rfl, s1.trans s5, ?_⟩
      rw [e5, List.map_set]
    rintro σ5 H5 ⟨ps, rfl, s5, eps⟩
    have ed5 := s5 _ _ ed
    have kzq : ∀ {H' : Hp}, Same H5 H' → KzAll H' (D.T.map fun p => V.ref p.1) (c.qs.map queueKey) := fun {H'} s => by
      rw [← D.mT]
      exact kz_queues fun t ht => s _ _ (s5 _ _ (D.kT t ht))
    have wdn : Wd r.2.2.1 := (ok.wd _ (List.mem_of_getElem? hp)).1
    have eBq := s5 _ _ D.eb
    have enOf : (∀ nm ll cs, rr.deed = .ex false nm ll → ChOf N.ls cs → ((c.qs[cs.findIdx fun z => decide (z = (nm, r.2.2.1))]?).getD []).take 1 = [ll]) → En N c i j r.2.2 := fun z => ⟨rr, hrr, by rw [hzs, ezs], z⟩
    -- a queue set anew
    have fin : En N c i j r.2.2 → ∀ (H6 : Hp) (kk : Nat) (qn : Addr) (nq : List Str), Same H5 H6 → kk < D.T.length → H6 qn = some (.tup (nq.map V.str)) → (∀ x ∈ nq, Wd x) → nq.length ≤ B + 1 → ∀ (H7 : Hp) (pq : Addr), Same H6 H7 → H6 pq = none → H7 pq = some (.tup ((D.T.map fun p => V.ref p.1).set kk (.ref qn))) → 2 ≤ sizeLine ∧ ∀ (p : Addr), H7 p = none → Q (.ref p) (upd H7 p (.tup [.ref ps, .ref pq])) := fun en H6 kk qn nq s6 kl eq wq lnq H7 pq s7 np7 e7 => ⟨by decide, fun p8 n8 => by
      have k8 := same_upd (o := .tup [.ref ps, .ref pq]) n8
      have s58 := s6.trans (s7.trans k8)
      refine q2 en _ p8 ⟨c.sts.set i rr.after, c.qs.set kk nq⟩ (s5.trans s58) ((s5.trans (s6.trans s7)).free n8) (okc1.queue wq) (fun z hz => ?_) ?_
      · rcases mem_set hz with e | m
        · rw [e]
          exact lnq
        · exact Nat.le_succ_of_le (lq z m)
      · refine .tup upd_same (.cons (.tup (s58 _ _ eps) (kz_ints _)) (.cons (.tup (k8 _ _ e7) ?_) .nil))
        rw [List.map_set]
        exact kz_set (kzq s58) (.tup ((s7.trans k8) _ _ eq) (kz_texts _)) kk⟩
    cases hd : rr.deed with
    | step =>
      rw [hd] at ed5
      refine ⟨_, rfl, qd, _, 0, .str "step", rfl, rfl, SqT.of ed5, atI_nat (j := 0) rfl, rfl, _, rfl, ifF (by decide +kernel) ?_⟩
      refine ⟨_, rfl, qd, _, 0, .str "step", rfl, rfl, SqT.of ed5, atI_nat (j := 0) rfl, rfl, _, rfl, ifF (by decide +kernel) ?_⟩
      refine ⟨_, rfl, _, rfl, by show 2 ≤ sizeLine; decide, fun p n => ?_⟩
      have kp := same_upd (o := .tup [.ref ps, .ref D.B]) n
      exact q2 (enOf fun nm ll cs e => by rw [hd] at e; exact nomatch e) _ p ⟨c.sts.set i rr.after, c.qs⟩ (s5.trans kp) (s5.free n) okc1 (fun z hz => Nat.le_succ_of_le (lq z hz)) (.tup upd_same (.cons (.tup (kp _ _ eps) (kz_ints _)) (.cons (.tup (kp _ _ eBq) (kzq kp)) .nil)))
    | ex bb nm ll =>
      rw [hd] at ed5
      have okd := okr.dd
      rw [hd] at okd
      have lk := ok.near _ (List.mem_of_getElem? hp) rr mrr bb nm ll hd
      have qget : ∀ {kk : Nat}, kk < D.T.length → ∃ t, D.T[kk]? = some t := fun {kk} l => ⟨_, List.getElem?_eq_getElem l⟩
      have qlen : ∀ {t : Addr × List Str}, t ∈ D.T → t.2.length ≤ B ∧ ∀ x ∈ t.2, Wd x := fun {t} ht => by
        have m : t.2 ∈ c.qs := D.mT ▸ List.mem_map.mpr ⟨t, ht, rfl⟩
        exact ⟨lq _ m, okc.wd _ m⟩
      have emv5 := s5 _ _ emv
      have sl := sizeLine_eq
      cases bb with
      | true =>
        refine ⟨_, rfl, qd, _, 0, .str "send", rfl, rfl, SqT.of ed5, atI_nat (j := 0) rfl, rfl, _, rfl, ifT (by decide +kernel) ?_⟩
        refine ⟨fun σ' H' => ∃ kk : Nat, σ' = [some (.ref a), some (.ref h), some (.ref mv), some (.ref L), some (.int i), some (.int rr.before), some (.ref qd), some (.int rr.after), some (.ref ps), some (.ref D.B), some (.int kk), u11] ∧ Same H5 H' ∧ kk < D.T.length, ?_, ?_⟩
        · refine ⟨_, rfl, a, N, rfl, Kz.same s5 _ _ hn, lf, fun H6 pU U s6 np6 eU kU ch => ?_⟩
          have ed6 := s6 _ _ ed5
          refine ⟨.inl ⟨rfl, _, SqL.of eU⟩, _, rfl, mv, _, 0, .str r.2.2.1, rfl, rfl, SqT.of (s6 _ _ emv5), atI_nat (j := 0) rfl, _, rfl, qd, _, 1, .str nm, rfl, rfl, SqT.of ed6, atI_nat (j := 1) rfl, by show 2 ≤ sizeLine; decide, fun t nt => ?_⟩
          have kt := same_upd (o := .tup [.str r.2.2.1, .str nm]) nt
          obtain ⟨kk, hk, hfi, ds, z, g1, g2, g3, g4, g5, g6, g7⟩ := chan_parts (K := K) (c := (r.2.2.1, nm)) (kt _ _ eU) (kU.same kt) (ch.wd ok) upd_same (ch.mem.mpr lk)
          refine ⟨pU, .ref t, _, ds, kk, z, rfl, rfl, g1, g2, g3, g4, g5, g6, g7, kk, rfl, s6.trans kt, ?_⟩
          have z := (List.getElem?_eq_some_iff.mp hk).1
          have y := ch.len
          omega
        rintro σ6 H6 ⟨kk, rfl, s6, kl⟩
        obtain ⟨t, ht⟩ := qget kl
        have mt := List.mem_of_getElem? ht
        obtain ⟨lt, wt⟩ := qlen mt
        have et := s6 _ _ (s5 _ _ (D.kT t mt))
        have ed6 := s6 _ _ ed5
        have eB6 := s6 _ _ eBq
        refine ⟨_, rfl, _, rfl, _, rfl, _, rfl, _, rfl, D.B, _, kk, .ref t.1, rfl, rfl, SqT.of eB6, atI_nat (by rw [List.getElem?_map, ht]; rfl), _, rfl, qd, _, 2, .str ll, rfl, rfl, SqT.of ed6, atI_nat (j := 2) rfl, by show 1 ≤ sizeLine; decide, fun p7 n7 => ?_⟩
        have k7 := same_upd (o := .tup [.str ll]) n7
        have put : ∀ (H8 : Hp) (qn : Addr), Same H6 H8 → H8 qn = some (.tup ((t.2 ++ [ll]).map V.str)) → spPut ([V.ref D.B, V.int kk, .ref qn] ++ []) H8 (fun x H9 => 2 ≤ sizeLine ∧ ∀ (p : Addr), H9 p = none → Q (.ref p) (upd H9 p (.tup [.ref ps, x]))) C8.E0 := fun H8 qn s8 e8 => ⟨D.B, _, kk, .ref qn, rfl, s8 _ _ eB6, by rw [List.length_map]; exact kl, by rw [List.length_map]; omega, fun H9 pq s9 np9 e9 => fin (enOf fun nm ll cs e => by rw [hd] at e; exact nomatch e) H8 kk qn (t.2 ++ [ll]) (s6.trans s8) kl e8 (fun x hx => by
            rcases List.mem_append.mp hx with z | z
            · exact wt x z
            · rw [List.mem_singleton.mp z]
              exact okd.2) (by rw [List.length_append]; show t.2.length + 1 ≤ _; omega) H9 pq s9 np9 e9⟩
        refine ⟨t.1, p7, t.2.map V.str, [.str ll], rfl, rfl, SqT.of (k7 _ _ et), SqT.of upd_same, ?_, fun z => ?_, (fun _ z => nomatch z), fun _ _ p8 n8 => ?_⟩
        · rw [List.length_map, sl]
          show t.2.length + 1 ≤ _
          omega
        · refine put _ p7 k7 ?_
          rw [upd_same, List.map_append, z]
          rfl
        · refine put _ p8 (k7.trans (same_upd n8)) ?_
          rw [upd_same, List.map_append]
          rfl
      | false =>
        refine ⟨_, rfl, qd, _, 0, .str "take", rfl, rfl, SqT.of ed5, atI_nat (j := 0) rfl, rfl, _, rfl, ifF (by decide +kernel) ?_⟩
        refine ⟨_, rfl, qd, _, 0, .str "take", rfl, rfl, SqT.of ed5, atI_nat (j := 0) rfl, rfl, _, rfl, ifT (by decide +kernel) ?_⟩
        refine ⟨fun σ' H' => ∃ kk : Nat, σ' = [some (.ref a), some (.ref h), some (.ref mv), some (.ref L), some (.int i), some (.int rr.before), some (.ref qd), some (.int rr.after), some (.ref ps), some (.ref D.B), some (.int kk), u11] ∧ Same H5 H' ∧ kk < D.T.length ∧ ∃ cs, ChOf N.ls cs ∧ (cs.findIdx fun z => decide (z = (nm, r.2.2.1))) = kk, ?_, ?_⟩
        · refine ⟨_, rfl, a, N, rfl, Kz.same s5 _ _ hn, lf, fun H6 pU U s6 np6 eU kU ch => ?_⟩
          have ed6 := s6 _ _ ed5
          refine ⟨.inl ⟨rfl, _, SqL.of eU⟩, _, rfl, qd, _, 1, .str nm, rfl, rfl, SqT.of ed6, atI_nat (j := 1) rfl, _, rfl, mv, _, 0, .str r.2.2.1, rfl, rfl, SqT.of (s6 _ _ emv5), atI_nat (j := 0) rfl, by show 2 ≤ sizeLine; decide, fun t nt => ?_⟩
          have kt := same_upd (o := .tup [.str nm, .str r.2.2.1]) nt
          obtain ⟨kk, hk, hfi, ds, z, g1, g2, g3, g4, g5, g6, g7⟩ := chan_parts (K := K) (c := (nm, r.2.2.1)) (kt _ _ eU) (kU.same kt) (ch.wd ok) upd_same (ch.mem.mpr lk.symm)
          refine ⟨pU, .ref t, _, ds, kk, z, rfl, rfl, g1, g2, g3, g4, g5, g6, g7, kk, rfl, s6.trans kt, ?_, _, ch, hfi⟩
          have z := (List.getElem?_eq_some_iff.mp hk).1
          have y := ch.len
          omega
        rintro σ6 H6 ⟨kk, rfl, s6, kl, cs, ch, hfi⟩
        obtain ⟨t, ht⟩ := qget kl
        have mt := List.mem_of_getElem? ht
        obtain ⟨lt, wt⟩ := qlen mt
        have et := s6 _ _ (s5 _ _ (D.kT t mt))
        have ed6 := s6 _ _ ed5
        have eB6 := s6 _ _ eBq
        have qk : c.qs[kk]? = some t.2 := by rw [← D.mT, List.getElem?_map, ht]; rfl
        have enT : t.2.take 1 = [ll] → En N c i j r.2.2 := fun one => enOf fun nm' ll' cs' e ch' => by
          rw [hd] at e
          cases e
          rw [ch'.ext ch, hfi, qk]
          exact one
        have notT : t.2.take 1 ≠ [ll] → ¬ En N c i j r.2.2 := fun ne en => by
          obtain ⟨r', hr2, _, h3⟩ := en
          rw [hrr] at hr2
          cases hr2
          have z := h3 nm ll cs hd ch
          rw [hfi, qk] at z
          exact ne z
        have at9 : (D.T.map fun p => V.ref p.1)[kk]? = some (.ref t.1) := by rw [List.getElem?_map, ht]; rfl
        -- the first sign
        have okl : SeqAt.shaped (.tuple [.str ll]) = true := shaped_one okd.2.low
        have wts : PyData.canLayAll0 ((t.2.take 1).map PyData.str) = true := can_strs _ fun x hx => wt x (List.mem_of_mem_take hx)
        have sh1 : SeqAt.shaped (.tuple ((t.2.take 1).map PyData.str)) = true := by
          rw [SeqAt.shaped, PyData.canLay0, wts, PyData.depth, depth_strs]
          rfl
        have cut1 : cutV (t.2.map V.str) none (some 1) = (t.2.take 1).map V.str := by
          unfold cutV
          rw [show HT.sIx (t.2.map V.str).length (t.2.map V.str).length (some 1) = min 1 (t.2.map V.str).length from HT.sIx_nat .., show HT.sIx (t.2.map V.str).length 0 none = 0 from rfl, List.length_map, Nat.sub_zero, List.drop_zero, ← List.map_take]
          rw [← List.take_eq_take_min]
        have on : ∀ (H7 : Hp) (s p : Addr), Same H6 H7 → H7 s = some (.tup ((t.2.take 1).map V.str)) → H7 p = none → ∃ d e, Dp K (upd H7 p (.tup [.str ll])) (.ref s) d ∧ Dp K (upd H7 p (.tup [.str ll])) (.ref p) e ∧ SeqAt.shaped d = true ∧ SeqAt.shaped e = true ∧ (!PyData.eqv d e) = decide (t.2.take 1 ≠ [ll]) := fun H7 s p s7 es np => by
          have kp := same_upd (o := .tup [.str ll]) np
          refine ⟨_, _, .tup (SqT.of (kp _ _ es)) (dp_strs _), .tup (SqT.of (xs := [.str ll]) upd_same) (.cons (.str _) .nil), sh1, okl, ?_⟩
          cases ht1 : t.2.take 1 with
          | nil => rfl
          | cons u us =>
            have us0 : us = [] := by
              have l := congrArg List.length ht1
              rw [List.length_take, List.length_cons] at l
              exact List.eq_nil_of_length_eq_zero (by omega)
            subst us0
            have e : PyData.eqv (.tuple ([u].map PyData.str)) (.tuple [.str ll]) = (u == ll) := by
              simp [PyData.eqv, PyData.eqvAll]
            rw [e]
            by_cases c : u = ll
            · subst c
              simp
            · simp [c]
        -- behind the test
        have last : ∀ (H8 : Hp), Same H6 H8 → t.2.take 1 = [ll] → tRet (tTup (tCons (tVar 8) (tCons (tCall spPut [] C8.E0 (tCons (tVar 9) (tCons (tVar 10) (tCons (tSl (rSlA K) (tOp (rIxT K) (tVar 9) (tVar 10)) (tPart (tC (.int 1))) tNoPart) tNil)))) tNil))) ⟨fun σ' H' => Q .non H', fun v H' => Q v H', fun _ _ => False, fun _ _ => False⟩ [some (.ref a), some (.ref h), some (.ref mv), some (.ref L), some (.int i), some (.int rr.before), some (.ref qd), some (.int rr.after), some (.ref ps), some (.ref D.B), some (.int kk), u11] H8 := fun H8 s8 one => by
          have ne : t.2 ≠ [] := fun z => by
            rw [z] at one
            exact nomatch one
          have lp := List.length_pos_iff.mpr ne
          refine ⟨_, rfl, _, rfl, _, rfl, _, rfl, _, rfl, D.B, _, kk, .ref t.1, rfl, rfl, SqT.of (s8 _ _ eB6), atI_nat at9, 1, rfl, t.1, t.2.map V.str, rfl, SqT.of (s8 _ _ et), fun whole => ?_, fun _ s ns => ?_⟩
          · exfalso
            have z := whole.1
            rw [show HT.sIx (t.2.map V.str).length 0 (some 1) = min 1 (t.2.map V.str).length from HT.sIx_nat .., List.length_map] at z
            omega
          · rw [cut_tail, ← List.map_drop]
            have ks := same_upd (o := .tup ((t.2.drop 1).map V.str)) ns
            refine ⟨D.B, _, kk, .ref s, rfl, (s8.trans ks) _ _ eB6, by rw [List.length_map]; exact kl, by rw [List.length_map]; omega, fun H9 pq s9 np9 e9 => ?_⟩
            exact fin (enT one) _ kk s (t.2.drop 1) (s6.trans (s8.trans ks)) kl upd_same (fun x hx => wt x (List.mem_of_mem_drop hx)) (by rw [List.length_drop]; omega) H9 pq s9 np9 e9
        refine ⟨_, rfl, _, rfl, D.B, _, kk, .ref t.1, rfl, rfl, SqT.of eB6, atI_nat at9, 1, rfl, t.1, t.2.map V.str, rfl, SqT.of et, fun whole => ?_, fun _ s ns => ?_⟩
        · have e1 : t.2.take 1 = t.2 := by
            have z := whole.2
            rw [show HT.sIx (t.2.map V.str).length (t.2.map V.str).length (some 1) = min 1 (t.2.map V.str).length from HT.sIx_nat .., List.length_map] at z
            exact List.take_of_length_le (by omega)
          refine ⟨_, rfl, qd, _, 2, .str ll, rfl, rfl, SqT.of ed6, atI_nat (j := 2) rfl, by show 1 ≤ sizeLine; decide, fun p np => ?_⟩
          obtain ⟨dd, ee, h1, h2, h3, h4, h5⟩ := on H6 t.1 p (fun _ _ e => e) (by rw [e1]; exact et) np
          refine ⟨dd, ee, h1, h2, h3, h4, _, rfl, ?_⟩
          rw [h5]
          have kp := same_upd (o := .tup [.str ll]) np
          exact ifB (fun hb => q1 (notT (of_decide_eq_true hb)) _ (s5.trans (s6.trans kp))) fun hb => last _ kp (by simpa using hb)
        · rw [cut1]
          have ks := same_upd (o := .tup ((t.2.take 1).map V.str)) ns
          refine ⟨_, rfl, qd, _, 2, .str ll, rfl, rfl, SqT.of (ks _ _ ed6), atI_nat (j := 2) rfl, by show 1 ≤ sizeLine; decide, fun p np => ?_⟩
          obtain ⟨dd, ee, h1, h2, h3, h4, h5⟩ := on _ s p ks upd_same np
          refine ⟨dd, ee, h1, h2, h3, h4, _, rfl, ?_⟩
          rw [h5]
          have kp := same_upd (o := .tup [.str ll]) np
          exact ifB (fun hb => q1 (notT (of_decide_eq_true hb)) _ (s5.trans (s6.trans (ks.trans kp)))) fun hb => last _ (ks.trans kp) (by simpa using hb)
end
end K55
/-! xs != [] for any list, whatever is in it. -/
namespace NE
open PySem PySem.Spec PyProof.Rows L2
section
variable {X : Cx}
def rNeE (K : PySem.W.Frag) : R2 := fun x y H Q => ∃ (a b : Addr) (xs : List V), x = .ref a ∧ y = .ref b ∧ SqL K H a xs ∧ SqL K H b [] ∧ Q (.bl (!xs.isEmpty)) H
theorem op_neE (hu : X.A.units + 64 < cLine) : OpR X (compareOp .NotEq) (rNeE X.K) := by
  intro pins s σ H x y v u Q I rx ry h
  obtain ⟨a, b, xs, rfl, rfl, ha, hb, q⟩ := h
  obtain rfl : v = Value.ref a := rx
  obtain rfl : u = Value.ref b := ry
  obtain ⟨its, rv, ⟨o, n, ho, hc, hdn, hd⟩, _⟩ := I.list ha
  obtain ⟨its2, rv2, ⟨o2, n2, ho2, hc2, hdn2, hd2⟩, _⟩ := I.list hb
  have e2 : its2 = [] := by cases rv2; rfl
  subst e2
  have l1 : s.heap.IsList a its.toArray := ⟨o, ho, hc, n, hd⟩
  have l2 : s.heap.IsList b ([] : List Value).toArray := ⟨o2, ho2, hc2, n2, hd2⟩
  have hu' : X.A.units < cLine := by omega
  cases xs with
  | nil =>
    have e1 : its = [] := by cases rv; rfl
    subst e1
    exact SeqAt.RcNeAt.lists (e := fun _ => true) l1 l2 rfl hu' (fun j h1 _ => absurd h1 (by simp)) X.prog X.w _ _ ⟨.bl _, H, I, rfl, q⟩
  | cons x xs =>
    cases rv with
    | cons r1 r2 => exact SeqAt.RcNeAt.lists_lengths l1 l2 (by simp) hu' X.prog X.w _ _ ⟨.bl _, H, I, rfl, q⟩
end
end NE
/-! _law_moves. -/
namespace K55
open PySem PySem.Spec PyProof.Rows L2 WD NS MC GL
open C8 (pss_cut tCut)
abbrev sMv : Stmt := topS 71
abbrev nMv : List Str := ["_law_net", "_law_here", "_law_found", "_law_name", "_law_machine", "_law_every", "_law_index", "_law_move"]
theorem scMv : FnScope nMv ["_law_net", "_law_here"] (defScope sMv) := ⟨rfl, rfl, rfl, by decide +kernel, rfl, by decide +kernel, by decide +kernel⟩
/-- a move: a name, a row's place -/
structure MvL where
  i : Nat
  j : Nat
  p : Str × MachM
abbrev MvOk (N : NetM) (m : MvL) : Prop := N.ms[m.i]? = some m.p ∧ m.j < m.p.2.rows.length
abbrev MvAt (H : Hp) (L : List (Addr × MvL)) : Prop := ∀ z ∈ L, H z.1 = some (.tup [.str z.2.p.1, .int z.2.j])
theorem MvAt.tups {H H' : Hp} {L : List (Addr × MvL)} (h : MvAt H L) (s : Tups H H') : MvAt H' L := fun z hz => s _ _ (h z hz)
def spMv : Sp := fun vs H Q _ => ∃ (a h : Addr) (N : NetM) (c : CfgM) (B : Nat), vs = [.ref a, .ref h] ∧ Kz H (.ref a) N.key ∧ N.Ok ∧ Kz H (.ref h) c.key ∧ c.Ok N ∧ QLe c B ∧ B ≤ 900 ∧
  ∀ H' q (L : List (Addr × MvL)), Same H H' → H q = none → H' q = some (.lst (L.map fun z => V.ref z.1)) → MvAt H' L → L.length ≤ 1000 → (∀ z ∈ L, MvOk N z.2 ∧ En N c z.2.i z.2.j z.2.p) → Q (.ref q) H'
structure TxtDn (K : PySem.W.Frag) (mg : Str → Option Value) (fDn : Addr) (dDn : FuncData) : Prop where
  F : Fun K "_law_done" "_law_done" sDn fDn dDn
  b : L2.Binds K dDn ["_law_net", "_law_here", "_law_move"] []
  g : mg "_law_done" = some (.ref fDn)
section
variable {P : Program} {w : World} {K : PySem.W.Frag} {mg : Str → Option Value} {base : Heap} {fC fPt fDn : Addr} {dC dPt dDn : FuncData}
theorem ok_Mv {f : Addr} {fd : FuncData} {k : Nat} (F : Fun K "_law_moves" "_law_moves" sMv f fd) (TS : TxtS mg) (range : mg "range" = none) (C : TxtLC K mg fC dC) (T : TxtPt K mg fPt dPt) (TD : TxtDn K mg fDn dDn) : FnOk P w K mg base CX0 (k + 3) f fd ["_law_net", "_law_here"] spMv := by
  have GD : FnOk P w K mg base CX0 (k + 2) fDn dDn ["_law_net", "_law_here", "_law_move"] spDn := ok_Dn TD.F TS C T
  refine F.ok scMv (fun vs H Q E h => ?_) (fun cdv A outer s H vs Q E hr h => ?_)
  · obtain ⟨a, h, N, c, B, rfl, _⟩ := h
    rfl
  · obtain ⟨a, h, N, c, B, rfl, hn, ok, hc, okc, lq, b900, q⟩ := h
    refine ⟨_, pss_cut (ps_set (i := 2) scMv.nd rfl (.inl rfl) (pe_lst pa_nil))
      (pss_cut (ps_for PassesOwn.never rfl (pi_tup (pe_ix ix_tup (pv 0) pe_int (fun _ _ => rfl))) (pg_tup rfl (pgs_cons (pg_name (i := 3) scMv.nd rfl (.inr rfl)) (pgs_cons (pg_name (i := 4) scMv.nd rfl (.inl rfl)) pgs_nil)))
        (pss_cut (ps_setLc (i := 5) (own := [("_law_index", 6)]) (g := gName 6) (tt := tYes) (te := tTup (tCons (tVar 3) (tCons (tVar 6) tNil))) rfl scMv.nd rfl rfl (sw_true rfl rfl rfl (by decide +kernel))
            (pi_range1 rfl range (pa_cons (pe_callB call_len_seq (by rfl) C.len PySem.boot_len (pa_cons (pe_ix (show IxR _ (rIxT K) from ix_tup) (pv 4) pe_int (fun _ _ => rfl)) pa_nil)) pa_nil)) (blkOk_by (own := [("_law_index", 6)]) (N := nMv) (sc := defScope sMv) (by decide +kernel))
            (fun _ _ _ _ _ => pg_name (i := 6) scMv.nd rfl (.inl rfl)) (fun _ _ _ _ _ => pts_nil) (fun _ _ _ _ _ => pe_tup (pa_cons (pv 3) (pa_cons (pv 6) pa_nil))))
        (pss_one (ps_expr (pe_bm PySem.F.plainAttrs_list PySem.F.slot_list_extend PySem.F.type_list_extend mt_extend (pv 2) (pa_cons
            (pe_lc (own := [("_law_move", 7)]) (g := gName 7) (tt := tTest (tOp rNotN (tCall spDn [] C8.E0 (tCons (tVar 0) (tCons (tVar 1) (tCons (tVar 7) tNil)))) (tC .non))) (te := tVar 7) rfl scMv.nd (pi_list (pv 5)) (blkOk_by (own := [("_law_move", 7)]) (N := nMv) (sc := defScope sMv) (by decide +kernel))
              (fun _ _ _ _ _ => pg_name (i := 7) scMv.nd rfl (.inl rfl)) (fun _ _ _ _ _ => pts_one (pt_cmpR (show OpR _ (compareOp .IsNot) rNotN from op_notN) (pe_call GD hr (by rfl) TD.g TD.F.kp TD.b .nil pass0 (pa_cons (pv 0) (pa_cons (pv 1) (pa_cons (pv 7) pa_nil)))) pe_non (nomark _)))
              (fun _ _ _ _ _ => pv 7)) pa_nil))))))
      (pss_one (ps_ret (pv 2)))), ?_⟩
    obtain ⟨M⟩ := net_at hn
    obtain ⟨R, eR, mR, kR⟩ := pr_of M.all
    have eA : H M.A = some (.tup (R.map fun p => V.ref p.1)) := eR ▸ M.ea
    have n6 := ok.n6
    have lR : R.length = N.ms.length := by rw [← mR, List.length_map]
    refine ⟨fun σ' H' => ∃ D, σ' = [some (.ref a), some (.ref h), some (.ref D), none, none, none, none, none] ∧ Same H H' ∧ H D = none ∧ H' D = some (.lst []), ?_, ?_⟩
    · exact ⟨Nat.zero_le _, fun D nD => ⟨D, rfl, same_upd nD, nD, upd_same⟩⟩
    rintro σ1 H1 ⟨D, rfl, s1, nD, eD⟩
    refine ⟨fun σ' H' => ∃ (u3 u4 u5 u6 u7 : Option V) (L : List (Addr × MvL)), σ' = [some (.ref a), some (.ref h), some (.ref D), u3, u4, u5, u6, u7] ∧ Same H H' ∧ H' D = some (.lst (L.map fun z => V.ref z.1)) ∧ MvAt H' L ∧ L.length ≤ 64 * 6 ∧ (∀ z ∈ L, MvOk N z.2 ∧ En N c z.2.i z.2.j z.2.p), ?_, ?_⟩
    · refine ⟨_, rfl, a, _, 0, .ref M.A, rfl, rfl, SqT.of (s1 _ _ M.top), atI_nat (j := 0) rfl, M.A, rfl, ⟨_, SqT.of (s1 _ _ eA)⟩, for_tup (xs := R.map fun p => V.ref p.1) (fun i σ' H' => ∃ (u3 u4 u5 u6 u7 : Option V) (L : List (Addr × MvL)), σ' = [some (.ref a), some (.ref h), some (.ref D), u3, u4, u5, u6, u7] ∧ Same H H' ∧ H' D = some (.lst (L.map fun z => V.ref z.1)) ∧ MvAt H' L ∧ L.length ≤ 64 * i ∧ (∀ z ∈ L, MvOk N z.2 ∧ En N c z.2.i z.2.j z.2.p))
        ⟨none, none, none, none, none, [], rfl, s1, eD, (fun _ z => nomatch z), Nat.le_refl _, fun _ z => nomatch z⟩ (fun i σ' H' _ ⟨_, _, _, _, _, _, _, s, _⟩ => SqT.of (s _ _ eA)) ?_ ?_⟩
      · rintro i v σ2 H2 hv ⟨u3, u4, u5, u6, u7, L, rfl, s2, eL, kL, lL, okL⟩
        rw [List.getElem?_map] at hv
        obtain ⟨r, hr', rfl⟩ := Option.map_eq_some_iff.mp hv
        have il := (List.getElem?_eq_some_iff.mp hr').1
        have hp : N.ms[i]? = some r.2.2 := by rw [← mR, List.getElem?_map, hr']; rfl
        have okm := (ok.wd _ (List.mem_of_getElem? hp)).2
        have r3 := okm.r3
        obtain ⟨er, km⟩ := (kR.same s2) r (List.mem_of_getElem? hr')
        obtain ⟨MM⟩ := mach_at km
        have lx : MM.xs.length = r.2.2.2.rows.length := by
          have z := kz_len MM.all
          rw [List.length_map] at z
          exact z
        refine ⟨r.1, _, rfl, SqT.of er, rfl, _, _, rfl, _, _, rfl, rfl, ?_⟩
        -- every move of the machine
        refine ⟨fun σ' H' => ∃ (E : Addr) (v6 : Option V) (A : List (Addr × MvL)), σ' = [some (.ref a), some (.ref h), some (.ref D), some (.str r.2.2.1), some (.ref r.2.1), some (.ref E), v6, u7] ∧ Same H2 H' ∧ H' E = some (.lst (A.map fun z => V.ref z.1)) ∧ MvAt H' A ∧ A.length = r.2.2.2.rows.length ∧ (∀ z ∈ A, MvOk N z.2), ?_, ?_⟩
        · refine ⟨_, rfl, r.2.1, _, 2, .ref MM.t, rfl, rfl, SqT.of MM.top, atI_nat (j := 2) rfl, MM.t, _, rfl, .inr (SqT.of MM.row), (MM.xs.length : Int), rfl, by omega, by omega, ?_⟩
          rw [Int.toNat_natCast]
          intro E nE
          have sE := same_upd (o := .lst []) nE
          refine lc_range (lo := 0) (n := MM.xs.length) (fun t H' => Same H2 H' ∧ ∃ A : List (Addr × MvL), H' E = some (.lst (A.map fun z => V.ref z.1)) ∧ MvAt H' A ∧ A.length = t ∧ (∀ z ∈ A, MvOk N z.2)) ⟨sE, [], upd_same, (fun _ z => nomatch z), rfl, fun _ z => nomatch z⟩ (fun t H' ht z => ?_) (fun H6 z => ?_)
          · obtain ⟨s3, A, eA3, kA, lA, okA⟩ := z
            refine ⟨rfl, tYes_ite ⟨_, rfl, _, rfl, by show 2 ≤ sizeLine; decide, fun t' nt => ?_⟩⟩
            rw [Int.zero_add]
            have kt := same_upd (o := .tup [.str r.2.2.1, .int (t : Nat)]) nt
            have e4 := kt _ _ eA3
            have tu := tups_list (o := .lst (A.map (fun z => V.ref z.1) ++ [.ref t'])) e4
            refine ⟨_, e4, ?_, same_set (s3.trans kt) nE, A ++ [(t', ⟨i, t, r.2.2⟩)], ?_, fun z hz => ?_, ?_, fun z hz => ?_⟩
            · rw [List.length_map, sizeLine_eq]
              omega
            · rw [upd_same, List.map_append]
              rfl
            · rcases List.mem_append.mp hz with y | y
              · exact tu _ _ (kt _ _ (kA z y))
              · rw [List.mem_singleton.mp y]
                exact tu _ _ upd_same
            · rw [List.length_append, lA]
              rfl
            · rcases List.mem_append.mp hz with y | y
              · exact okA z y
              · rw [List.mem_singleton.mp y]
                exact ⟨hp, by show t < r.2.2.2.rows.length; omega⟩
          · obtain ⟨s3, A, eA3, kA, lA, okA⟩ := z
            exact ⟨E, _, A, rfl, s3, eA3, kA, by omega, okA⟩
        rintro σ3 H3 ⟨E, v6, A, rfl, s3, eE, kA, lA, okA⟩
        have s23 := s2.trans s3
        have eL3 := s3 _ _ eL
        have kL3 : MvAt H3 L := fun z hz => s3 _ _ (kL z hz)
        refine ⟨_, rfl, .inl ⟨rfl, _, SqL.of eL3⟩, _, rfl, E, rfl, ⟨_, SqL.of eE⟩, fun G nG => ?_⟩
        have sG := same_upd (o := .lst []) nG
        refine lc_list (xs := A.map fun z => V.ref z.1) (fun t H' => Same H3 H' ∧ ∃ Z : List (Addr × MvL), H' G = some (.lst (Z.map fun z => V.ref z.1)) ∧ MvAt H' Z ∧ Z.length ≤ t ∧ (∀ z ∈ Z, MvOk N z.2 ∧ En N c z.2.i z.2.j z.2.p)) ⟨sG, [], upd_same, (fun _ z => nomatch z), Nat.le_refl _, fun _ z => nomatch z⟩ (fun i H' _ z => SqL.of (z.1 _ _ eE)) ?_ ?_
        · rintro t v H4 hv4 ⟨s4, Z, eZ, kZ, lZ, okZ⟩
          rw [List.getElem?_map] at hv4
          obtain ⟨z, hz, rfl⟩ := Option.map_eq_some_iff.mp hv4
          have tl := (List.getElem?_eq_some_iff.mp hz).1
          have mz := List.mem_of_getElem? hz
          have s24 := s23.trans s4
          refine ⟨rfl, _, rfl, _, rfl, _, rfl, a, h, z.1, N, c, B, z.2.i, z.2.j, z.2.p, rfl, Kz.same s24 _ _ hn, ok, Kz.same s24 _ _ hc, okc, lq, b900, (okA z mz).1, (okA z mz).2, s4 _ _ (kA z mz), fun _ H5 s5 => ?_, fun en H5 q5 c' s5 nq okc' lq' kc' => ?_⟩
          · refine ⟨rfl, _, rfl, ifF rfl ⟨s4.trans s5, Z, s5 _ _ eZ, fun y hy => s5 _ _ (kZ y hy), Nat.le_succ_of_le lZ, okZ⟩⟩
          · have e5 := s5 _ _ eZ
            have tu := tups_list (o := .lst (Z.map (fun z => V.ref z.1) ++ [.ref z.1])) e5
            refine ⟨rfl, _, rfl, ifT rfl ⟨_, rfl, _, e5, ?_, same_set (s4.trans s5) nG, Z ++ [z], ?_, fun y hy => ?_, ?_, fun y hy => ?_⟩⟩
            · rw [List.length_map, sizeLine_eq]
              omega
            · rw [upd_same, List.map_append]
              rfl
            · rcases List.mem_append.mp hy with x | x
              · exact tu _ _ (s5 _ _ (kZ y x))
              · rw [List.mem_singleton.mp x]
                exact tu _ _ (s5 _ _ (s4 _ _ (kA z mz)))
            · rw [List.length_append]
              exact Nat.succ_le_succ lZ
            · rcases List.mem_append.mp hy with x | x
              · exact okZ y x
              · rw [List.mem_singleton.mp x]
                exact ⟨okA z mz, en⟩
        · rintro H4 ⟨s4, Z, eZ, kZ, lZ, okZ⟩
          rw [List.length_map] at lZ
          have e4 := s4 _ _ eL3
          have tu := tups_list (o := .lst (L.map (fun z => V.ref z.1) ++ Z.map fun z => V.ref z.1)) e4
          refine ⟨D, G, _, _, rfl, rfl, e4, eZ, ?_, ?_⟩
          · rw [List.length_map, List.length_map, sizeLine_eq]
            omega
          refine ⟨_, _, _, _, _, L ++ Z, rfl, same_set (s23.trans s4) nD, by rw [upd_same, List.map_append], fun y hy => ?_, ?_, fun y hy => ?_⟩
          · rcases List.mem_append.mp hy with x | x
            · exact tu _ _ (s4 _ _ (kL3 y x))
            · exact tu _ _ (kZ y x)
          · rw [List.length_append]
            omega
          · rcases List.mem_append.mp hy with x | x
            · exact okL y x
            · exact okZ y x
      · rintro σ2 H2 ⟨u3, u4, u5, u6, u7, L, rfl, s2, eL, kL, lL, okL⟩
        rw [List.length_map] at lL
        exact ⟨u3, u4, u5, u6, u7, L, rfl, s2, eL, kL, by omega, okL⟩
    rintro σ2 H2 ⟨u3, u4, u5, u6, u7, L, rfl, s2, eL, kL, lL, okL⟩
    exact ⟨_, rfl, q H2 D L s2 nD eL kL (by omega) okL⟩
end
end K55
/-! _law_run. -/
namespace K55
open PySem PySem.Spec PyProof.Rows L2 WD NS MC GL
open C8 (pss_cut tCut)
abbrev sRn : Stmt := topS 72
abbrev nRn : List Str := ["_law_dice_here", "_law_net", "_law_here", "_law_total", "_law_moves_here", "_law_found", "_law_turn", "_law_some", "_law_move"]
theorem scRn : FnScope nRn ["_law_dice_here", "_law_net", "_law_here", "_law_total"] (defScope sRn) := ⟨rfl, rfl, rfl, by decide +kernel, rfl, by decide +kernel, by decide +kernel⟩
abbrev CfAt (N : NetM) (H : Hp) (L : List (Addr × CfgM)) (B : Nat) : Prop := ∀ z ∈ L, Kz H (.ref z.1) z.2.key ∧ z.2.Ok N ∧ QLe z.2 B
theorem CfAt.tups {N : NetM} {H H' : Hp} {L : List (Addr × CfgM)} {B : Nat} (h : CfAt N H L B) (s : Tups H H') : CfAt N H' L B := fun z hz => ⟨kz_tups s _ _ (h z hz).1, (h z hz).2⟩
theorem CfAt.more {N : NetM} {H : Hp} {L : List (Addr × CfgM)} {B B' : Nat} (h : CfAt N H L B) (le : B ≤ B') : CfAt N H L B' := fun z hz => ⟨(h z hz).1, (h z hz).2.1, fun q hq => Nat.le_trans ((h z hz).2.2 q hq) le⟩
def spRn : Sp := fun vs H Q _ => ∃ (d a h : Addr) (n : Nat) (N : NetM) (c : CfgM), vs = [.ref d, .ref a, .ref h, .int 6] ∧ Dice H d n ∧ n ≤ 900000 ∧ Kz H (.ref a) N.key ∧ N.Ok ∧ Kz H (.ref h) c.key ∧ c.Ok N ∧ QLe c 10 ∧
  ∀ H' p m F (L : List (Addr × CfgM)), DD H d (n + 6) H' → H p = none → H' p = some (.lst [.ref m, .ref F]) → F ≠ d → H' F = some (.lst (L.map fun z => V.ref z.1)) → CfAt N H' L 100 → L.length ≤ 7 → Q (.ref p) H'
structure TxtMvs (K : PySem.W.Frag) (mg : Str → Option Value) (fMv : Addr) (dMv : FuncData) : Prop where
  F : Fun K "_law_moves" "_law_moves" sMv fMv dMv
  b : L2.Binds K dMv ["_law_net", "_law_here"] []
  g : mg "_law_moves" = some (.ref fMv)
section
variable {P : Program} {w : World} {K : PySem.W.Frag} {mg : Str → Option Value} {base : Heap} {fC fPt fDn fMv fR fO : Addr} {dC dPt dDn dMv dR dO : FuncData}
theorem ok_Rn {f : Addr} {fd : FuncData} {k : Nat} (F : Fun K "_law_run" "_law_run" sRn f fd) (W : TxtR K mg fR fO dR dO) (TL : TxtD mg) (TS : TxtS mg) (range : mg "range" = none) (C : TxtLC K mg fC dC) (T : TxtPt K mg fPt dPt) (TD : TxtDn K mg fDn dDn) (TM : TxtMvs K mg fMv dMv) : FnOk P w K mg base CX0 (k + 4) f fd ["_law_dice_here", "_law_net", "_law_here", "_law_total"] spRn := by
  have GM : FnOk P w K mg base CX0 (k + 3) fMv dMv ["_law_net", "_law_here"] spMv := ok_Mv TM.F TS range C T TD
  have GD : FnOk P w K mg base CX0 (k + 2) fDn dDn ["_law_net", "_law_here", "_law_move"] spDn := ok_Dn TD.F TS C T
  have GO : FnOk P w K mg base CX0 (k + 2) fO dO ["_law_dice_here", "_law_items"] spOneOf := ok_oneOf W.O W.R W.bR W.gR TL
  refine F.ok scRn (fun vs H Q E h => ?_) (fun cdv A outer s H vs Q E hr h => ?_)
  · obtain ⟨d, a, h, n, N, c, rfl, _⟩ := h
    rfl
  · obtain ⟨d, a, h, n, N, c, rfl, D0, hn, hN, ok, hc, okc, lq, q⟩ := h
    have hu := hr.units
    have hr2 : Room (k + 2) _ := hr.mono (by omega)
    refine ⟨_, pss_cut (ps_par (i := 4) (j := 5) (by rfl) scRn.nd rfl rfl (by decide) rfl rfl (pa_cons (pe_lst pa_nil) (pa_cons (pe_lst (pa_cons (pv 2) pa_nil)) pa_nil)) (by rfl))
      (pss_cut (ps_for PassesOwn.never rfl (pi_range1 rfl range (pa_cons (pv 3) pa_nil)) (pg_name (i := 6) scRn.nd rfl (.inl rfl))
        (pss_cut (ps_set (i := 7) scRn.nd rfl (.inl rfl) (pe_call GM hr (by rfl) TM.g TM.F.kp TM.b .nil pass0 (pa_cons (pv 1) (pa_cons (pe_ix ix_list (pv 5) (pe_un un_neg pe_int) (fun _ _ => rfl)) pa_nil))))
        (pss_one (ps_if (pt_cmpR (show OpR _ (compareOp .NotEq) (NE.rNeE K) from NE.op_neE hu) (pv 7) (pe_lst pa_nil) (nomark _))
          (pss_cut (ps_set (i := 8) scRn.nd rfl (.inl rfl) (pe_call GO hr2 (by rfl) W.gO W.O.kp W.bO .nil pass0 (pa_cons (pv 0) (pa_cons (pv 7) pa_nil))))
          (pss_cut (ps_expr (pe_bm PySem.F.plainAttrs_list PySem.F.slot_list_append PySem.F.type_list_append mt_append (pv 5) (pa_cons (pe_call GD hr2 (by rfl) TD.g TD.F.kp TD.b .nil pass0 (pa_cons (pv 1) (pa_cons (pe_ix ix_list (pv 5) (pe_un un_neg pe_int) (fun _ _ => rfl)) (pa_cons (pv 8) pa_nil)))) pa_nil)))
          (pss_one (ps_expr (pe_bm PySem.F.plainAttrs_list PySem.F.slot_list_append PySem.F.type_list_append mt_append (pv 4) (pa_cons (pv 8) pa_nil)))))) pss_nil))))
      (pss_one (ps_ret (pe_lst (pa_cons (pe_callTy call_tuple_of (by rfl) TS.tuple (by decide +kernel) (pa_cons (pv 4) pa_nil)) (pa_cons (pv 5) pa_nil)))))), ?_⟩
    refine ⟨fun σ' H' => ∃ (m F : Addr), σ' = [some (.ref d), some (.ref a), some (.ref h), some (.int 6), some (.ref m), some (.ref F), none, none, none] ∧ DD H d n H' ∧ H m = none ∧ H F = none ∧ m ≠ F ∧ m ≠ d ∧ F ≠ d ∧ H' m = some (.lst []) ∧ H' F = some (.lst [.ref h]), ?_, ?_⟩
    · refine ⟨Nat.zero_le _, fun m nm => ⟨_, rfl, by show 1 ≤ sizeLine; decide, fun F nF => ⟨_, _, rfl, ?_⟩⟩⟩
      have km := same_upd (o := .lst []) nm
      have kF := same_upd (o := .lst [.ref h]) nF
      exact ⟨m, F, rfl, ((DD.refl D0).new nm).new nF, nm, km.free nF, ne_of_none upd_same nF, ne_dice' D0 nm, ne_dice' D0 (km.free nF), kF _ _ upd_same, upd_same⟩
    rintro σ1 H1 ⟨m, F, rfl, k1, nm, nF, mF, md, Fd, em, eF⟩
    refine ⟨fun σ' H' => ∃ (u6 u7 u8 : Option V) (xs : List V) (L : List (Addr × CfgM)), σ' = [some (.ref d), some (.ref a), some (.ref h), some (.int 6), some (.ref m), some (.ref F), u6, u7, u8] ∧ DD H d (n + 6) H' ∧ H' m = some (.lst xs) ∧ xs.length ≤ 6 ∧ H' F = some (.lst (L.map fun z => V.ref z.1)) ∧ CfAt N H' L 16 ∧ L.length ≤ 7, ?_, ?_⟩
    · refine ⟨_, rfl, 6, rfl, by decide, by decide, ?_⟩
      refine for_range (lo := 0) (n := 6) (fun i σ' H' => ∃ (u6 u7 u8 : Option V) (xs : List V) (L : List (Addr × CfgM)), σ' = [some (.ref d), some (.ref a), some (.ref h), some (.int 6), some (.ref m), some (.ref F), u6, u7, u8] ∧ DD H d (n + i) H' ∧ H' m = some (.lst xs) ∧ xs.length ≤ i ∧ H' F = some (.lst (L.map fun z => V.ref z.1)) ∧ CfAt N H' L (10 + i) ∧ L ≠ [] ∧ L.length ≤ 1 + i) ?_ ?_ ?_
      · refine ⟨none, none, none, [], [(h, c)], rfl, k1, em, Nat.le_refl _, eF, fun z hz => ?_, List.cons_ne_nil _ _, Nat.le_refl _⟩
        rw [List.mem_singleton.mp hz]
        exact ⟨k1.kz D0 hc, okc, lq⟩
      · rintro i σ2 H2 hi ⟨u6, u7, u8, xs, L, rfl, k2, em2, lx, eF2, kL, neL, lL⟩
        obtain ⟨L0, z, rfl⟩ : ∃ L0 z, L = L0 ++ [z] := by
          rcases List.eq_nil_or_concat L with e | ⟨L0, z, e⟩
          · exact absurd e neL
          · exact ⟨L0, z, by rw [e, List.concat_eq_append]⟩
        have mz : z ∈ L0 ++ [z] := List.mem_append_right _ List.mem_cons_self
        have last : ∀ {H' : Hp}, H' F = some (.lst ((L0 ++ [z]).map fun z => V.ref z.1)) → atI ((L0 ++ [z]).map fun z => V.ref z.1) (-1) = some (.ref z.1) := fun _ => by
          rw [List.map_append]
          exact atI_last _ _
        obtain ⟨kz, okz, lz⟩ := kL z mz
        refine ⟨fun σ' H' => ∃ (v6 : Option V) (S : Addr) (Y : List (Addr × MvL)), σ' = [some (.ref d), some (.ref a), some (.ref h), some (.int 6), some (.ref m), some (.ref F), v6, some (.ref S), u8] ∧ Same H2 H' ∧ S ≠ d ∧ H' S = some (.lst (Y.map fun z => V.ref z.1)) ∧ MvAt H' Y ∧ Y.length ≤ 1000 ∧ (∀ y ∈ Y, MvOk N y.2 ∧ En N z.2 y.2.i y.2.j y.2.p), ?_, ?_⟩
        · refine ⟨_, rfl, _, rfl, 1, rfl, F, _, -1, .ref z.1, rfl, rfl, SqL.of eF2, last eF2, a, z.1, N, z.2, 10 + i, rfl, k2.kz D0 hN, ok, kz, okz, lz, by omega, fun H3 S Y s3 nS eS kY lY okY => ?_⟩
          exact ⟨_, S, Y, rfl, s3, ne_dice' k2.dice nS, eS, kY, lY, okY⟩
        rintro σ3 H3 ⟨v6, S, Y, rfl, s3, Sd, eS, kY, lY, okY⟩
        have k3 := k2.same s3
        have em3 := s3 _ _ em2
        have eF3 := s3 _ _ eF2
        have kL3 := kL.tups (tups_same s3)
        refine ⟨_, rfl, Nat.zero_le _, fun e ne => ?_⟩
        have ke := same_upd (o := .lst []) ne
        refine ⟨S, e, _, rfl, rfl, SqL.of (ke _ _ eS), SqL.of upd_same, _, rfl, ifB (fun hb => ?_) fun hb => ?_⟩
        · have Yne : 0 < (Y.map fun z => V.ref z.1).length := by
            cases hY : Y with
            | nil => rw [hY] at hb; exact nomatch hb
            | cons y ys => exact Nat.zero_lt_succ _
          have k4 := k3.new (o := .lst []) ne
          refine ⟨fun σ' H' => ∃ (y : Addr × MvL), σ' = [some (.ref d), some (.ref a), some (.ref h), some (.int 6), some (.ref m), some (.ref F), v6, some (.ref S), some (.ref y.1)] ∧ y ∈ Y ∧ DD H d (n + i + 1) H' ∧ Tups H3 H' ∧ H' m = some (.lst xs) ∧ H' F = some (.lst ((L0 ++ [z]).map fun z => V.ref z.1)), ?_, ?_⟩
          · refine ⟨_, rfl, _, rfl, d, S, n + i, _, rfl, k4.dice, by omega, ke _ _ eS, Sd, Yne, by rw [List.length_map]; omega, fun v o hv D5 => ?_⟩
            obtain ⟨y, hy, rfl⟩ := List.mem_map.mp hv
            exact ⟨y, rfl, hy, k4.roll D5, (tups_same ke).trans (tups_dice k4.dice), by rw [upd_ne md]; exact ke _ _ em3, by rw [upd_ne Fd]; exact ke _ _ eF3⟩
          rintro σ4 H4 ⟨y, rfl, hy, k5, t5, em5, eF5⟩
          obtain ⟨mo, en⟩ := okY y hy
          have kL5 := kL3.tups t5
          refine ⟨fun σ' H' => ∃ z2 : Addr × CfgM, σ' = [some (.ref d), some (.ref a), some (.ref h), some (.int 6), some (.ref m), some (.ref F), v6, some (.ref S), some (.ref y.1)] ∧ DD H d (n + i + 1) H' ∧ H' m = some (.lst xs) ∧ H' F = some (.lst ((L0 ++ [z] ++ [z2]).map fun z => V.ref z.1)) ∧ CfAt N H' (L0 ++ [z] ++ [z2]) (10 + (i + 1)), ?_, ?_⟩
          · refine ⟨_, rfl, .inl ⟨rfl, _, SqL.of eF5⟩, _, rfl, _, rfl, 1, rfl, F, _, -1, .ref z.1, rfl, rfl, SqL.of eF5, last eF5, _, rfl, a, z.1, y.1, N, z.2, 10 + i, y.2.i, y.2.j, y.2.p, rfl, k5.kz D0 hN, ok, (kL5 z mz).1, okz, lz, by omega, mo.1, mo.2, t5 _ _ (kY y hy), fun nen => absurd en nen, fun _ H6 p6 c6 s6 np6 ok6 lq6 kc6 => ?_⟩
            have e6 := s6 _ _ eF5
            have tu := tups_list (o := .lst ((L0 ++ [z]).map (fun z => V.ref z.1) ++ [.ref p6])) e6
            refine ⟨F, _, .ref p6, rfl, rfl, e6, ?_, (p6, c6), rfl, (k5.same s6).put Fd nF, by rw [upd_ne mF]; exact s6 _ _ em5, ?_, fun w hw => ?_⟩
            · rw [List.length_map, sizeLine_eq]
              omega
            · rw [upd_same, List.map_append (l₁ := L0 ++ [z])]
              rfl
            · rcases List.mem_append.mp hw with x | x
              · exact (((kL5.tups (tups_same s6)).tups tu).more (by omega)) w x
              · rw [List.mem_singleton.mp x]
                exact ⟨kz_tups tu _ _ kc6, ok6, lq6⟩
          rintro σ5 H5 ⟨z2, rfl, k6, em6, eF6, kL6⟩
          refine ⟨_, rfl, .inl ⟨rfl, _, SqL.of em6⟩, _, rfl, m, _, .ref y.1, rfl, rfl, em6, ?_, ?_⟩
          · rw [sizeLine_eq]
            omega
          have tu := tups_list (o := .lst (xs ++ [.ref y.1])) em6
          refine ⟨_, _, _, xs ++ [.ref y.1], L0 ++ [z] ++ [z2], rfl, (k6.put md nm).more (by omega), upd_same, by rw [List.length_append]; exact Nat.succ_le_succ lx, by rw [upd_ne mF.symm]; exact eF6, kL6.tups tu, by simp, by rw [List.length_append]; show (L0 ++ [z]).length + 1 ≤ _; omega⟩
        · exact ⟨_, _, _, xs, L0 ++ [z], rfl, (k3.new ne).more (by omega), ke _ _ em3, by omega, ke _ _ eF3, (kL3.tups (tups_same ke)).more (by omega), neL, by omega⟩
      · rintro σ2 H2 ⟨u6, u7, u8, xs, L, rfl, k2, em2, lx, eF2, kL, neL, lL⟩
        exact ⟨u6, u7, u8, xs, L, rfl, k2, em2, lx, eF2, kL, lL⟩
    rintro σ2 H2 ⟨u6, u7, u8, xs, L, rfl, k2, em2, lx, eF2, kL, lL⟩
    refine ⟨_, rfl, m, _, rfl, .inl ⟨SqL.of em2, fun t nt => ⟨_, rfl, by show 2 ≤ sizeLine; decide, fun p np => ?_⟩⟩⟩
    have kt := same_upd (o := .tup xs) nt
    have kp := same_upd (o := .lst [.ref t, .ref F]) np
    exact q _ p t F L ((k2.new nt).new np) ((k2.new nt).free np) upd_same Fd (kp _ _ (kt _ _ eF2)) ((kL.tups (tups_same (kt.trans kp))).more (by omega)) lL
end
end K55
/-! zip of a list and a tuple. -/
namespace ZLT
open PySem PySem.Spec PyProof.Rows L2
abbrev one (h : Heap) (l : Addr) : Heap := h.push { cls := .type "list_iterator", data := .fields #[.ref l, .int 0 0] }
abbrev two (h : Heap) (l t : Addr) : Heap := (one h l).push { cls := .type "tuple_iterator", data := .fields #[.ref t, .int 0 0] }
abbrev three (h : Heap) (l t : Addr) : Heap := (two h l t).push { cls := .type "tuple", data := .seq #[.ref h.objs.size, .ref (one h l).objs.size] }
abbrev four (h : Heap) (l t : Addr) : Heap := (three h l t).push { cls := .type "tuple", data := .seq #[.none, .none] }
abbrev five (h : Heap) (l t : Addr) : Heap := (four h l t).push { cls := .type "zip", data := .fields #[.none, .bool false, .bool false, .ref (two h l t).objs.size, .ref (three h l t).objs.size] }
theorem new_zip (l t : Addr) (xs ys : Array Value) :
    Meets (Builtin.«zip.__new__» ⟨[.type "zip", .ref l, .ref t], []⟩) (fun _ R s => s.heap.IsList l xs ∧ s.heap.IsTuple t ys ∧
      R (.ok (.ret (.ref (four s.heap l t).objs.size))) { s with heap := five s.heap l t }) :=
  .of_wp fun prog w A R s want => by
    obtain ⟨heap, g, d, tk, os⟩ := s
    obtain ⟨isL, isT, want⟩ := want
    have subt := sub_zip
    have onL : Heap.IsList (Shared.heap ⟨heap, g, d, tk, os⟩) l xs := isL
    have onT : Heap.IsTuple (Shared.heap ⟨one heap l, g, d, tk, os⟩) t ys := Heap.IsTuple.push isT _
    wp_walk using wpAny_pyIter_list onL, wpAny_pyIter_tuple onT
    exact ⟨_, rfl, want⟩
section
variable {P : Program} {w : World} {A : Around} {E : Value → Shared → Prop} {s : Shared}
theorem call_zipLT {l t : Addr} {xs ys : Array Value} {Q : Value → Shared → Prop} (isL : s.heap.IsList l xs) (isT : s.heap.IsTuple t ys)
    (q : ∀ h', IsZip h' (s.heap.objs.size + 4) (s.heap.objs.size + 2) (s.heap.objs.size + 3) .none → IsTupOf2 h' (s.heap.objs.size + 2) (.ref s.heap.objs.size) (.ref (s.heap.objs.size + 1)) →
      IsTupOf2 h' (s.heap.objs.size + 3) .none .none → h'.IsListIter s.heap.objs.size l 0 → h'.IsTupleIter (s.heap.objs.size + 1) t 0 →
      (∀ c o, s.heap.get? c = some o → h'.get? c = some o) → Q (.ref (s.heap.objs.size + 4)) { s with heap := h' }) :
    wpAny (model P w) A (call (.type "zip") [.ref l, .ref t]) Q E s := by
  refine callType_new F.called_zip (by decide) (F.typeCall_zip_2 _ _) (F.newCall_zip_2 _ _) (fun obj => F.args_object_init_3 obj _ _) F.entry_zip_new (new_zip l t xs ys) ⟨isL, isT, ?_⟩
  have n1 : (one s.heap l).objs.size = s.heap.objs.size + 1 := Heap.size_push ..
  have n2 : (two s.heap l t).objs.size = s.heap.objs.size + 2 := by rw [Heap.size_push, n1]
  have n3 : (three s.heap l t).objs.size = s.heap.objs.size + 3 := by rw [Heap.size_push, n2]
  have n4 : (four s.heap l t).objs.size = s.heap.objs.size + 4 := by rw [Heap.size_push, n3]
  have e5 : (five s.heap l t).get? (four s.heap l t).objs.size = some _ := Heap.get?_push_size _ rfl
  have e4 : (five s.heap l t).get? (three s.heap l t).objs.size = some _ := Heap.get?_push_of_some _ (Heap.get?_push_size _ rfl)
  have e3 : (five s.heap l t).get? (two s.heap l t).objs.size = some _ := Heap.get?_push_of_some _ (Heap.get?_push_of_some _ (Heap.get?_push_size _ rfl))
  have e2 : (five s.heap l t).get? (one s.heap l).objs.size = some _ := Heap.get?_push_of_some _ (Heap.get?_push_of_some _ (Heap.get?_push_of_some _ (Heap.get?_push_size _ rfl)))
  have e1 : (five s.heap l t).get? s.heap.objs.size = some _ := Heap.get?_push_of_some _ (Heap.get?_push_of_some _ (Heap.get?_push_of_some _ (Heap.get?_push_of_some _ (Heap.get?_push_size _ rfl))))
  show _ ∧ _
  rw [n2, n3, n4] at e5
  rw [n1, n2] at e3
  rw [n3] at e4
  rw [n1] at e2
  rw [n4]
  refine ⟨⟨_, e5, rfl⟩, q _ e5 e3 e4 ⟨_, e1, rfl, rfl⟩ ⟨_, e2, rfl, rfl⟩ fun c o x => ?_⟩
  exact Heap.get?_push_of_some _ (Heap.get?_push_of_some _ (Heap.get?_push_of_some _ (Heap.get?_push_of_some _ (Heap.get?_push_of_some _ x))))
end
/-- a list at a and a tuple at b, of one length, in new pairs -/
def Itm (K : PySem.W.Frag) (a b : Addr) : It where
  go := fun i H => ∃ (xs ys : List V) (x y : V), SqL K H a xs ∧ SqT K H b ys ∧ xs[i]? = some x ∧ ys[i]? = some y
  yld := fun i H v H' => ∃ T x y, v = .ref T ∧ H T = none ∧ H' = upd H T (.tup [x, y]) ∧ (∀ xs, SqL K H a xs → xs[i]? = some x) ∧ ∀ ys, SqT K H b ys → ys[i]? = some y
  stop := fun i H => ∃ xs ys : List V, SqL K H a xs ∧ SqT K H b ys ∧ xs.length = i ∧ ys.length = i
abbrev Stand (z TI TO i1 i2 a b : Addr) (i : Nat) (h : Heap) : Prop := IsZip h z TI TO .none ∧ IsTupOf2 h TI (.ref i1) (.ref i2) ∧ (∃ x y, IsTupOf2 h TO x y) ∧ h.IsListIter i1 a i ∧ h.IsTupleIter i2 b i
theorem sep_of {z TI TO i1 i2 a b : Addr} (D : ZipApart z TI TO i1 i2 a b) : ZipSep2 z TI TO i1 i2 [i1, a] [i2, b] where
  TIz := D.TIz
  TOz := D.TOz
  TITO := D.TITO
  TIi1 := D.TIi1
  mem1 := List.mem_cons_self
  zf1 := by simp [D.i1z.symm, D.l1z.symm]
  Tf1 := by simp [D.TOi1, D.l1TO.symm]
  TIi2 := D.TIi2
  mem2 := List.mem_cons_self
  zf2 := by simp [D.i2z.symm, D.l2z.symm]
  Tf2 := by simp [D.TOi2, D.l2TO.symm]
  sep1_2 := by simp [D.i12, D.l2i1.symm]
  sep2_1 := by simp [D.i12.symm, D.l1i2.symm]
theorem turnLT {P : Program} {w : World} {K : PySem.W.Frag} {elts : List Expr} {kk : Nat} {tpos : Pos} {a b z TI TO i1 i2 : Addr} (D : ZipApart z TI TO i1 i2 a b) :
    Turn P w K (.Tuple elts kk tpos) (Itm K a b) [z, TI, TO, i1, i2] z (Stand z TI TO i1 i2 a b) where
  mem := List.mem_cons_self
  obj := fun i h st c hc => by
    obtain ⟨hz, hTI, ⟨x, y, hTO⟩, ⟨o1, e1, _, d1⟩, ⟨o2, e2, _, d2⟩⟩ := st
    simp only [List.mem_cons, List.not_mem_nil, or_false] at hc
    rcases hc with rfl | rfl | rfl | rfl | rfl
    · exact ⟨_, hz, fun v q => nomatch q⟩
    · exact ⟨_, hTI, fun v q => nomatch q⟩
    · exact ⟨_, hTO, fun v q => nomatch q⟩
    · exact ⟨o1, e1, fun v q => by rw [d1] at q; cases q⟩
    · exact ⟨o2, e2, fun v q => by rw [d2] at q; cases q⟩
  keep := fun i h h' st k => by
    obtain ⟨hz, hTI, ⟨x, y, hTO⟩, h1, h2⟩ := st
    exact ⟨k z (by simp) _ hz, k TI (by simp) _ hTI, ⟨x, y, k TO (by simp) _ hTO⟩, h1.at fun o q => k i1 (by simp) o q, h2.at fun o q => k i2 (by simp) o q⟩
  item := by
    intro X eP ew eK calm i pins s σ H E I fpok st go
    subst eP ew eK
    obtain ⟨hz, hTI, ⟨x0, y0, hTO⟩, h1, h2⟩ := st
    obtain ⟨xs, ys, x, y, hxs, hys, hx, hy⟩ := go
    obtain ⟨its, rv, pl, _⟩ := I.list hxs
    obtain ⟨its2, rv2, pt, _⟩ := I.tuple hys
    obtain ⟨u, hu, ru⟩ := rv.get hx
    obtain ⟨u2, hu2, ru2⟩ := rv2.get hy
    have zl : z < s.heap.objs.size := Heap.lt_size hz
    have hh := I.ok.hd calm
    have il : i < its.toArray.size := (Array.getElem?_eq_some_iff.mp (show its.toArray[i]? = some u by simpa using hu)).1
    have il2 : i < its2.toArray.size := (Array.getElem?_eq_some_iff.mp (show its2.toArray[i]? = some u2 by simpa using hu2)).1
    refine wpAny_pyNext_zipD2_item (sep_of D) (Draws.list (A := X.A.in1) hh i1 a D.l1i1 its.toArray) (Draws.tuple (A := X.A.in1) hh i2 b D.l2i2 its2.toArray) hz hTI hTO ⟨h1, pl.isList⟩ ⟨h2, pt⟩ il il2 fun v1 v2 h' tk g1 g2 hz' hTO' hs1 hs2 hT size keep => ?_
    have ev1 : v1 = u := by
      have g : its.toArray[i]? = some v1 := g1
      have gu : its.toArray[i]? = some u := by simpa using hu
      rw [gu] at g
      exact (Option.some.inj g).symm
    have ev2 : v2 = u2 := by
      have g : its2.toArray[i]? = some v2 := g2
      have gu : its2.toArray[i]? = some u2 := by simpa using hu2
      rw [gu] at g
      exact (Option.some.inj g).symm
    subst ev1 ev2
    refine ⟨_, rfl, wpAny_letOwnedTupleGo_zip (s := { s with heap := h', toks := tk }) hz' fun h'' hz'' but => ?_⟩
    have hT2 : h''.get? s.heap.objs.size = some { cls := .type "tuple", data := .seq #[v1, v2] } := (but.2 _ (Nat.ne_of_gt zl)).trans hT
    have new : ObjOk X.prog X.w (upd H s.heap.objs.size (.tup [x, y])) h'' s.heap.objs.size (.tup [x, y]) := ⟨by show 2 ≤ sizeLine; decide, [v1, v2], .cons ru (.cons ru2 .nil), ⟨_, hT2, rfl, _, rfl⟩⟩
    have I1 : Inv X pins σ (upd H s.heap.objs.size (.tup [x, y])) { s with heap := h'', toks := tk } :=
      I.turnedNew (t' := tk) (ch := [z, TI, TO, i1, i2]) (fun c o nc e => (but.2 c (fun q => nc (by simp [q]))).trans (keep c o (fun q => nc (by simp [q])) (fun q => nc (by simp [q])) (fun q => nc (by simp [q])) (fun q => nc (by simp [q])) e)) fpok (Nat.le_refl _) new
    refine ⟨.ref s.heap.objs.size, _, I1, rfl, ⟨_, x, y, rfl, I.hok.fresh (Nat.le_refl _), rfl, fun l hl => ?_, fun l hl => by rw [I.tuple_inj hl hys]; exact hy⟩, ⟨hz'', (but.2 _ D.TIz).trans (keep _ _ D.TIz D.TITO D.TIi1 D.TIi2 hTI), ⟨v1, v2, (but.2 _ D.TOz).trans hTO'⟩, hs1.1.at fun o q => (but.2 _ D.i1z).trans q, hs2.1.at fun o q => (but.2 _ D.i2z).trans q⟩, fun c hc => ?_⟩
    · rw [I.list_inj hl hxs]
      exact hx
    · have lt : c < s.heap.objs.size := by
        have hc' := hc
        simp only [List.mem_cons, List.not_mem_nil, or_false] at hc'
        rcases hc' with rfl | rfl | rfl | rfl | rfl
        · exact zl
        · exact Heap.lt_size hTI
        · exact Heap.lt_size hTO
        · obtain ⟨_, e, _⟩ := h1
          exact Heap.lt_size e
        · obtain ⟨_, e, _⟩ := h2
          exact Heap.lt_size e
      rw [upd_ne (Nat.ne_of_lt lt)]
      exact (fpok c hc).1
  done := by
    intro X eP ew eK calm i pins s σ H E I fpok st stop
    subst eP ew eK
    obtain ⟨hz, hTI, ⟨x0, y0, hTO⟩, h1, h2⟩ := st
    obtain ⟨xs, ys, hxs, hys, ex, ey⟩ := stop
    obtain ⟨its, rv, pl, _⟩ := I.list hxs
    obtain ⟨its2, rv2, pt, _⟩ := I.tuple hys
    have hh := I.ok.hd calm
    have l1 := rv.length
    have l2 := rv2.length
    refine wpAny_pyNext_zipD2_end (sep_of D) (Draws.list (A := X.A.in1) hh i1 a D.l1i1 its.toArray) (Draws.tuple (A := X.A.in1) hh i2 b D.l2i2 its2.toArray) hz hTI hTO ⟨h1, pl.isList⟩ ⟨h2, pt⟩ (by rw [List.size_toArray]; omega) (by rw [List.size_toArray]; omega) (.inl (by rw [List.size_toArray]; omega)) fun h' tk keep => ?_
    exact ⟨rfl, I.turnedL (t' := tk) (ch := [z, TI, TO, i1, i2]) (fun c o nc e => keep c o (fun q => nc (by simp [q])) (fun q => nc (by simp [q])) (fun q => nc (by simp [q])) (fun q => nc (by simp [q])) e) fpok⟩
  self := fun A i s Q E st h => wpAny_pyIter_zip st.1 h
def iZipLT (K : PySem.W.Frag) (ta : TA) : TI := fun σ H R => ta σ H fun vs H1 => ∃ a b xs ys, vs = [.ref a, .ref b] ∧ SqL K H1 a xs ∧ SqT K H1 b ys ∧ R (Itm K a b) H1
theorem pi_zipLT {X : Cx} {e e2 : Expr} {ta : TA} {p pos tpos : Pos} {elts : List Expr} {kk : Nat} (glob : Gl X "zip") (mine : X.mg "zip" = none) (args : PA X [e, e2] ta)
    (stars : starEach [e, e2] X.env = (false, eval e X.env) :: starEach [e2] X.env := by rfl) (plain : (backTo pos (starEach [e2] X.env)).any (·.1) = false := by rfl) :
    PI X (.Tuple elts kk tpos) (.Call (.Name "zip" p) [e, e2] [] pos) (iZipLT X.K ta) := by
  constructor
  intro pins s σ H R I want
  refine Call_ (ld_blt I glob mine PyProof.Rows.boot_zip (PyProof.Rows.callWith_type1 (thn (args.run pos pins s σ H _ I want) fun us s1 z => ?_) stars plain))
  obtain ⟨vs, H1, I1, r1, a, b, xs, ys, rfl, hxs, hys, q⟩ := z
  obtain ⟨u, u2, rfl, ru, ru2⟩ := vals2 r1
  obtain rfl : u = Value.ref a := ru
  obtain rfl : u2 = Value.ref b := ru2
  obtain ⟨its, rv, pl, _⟩ := I1.list hxs
  obtain ⟨its2, rv2, pt, _⟩ := I1.tuple hys
  obtain ⟨o2, ho2, _⟩ := id pt
  refine call_zipLT pl.isList (show s1.heap.IsTuple b its2.toArray from pt) fun h' hz hTI hTO h1 h2 keep => wpAny_pyIter_zip hz ?_
  have I2 : Inv X pins σ H1 { s1 with heap := h' } := I1.kept (t' := s1.toks) keep
  refine ⟨s1.heap.objs.size + 4, [s1.heap.objs.size + 4, s1.heap.objs.size + 2, s1.heap.objs.size + 3, s1.heap.objs.size, s1.heap.objs.size + 1], _, _, H1, rfl, I2, turnLT (PySem.W.ktu_apart s1.heap.objs.size a b pl.lt (Heap.lt_size ho2)), ⟨hz, hTI, ⟨_, _, hTO⟩, h1, h2⟩, fun c hc => ?_, q⟩
  have above : s1.heap.objs.size ≤ c := by
    simp only [List.mem_cons, List.not_mem_nil, or_false] at hc
    rcases hc with rfl | rfl | rfl | rfl | rfl
    · exact Nat.le_add_right _ _
    · exact Nat.le_add_right _ _
    · exact Nat.le_add_right _ _
    · exact Nat.le_refl _
    · exact Nat.le_add_right _ _
  exact I1.fpOk above (I1.hok.fresh above)
theorem walk_zipLT {K : PySem.W.Frag} {a b : Addr} {xs ys : List V} (same : ys.length = xs.length) : Walk (Itm K a b) xs.length (fun H => SqL K H a xs ∧ SqT K H b ys) (YPair (fun i => xs[i]?) fun i => ys[i]?) where
  goes := fun i H lt g => ⟨xs, ys, xs[i], ys[i]'(same ▸ lt), g.1, g.2, List.getElem?_eq_getElem lt, List.getElem?_eq_getElem (same ▸ lt)⟩
  stops := fun H g => ⟨xs, ys, g.1, g.2, rfl, same⟩
  yields := fun i H v H' lt g y => by
    obtain ⟨T, u, z, e1, e2, e3, e4, e5⟩ := y
    exact ⟨T, u, z, e1, e2, e3, e4 xs g.1, e5 ys g.2⟩
end ZLT
/-! _law_rest. -/
namespace K55
open PySem PySem.Spec PyProof.Rows L2 WD NS MC GL
open C8 (pss_cut tCut)
abbrev sRs : Stmt := topS 77
abbrev nRs : List Str := ["_law_net", "_law_one", "_law_other", "_law_here", "_law_names", "_law_queues", "_law_states", "_law_name", "_law_machine", "_law_state", "_law_sender", "_law_taker", "_law_queue"]
theorem scRs : FnScope nRs ["_law_net", "_law_one", "_law_other", "_law_here"] (defScope sRs) := ⟨rfl, rfl, rfl, by decide +kernel, rfl, by decide +kernel, by decide +kernel⟩
theorem keep_iff {N : NetM} {x y : Str} {ys : List Str} (ok : N.Ok) (ho : ordL x y ∈ N.ls) (br : BrOf N.ls x y ys) {c : Str × Str} (lk : Linked N.ls c.1 c.2) : (c = (x, y) ∨ c = (y, x)) ∨ (c.1 ∉ ys ∧ c.2 ∉ ys) ↔ keepC ys c = true := by
  have nx := br_one ok ho br
  rw [keepC, Bool.or_eq_true, decide_eq_true_eq, decide_eq_true_eq]
  constructor
  · rintro ((rfl | rfl) | h)
    · exact .inl nx
    · exact .inr nx
    · exact .inl h.1
  · rintro (h | h)
    · by_cases d : c.2 ∈ ys
      · have z := br_cross ok ho br lk h d
        exact .inl (.inl (Prod.ext z.1 z.2))
      · exact .inr ⟨h, d⟩
    · by_cases d : c.1 ∈ ys
      · have z := br_cross ok ho br lk.symm h d
        exact .inl (.inr (Prod.ext z.2 z.1))
      · exact .inr ⟨d, h⟩
theorem any_two (c : Str × Str) (x y : Str) : [PyData.tuple [.str x, .str y], PyData.tuple [.str y, .str x]].any (fun z => PyData.eqv z (.tuple [.str c.1, .str c.2])) = decide (c = (x, y) ∨ c = (y, x)) := by
  simp only [List.any_cons, List.any_nil, Bool.or_false, eqv_two]
  rw [← Bool.decide_or]
  refine decide_eq_decide.mpr ⟨?_, ?_⟩
  · rintro (⟨h1, h2⟩ | ⟨h1, h2⟩)
    · exact .inl (Prod.ext h1.symm h2.symm)
    · exact .inr (Prod.ext h1.symm h2.symm)
  · rintro (rfl | rfl)
    · exact .inl ⟨rfl, rfl⟩
    · exact .inr ⟨rfl, rfl⟩
section
variable {P : Program} {w : World} {K : PySem.W.Frag} {mg : Str → Option Value} {base : Heap} {fLk fMb fC : Addr} {dLk dMb dC : FuncData}
theorem ok_Rs {f : Addr} {fd : FuncData} {k : Nat} (F : Fun K "_law_rest" "_law_rest" sRs f fd) (TS : TxtS mg) (zip : mg "zip" = none) (TL : TxtLk K mg fLk dLk) (T : TxtMb K mg fMb dMb) (C : TxtLC K mg fC dC) : FnOk P w K mg base CX0 (k + 3) f fd ["_law_net", "_law_one", "_law_other", "_law_here"] spRO := by
  have GM : FnOk P w K mg base CX0 (k + 2) fMb dMb ["_law_net", "_law_one", "_law_other"] spMem := ok_Mem T.F TS TL
  have GC : FnOk P w K mg base CX0 (k + 1) fC dC ["_law_net"] spLCh := ok_LCh C.F TS
  refine F.ok scRs (fun vs H Q E h => ?_) (fun cdv A outer s H vs Q E hr h => ?_)
  · obtain ⟨a, b, N, x, y, c, rfl, _⟩ := h
    rfl
  · obtain ⟨a, b, N, x, y, c, rfl, hn, ok, ho, hc, okc, q⟩ := h
    have hr1 : Room (k + 1) _ := hr.mono (by omega)
    have h65 := room65 hr
    refine ⟨_, pss_cut (ps_asg (pe_tup (pa_cons (pe_call GM hr (by rfl) T.g T.F.kp T.b .nil pass0 (pa_cons (pv 0) (pa_cons (pv 1) (pa_cons (pv 2) pa_nil)))) (pa_cons (pe_lst pa_nil) pa_nil))) (pg_tup rfl (pgs_cons (pg_name (i := 4) scRs.nd rfl (.inr rfl)) (pgs_cons (pg_name (i := 5) scRs.nd rfl (.inl rfl)) pgs_nil))))
      (pss_cut (ps_setLc (i := 6) (own := [("_law_state", 9), ("_law_name", 7), ("_law_machine", 8)]) (g := gTup K 2 (gCons (gTup K 2 (gCons (gName 7) (gCons (gName 8) gNil))) (gCons (gName 9) gNil))) (tt := tTest (tOp (rIn K true) (tVar 7) (tVar 4))) (te := tVar 9) rfl scRs.nd rfl rfl (sw_true rfl rfl rfl (by decide +kernel))
          (RZ.pi_zipA (by rfl) zip (pa_cons (pe_ix ix_tup (pv 0) pe_int (fun _ _ => rfl)) (pa_cons (pe_ix ix_tup (pv 3) pe_int (fun _ _ => rfl)) pa_nil))) (blkOk_by (own := [("_law_state", 9), ("_law_name", 7), ("_law_machine", 8)]) (N := nRs) (sc := defScope sRs) (by decide +kernel))
          (fun _ _ _ _ _ => pg_tup rfl (pgs_cons (pg_tup rfl (pgs_cons (pg_name (i := 7) scRs.nd rfl (.inl rfl)) (pgs_cons (pg_name (i := 8) scRs.nd rfl (.inl rfl)) pgs_nil))) (pgs_cons (pg_name (i := 9) scRs.nd rfl (.inl rfl)) pgs_nil)))
          (fun _ _ _ _ _ => pts_one (pt_cmpR (show OpR _ (compareOp .NotIn) (rIn K true) from op_notIn_seq) (pv 7) (pv 4) (by rfl))) (fun _ _ _ _ _ => pv 9))
      (pss_cut (ps_for PassesOwn.never rfl (ZLT.pi_zipLT (by rfl) zip (pa_cons (pe_call GC hr1 (by rfl) C.g C.F.kp C.b .nil pass0 (pa_cons (pv 0) pa_nil)) (pa_cons (pe_ix ix_tup (pv 3) pe_int (fun _ _ => rfl)) pa_nil)))
          (pg_tup rfl (pgs_cons (pg_tup rfl (pgs_cons (pg_name (i := 10) scRs.nd rfl (.inl rfl)) (pgs_cons (pg_name (i := 11) scRs.nd rfl (.inl rfl)) pgs_nil))) (pgs_cons (pg_name (i := 12) scRs.nd rfl (.inl rfl)) pgs_nil)))
        (pss_one (ps_if (PW.pt (pw_or (pt_cmpR (show OpR _ (compareOp .In) (rInD K) from op_inD h65) (pe_tup (pa_cons (pv 10) (pa_cons (pv 11) pa_nil))) (pe_lst (pa_cons (pe_tup (pa_cons (pv 1) (pa_cons (pv 2) pa_nil))) (pa_cons (pe_tup (pa_cons (pv 2) (pa_cons (pv 1) pa_nil))) pa_nil))) (by rfl))
            (pw_or1 (PW.pt (pw_and (pt_cmpR (show OpR _ (compareOp .NotIn) (rIn K true) from op_notIn_seq) (pv 10) (pv 4) (by rfl)) (pw_and1 (pt_cmpR (show OpR _ (compareOp .NotIn) (rIn K true) from op_notIn_seq) (pv 11) (pv 4) (by rfl))))))))
          (pss_one (ps_expr (pe_bm PySem.F.plainAttrs_list PySem.F.slot_list_append PySem.F.type_list_append mt_append (pv 5) (pa_cons (pv 12) pa_nil)))) pss_nil)))
      (pss_one (ps_ret (pe_tup (pa_cons (pe_callTy call_tuple_of (by rfl) TS.tuple (by decide +kernel) (pa_cons (pv 6) pa_nil)) (pa_cons (pe_callTy call_tuple_of (by rfl) TS.tuple (by decide +kernel) (pa_cons (pv 5) pa_nil)) pa_nil))))))), ?_⟩
    obtain ⟨M⟩ := net_at hn
    obtain ⟨C'⟩ := cfg_at hc
    obtain ⟨R, eR, mR, kR⟩ := pr_of M.all
    have eA : H M.A = some (.tup (R.map fun p => V.ref p.1)) := eR ▸ M.ea
    have lR : R.length = N.ms.length := by rw [← mR, List.length_map]
    have n6 := ok.n6
    have lf := ok.lf
    have lc := okc.len
    have lT : C'.T.length = 2 * N.ls.length := by
      rw [← okc.ql, ← C'.mT, List.length_map]
    obtain ⟨mx, my, nxy⟩ := ord_ends ok ho
    have wx := ok.wdn mx
    have wy := ok.wdn my
    -- names, queues
    refine ⟨fun σ' H' => ∃ (p D : Addr) (ys : List Str), σ' = [some (.ref a), some (.str x), some (.str y), some (.ref b), some (.ref p), some (.ref D), none, none, none, none, none, none, none] ∧ Same H H' ∧ p ≠ D ∧ H D = none ∧ H' p = some (.lst (ys.map V.str)) ∧ BrOf N.ls x y ys ∧ H' D = some (.lst []), ?_, ?_⟩
    · refine ⟨_, rfl, _, rfl, _, rfl, a, N, x, y, rfl, hn, ok, ho, fun H1 p ys s1 np ep br => ⟨Nat.zero_le _, fun D nD => ⟨by show 2 ≤ sizeLine; decide, fun t nt => ?_⟩⟩⟩
      have kD := same_upd (o := .lst []) nD
      have kt := same_upd (o := .tup [.ref p, .ref D]) nt
      exact ⟨t, _, rfl, SqT.of upd_same, rfl, _, _, rfl, _, _, rfl, rfl, p, D, ys, rfl, s1.trans (kD.trans kt), ne_of_none ep nD, s1.free nD, kt _ _ (kD _ _ ep), br, kt _ _ upd_same⟩
    rintro σ3 H3 ⟨p, Qd, ys, rfl, s3, pQ, nQ, ep, br, eQ⟩
    have fl : (ys.map V.str).all flatV = true := flat_strs ys
    -- the states
    refine ⟨fun σ' H' => ∃ (D : Addr) (u7 u8 u9 : Option V), σ' = [some (.ref a), some (.str x), some (.str y), some (.ref b), some (.ref p), some (.ref Qd), some (.ref D), u7, u8, u9, none, none, none] ∧ Same H3 H' ∧ D ≠ Qd ∧ H' D = some (.lst ((((N.ms.zip c.sts).filter fun p => outM ys p.1).map (·.2)).map V.int)), ?_, ?_⟩
    · refine ⟨_, rfl, a, _, 0, .ref M.A, rfl, rfl, SqT.of (s3 _ _ M.top), atI_nat (j := 0) rfl, _, rfl, b, _, 0, .ref C'.A, rfl, rfl, SqT.of (s3 _ _ C'.top), atI_nat (j := 0) rfl, M.A, C'.A, R.map (fun p => V.ref p.1), c.sts.map V.int, rfl, .inr ⟨SqT.of (s3 _ _ eA), SqT.of (s3 _ _ C'.ea), fun D nD => ?_⟩⟩
      have sD := same_upd (o := .lst []) nD
      refine lc_it (walk_zipT (xs := R.map fun p => V.ref p.1) (ys := c.sts.map V.int) (by rw [List.length_map, List.length_map, lc, lR])) (fun i H' => Same H3 H' ∧ H' D = some (.lst (((((N.ms.zip c.sts).take i).filter fun p => outM ys p.1).map (·.2)).map V.int))) ⟨sD, upd_same⟩ (fun i H' _ z => ⟨SqT.of (z.1 _ _ (s3 _ _ eA)), SqT.of (z.1 _ _ (s3 _ _ C'.ea))⟩) ?_ ?_
      · rintro i v H4 H5 hi ⟨s4, e4⟩ ⟨T0, v1, v2, rfl, nT, rfl, z1, z2⟩
        replace z1 : (R.map fun p => V.ref p.1)[i]? = some v1 := z1
        replace z2 : (c.sts.map V.int)[i]? = some v2 := z2
        rw [List.getElem?_map] at z1 z2
        obtain ⟨r, hr', rfl⟩ := Option.map_eq_some_iff.mp z1
        obtain ⟨n, hn', rfl⟩ := Option.map_eq_some_iff.mp z2
        have kT := same_upd (o := .tup [.ref r.1, .int n]) nT
        have hp : N.ms[i]? = some r.2.2 := by rw [← mR, List.getElem?_map, hr']; rfl
        have hz := zip_get hp hn'
        have er := (s4.trans kT) _ _ (s3 _ _ (kR r (List.mem_of_getElem? hr')).1)
        have nx := filter_next (f := fun p : (Str × MachM) × Int => outM ys p.1) hz
        have e4' := kT _ _ e4
        refine ⟨T0, _, rfl, SqT.of upd_same, rfl, _, _, rfl, ⟨r.1, _, rfl, SqT.of er, rfl, _, _, rfl, _, _, rfl, rfl, _, _, rfl, rfl, ?_⟩⟩
        refine ⟨rfl, _, rfl, _, rfl, p, _, rfl, .inl (SqL.of ((s4.trans kT) _ _ ep)), rfl, fl, _, rfl, ?_⟩
        rw [inV_dec]
        refine ifB (fun hb => ?_) fun hb => ?_
        · have hb' : outM ys r.2.2 = true := by simpa [outM] using hb
          refine ⟨_, rfl, _, e4', ?_, same_set (s4.trans kT) nD, ?_⟩
          · have g := List.length_filter_le (fun p : (Str × MachM) × Int => outM ys p.1) ((N.ms.zip c.sts).take i)
            rw [List.length_take, List.length_zip] at g
            rw [List.length_map, List.length_map, sizeLine_eq]
            omega
          · rw [upd_same, nx, if_pos hb', List.map_append, List.map_append]
            rfl
        · have hb' : ¬ outM ys r.2.2 = true := by simpa [outM] using hb
          refine ⟨s4.trans kT, ?_⟩
          rw [nx, if_neg hb', List.append_nil]
          exact e4'
      · rintro H4 ⟨s4, e4⟩
        rw [List.length_map, List.take_of_length_le (by rw [List.length_zip]; omega)] at e4
        exact ⟨D, _, _, _, rfl, s4, (ne_of_none eQ nD).symm, e4⟩
    rintro σ4 H4 ⟨D, u7, u8, u9, rfl, s4, DQ, eD⟩
    have s34 := s3.trans s4
    have eQ4 := s4 _ _ eQ
    -- the queues
    refine ⟨fun σ' H' => ∃ (u10 u11 u12 : Option V) (cs : List (Str × Str)) (W : List (Addr × List Str)), σ' = [some (.ref a), some (.str x), some (.str y), some (.ref b), some (.ref p), some (.ref Qd), some (.ref D), u7, u8, u9, u10, u11, u12] ∧ Same H H' ∧ H' D = some (.lst ((((N.ms.zip c.sts).filter fun p => outM ys p.1).map (·.2)).map V.int)) ∧ ChOf N.ls cs ∧ H' Qd = some (.lst (W.map fun p => V.ref p.1)) ∧ (∀ p ∈ W, p ∈ C'.T) ∧ W.map (·.2) = ((cs.zip c.qs).filter fun p => keepC ys p.1).map (·.2), ?_, ?_⟩
    · refine ⟨_, rfl, a, N, rfl, Kz.same s34 _ _ hn, lf, fun H5 p5 U s5 np5 eU kU ch => ?_⟩
      have s35 := s34.trans s5
      have lU : U.length = 2 * N.ls.length := by
        have z := ch.len
        rw [List.length_map] at z
        exact z
      have eT := s35 _ _ C'.eb
      have p5Q : p5 ≠ Qd := (ne_of_none eQ4 np5).symm
      refine ⟨_, rfl, b, _, 1, .ref C'.B, rfl, rfl, SqT.of (s35 _ _ C'.top), atI_nat (j := 1) rfl, p5, C'.B, U.map (fun p => V.ref p.1), C'.T.map (fun p => V.ref p.1), rfl, SqL.of eU, SqT.of eT, ?_⟩
      refine for_it (ZLT.walk_zipLT (xs := U.map fun p => V.ref p.1) (ys := C'.T.map fun p => V.ref p.1) (by rw [List.length_map, List.length_map, lT, lU])) (fun i σ' H' => ∃ (u10 u11 u12 : Option V), σ' = [some (.ref a), some (.str x), some (.str y), some (.ref b), some (.ref p), some (.ref Qd), some (.ref D), u7, u8, u9, u10, u11, u12] ∧ Same H H' ∧ Tups H5 H' ∧ H' p = some (.lst (ys.map V.str)) ∧ H' p5 = some (.lst (U.map fun p => V.ref p.1)) ∧ H' D = some (.lst ((((N.ms.zip c.sts).filter fun p => outM ys p.1).map (·.2)).map V.int)) ∧ H' Qd = some (.lst (((((U.zip C'.T).take i).filter fun p => keepC ys p.1.2).map (·.2)).map fun p => V.ref p.1))) ?_ (fun i σ' H' _ ⟨_, _, _, _, _, t, _, e, _⟩ => ⟨SqL.of e, SqT.of (t _ _ eT)⟩) ?_ ?_
      · exact ⟨none, none, none, rfl, s35, fun _ _ e => e, s5 _ _ (s4 _ _ ep), eU, s5 _ _ eD, s5 _ _ eQ4⟩
      · rintro i v σ6 H6 H7 hi ⟨u10, u11, u12, rfl, s6, t6, ep6, eU6, eD6, eQ6⟩ ⟨T0, v1, v2, rfl, nT, rfl, z1, z2⟩
        replace z1 : (U.map fun p => V.ref p.1)[i]? = some v1 := z1
        replace z2 : (C'.T.map fun p => V.ref p.1)[i]? = some v2 := z2
        rw [List.getElem?_map] at z1 z2
        obtain ⟨l, hl, rfl⟩ := Option.map_eq_some_iff.mp z1
        obtain ⟨t, ht, rfl⟩ := Option.map_eq_some_iff.mp z2
        have kT := same_upd (o := .tup [.ref l.1, .ref t.1]) nT
        have hz := zip_get hl ht
        have el := kT _ _ (t6 _ _ (kU l (List.mem_of_getElem? hl)))
        have nx := filter_next (f := fun p : (Addr × (Str × Str)) × (Addr × List Str) => keepC ys p.1.2) hz
        have mc : l.2 ∈ U.map (·.2) := List.mem_map.mpr ⟨l, List.mem_of_getElem? hl, rfl⟩
        have lk : Linked N.ls l.2.1 l.2.2 := ch.mem.mp mc
        have wl := ch.wd ok l.2 mc
        have ki := keep_iff ok ho br lk
        refine ⟨T0, _, rfl, SqT.of upd_same, rfl, _, _, rfl, ⟨l.1, _, rfl, SqT.of el, rfl, _, _, rfl, _, _, rfl, rfl, _, _, rfl, rfl, ?_⟩⟩
        refine ⟨_, rfl, _, rfl, by show 2 ≤ sizeLine; decide, fun c1 n1 => ⟨_, rfl, _, rfl, by show 2 ≤ sizeLine; decide, fun c2 n2 => ⟨_, rfl, _, rfl, by show 2 ≤ sizeLine; decide, fun c3 n3 => ⟨by show 2 ≤ sizeLine; decide, fun c4 n4 => ?_⟩⟩⟩⟩
        have k1 := same_upd (o := .tup [.str l.2.1, .str l.2.2]) n1
        have k2 := same_upd (o := .tup [.str x, .str y]) n2
        have k3 := same_upd (o := .tup [.str y, .str x]) n3
        have k4 := same_upd (o := .lst [.ref c2, .ref c3]) n4
        have k14 := k1.trans (k2.trans (k3.trans k4))
        have kk := kT.trans k14
        have dl : Dp K (upd (upd (upd (upd (upd H6 T0 (.tup [.ref l.1, .ref t.1])) c1 (.tup [.str l.2.1, .str l.2.2])) c2 (.tup [.str x, .str y])) c3 (.tup [.str y, .str x])) c4 (.lst [.ref c2, .ref c3])) (.ref c4) (.list [.tuple [.str x, .str y], .tuple [.str y, .str x]]) :=
          .lst (SqL.of (xs := [.ref c2, .ref c3]) upd_same) (.cons (link_dp ((k3.trans k4) _ _ upd_same)) (.cons (link_dp (k4 _ _ upd_same)) .nil))
        refine ⟨_, _, link_dp ((k2.trans (k3.trans k4)) _ _ upd_same), dl, shaped_two wl.1.low wl.2.low, links_listed (cs := [(x, y), (y, x)]) (fun o ho' => by
          rcases List.mem_cons.mp ho' with rfl | h2
          · exact ⟨wx, wy⟩
          · rw [List.mem_singleton.mp h2]
            exact ⟨wy, wx⟩), _, rfl, ?_⟩
        rw [any_two]
        have s7 := s6.trans kk
        have t7 : Tups H5 _ := t6.trans (tups_same kk)
        have eQ7 := kk _ _ eQ6
        have ep7 := kk _ _ ep6
        have tu := tups_list (o := .lst (((((U.zip C'.T).take i).filter fun p => keepC ys p.1.2).map (·.2)).map (fun p => V.ref p.1) ++ [.ref t.1])) eQ7
        have few : (((((U.zip C'.T).take i).filter fun p => keepC ys p.1.2).map (·.2)).map fun p => V.ref p.1).length < sizeLine := by
          have g := List.length_filter_le (fun p : (Addr × (Str × Str)) × (Addr × List Str) => keepC ys p.1.2) ((U.zip C'.T).take i)
          rw [List.length_take, List.length_zip] at g
          rw [List.length_map, List.length_map, sizeLine_eq]
          omega
        have yes : keepC ys l.2 = true → upd (upd (upd (upd (upd (upd H6 T0 (.tup [.ref l.1, .ref t.1])) c1 (.tup [.str l.2.1, .str l.2.2])) c2 (.tup [.str x, .str y])) c3 (.tup [.str y, .str x])) c4 (.lst [.ref c2, .ref c3])) Qd (.lst (((((U.zip C'.T).take i).filter fun p => keepC ys p.1.2).map (·.2)).map (fun p => V.ref p.1) ++ [.ref t.1])) Qd = some (.lst (((((U.zip C'.T).take (i + 1)).filter fun p => keepC ys p.1.2).map (·.2)).map fun p => V.ref p.1)) := fun hb => by
          rw [upd_same, nx, if_pos hb, List.map_append, List.map_append]
          rfl
        have eD7 := kk _ _ eD6
        have eU7 := kk _ _ eU6
        refine ifB (fun hb => ?_) fun hb => ?_
        · have h1 := of_decide_eq_true hb
          refine ifT rfl ⟨_, rfl, .inl ⟨rfl, _, SqL.of eQ7⟩, _, rfl, Qd, _, .ref t.1, rfl, rfl, eQ7, few, ?_⟩
          exact ⟨_, _, _, rfl, same_set s7 nQ, t7.trans tu, by rw [upd_ne pQ]; exact ep7, by rw [upd_ne p5Q]; exact eU7, by rw [upd_ne DQ]; exact eD7, yes (ki.mp (.inl h1))⟩
        · have h1 := of_decide_eq_false hb
          have no : ¬ (l.2.1 ∉ ys ∧ l.2.2 ∉ ys) → (upd (upd (upd (upd (upd H6 T0 (.tup [.ref l.1, .ref t.1])) c1 (.tup [.str l.2.1, .str l.2.2])) c2 (.tup [.str x, .str y])) c3 (.tup [.str y, .str x])) c4 (.lst [.ref c2, .ref c3])) Qd = some (.lst (((((U.zip C'.T).take (i + 1)).filter fun p => keepC ys p.1.2).map (·.2)).map fun p => V.ref p.1)) := fun h => by
            rw [nx, if_neg fun k => (ki.mpr k).elim h1 h, List.append_nil]
            exact eQ7
          refine ⟨_, rfl, _, rfl, p, _, rfl, .inl (SqL.of ep7), rfl, fl, _, rfl, ?_⟩
          rw [inV_dec]
          refine ifB (fun hb2 => ?_) fun hb2 => ifF rfl ⟨_, _, _, rfl, s7, t7, ep7, eU7, eD7, no (by simp_all)⟩
          refine ⟨_, rfl, _, rfl, p, _, rfl, .inl (SqL.of ep7), rfl, fl, _, rfl, ?_⟩
          rw [inV_dec]
          refine ifB (fun hb3 => ?_) fun hb3 => ⟨_, _, _, rfl, s7, t7, ep7, eU7, eD7, no (by simp_all)⟩
          have h2 : l.2.1 ∉ ys ∧ l.2.2 ∉ ys := by simp_all
          refine ⟨_, rfl, .inl ⟨rfl, _, SqL.of eQ7⟩, _, rfl, Qd, _, .ref t.1, rfl, rfl, eQ7, few, ?_⟩
          exact ⟨_, _, _, rfl, same_set s7 nQ, t7.trans tu, by rw [upd_ne pQ]; exact ep7, by rw [upd_ne p5Q]; exact eU7, by rw [upd_ne DQ]; exact eD7, yes (ki.mp (.inr h2))⟩
      · rintro σ6 H6 ⟨u10, u11, u12, rfl, s6, t6, ep6, eU6, eD6, eQ6⟩
        rw [List.length_map, List.take_of_length_le (by rw [List.length_zip]; omega)] at eQ6
        refine ⟨u10, u11, u12, U.map (·.2), ((U.zip C'.T).filter fun p => keepC ys p.1.2).map (·.2), rfl, s6, eD6, ch, eQ6, fun z hz => ?_, ?_⟩
        · obtain ⟨pr, hpr, rfl⟩ := List.mem_map.mp hz
          exact (List.of_mem_zip (List.mem_filter.mp hpr).1).2
        · rw [← C'.mT, List.zip_map, List.filter_map, List.map_map, List.map_map]
          rfl
    rintro σ5 H5 ⟨u10, u11, u12, cs, W, rfl, s5, eD5, ch, eW, sub, mW⟩
    refine ⟨_, rfl, D, _, rfl, .inl ⟨SqL.of eD5, fun p6 n6' => ?_⟩⟩
    have k6 := same_upd (o := .tup ((((N.ms.zip c.sts).filter fun p => outM ys p.1).map (·.2)).map V.int)) n6'
    refine ⟨_, rfl, Qd, _, rfl, .inl ⟨SqL.of (k6 _ _ eW), fun p7 n7 => ⟨by show 2 ≤ sizeLine; decide, fun p8 n8 => ?_⟩⟩⟩
    have k7 := same_upd (o := .tup (W.map fun p => V.ref p.1)) n7
    have k8 := same_upd (o := .tup [.ref p6, .ref p7]) n8
    have s8 := s5.trans (k6.trans (k7.trans k8))
    refine q _ p8 ⟨_, W.map (·.2)⟩ s8 ((s5.trans (k6.trans k7)).free n8) ?_ ⟨ys, cs, br, ch, rfl, mW⟩
    exact .tup upd_same (.cons (.tup ((k7.trans k8) _ _ upd_same) (kz_ints _)) (.cons (.tup (k8 _ _ upd_same) (kz_queues fun t ht => s8 _ _ (C'.kT t (sub t ht)))) .nil))
end
end K55
/-! What is outside of a branch at the start: as much before as after the branch is replaced. -/
namespace K55
open PySem PySem.Spec PyProof.Rows L2 WD NS MC GL
theorem zip_same {α β : Type} (v : β) : ∀ l : List α, l.zip (List.replicate l.length v) = l.map fun a => (a, v)
  | [] => rfl
  | a :: l => by
    rw [List.length_cons, List.replicate_succ, List.zip_cons_cons, zip_same v l, List.map_cons]
theorem map_one {α β : Type} (v : β) : ∀ l : List α, (l.map fun _ => v) = List.replicate l.length v
  | [] => rfl
  | a :: l => by
    rw [List.length_cons, List.replicate_succ, List.map_cons, map_one v l]
theorem kept_same {α β : Type} (f : α → Bool) (v : β) {n : Nat} {l : List α} (e : l.length = n) : ((l.zip (List.replicate n v)).filter fun p => f p.1).map (·.2) = List.replicate (l.filter f).length v := by
  subst e
  rw [zip_same, List.filter_map, List.map_map]
  exact map_one v _
section
variable {N N' : NetM} {x y : Str} {ys : List Str} {m : MachM}
theorem chs_once (ok : N.Ok) {cs : List (Str × Str)} (h : ChOf N.ls cs) : cs.Nodup := by
  refine (h.perm.nodup_iff).mpr (List.nodup_append.mpr ⟨ok.lonce, ?_, fun u hu v hv e => ?_⟩)
  · refine List.Pairwise.map _ ?_ ok.lonce
    intro a b n e
    have e1 : a.2 = b.2 := congrArg (·.1) e
    have e2 : a.1 = b.1 := congrArg (·.2) e
    exact n (Prod.ext e2 e1)
  · subst e
    obtain ⟨z, hz, rfl⟩ := List.mem_map.mp hv
    exact sLt_irr _ (sLt_trans (ok.l1 _ hu).2.2 (ok.l1 _ hz).2.2)
theorem kept_len (ok : N.Ok) (ho : ordL x y ∈ N.ls) (okN : N'.Ok) {ms : List (Str × MachM)} (br : BrOf N.ls x y ys) (A : AsmOf ms (N.ls.filter (outL ys) ++ [(x, y)]) N') (br' : BrOf N'.ls x y [y]) {cs ds : List (Str × Str)} (hc : ChOf N.ls cs) (hd : ChOf N'.ls ds) : (cs.filter (keepC ys)).length = (ds.filter (keepC [y])).length := by
  have ho' : ordL x y ∈ N'.ls := (rep_links ok A _).mpr (.inr rfl)
  refine ((List.perm_ext_iff_of_nodup ((chs_once ok hc).filter _) ((chs_once okN hd).filter _)).mpr fun c => ?_).length_eq
  rw [List.mem_filter, List.mem_filter]
  have ends : (c = (x, y) ∨ c = (y, x)) ↔ (ordL x y = c ∨ ordL x y = (c.2, c.1)) := by
    rcases ordL_ends x y with e | e
    · rw [e]
      constructor
      · rintro (rfl | rfl)
        · exact .inl rfl
        · exact .inr rfl
      · rintro (e | e)
        · exact .inl e.symm
        · exact .inr (Prod.ext (congrArg (·.2) e).symm (congrArg (·.1) e).symm)
    · rw [e]
      constructor
      · rintro (rfl | rfl)
        · exact .inr rfl
        · exact .inl rfl
      · rintro (e | e)
        · exact .inr e.symm
        · exact .inl (Prod.ext (congrArg (·.2) e).symm (congrArg (·.1) e).symm)
  have cl : c ∈ cs ↔ Linked N.ls c.1 c.2 := hc.mem (x := c.1) (y := c.2)
  have dl : c ∈ ds ↔ Linked N'.ls c.1 c.2 := hd.mem (x := c.1) (y := c.2)
  rw [cl, dl]
  constructor
  · rintro ⟨lk, k⟩
    have lk' : Linked N'.ls c.1 c.2 := by
      rcases (keep_iff ok ho br lk).mpr k with h | h
      · rcases ends.mp h with e | e
        · exact .inl (e ▸ ho')
        · exact .inr (e ▸ ho')
      · rcases lk with l | l
        · exact .inl ((rep_links ok A _).mpr (.inl ⟨l, h.1, h.2⟩))
        · exact .inr ((rep_links ok A _).mpr (.inl ⟨l, h.2, h.1⟩))
    refine ⟨lk', ?_⟩
    rw [keepC, Bool.or_eq_true, decide_eq_true_eq, decide_eq_true_eq]
    refine Classical.byContradiction fun n => ?_
    have n1 : c.1 = y := Classical.byContradiction fun z => n (.inl fun q => z (List.mem_singleton.mp q))
    have n2 : c.2 = y := Classical.byContradiction fun z => n (.inr fun q => z (List.mem_singleton.mp q))
    rw [n1, n2] at lk'
    rcases lk' with l | l <;> exact sLt_irr _ (okN.l1 _ l).2.2
  · rintro ⟨lk, -⟩
    have main : ∀ o : Str × Str, o ∈ N'.ls → (o = c ∨ o = (c.2, c.1)) → Linked N.ls c.1 c.2 ∧ ((c = (x, y) ∨ c = (y, x)) ∨ (c.1 ∉ ys ∧ c.2 ∉ ys)) := fun o ho2 eo => by
      rcases (rep_links ok A o).mp ho2 with h | h
      · rcases eo with rfl | rfl
        · exact ⟨.inl h.1, .inr h.2⟩
        · exact ⟨.inr h.1, .inr ⟨h.2.2, h.2.1⟩⟩
      · refine ⟨?_, .inl (ends.mpr (h ▸ eo))⟩
        rcases eo with e | e
        · exact .inl (by rw [← h, e] at ho; exact ho)
        · exact .inr (by rw [← h, e] at ho; exact ho)
    have z : Linked N.ls c.1 c.2 ∧ ((c = (x, y) ∨ c = (y, x)) ∨ (c.1 ∉ ys ∧ c.2 ∉ ys)) := by
      rcases lk with l | l
      · exact main _ l (.inl rfl)
      · exact main _ l (.inr rfl)
    exact ⟨z.1, (keep_iff ok ho br z.1).mp z.2⟩
/-- the start outside of a branch, before and after -/
theorem rest_start (R : RepOf N x y m N') (ok : N.Ok) (ho : ordL x y ∈ N.ls) (okN : N'.Ok) {r s : CfgM} (a : RestOf N x y (cfg0 N) r) (b : RestOf N' x y (cfg0 N') s) : r = s := by
  have brN := R.branch ok ho
  obtain ⟨ys, m', br, to, A⟩ := R.ex
  obtain ⟨zs, cs, h1, h2, h3, h4⟩ := a.ex
  obtain ⟨us, ds, g1, g2, g3, g4⟩ := b.ex
  have e1 := h1.ext br
  have e2 := g1.ext brN
  subst e1
  subst e2
  have yy := br_other br
  have f1 : (N.ms.filter (outM zs) ++ [(y, m')]).filter (outM [y]) = N.ms.filter (outM zs) := by
    rw [List.filter_append, List.filter_eq_self.mpr, List.filter_cons_of_neg (by simp [outM])]
    · exact List.append_nil _
    · intro p hp
      have n : p.1 ∉ zs := of_decide_eq_true (List.mem_filter.mp hp).2
      exact decide_eq_true fun z => n ((List.mem_singleton.mp z) ▸ yy)
  have p2 := A.perm.filter (outM [y])
  rw [f1] at p2
  have q1 : r.sts = List.replicate (N.ms.filter (outM zs)).length 0 := h3.trans (kept_same (outM zs) (0 : Int) rfl)
  have q2 : s.sts = List.replicate (N'.ms.filter (outM [y])).length 0 := g3.trans (kept_same (outM [y]) (0 : Int) rfl)
  have q3 : r.qs = List.replicate (cs.filter (keepC zs)).length [] := h4.trans (kept_same (keepC zs) ([] : List Str) h2.len)
  have q4 : s.qs = List.replicate (ds.filter (keepC [y])).length [] := g4.trans (kept_same (keepC [y]) ([] : List Str) g2.len)
  cases r
  cases s
  simp only [CfgM.mk.injEq]
  refine ⟨?_, ?_⟩
  · have e := p2.length_eq
    exact q1.trans ((congrArg (fun n => List.replicate n (0 : Int)) e.symm).trans q2.symm)
  · have e := kept_len ok ho okN br A brN h2 g2
    exact q3.trans ((congrArg (fun n => List.replicate n ([] : List Str)) e).trans q4.symm)
end
end K55
/-! Networks and configurations compared with themselves. -/
namespace K55
open PySem PySem.Spec PyProof.Rows L2 WD NS MC GL
theorem mach_depth {m : MachM} (ok : m.Ok) : m.key.data.depth ≤ 5 := by
  have h := (can_rows m.rows ok.r1).2
  show (PyData.tuple [.int m.size, .tuple (NestedKey.datas (m.finals.map .num)), .tuple (NestedKey.datas (m.rows.map RowM.key))]).depth ≤ 5
  rw [datas_ints]
  have d1 := depth_ints m.finals
  simp only [PyData.depth, PyData.depthAll, d1]
  omega
theorem can_pairs : ∀ ps : List (Str × MachM), (∀ p ∈ ps, Wd p.1 ∧ p.2.Ok) → PyData.canLayAll0 (NestedKey.datas (ps.map pairKey)) = true ∧ PyData.depthAll (NestedKey.datas (ps.map pairKey)) ≤ 6
  | [], _ => ⟨rfl, Nat.zero_le _⟩
  | p :: ps, h => by
    have ih := can_pairs ps fun s hs => h s (List.mem_cons_of_mem _ hs)
    have sd := shaped_can (mach_shaped (h p List.mem_cons_self).2)
    have dd := mach_depth (h p List.mem_cons_self).2
    have i2 := ih.2
    constructor
    · show PyData.canLayAll0 (PyData.tuple [.str p.1, p.2.key.data] :: NestedKey.datas (ps.map pairKey)) = true
      have o1 : PyData.strOk p.1 = true := low_ok (h p List.mem_cons_self).1.low
      simp only [PyData.canLayAll0, PyData.canLay0, o1, sd, ih.1]
      rfl
    · show PyData.depthAll (PyData.tuple [.str p.1, p.2.key.data] :: NestedKey.datas (ps.map pairKey)) ≤ 6
      simp only [PyData.depthAll, PyData.depth] at i2 ⊢
      omega
theorem can_lkeys : ∀ ls : List (Str × Str), (∀ l ∈ ls, Wd l.1 ∧ Wd l.2) → PyData.canLayAll0 (NestedKey.datas (ls.map linkKey)) = true ∧ PyData.depthAll (NestedKey.datas (ls.map linkKey)) ≤ 1
  | [], _ => ⟨rfl, Nat.zero_le _⟩
  | p :: ps, h => by
    have ih := can_lkeys ps fun s hs => h s (List.mem_cons_of_mem _ hs)
    have w := h p List.mem_cons_self
    have i2 := ih.2
    constructor
    · show PyData.canLayAll0 (PyData.tuple [.str p.1, .str p.2] :: NestedKey.datas (ps.map linkKey)) = true
      have o1 : PyData.strOk p.1 = true := low_ok w.1.low
      have o2 : PyData.strOk p.2 = true := low_ok w.2.low
      simp only [PyData.canLayAll0, PyData.canLay0, o1, o2, ih.1]
      rfl
    · show PyData.depthAll (PyData.tuple [.str p.1, .str p.2] :: NestedKey.datas (ps.map linkKey)) ≤ 1
      simp only [PyData.depthAll, PyData.depth] at i2 ⊢
      omega
theorem net_shaped {N : NetM} (ok : N.Ok) : SeqAt.shaped N.key.data = true := by
  have h1 := can_pairs N.ms ok.wd
  have h2 := can_lkeys N.ls fun l hl => ⟨ok.wdn (ok.l1 l hl).1, ok.wdn (ok.l1 l hl).2.1⟩
  show SeqAt.shaped (.tuple [.tuple (NestedKey.datas (N.ms.map pairKey)), .tuple (NestedKey.datas (N.ls.map linkKey))]) = true
  have d1 := h1.2
  have d2 := h2.2
  rw [SeqAt.shaped, Bool.and_eq_true]
  constructor
  · simp only [PyData.canLay0, PyData.canLayAll0, h1.1, h2.1]
    rfl
  · refine decide_eq_true ?_
    simp only [PyData.depth, PyData.depthAll]
    omega
theorem can_texts : ∀ ws : List Str, (∀ x ∈ ws, Wd x) → PyData.canLayAll0 (NestedKey.datas (ws.map NestedKey.text)) = true ∧ PyData.depthAll (NestedKey.datas (ws.map NestedKey.text)) = 0
  | [], _ => ⟨rfl, rfl⟩
  | p :: ps, h => by
    have ih := can_texts ps fun s hs => h s (List.mem_cons_of_mem _ hs)
    have i2 := ih.2
    constructor
    · show PyData.canLayAll0 (PyData.str p :: NestedKey.datas (ps.map NestedKey.text)) = true
      have o1 : PyData.strOk p = true := low_ok (h p List.mem_cons_self).low
      simp only [PyData.canLayAll0, PyData.canLay0, o1, ih.1]
      rfl
    · show PyData.depthAll (PyData.str p :: NestedKey.datas (ps.map NestedKey.text)) = 0
      simp only [PyData.depthAll, PyData.depth, i2]
      rfl
theorem can_queues : ∀ qs : List (List Str), (∀ q ∈ qs, ∀ x ∈ q, Wd x) → PyData.canLayAll0 (NestedKey.datas (qs.map queueKey)) = true ∧ PyData.depthAll (NestedKey.datas (qs.map queueKey)) ≤ 1
  | [], _ => ⟨rfl, Nat.zero_le _⟩
  | p :: ps, h => by
    have ih := can_queues ps fun s hs => h s (List.mem_cons_of_mem _ hs)
    have w := can_texts p (h p List.mem_cons_self)
    have i2 := ih.2
    have w2 := w.2
    constructor
    · show PyData.canLayAll0 (PyData.tuple (NestedKey.datas (p.map NestedKey.text)) :: NestedKey.datas (ps.map queueKey)) = true
      simp only [PyData.canLayAll0, PyData.canLay0, w.1, ih.1]
      rfl
    · show PyData.depthAll (PyData.tuple (NestedKey.datas (p.map NestedKey.text)) :: NestedKey.datas (ps.map queueKey)) ≤ 1
      simp only [PyData.depthAll, PyData.depth] at i2 ⊢
      omega
theorem cfg_shaped {c : CfgM} (w : ∀ q ∈ c.qs, ∀ x ∈ q, Wd x) : SeqAt.shaped c.key.data = true := by
  have h := can_queues c.qs w
  show SeqAt.shaped (.tuple [.tuple (NestedKey.datas (c.sts.map .num)), .tuple (NestedKey.datas (c.qs.map queueKey))]) = true
  rw [datas_ints]
  have d1 := depth_ints c.sts
  have d2 := h.2
  rw [SeqAt.shaped, Bool.and_eq_true]
  constructor
  · simp only [PyData.canLay0, PyData.canLayAll0, can_ints, h.1]
    rfl
  · refine decide_eq_true ?_
    simp only [PyData.depth, PyData.depthAll, d1]
    omega
theorem ne_net {K : PySem.W.Frag} {H : Hp} {p q : Addr} {N : NetM} {Q : V → Hp → Prop} (ok : N.Ok) (hp : Kz H (.ref p) N.key) (hq : Kz H (.ref q) N.key) (k : Q (.bl false) H) : rNeD K (.ref p) (.ref q) H Q := by
  refine ⟨_, _, kz_dp _ _ hp, kz_dp _ _ hq, net_shaped ok, net_shaped ok, ?_⟩
  rw [eqv_self (net_shaped ok)]
  exact k
theorem ne_cfg {K : PySem.W.Frag} {H : Hp} {p q : Addr} {c : CfgM} {Q : V → Hp → Prop} (w : ∀ q ∈ c.qs, ∀ x ∈ q, Wd x) (hp : Kz H (.ref p) c.key) (hq : Kz H (.ref q) c.key) (k : Q (.bl false) H) : rNeD K (.ref p) (.ref q) H Q := by
  refine ⟨_, _, kz_dp _ _ hp, kz_dp _ _ hq, cfg_shaped w, cfg_shaped w, ?_⟩
  rw [eqv_self (cfg_shaped w)]
  exact k
/-- the words in what is outside of a branch -/
theorem RestOf.wd {N : NetM} {x y : Str} {c r : CfgM} (R : RestOf N x y c r) (w : ∀ q ∈ c.qs, ∀ x ∈ q, Wd x) : ∀ q ∈ r.qs, ∀ x ∈ q, Wd x := by
  obtain ⟨ys, cs, _, _, _, h⟩ := R.ex
  intro q hq
  rw [h] at hq
  obtain ⟨p, hp, rfl⟩ := List.mem_map.mp hq
  exact w _ (List.of_mem_zip (List.mem_filter.mp hp).1).2
end K55

/-! A network with a machine is little enough to be shown. -/
namespace K55
open PySem PySem.Spec PyProof.Rows L2 WD NS MC GL
theorem small_of {d : PyData} (c : d.canLay0 = true) (i : d.intsShort 40 = true) (p : d.depth ≤ 60) (w : d.weight ≤ 300000) (s : d.showable = true) : small d = true := by
  have h := PyData.shown_le 40 (by decide) d (PyData.leavesShort_of_canLay0 40 d c i)
  have h2 : d.shown.length ≤ 16777216 := by omega
  unfold small
  rw [s, decide_eq_true p, decide_eq_true h2]
  rfl
theorem weight_strs : ∀ ws : List Str, (∀ x ∈ ws, Wd x) → PyData.weightAll (ws.map PyData.str) ≤ 9 * ws.length
  | [], _ => Nat.le_refl _
  | x :: ws, h => by
    rw [List.map_cons, PyData.weightAll, PyData.weight, List.length_cons]
    have z := weight_strs ws fun y hy => h y (List.mem_cons_of_mem _ hy)
    have y : x.cps.size ≤ 8 := (h x List.mem_cons_self).le
    omega
theorem show_strs : ∀ ws : List Str, PyData.showableAll (ws.map PyData.str) = true
  | [] => rfl
  | x :: ws => by rw [List.map_cons, PyData.showableAll, show_strs ws, PyData.showable]; rfl
theorem short_strs : ∀ ws : List Str, PyData.intsShortAll 40 (ws.map PyData.str) = true
  | [] => rfl
  | x :: ws => by rw [List.map_cons, PyData.intsShortAll, short_strs ws, PyData.intsShort]; rfl
theorem int64 : ∀ i < 64, (PyData.intsShort 40 (.int ((i : Nat) : Int)) && PyData.showable (.int ((i : Nat) : Int)) && decide (PyData.weight (.int ((i : Nat) : Int)) ≤ 8)) = true := by decide +kernel
theorem int_facts {i : Int} (h0 : 0 ≤ i) (h1 : i < 64) : PyData.intsShort 40 (.int i) = true ∧ PyData.showable (.int i) = true ∧ PyData.weight (.int i) ≤ 8 := by
  obtain ⟨k, rfl⟩ : ∃ k : Nat, i = k := ⟨i.toNat, by omega⟩
  have z := int64 k (by omega)
  rw [Bool.and_eq_true, Bool.and_eq_true, decide_eq_true_eq] at z
  exact ⟨z.1.1, z.1.2, z.2⟩
theorem weight_ints : ∀ ns : List Int, (∀ i ∈ ns, 0 ≤ i ∧ i < 64) → PyData.weightAll (ns.map PyData.int) ≤ 9 * ns.length
  | [], _ => Nat.le_refl _
  | x :: ns, h => by
    rw [List.map_cons, PyData.weightAll, List.length_cons]
    have z := weight_ints ns fun y hy => h y (List.mem_cons_of_mem _ hy)
    have y := (int_facts (h x List.mem_cons_self).1 (h x List.mem_cons_self).2).2.2
    omega
theorem show_ints : ∀ ns : List Int, (∀ i ∈ ns, 0 ≤ i ∧ i < 64) → PyData.showableAll (ns.map PyData.int) = true
  | [], _ => rfl
  | x :: ns, h => by rw [List.map_cons, PyData.showableAll, show_ints ns fun y hy => h y (List.mem_cons_of_mem _ hy), (int_facts (h x List.mem_cons_self).1 (h x List.mem_cons_self).2).2.1]; rfl
theorem short_ints : ∀ ns : List Int, (∀ i ∈ ns, 0 ≤ i ∧ i < 64) → PyData.intsShortAll 40 (ns.map PyData.int) = true
  | [], _ => rfl
  | x :: ns, h => by rw [List.map_cons, PyData.intsShortAll, short_ints ns fun y hy => h y (List.mem_cons_of_mem _ hy), (int_facts (h x List.mem_cons_self).1 (h x List.mem_cons_self).2).1]; rfl
/-- short whole numbers, showable, of little weight -/
def lt3 (k : Nat) (d : PyData) : Prop := PyData.intsShort 40 d = true ∧ PyData.showable d = true ∧ PyData.weight d ≤ k ∧ PyData.depth d ≤ 5
theorem lt3_deed {d : Deed} (ok : d.Ok) : lt3 60 d.key.data ∧ PyData.depth d.key.data ≤ 1 := by
  cases d with
  | step => exact ⟨⟨rfl, rfl, by decide +kernel, by decide +kernel⟩, by decide +kernel⟩
  | ex b n l =>
    have h1 : n.cps.size ≤ 8 := ok.1.le
    have h2 : l.cps.size ≤ 8 := ok.2.le
    have h3 : (wordOf b).cps.size ≤ 8 := by cases b <;> decide +kernel
    refine ⟨⟨rfl, rfl, ?_, by show (1 : Nat) ≤ 5; decide⟩, Nat.le_refl _⟩
    show (wordOf b).cps.size + 1 + (n.cps.size + 1 + (l.cps.size + 1 + 0)) ≤ 60
    omega
theorem lt3_row {size : Nat} {r : RowM} (s : size ≤ 30) (ok : r.Ok size) : lt3 100 r.key.data ∧ PyData.depth r.key.data ≤ 2 := by
  obtain ⟨⟨d1, d2, d3, _⟩, d4⟩ := lt3_deed ok.dd
  have a1 := ok.b0; have a2 := ok.b1; have a3 := ok.a0; have a4 := ok.a1
  obtain ⟨b1, b2, b3⟩ := int_facts ok.b0 (by omega)
  obtain ⟨c1, c2, c3⟩ := int_facts ok.a0 (by omega)
  have dd : PyData.depth r.key.data ≤ 2 := by
    show max 0 (max (PyData.depth r.deed.key.data) (max 0 0)) + 1 ≤ 2
    omega
  refine ⟨⟨?_, ?_, ?_, by omega⟩, dd⟩
  · show (PyData.intsShort 40 (.int r.before) && (PyData.intsShort 40 r.deed.key.data && (PyData.intsShort 40 (.int r.after) && true))) = true
    rw [b1, d1, c1]
    rfl
  · show (PyData.showable (.int r.before) && (PyData.showable r.deed.key.data && (PyData.showable (.int r.after) && true))) = true
    rw [b2, d2, c2]
    rfl
  · show PyData.weight (.int r.before) + 1 + (PyData.weight r.deed.key.data + 1 + (PyData.weight (.int r.after) + 1 + 0)) ≤ 100
    omega
theorem lt3_rows {size : Nat} (s : size ≤ 30) : ∀ {rs : List RowM}, (∀ r ∈ rs, r.Ok size) → PyData.intsShortAll 40 (NestedKey.datas (rs.map RowM.key)) = true ∧ PyData.showableAll (NestedKey.datas (rs.map RowM.key)) = true ∧ PyData.weightAll (NestedKey.datas (rs.map RowM.key)) ≤ 101 * rs.length ∧ PyData.depthAll (NestedKey.datas (rs.map RowM.key)) ≤ 2
  | [], _ => ⟨rfl, rfl, Nat.le_refl _, Nat.zero_le _⟩
  | r :: rs, h => by
    obtain ⟨a1, a2, a3, a4⟩ := lt3_rows s fun q hq => h q (List.mem_cons_of_mem _ hq)
    obtain ⟨⟨b1, b2, b3, _⟩, b4⟩ := lt3_row s (h r List.mem_cons_self)
    refine ⟨?_, ?_, ?_, ?_⟩
    · show (PyData.intsShort 40 r.key.data && PyData.intsShortAll 40 (NestedKey.datas (rs.map RowM.key))) = true
      rw [a1, b1]; rfl
    · show (PyData.showable r.key.data && PyData.showableAll (NestedKey.datas (rs.map RowM.key))) = true
      rw [a2, b2]; rfl
    · show PyData.weight r.key.data + 1 + PyData.weightAll (NestedKey.datas (rs.map RowM.key)) ≤ _
      rw [List.length_cons]; omega
    · show max (PyData.depth r.key.data) (PyData.depthAll (NestedKey.datas (rs.map RowM.key))) ≤ 2
      omega
theorem lt3_ints : ∀ {ns : List Int}, (∀ i ∈ ns, 0 ≤ i ∧ i < 64) → PyData.intsShortAll 40 (NestedKey.datas (ns.map .num)) = true ∧ PyData.showableAll (NestedKey.datas (ns.map .num)) = true ∧ PyData.weightAll (NestedKey.datas (ns.map .num)) ≤ 9 * ns.length ∧ PyData.depthAll (NestedKey.datas (ns.map .num)) ≤ 0
  | [], _ => ⟨rfl, rfl, Nat.le_refl _, Nat.zero_le _⟩
  | i :: ns, h => by
    obtain ⟨a1, a2, a3, a4⟩ := lt3_ints fun q hq => h q (List.mem_cons_of_mem _ hq)
    obtain ⟨b1, b2, b3⟩ := int_facts (h i List.mem_cons_self).1 (h i List.mem_cons_self).2
    refine ⟨?_, ?_, ?_, ?_⟩
    · show (PyData.intsShort 40 (.int i) && PyData.intsShortAll 40 (NestedKey.datas (ns.map .num))) = true
      rw [a1, b1]; rfl
    · show (PyData.showable (.int i) && PyData.showableAll (NestedKey.datas (ns.map .num))) = true
      rw [a2, b2]; rfl
    · show PyData.weight (.int i) + 1 + PyData.weightAll (NestedKey.datas (ns.map .num)) ≤ _
      rw [List.length_cons]; omega
    · show max 0 (PyData.depthAll (NestedKey.datas (ns.map .num))) ≤ 0
      omega
theorem mach_small {m : MachM} (ok : m.Ok) : PyData.intsShort 40 m.key.data = true ∧ PyData.showable m.key.data = true ∧ PyData.weight m.key.data ≤ 8000 ∧ PyData.depth m.key.data ≤ 4 := by
  have s1 := ok.s1
  obtain ⟨a1, a2, a3, a4⟩ := lt3_rows ok.s1 ok.r1
  obtain ⟨b1, b2, b3, b4⟩ := lt3_ints (ns := m.finals) fun i hi => by
    have := ok.f1 i hi
    omega
  obtain ⟨c1, c2, c3⟩ := int_facts (i := m.size) (by omega) (by omega)
  have l1 := ok.r3
  have l2 := ok.f3
  refine ⟨?_, ?_, ?_, ?_⟩
  · show (PyData.intsShort 40 (.int m.size) && (PyData.intsShortAll 40 (NestedKey.datas (m.finals.map .num)) && (PyData.intsShortAll 40 (NestedKey.datas (m.rows.map RowM.key)) && true))) = true
    rw [a1, b1, c1]; rfl
  · show (PyData.showable (.int m.size) && (PyData.showableAll (NestedKey.datas (m.finals.map .num)) && (PyData.showableAll (NestedKey.datas (m.rows.map RowM.key)) && true))) = true
    rw [a2, b2, c2]; rfl
  · show PyData.weight (.int m.size) + 1 + (PyData.weightAll (NestedKey.datas (m.finals.map .num)) + 1 + (PyData.weightAll (NestedKey.datas (m.rows.map RowM.key)) + 1 + 0)) ≤ 8000
    omega
  · show max 0 (max (PyData.depthAll (NestedKey.datas (m.finals.map .num)) + 1) (max (PyData.depthAll (NestedKey.datas (m.rows.map RowM.key)) + 1) 0)) + 1 ≤ 4
    omega
theorem lt_pairs : ∀ {ps : List (Str × MachM)}, (∀ p ∈ ps, Wd p.1 ∧ p.2.Ok) → PyData.intsShortAll 40 (NestedKey.datas (ps.map pairKey)) = true ∧ PyData.showableAll (NestedKey.datas (ps.map pairKey)) = true ∧ PyData.weightAll (NestedKey.datas (ps.map pairKey)) ≤ 8020 * ps.length
  | [], _ => ⟨rfl, rfl, Nat.le_refl _⟩
  | p :: ps, h => by
    obtain ⟨a1, a2, a3⟩ := lt_pairs fun q hq => h q (List.mem_cons_of_mem _ hq)
    obtain ⟨b1, b2, b3, b4⟩ := mach_small (h p List.mem_cons_self).2
    have w : p.1.cps.size ≤ 8 := (h p List.mem_cons_self).1.le
    refine ⟨?_, ?_, ?_⟩
    · show ((true && (PyData.intsShort 40 p.2.key.data && true)) && PyData.intsShortAll 40 (NestedKey.datas (ps.map pairKey))) = true
      rw [a1, b1]; rfl
    · show ((true && (PyData.showable p.2.key.data && true)) && PyData.showableAll (NestedKey.datas (ps.map pairKey))) = true
      rw [a2, b2]; rfl
    · show p.1.cps.size + 1 + (PyData.weight p.2.key.data + 1 + 0) + 1 + PyData.weightAll (NestedKey.datas (ps.map pairKey)) ≤ _
      rw [List.length_cons]; omega
theorem lt_lkeys : ∀ {ls : List (Str × Str)}, (∀ l ∈ ls, Wd l.1 ∧ Wd l.2) → PyData.intsShortAll 40 (NestedKey.datas (ls.map linkKey)) = true ∧ PyData.showableAll (NestedKey.datas (ls.map linkKey)) = true ∧ PyData.weightAll (NestedKey.datas (ls.map linkKey)) ≤ 20 * ls.length
  | [], _ => ⟨rfl, rfl, Nat.le_refl _⟩
  | p :: ps, h => by
    obtain ⟨a1, a2, a3⟩ := lt_lkeys fun q hq => h q (List.mem_cons_of_mem _ hq)
    have w1 : p.1.cps.size ≤ 8 := (h p List.mem_cons_self).1.le
    have w2 : p.2.cps.size ≤ 8 := (h p List.mem_cons_self).2.le
    refine ⟨?_, ?_, ?_⟩
    · show ((true && (true && true)) && PyData.intsShortAll 40 (NestedKey.datas (ps.map linkKey))) = true
      rw [a1]; rfl
    · show ((true && (true && true)) && PyData.showableAll (NestedKey.datas (ps.map linkKey))) = true
      rw [a2]; rfl
    · show p.1.cps.size + 1 + (p.2.cps.size + 1 + 0) + 1 + PyData.weightAll (NestedKey.datas (ps.map linkKey)) ≤ _
      rw [List.length_cons]; omega
theorem small_nm {N : NetM} {m : MachM} (ok : N.Ok) (okm : m.Ok) : small (.tuple [N.key.data, m.key.data]) = true := by
  obtain ⟨a1, a2, a3⟩ := lt_pairs ok.wd
  have wl : ∀ l ∈ N.ls, Wd l.1 ∧ Wd l.2 := fun l hl => ⟨ok.wdn (ok.l1 l hl).1, ok.wdn (ok.l1 l hl).2.1⟩
  obtain ⟨b1, b2, b3⟩ := lt_lkeys wl
  obtain ⟨c1, c2, c3, c4⟩ := mach_small okm
  have p1 := (can_pairs N.ms ok.wd).2
  have p2 := (can_lkeys N.ls wl).2
  have q1 := shaped_can (net_shaped ok)
  have q2 := shaped_can (mach_shaped okm)
  have n6 := ok.n6
  have lf := ok.lf
  refine small_of ?_ ?_ ?_ ?_ ?_
  · show (N.key.data.canLay0 && (m.key.data.canLay0 && true)) = true
    rw [q1, q2]; rfl
  · show ((PyData.intsShortAll 40 (NestedKey.datas (N.ms.map pairKey)) && (PyData.intsShortAll 40 (NestedKey.datas (N.ls.map linkKey)) && true)) && (PyData.intsShort 40 m.key.data && true)) = true
    rw [a1, b1, c1]; rfl
  · show max (max (PyData.depthAll (NestedKey.datas (N.ms.map pairKey)) + 1) (max (PyData.depthAll (NestedKey.datas (N.ls.map linkKey)) + 1) 0) + 1) (max (PyData.depth m.key.data) 0) + 1 ≤ 60
    omega
  · show (PyData.weightAll (NestedKey.datas (N.ms.map pairKey)) + 1 + (PyData.weightAll (NestedKey.datas (N.ls.map linkKey)) + 1 + 0)) + 1 + (PyData.weight m.key.data + 1 + 0) ≤ 300000
    omega
  · show ((PyData.showableAll (NestedKey.datas (N.ms.map pairKey)) && (PyData.showableAll (NestedKey.datas (N.ls.map linkKey)) && true)) && (PyData.showable m.key.data && true)) = true
    rw [a2, b2, c2]; rfl
end K55
/-! Small facts for the comparison of a replaced branch. -/
namespace K55
open PySem PySem.Spec PyProof.Rows L2 WD NS MC GL
theorem two_of_mem {α : Type} {l : List α} {a b : α} (ha : a ∈ l) (hb : b ∈ l) (n : a ≠ b) : 2 ≤ l.length := by
  match l with
  | [] => cases ha
  | [c] => exact absurd ((List.mem_singleton.mp ha).trans (List.mem_singleton.mp hb).symm) n
  | _ :: _ :: _ => exact Nat.le_add_left 2 _
/-- two machines and a link at least -/
theorem ends_two {N : NetM} (ok : N.Ok) {x y : Str} (h : ordL x y ∈ N.ls) : 2 ≤ N.ms.length ∧ 1 ≤ N.ls.length := by
  obtain ⟨a, b, c⟩ := ord_ends ok h
  refine ⟨?_, List.length_pos_iff.mpr (List.ne_nil_of_mem h)⟩
  have z := two_of_mem a b c
  have e : N.names.length = N.ms.length := List.length_map _
  omega
theorem single_of {m : MachM} {x : Str} (h : ∀ r ∈ m.rows, ∀ b z l, r.deed = .ex b z l → z = x) : Single m := fun r hr r' hr' b z l b' z' l' e e' => (h r hr b z l e).trans (h r' hr' b' z' l' e').symm
theorem wd_by {x : Str} (a : (x.cps.toList.all fun c => decide (97 ≤ c ∧ c ≤ 122)) = true) (b : 0 < x.length) (c : x.length ≤ 8) : Wd x := ⟨fun c hc => by
  rw [List.all_eq_true] at a
  exact of_decide_eq_true (a c hc), b, c⟩
/-- a name of the network, or one of the three written ones -/
theorem wd_some {ns : List Str} (h : ∀ x ∈ ns, Wd x) {v : V} (hv : v ∈ ns.map V.str ++ [V.str "elsewher", V.str "a", V.str "zzzzzzzz"]) : ∃ x, v = .str x ∧ Wd x := by
  rcases List.mem_append.mp hv with z | z
  · obtain ⟨x, hx, rfl⟩ := List.mem_map.mp z
    exact ⟨x, rfl, h x hx⟩
  · simp only [List.mem_cons, List.not_mem_nil, or_false] at z
    rcases z with rfl | rfl | rfl
    · exact ⟨_, rfl, wd_by (by decide +kernel) (by decide +kernel) (by decide +kernel)⟩
    · exact ⟨_, rfl, wd_by (by decide +kernel) (by decide +kernel) (by decide +kernel)⟩
    · exact ⟨_, rfl, wd_by (by decide +kernel) (by decide +kernel) (by decide +kernel)⟩
/-- the machine that stands under a name -/
theorem mach_named {N : NetM} {y : Str} (hy : y ∈ N.names) : ∃ m, (y, m) ∈ N.ms := by
  obtain ⟨p, hp, e⟩ := List.mem_map.mp hy
  exact ⟨p.2, by rw [← e]; exact hp⟩
/-- the start is a configuration -/
theorem cfg0_ok {N : NetM} (ok : N.Ok) (s : ∀ p ∈ N.ms, 0 < p.2.size) : (cfg0 N).Ok N := by
  refine ⟨List.length_replicate, fun i p z hp hz => ?_, List.length_replicate, fun q hq x hx => ?_⟩
  · have e : z = 0 := (List.eq_of_mem_replicate (List.mem_of_getElem? hz))
    rw [e]
    have := s p (List.mem_of_getElem? hp)
    omega
  · have e : q = [] := List.eq_of_mem_replicate hq
    rw [e] at hx
    cases hx
end K55
/-! _law_right. -/
namespace K55
open PySem PySem.Spec PyProof.Rows L2 WD NS MC GL
open C8 (pss_cut tCut)
mutual
theorem kz_dz {H : Hp} : ∀ (k : NestedKey) (v : V), Kz H v k → GL.Dz H v k.data
  | .none, _, h => by cases h; exact .non
  | .num i, _, h => by cases h; exact .int i
  | .text x, _, h => by cases h; exact .str x
  | .tup ks, _, h => by
    cases h with
    | tup e h => exact .tup e (kz_dzAll ks _ h)
theorem kz_dzAll {H : Hp} : ∀ (ks : List NestedKey) (vs : List V), KzAll H vs ks → GL.DzAll H vs (NestedKey.datas ks)
  | [], _, h => by cases h; exact .nil
  | k :: ks, _, h => by
    cases h with
    | cons h1 h2 => exact .cons (kz_dz k _ h1) (kz_dzAll ks _ h2)
end
theorem eqv_oneL {y : Str} : ∀ ys : List Str, PyData.eqv (.list (ys.map PyData.str)) (.list [.str y]) = true → ys = [y]
  | [], h => by
    rw [List.map_nil, PyData.eqv, PyData.eqvAll] at h
    exact absurd h Bool.false_ne_true
  | [z], h => by
    rw [List.map_cons, List.map_nil, PyData.eqv, PyData.eqvAll, PyData.eqvAll, Bool.and_true, PyData.eqv] at h
    have e : z = y := by simpa using h
    rw [e]
  | _ :: _ :: _, h => by
    rw [List.map_cons, List.map_cons, PyData.eqv, PyData.eqvAll, PyData.eqvAll, Bool.and_false] at h
    exact absurd h Bool.false_ne_true
structure Df (K : PySem.W.Frag) (mg : Str → Option Value) (name : Str) (st : Stmt) (ps : List Str) (f : Addr) (fd : FuncData) : Prop where
  F : Fun K name name st f fd
  b : L2.Binds K fd ps []
  g : mg name = some (.ref f)
abbrev sRt : Stmt := topS 79
abbrev nRt : List Str := ["_law_dice_here", "_law_net", "_law_one", "_law_other", "_law_names", "_law_name", "_law_machine", "_law_before", "_law_new", "_law_some", "_law_turn", "_law_here"]
theorem scRt : FnScope nRt ["_law_dice_here"] (defScope sRt) := ⟨rfl, rfl, rfl, by decide +kernel, rfl, by decide +kernel, by decide +kernel⟩
def spRt : Sp := fun vs H Q _ => ∃ (d : Addr) (n : Nat), vs = [.ref d] ∧ Dice H d n ∧ n ≤ 1000 ∧ ∀ H', DD H d (n + 1700) H' → Q (.bl true) H'
structure TxtRt (K : PySem.W.Frag) (mg : Str → Option Value) (fJn fSg fOn fWB fRp fMm fRn fFs fAn fRO fRs : Addr) (dJn dSg dOn dWB dRp dMm dRn dFs dAn dRO dRs : FuncData) : Prop where
  joined : Df K mg "_law_joined" sJn ["_law_dice_here", "_law_total"] fJn dJn
  single : Df K mg "_law_single" sSgl ["_law_dice_here", "_law_other"] fSg dSg
  oneOf : Df K mg "_law_one_of" sOneOf ["_law_dice_here", "_law_items"] fOn dOn
  wb : Df K mg "with_branch" sWB ["network", "one", "other", "machine"] fWB dWB
  rp : Df K mg "_law_replaced" sRp ["_law_net", "_law_one", "_law_other", "_law_machine"] fRp dRp
  mem : Df K mg "_law_members" sMem ["_law_net", "_law_one", "_law_other"] fMm dMm
  run : Df K mg "_law_run" sRn ["_law_dice_here", "_law_net", "_law_here", "_law_total"] fRn dRn
  first : Df K mg "_law_first" sFst ["_law_net"] fFs dFs
  any : Df K mg "_law_any" sAny ["_law_dice_here", "_law_net"] fAn dAn
  ro : Df K mg "rest_of" sRO ["network", "one", "other", "configuration"] fRO dRO
  rs : Df K mg "_law_rest" sRs ["_law_net", "_law_one", "_law_other", "_law_here"] fRs dRs
  repr : mg "repr" = none
  dict : mg "dict" = none
  list : mg "list" = none
  range : mg "range" = none
section
variable {P : Program} {w : World} {K : PySem.W.Frag} {mg : Str → Option Value} {base : Heap} {fJn fSg fOn fWB fRp fMm fRn fFs fAn fRO fRs : Addr} {dJn dSg dOn dWB dRp dMm dRn dFs dAn dRO dRs : FuncData}
theorem ok_Rt {f : Addr} {fd : FuncData} {k : Nat} (F : Fun K "_law_right" "_law_right" sRt f fd) (T : TxtRt K mg fJn fSg fOn fWB fRp fMm fRn fFs fAn fRO fRs dJn dSg dOn dWB dRp dMm dRn dFs dAn dRO dRs)
    (GJ : FnOk P w K mg base CX0 5 fJn dJn ["_law_dice_here", "_law_total"] spJn) (GS : FnOk P w K mg base CX0 4 fSg dSg ["_law_dice_here", "_law_other"] spSgl) (GO : FnOk P w K mg base CX0 2 fOn dOn ["_law_dice_here", "_law_items"] spOneOf)
    (GW : FnOk P w K mg base CX0 (k + 7) fWB dWB ["network", "one", "other", "machine"] spWB) (GP : FnOk P w K mg base CX0 (k + 7) fRp dRp ["_law_net", "_law_one", "_law_other", "_law_machine"] spWB)
    (GM : FnOk P w K mg base CX0 (k + 7) fMm dMm ["_law_net", "_law_one", "_law_other"] spMem) (GR : FnOk P w K mg base CX0 (k + 7) fRn dRn ["_law_dice_here", "_law_net", "_law_here", "_law_total"] spRn)
    (GF : FnOk P w K mg base CX0 (k + 7) fFs dFs ["_law_net"] spFst) (GA : FnOk P w K mg base CX0 (k + 7) fAn dAn ["_law_dice_here", "_law_net"] spAny)
    (GX : FnOk P w K mg base CX0 (k + 7) fRO dRO ["network", "one", "other", "configuration"] spRO) (GY : FnOk P w K mg base CX0 (k + 7) fRs dRs ["_law_net", "_law_one", "_law_other", "_law_here"] spRO) :
    FnG P w K mg base CX0 (k + 8) f fd ["_law_dice_here"] spRt := by
  refine fnG_ok F scRt (fun vs H Q E h => ?_) (fun cdv A outer s H vs Q E hgd hr h => ?_)
  · obtain ⟨d, n, rfl, _⟩ := h
    rfl
  · obtain ⟨d, n, rfl, D0, hn, q⟩ := h
    have hu := hr.units
    have hu1 := Nat.lt_of_le_of_lt (Nat.add_le_add_left (by decide : 1 ≤ 64) _) hu
    have hr5 : Room 5 _ := hr.mono (by omega)
    have hr4 : Room 4 _ := hr.mono (by omega)
    have hr2 : Room 2 _ := hr.mono (by omega)
    refine ⟨_, pss_cut (ps_asg (pe_call GJ hr5 (by rfl) T.joined.g T.joined.F.kp T.joined.b .nil pass0 (pa_cons (pv 0) (pa_cons pe_int pa_nil))) (pg_lst rfl (pgs_cons (pg_name (i := 1) scRt.nd rfl (.inr rfl)) (pgs_cons (pg_name (i := 2) scRt.nd rfl (.inl rfl)) (pgs_cons (pg_name (i := 3) scRt.nd rfl (.inl rfl)) pgs_nil)))))
      (pss_cut (ps_setLc (i := 4) (own := [("_law_name", 5), ("_law_machine", 6)]) (g := gTup K 2 (gCons (gName 5) (gCons (gName 6) gNil))) (tt := tYes) (te := tVar 5) rfl scRt.nd rfl rfl (sw_true rfl rfl rfl (by decide +kernel))
          (pi_tup (pe_ix ix_tup (pv 1) pe_int (fun _ _ => rfl))) (blkOk_by (own := [("_law_name", 5), ("_law_machine", 6)]) (N := nRt) (sc := defScope sRt) (by decide +kernel))
          (fun _ _ _ _ _ => pg_tup rfl (pgs_cons (pg_name (i := 5) scRt.nd rfl (.inl rfl)) (pgs_cons (pg_name (i := 6) scRt.nd rfl (.inl rfl)) pgs_nil)))
          (fun _ _ _ _ _ => pts_nil) (fun _ _ _ _ _ => pv 5))
      (pss_cut (ps_set (i := 6) scRt.nd rfl (.inl rfl) (pe_call GS hr4 (by rfl) T.single.g T.single.F.kp T.single.b .nil pass0 (pa_cons (pv 0) (pa_cons (pe_call GO hr2 (by rfl) T.oneOf.g T.oneOf.F.kp T.oneOf.b .nil pass0 (pa_cons (pv 0) (pa_cons (pe_op op_cat (pv 4) (pe_lst (pa_cons pe_str (pa_cons pe_str (pa_cons pe_str pa_nil))))) pa_nil))) pa_nil))))
      (pss_cut (ps_par (i := 7) (j := 8) (by rfl) scRt.nd rfl rfl (by decide) rfl rfl (pa_cons (pe_callB (GL.call_repr_z hgd hu) (by rfl) T.repr (by decide +kernel) (pa_cons (pe_tup (pa_cons (pv 1) (pa_cons (pv 6) pa_nil))) pa_nil)) (pa_cons (pe_call GW hr (by rfl) T.wb.g T.wb.F.kp T.wb.b .nil pass0 (pa_cons (pv 1) (pa_cons (pv 2) (pa_cons (pv 3) (pa_cons (pv 6) pa_nil))))) pa_nil)) (by rfl))
      (pss_cut (ps_if (PW.pt (pw_or (pt_cmpR (show OpR _ (compareOp .NotEq) (rNeD K) from op_neD hu) (pv 8) (pe_call GP hr (by rfl) T.rp.g T.rp.F.kp T.rp.b .nil pass0 (pa_cons (pv 1) (pa_cons (pv 2) (pa_cons (pv 3) (pa_cons (pv 6) pa_nil))))) (nomark _))
          (pw_or1 (pt_cmpR (show OpR _ (compareOp .NotEq) (rNeD K) from op_neD hu) (pe_call GW hr (by rfl) T.wb.g T.wb.F.kp T.wb.b .nil pass0 (pa_cons (pv 1) (pa_cons (pv 2) (pa_cons (pv 3) (pa_cons (pv 6) pa_nil))))) (pv 8) (nomark _))))) pss_never pss_nil)
      (pss_cut (ps_if (PW.pt (pw_or (pt_cmpR (show OpR _ (compareOp .NotEq) (rNeD K) from op_neD hu) (pe_call GW hr (by rfl) T.wb.g T.wb.F.kp T.wb.b .nil pass0 (pa_cons (pv 8) (pa_cons (pv 2) (pa_cons (pv 3) (pa_cons (pv 6) pa_nil))))) (pv 8) (nomark _))
          (pw_or1 (pt_cmpR op_ne (pe_callB (GL.call_repr_z hgd hu) (by rfl) T.repr (by decide +kernel) (pa_cons (pe_tup (pa_cons (pv 1) (pa_cons (pv 6) pa_nil))) pa_nil)) (pv 7) (nomark _))))) pss_never pss_nil)
      (pss_cut (ps_if (PW.pt (pw_and (pt_cmpR (show OpR _ (compareOp .Eq) (rEqD K) from op_eqD hu) (pe_call GM hr (by rfl) T.mem.g T.mem.F.kp T.mem.b .nil pass0 (pa_cons (pv 1) (pa_cons (pv 2) (pa_cons (pv 3) pa_nil)))) (pe_lst (pa_cons (pv 3) pa_nil)) (nomark _))
          (pw_and1 (pt_cmpR (show OpR _ (compareOp .NotEq) (rNeD K) from op_neD hu) (pe_call GW hr (by rfl) T.wb.g T.wb.F.kp T.wb.b .nil pass0 (pa_cons (pv 1) (pa_cons (pv 2) (pa_cons (pv 3) (pa_cons (pe_dget hu1 (pe_callTy (call_dictP rfl) (by rfl) T.dict (by decide +kernel) (pa_cons (pe_callTy call_list_of (by rfl) T.list (by decide +kernel) (pa_cons (pe_ix ix_tup (pv 1) pe_int (fun _ _ => rfl)) pa_nil)) pa_nil)) (pv 3) (fun _ _ => rfl)) pa_nil))))) (pv 1) (nomark _))))) pss_never pss_nil)
      (pss_cut (ps_set (i := 9) scRt.nd rfl (.inl rfl) (pe_op op_cat (pe_ix ix_list (pe_call GR hr (by rfl) T.run.g T.run.F.kp T.run.b .nil pass0 (pa_cons (pv 0) (pa_cons (pv 1) (pa_cons (pe_call GF hr (by rfl) T.first.g T.first.F.kp T.first.b .nil pass0 (pa_cons (pv 1) pa_nil)) (pa_cons pe_int pa_nil))))) pe_int (fun _ _ => rfl))
          (pe_lc (own := [("_law_turn", 10)]) (g := gName 10) (tt := tYes) (te := tCall spAny [] C8.E0 (tCons (tVar 0) (tCons (tVar 1) tNil))) rfl scRt.nd
            (pi_range1 rfl T.range (pa_cons pe_int pa_nil)) (blkOk_by (own := [("_law_turn", 10)]) (N := nRt) (sc := defScope sRt) (by decide +kernel))
            (fun _ _ _ _ _ => pg_name (i := 10) scRt.nd rfl (.inl rfl)) (fun _ _ _ _ _ => pts_nil) (fun _ _ _ _ _ => pe_call GA hr (by rfl) T.any.g T.any.F.kp T.any.b .nil pass0 (pa_cons (pv 0) (pa_cons (pv 1) pa_nil))))))
      (pss_cut (ps_for PassesOwn.never rfl (pi_list (pv 9)) (pg_name (i := 11) scRt.nd rfl (.inl rfl))
          (pss_one (ps_if (pt_cmpR (show OpR _ (compareOp .NotEq) (rNeD K) from op_neD hu) (pe_call GX hr (by rfl) T.ro.g T.ro.F.kp T.ro.b .nil pass0 (pa_cons (pv 1) (pa_cons (pv 2) (pa_cons (pv 3) (pa_cons (pv 11) pa_nil))))) (pe_call GY hr (by rfl) T.rs.g T.rs.F.kp T.rs.b .nil pass0 (pa_cons (pv 1) (pa_cons (pv 2) (pa_cons (pv 3) (pa_cons (pv 11) pa_nil))))) (nomark _)) pss_never pss_nil)))
      (pss_cut (ps_for PassesOwn.never rfl (pi_list (pe_lst (pa_cons (pe_call GF hr (by rfl) T.first.g T.first.F.kp T.first.b .nil pass0 (pa_cons (pv 8) pa_nil)) (pa_cons (pe_call GA hr (by rfl) T.any.g T.any.F.kp T.any.b .nil pass0 (pa_cons (pv 0) (pa_cons (pv 8) pa_nil))) pa_nil)))) (pg_name (i := 11) scRt.nd rfl (.inl rfl))
          (pss_one (ps_if (pt_cmpR (show OpR _ (compareOp .NotEq) (rNeD K) from op_neD hu) (pe_call GX hr (by rfl) T.ro.g T.ro.F.kp T.ro.b .nil pass0 (pa_cons (pv 8) (pa_cons (pv 2) (pa_cons (pv 3) (pa_cons (pv 11) pa_nil))))) (pe_call GY hr (by rfl) T.rs.g T.rs.F.kp T.rs.b .nil pass0 (pa_cons (pv 8) (pa_cons (pv 2) (pa_cons (pv 3) (pa_cons (pv 11) pa_nil))))) (nomark _)) pss_never pss_nil)))
      (pss_one (ps_ret (pe_cmpR (show OpR _ (compareOp .Eq) (rEqD K) from op_eqD hu) (pe_call GX hr (by rfl) T.ro.g T.ro.F.kp T.ro.b .nil pass0 (pa_cons (pv 1) (pa_cons (pv 2) (pa_cons (pv 3) (pa_cons (pe_call GF hr (by rfl) T.first.g T.first.F.kp T.first.b .nil pass0 (pa_cons (pv 1) pa_nil)) pa_nil)))))
          (pe_call GX hr (by rfl) T.ro.g T.ro.F.kp T.ro.b .nil pass0 (pa_cons (pv 8) (pa_cons (pv 2) (pa_cons (pv 3) (pa_cons (pe_call GF hr (by rfl) T.first.g T.first.F.kp T.first.b .nil pass0 (pa_cons (pv 8) pa_nil)) pa_nil))))) (nomark _))))))))))))), ?_⟩
    refine ⟨fun σ' H' => ∃ (a : Addr) (N : NetM) (x y : Str), σ' = [some (.ref d), some (.ref a), some (.str x), some (.str y), none, none, none, none, none, none, none, none] ∧ DD H d (n + 300) H' ∧ Kz H' (.ref a) N.key ∧ N.Ok ∧ ordL x y ∈ N.ls, ?_, ?_⟩
    · refine ⟨_, rfl, d, n, rfl, D0, by omega, fun H1 p a N x y k1 np ep ka okN n2 ho => ⟨p, _, rfl, SqL.of ep, rfl, _, _, rfl, _, _, rfl, _, _, rfl, rfl, ?_⟩⟩
      exact ⟨a, N, x, y, rfl, k1, ka, okN, ho⟩
    rintro σ1 H1 ⟨a, N, x, y, rfl, k1, hn1, okN, ho⟩
    obtain ⟨M⟩ := net_at hn1
    obtain ⟨mx, my, nxy⟩ := ord_ends okN ho
    obtain ⟨n2, l1⟩ := ends_two okN ho
    have n6 := okN.n6
    have lf := okN.lf
    have wx := okN.wdn mx
    have wy := okN.wdn my
    -- the names
    refine ⟨fun σ' H' => ∃ (D : Addr) (u5 u6 : Option V), σ' = [some (.ref d), some (.ref a), some (.str x), some (.str y), some (.ref D), u5, u6, none, none, none, none, none] ∧ Same H1 H' ∧ D ≠ d ∧ H' D = some (.lst (N.names.map V.str)), ?_, ?_⟩
    · refine ⟨_, rfl, a, _, 0, .ref M.A, rfl, rfl, SqT.of M.top, atI_nat (j := 0) rfl, M.A, rfl, ⟨_, SqT.of M.ea⟩, fun D nD => ?_⟩
      have sD := same_upd (o := .lst []) nD
      refine lc_tup (xs := M.xs) (fun i H' => Same H1 H' ∧ H' D = some (.lst (((N.ms.take i).map (·.1)).map V.str))) ⟨sD, upd_same⟩ (fun i H' _ z => SqT.of (z.1 _ _ M.ea)) ?_ ?_
      · rintro i v H2 hv ⟨s2, e2⟩
        obtain ⟨p, hp, q', b, rfl, eq, kb⟩ := pair_at M.all hv
        refine ⟨q', _, rfl, SqT.of (s2 _ _ eq), rfl, _, _, rfl, _, _, rfl, rfl, rfl, tYes_ite ⟨_, rfl, _, e2, ?_, same_set s2 nD, ?_⟩⟩
        · rw [List.length_map, List.length_map, List.length_take, sizeLine_eq]
          omega
        · rw [upd_same, List.take_succ, hp, Option.toList_some, List.map_append, List.map_append]
          rfl
      · rintro H2 ⟨s2, e2⟩
        rw [M.lx, List.take_length] at e2
        exact ⟨D, _, _, rfl, s2, ne_dice' k1.dice nD, e2⟩
    rintro σ2 H2 ⟨D, u5, u6, rfl, s2, Dd, eD⟩
    have k2 := k1.same s2
    have hn2 := Kz.same s2 _ _ hn1
    -- the machine
    refine ⟨fun σ' H' => ∃ (b : Addr) (z : Str) (m : MachM), σ' = [some (.ref d), some (.ref a), some (.str x), some (.str y), some (.ref D), u5, some (.ref b), none, none, none, none, none] ∧ DD H2 d (n + 341) H' ∧ m.Ok ∧ Single m ∧ Kz H' (.ref b) m.key, ?_, ?_⟩
    · refine ⟨_, rfl, _, rfl, _, rfl, by show 3 ≤ sizeLine; decide, fun L nL => ?_⟩
      have kL := same_upd (o := .lst [V.str "elsewher", V.str "a", V.str "zzzzzzzz"]) nL
      refine ⟨D, L, _, _, rfl, rfl, kL _ _ eD, upd_same, ?_, fun C nC => ?_⟩
      · rw [List.length_map, sizeLine_eq]
        show N.names.length + 3 ≤ _
        have e : N.names.length = N.ms.length := List.length_map _
        omega
      have kC := same_upd (o := .lst (N.names.map V.str ++ [V.str "elsewher", V.str "a", V.str "zzzzzzzz"])) nC
      have kD := ((DD.refl k2.dice).new (o := .lst [V.str "elsewher", V.str "a", V.str "zzzzzzzz"]) nL).new (o := .lst (N.names.map V.str ++ [V.str "elsewher", V.str "a", V.str "zzzzzzzz"])) nC
      refine ⟨d, C, n + 300, _, rfl, kD.dice, by omega, upd_same, ne_dice' k2.dice (kL.free nC), by simp, ?_, fun v o hv D5 => ?_⟩
      · rw [List.length_append, List.length_map]
        show N.names.length + 3 < _
        have e : N.names.length = N.ms.length := List.length_map _
        omega
      obtain ⟨z, rfl, wz⟩ := wd_some (fun u hu => okN.wdn hu) hv
      refine ⟨d, n + 300 + 1, z, rfl, D5, by omega, wz, fun H5 b m k5 nb okm lr only km => ?_⟩
      exact ⟨b, z, m, rfl, (kD.roll D5).then k5.ds k5.dice, okm, single_of only, km⟩
    rintro σ3 H3 ⟨b, z, m, rfl, k3, okm, one, hm3⟩
    have hn3 : Kz H3 (.ref a) N.key := k3.kz k2.dice hn2
    -- the print, and the branch replaced
    refine ⟨fun σ' H' => ∃ (c : Addr) (N' : NetM), σ' = [some (.ref d), some (.ref a), some (.str x), some (.str y), some (.ref D), u5, some (.ref b), some (.str (PyData.tuple [N.key.data, m.key.data]).shown), some (.ref c), none, none, none] ∧ Same H3 H' ∧ Kz H' (.ref c) N'.key ∧ RepOf N x y m N', ?_, ?_⟩
    · refine ⟨_, rfl, _, rfl, by show 2 ≤ sizeLine; decide, fun t nt => ?_⟩
      have kt := same_upd (o := .tup [.ref a, .ref b]) nt
      refine ⟨t, .tuple [N.key.data, m.key.data], rfl, .tup upd_same (.cons (kz_dz _ _ (Kz.same kt _ _ hn3)) (.cons (kz_dz _ _ (Kz.same kt _ _ hm3)) .nil)), small_nm okN okm, _, rfl, _, rfl, _, rfl, _, rfl, a, b, N, x, y, m, rfl, Kz.same kt _ _ hn3, okN, ho, Kz.same kt _ _ hm3, okm, one, fun H5 c N' s5 nc kc R => ⟨_, _, rfl, ?_⟩⟩
      exact ⟨c, N', rfl, kt.trans s5, kc, R⟩
    rintro σ4 H4 ⟨c, N', rfl, s4, hc4, R⟩
    have hn4 := Kz.same s4 _ _ hn3
    have hm4 := Kz.same s4 _ _ hm3
    have okN' := R.ok okN ho okm one
    have ho' := R.outer okN
    -- once more the same, and as the law has it
    refine ⟨fun σ' H' => σ' = [some (.ref d), some (.ref a), some (.str x), some (.str y), some (.ref D), u5, some (.ref b), some (.str (PyData.tuple [N.key.data, m.key.data]).shown), some (.ref c), none, none, none] ∧ Same H4 H', ?_, ?_⟩
    · refine ⟨_, rfl, _, rfl, _, rfl, _, rfl, _, rfl, a, b, N, x, y, m, rfl, hn4, okN, ho, hm4, okm, one, fun H5 p N2 s5 np kp R2 => ?_⟩
      have e := R.ext R2 okN
      subst e
      refine ne_net okN' (Kz.same s5 _ _ hc4) kp ⟨_, rfl, ifF rfl ?_⟩
      refine ⟨_, rfl, _, rfl, _, rfl, _, rfl, a, b, N, x, y, m, rfl, Kz.same s5 _ _ hn4, okN, ho, Kz.same s5 _ _ hm4, okm, one, fun H6 p2 N3 s6 np2 kp2 R3 => ?_⟩
      have e := R.ext R3 okN
      subst e
      exact ⟨_, rfl, ne_net okN' kp2 (Kz.same (s5.trans s6) _ _ hc4) ⟨_, rfl, ifF rfl ⟨rfl, s5.trans s6⟩⟩⟩
    rintro σ5 H5 ⟨rfl, s5⟩
    have hn5 := Kz.same s5 _ _ hn4
    have hm5 := Kz.same s5 _ _ hm4
    have hc5 := Kz.same s5 _ _ hc4
    -- replaced again, and nothing has changed
    refine ⟨fun σ' H' => σ' = [some (.ref d), some (.ref a), some (.str x), some (.str y), some (.ref D), u5, some (.ref b), some (.str (PyData.tuple [N.key.data, m.key.data]).shown), some (.ref c), none, none, none] ∧ Same H5 H', ?_, ?_⟩
    · refine ⟨_, rfl, _, rfl, _, rfl, _, rfl, c, b, N', x, y, m, rfl, hc5, okN', ho', hm5, okm, one, fun H6 p N2 s6 np kp R2 => ?_⟩
      have e := (R.again okN ho okN').ext R2 okN'
      subst e
      refine ⟨_, rfl, ne_net okN' kp (Kz.same s6 _ _ hc5) ⟨_, rfl, ifF rfl ?_⟩⟩
      refine ⟨_, rfl, _, rfl, by show 2 ≤ sizeLine; decide, fun t nt => ?_⟩
      have kt := s6.trans (same_upd (o := .tup [.ref a, .ref b]) nt)
      refine ⟨t, .tuple [N.key.data, m.key.data], rfl, .tup upd_same (.cons (kz_dz _ _ (Kz.same kt _ _ hn5)) (.cons (kz_dz _ _ (Kz.same kt _ _ hm5)) .nil)), small_nm okN okm, _, rfl, rfl, ?_⟩
      rw [decide_eq_true rfl]
      exact ⟨_, rfl, ifF rfl ⟨rfl, kt⟩⟩
    rintro σ6 H6 ⟨rfl, s6⟩
    have hn6 := Kz.same s6 _ _ hn5
    have hm6 := Kz.same s6 _ _ hm5
    have hc6 := Kz.same s6 _ _ hc5
    -- a root that is its whole branch
    refine ⟨fun σ' H' => σ' = [some (.ref d), some (.ref a), some (.str x), some (.str y), some (.ref D), u5, some (.ref b), some (.str (PyData.tuple [N.key.data, m.key.data]).shown), some (.ref c), none, none, none] ∧ Same H6 H', ?_, ?_⟩
    · refine ⟨_, rfl, _, rfl, _, rfl, a, N, x, y, rfl, hn6, okN, ho, fun H7 p ys s7 np ep br => ?_⟩
      refine ⟨_, rfl, by show 1 ≤ sizeLine; decide, fun L nL => ?_⟩
      have kL := same_upd (o := .lst [V.str y]) nL
      have wys : ∀ u ∈ ys, Wd u := fun u hu => by
        rcases conn_end ((br.mem u).mp hu) with e | e
        · rw [e]
          exact wy
        · rcases List.mem_append.mp e with e | e
          · obtain ⟨l, hl, rfl⟩ := List.mem_map.mp e
            exact (okN.wdl l (List.mem_filter.mp hl).1).1
          · obtain ⟨l, hl, rfl⟩ := List.mem_map.mp e
            exact (okN.wdl l (List.mem_filter.mp hl).1).2
      refine ⟨.list (ys.map PyData.str), .list [.str y], .lst (SqL.of (kL _ _ ep)) (dp_strs ys), .lst (SqL.of upd_same) (.cons (.str y) .nil), shaped_strs ys wys, shaped_strs [y] (fun u hu => by rw [List.mem_singleton.mp hu]; exact wy), _, rfl, ifB (fun hb => ?_) fun hb => ifF rfl ⟨rfl, s7.trans kL⟩⟩
      have e := eqv_oneL ys hb
      subst e
      have k7 := s7.trans kL
      obtain ⟨M7⟩ := net_at (Kz.same k7 _ _ hn6)
      obtain ⟨R7, eR, mR, kR⟩ := pr_of M7.all
      have eA := eR ▸ M7.ea
      refine ⟨_, rfl, _, rfl, _, rfl, _, rfl, a, _, 0, .ref M7.A, rfl, rfl, SqT.of M7.top, atI_nat (j := 0) rfl, M7.A, _, rfl, .inr (SqT.of eA), fun l nl => ?_⟩
      have kl := same_upd (o := .lst (R7.map fun p => V.ref p.1)) nl
      have kR' := PrAt.same kR kl
      have nmR : nmsM (R7.map (·.2)) = N.names := by
        show _ = N.ms.map (·.1)
        rw [← mR, List.map_map, nmsM, List.map_map]
        rfl
      refine ⟨l, R7.map (·.1), kvM (R7.map (·.2)), rfl, SqL.of (by rw [List.map_map]; exact upd_same), paired_of kR', fun dd nd => ?_⟩
      have mg0 := mergeM (R7.map (·.2)) [] (by rw [List.nil_append, nmR]; exact okN.once)
      rw [List.nil_append] at mg0
      have mg1 : mergeK [] (kvM (R7.map (·.2))) = kvM (R7.map (·.2)) := mg0
      rw [mg1]
      have kd := same_upd (o := .dK (kvM (R7.map (·.2)))) nd
      obtain ⟨pp, hpp, ey, ev⟩ := kvM_some (L := R7.map (·.2)) (x := y) (by rw [nmR]; exact my)
      obtain ⟨r7, hr7, rfl⟩ := List.mem_map.mp hpp
      have mm : (y, r7.2.2.2) ∈ N.ms := by
        rw [← mR, ← ey]
        exact List.mem_map.mpr ⟨r7, hr7, rfl⟩
      obtain ⟨RS, oneS⟩ := RepOf.same okN ho br mm
      have dg : DGet (upd (upd (upd H7 L (.lst [V.str y])) l (.lst (R7.map fun p => V.ref p.1))) dd (.dK (kvM (R7.map (·.2))))) dd (kV (Sum.inr y)) (some (.ref r7.2.1)) := by
        rw [← ev]
        exact DGet.k upd_same
      have kk := k7.trans (kl.trans kd)
      refine ⟨_, rfl, dd, _, rfl, dg, a, r7.2.1, N, x, y, r7.2.2.2, rfl, Kz.same kk _ _ hn6, okN, ho, Kz.same kd _ _ (kR' r7 hr7).2, (okN.wd _ mm).2, oneS, fun H8 p8 N8 s8 np8 kp8 R8 => ?_⟩
      have e := RS.ext R8 okN
      subst e
      exact ⟨_, rfl, ne_net okN kp8 (Kz.same (kk.trans s8) _ _ hn6) ⟨_, rfl, ifF rfl ⟨rfl, kk.trans s8⟩⟩⟩
    rintro σ7 H7 ⟨rfl, s7⟩
    have hn7 := Kz.same s7 _ _ hn6
    have hc7 := Kz.same s7 _ _ hc6
    have D7 : Dice H7 d (n + 341) := dice_same (dice_same (dice_same (dice_same k3.dice s4) s5) s6) s7
    have ok0 : (cfg0 N).Ok N := cfg0_ok okN fun p hp => (okN.wd p hp).2.s0
    have ok0' : (cfg0 N').Ok N' := cfg0_ok okN' fun p hp => (okN'.wd p hp).2.s0
    obtain ⟨n2', l1'⟩ := ends_two okN' ho'
    -- the configurations
    refine ⟨fun σ' H' => ∃ (S : Addr) (W : List (Addr × CfgM)), σ' = [some (.ref d), some (.ref a), some (.str x), some (.str y), some (.ref D), u5, some (.ref b), some (.str (PyData.tuple [N.key.data, m.key.data]).shown), some (.ref c), some (.ref S), none, none] ∧ DD H7 d (n + 1400) H' ∧ S ≠ d ∧ H' S = some (.lst (W.map fun z => V.ref z.1)) ∧ ∀ z ∈ W, Kz H' (.ref z.1) z.2.key ∧ z.2.Ok N, ?_, ?_⟩
    · refine ⟨_, rfl, _, rfl, _, rfl, a, N, rfl, hn7, lf, n2, n6, l1, fun H8 p0 s8 np0 k0 => ?_⟩
      refine ⟨d, a, p0, n + 341, N, cfg0 N, rfl, dice_same D7 s8, by omega, Kz.same s8 _ _ hn7, okN, k0, ok0, fun q hq => ?_, fun H9 p mm F L k9 np ep Fd eF kL lL => ?_⟩
      · rw [List.eq_of_mem_replicate hq]
        exact Nat.zero_le _
      have k79 : DD H7 d (n + 347) H9 := ((DD.refl D7).same s8).then k9.ds k9.dice
      refine ⟨p, _, 1, .ref F, rfl, rfl, SqL.of ep, atI_nat (j := 1) rfl, 3, rfl, by decide, by decide, fun G nG => ?_⟩
      have kG := same_upd (o := .lst []) nG
      have GF : G ≠ F := (ne_of_none eF nG).symm
      have Gd : G ≠ d := ne_dice' k79.dice nG
      refine lc_range (lo := 0) (n := 3) (fun t H' => ∃ U : List (Addr × CfgM), DD H7 d (n + 347 + 300 * t) H' ∧ H' F = some (.lst (L.map fun z => V.ref z.1)) ∧ CfAt N H' L 100 ∧ H' G = some (.lst (U.map fun z => V.ref z.1)) ∧ U.length = t ∧ ∀ z ∈ U, Kz H' (.ref z.1) z.2.key ∧ z.2.Ok N)
        ⟨[], k79.new nG, kG _ _ eF, kL.tups (tups_same kG), upd_same, rfl, fun _ z => (nomatch z)⟩ (fun t H' ht z => ?_) (fun H' z => ?_)
      · obtain ⟨U, k10, eF', kL', eG, lU, kU⟩ := z
        refine ⟨rfl, tYes_ite ⟨_, rfl, _, rfl, d, a, n + 347 + 300 * t, N, rfl, k10.dice, by omega, k10.kz D7 hn7, okN, fun H11 p2 c2 k11 np2 okc2 kc2 => ?_⟩⟩
        have eG' := k11.ds _ _ Gd eG
        have tu := tups_list (o := .lst (U.map (fun z => V.ref z.1) ++ [.ref p2])) eG'
        have nGH : H7 G = none := k79.free nG
        refine ⟨_, eG', ?_, U ++ [(p2, c2)], ((k10.then k11.ds k11.dice).put Gd nGH).more (by omega), by rw [upd_ne GF.symm]; exact k11.ds _ _ Fd eF', (kL'.tups (ds_tups k10.dice k11.ds)).tups tu, ?_, ?_, fun z hz => ?_⟩
        · rw [List.length_map, lU, sizeLine_eq]
          omega
        · rw [upd_same, List.map_append]
          rfl
        · rw [List.length_append, lU]
          rfl
        · rcases List.mem_append.mp hz with h | h
          · exact ⟨kz_tups tu _ _ (kz_tups (ds_tups k10.dice k11.ds) _ _ (kU z h).1), (kU z h).2⟩
          · rw [List.mem_singleton.mp h]
            exact ⟨kz_tups tu _ _ kc2, okc2⟩
      · obtain ⟨U, k10, eF', kL', eG, lU, kU⟩ := z
        refine ⟨F, G, _, _, rfl, rfl, eF', eG, ?_, fun S nS => ?_⟩
        · rw [List.length_map, List.length_map, lU, sizeLine_eq]
          omega
        have kS := same_upd (o := .lst (L.map (fun z => V.ref z.1) ++ U.map (fun z => V.ref z.1))) nS
        refine ⟨S, L ++ U, rfl, (k10.new nS).more (by omega), ne_dice' k10.dice nS, by rw [upd_same, List.map_append], fun z hz => ?_⟩
        rcases List.mem_append.mp hz with h | h
        · exact ⟨Kz.same kS _ _ (kL' z h).1, (kL' z h).2.1⟩
        · exact ⟨Kz.same kS _ _ (kU z h).1, (kU z h).2⟩
    rintro σ8 H8 ⟨S, W, rfl, k8, Sd, eS, kW⟩
    have hn8 : Kz H8 (.ref a) N.key := k8.kz D7 hn7
    have hc8 : Kz H8 (.ref c) N'.key := k8.kz D7 hc7
    -- the rest, along the network
    refine ⟨fun σ' H' => ∃ u11 : Option V, σ' = [some (.ref d), some (.ref a), some (.str x), some (.str y), some (.ref D), u5, some (.ref b), some (.str (PyData.tuple [N.key.data, m.key.data]).shown), some (.ref c), some (.ref S), none, u11] ∧ Same H8 H', ?_, ?_⟩
    · refine ⟨_, rfl, S, rfl, ⟨_, SqL.of eS⟩, for_list (xs := W.map fun z => V.ref z.1) (fun i σ' H' => ∃ u11 : Option V, σ' = [some (.ref d), some (.ref a), some (.str x), some (.str y), some (.ref D), u5, some (.ref b), some (.str (PyData.tuple [N.key.data, m.key.data]).shown), some (.ref c), some (.ref S), none, u11] ∧ Same H8 H') ⟨none, rfl, fun _ _ e => e⟩ (fun i σ' H' _ ⟨_, _, s⟩ => SqL.of (s _ _ eS)) ?_ ?_⟩
      · rintro i v σ' H' hv ⟨u11, rfl, s9⟩
        rw [List.getElem?_map] at hv
        obtain ⟨z, hz, rfl⟩ := Option.map_eq_some_iff.mp hv
        obtain ⟨kz, okz⟩ := kW z (List.mem_of_getElem? hz)
        refine ⟨_, rfl, _, rfl, _, rfl, _, rfl, a, z.1, N, x, y, z.2, rfl, Kz.same s9 _ _ hn8, okN, ho, Kz.same s9 _ _ kz, okz, fun H10 p1 r1 s10 np1 kr1 R1 => ?_⟩
        refine ⟨_, rfl, _, rfl, _, rfl, _, rfl, a, z.1, N, x, y, z.2, rfl, Kz.same (s9.trans s10) _ _ hn8, okN, ho, Kz.same (s9.trans s10) _ _ kz, okz, fun H11 p2 r2 s11 np2 kr2 R2 => ?_⟩
        have e := R1.ext R2
        subst e
        exact ne_cfg (R1.wd okz.wd) (Kz.same s11 _ _ kr1) kr2 ⟨_, rfl, ifF rfl ⟨_, rfl, s9.trans (s10.trans s11)⟩⟩
      · rintro σ' H' ⟨u11, rfl, s9⟩
        exact ⟨u11, rfl, s9⟩
    rintro σ9 H9 ⟨u11, rfl, s9⟩
    have hn9 := Kz.same s9 _ _ hn8
    have hc9 := Kz.same s9 _ _ hc8
    have D9 := dice_same k8.dice s9
    have lf' := okN'.lf
    have n6' := okN'.n6
    -- the rest, along the replaced network
    refine ⟨fun σ' H' => ∃ u11 : Option V, σ' = [some (.ref d), some (.ref a), some (.str x), some (.str y), some (.ref D), u5, some (.ref b), some (.str (PyData.tuple [N.key.data, m.key.data]).shown), some (.ref c), some (.ref S), none, u11] ∧ DD H9 d (n + 1700) H', ?_, ?_⟩
    · refine ⟨_, rfl, c, N', rfl, hc9, lf', n2', n6', l1', fun H10 p0 s10 np0 k0 => ?_⟩
      have D10 := dice_same D9 s10
      refine ⟨_, rfl, _, rfl, d, c, n + 1400, N', rfl, D10, by omega, Kz.same s10 _ _ hc9, okN', fun H11 p1 c1 k11 np1 okc1 kc1 => ⟨by show 2 ≤ sizeLine; decide, fun T0 nT => ?_⟩⟩
      have k0' : Kz H11 (.ref p0) (cfg0 N').key := k11.kz D10 k0
      have kT := same_upd (o := .lst [V.ref p0, V.ref p1]) nT
      have kk : DD H9 d (n + 1700) (upd H11 T0 (.lst [V.ref p0, V.ref p1])) := ((((DD.refl D9).same s10).then k11.ds k11.dice).new nT)
      have hc12 := kk.kz D9 hc9
      refine ⟨T0, rfl, ⟨_, SqL.of upd_same⟩, for_list (xs := [(p0, cfg0 N'), (p1, c1)].map fun z => V.ref z.1) (fun i σ' H' => ∃ u11 : Option V, σ' = [some (.ref d), some (.ref a), some (.str x), some (.str y), some (.ref D), u5, some (.ref b), some (.str (PyData.tuple [N.key.data, m.key.data]).shown), some (.ref c), some (.ref S), none, u11] ∧ Same (upd H11 T0 (.lst [V.ref p0, V.ref p1])) H') ⟨u11, rfl, fun _ _ e => e⟩ (fun i σ' H' _ ⟨_, _, s⟩ => SqL.of (s _ _ upd_same)) ?_ ?_⟩
      · rintro i v σ' H' hv ⟨u11, rfl, s12⟩
        rw [List.getElem?_map] at hv
        obtain ⟨z, hz, rfl⟩ := Option.map_eq_some_iff.mp hv
        have zz : Kz (upd H11 T0 (.lst [V.ref p0, V.ref p1])) (.ref z.1) z.2.key ∧ z.2.Ok N' := by
          have mz := List.mem_of_getElem? hz
          simp only [List.mem_cons, List.not_mem_nil, or_false] at mz
          rcases mz with rfl | rfl
          · exact ⟨Kz.same kT _ _ k0', ok0'⟩
          · exact ⟨Kz.same kT _ _ kc1, okc1⟩
        obtain ⟨kz, okz⟩ := zz
        refine ⟨_, rfl, _, rfl, _, rfl, _, rfl, c, z.1, N', x, y, z.2, rfl, Kz.same s12 _ _ hc12, okN', ho', Kz.same s12 _ _ kz, okz, fun H13 q1 r1 s13 nq1 kr1 R1 => ?_⟩
        refine ⟨_, rfl, _, rfl, _, rfl, _, rfl, c, z.1, N', x, y, z.2, rfl, Kz.same (s12.trans s13) _ _ hc12, okN', ho', Kz.same (s12.trans s13) _ _ kz, okz, fun H14 q2 r2 s14 nq2 kr2 R2 => ?_⟩
        have e := R1.ext R2
        subst e
        exact ne_cfg (R1.wd okz.wd) (Kz.same s14 _ _ kr1) kr2 ⟨_, rfl, ifF rfl ⟨_, rfl, s12.trans (s13.trans s14)⟩⟩
      · rintro σ' H' ⟨u11, rfl, s12⟩
        exact ⟨u11, rfl, kk.same s12⟩
    rintro σ10 H10 ⟨u11, rfl, k10⟩
    have hn10 := k10.kz D9 hn9
    have hc10 := k10.kz D9 hc9
    refine ⟨_, rfl, _, rfl, _, rfl, _, rfl, a, N, rfl, hn10, lf, n2, n6, l1, fun H11 p0 s11 np0 k0 => ?_⟩
    refine ⟨a, p0, N, x, y, cfg0 N, rfl, Kz.same s11 _ _ hn10, okN, ho, k0, ok0, fun H12 p1 r1 s12 np1 kr1 R1 => ?_⟩
    have s1012 := s11.trans s12
    refine ⟨_, rfl, _, rfl, _, rfl, _, rfl, c, N', rfl, Kz.same s1012 _ _ hc10, lf', n2', n6', l1', fun H13 p2 s13 np2 k2' => ?_⟩
    refine ⟨c, p2, N', x, y, cfg0 N', rfl, Kz.same (s1012.trans s13) _ _ hc10, okN', ho', k2', ok0', fun H14 p3 r2 s14 np3 kr2 R2 => ?_⟩
    have e := rest_start R okN ho okN' R1 R2
    subst e
    have sh := cfg_shaped (R1.wd ok0.wd)
    refine ⟨_, _, kz_dp _ _ (Kz.same (s13.trans s14) _ _ kr1), kz_dp _ _ kr2, sh, sh, ?_⟩
    rw [eqv_self sh]
    exact q _ ((((((((((k1.same s2).then k3.ds k3.dice).same s4).same s5).same s6).same s7).then k8.ds k8.dice).same s9).then k10.ds k10.dice).same (s1012.trans (s13.trans s14)))
end
end K55
/-! law. -/
namespace K55
open PySem PySem.Spec PyProof.Rows L2 WD NS MC GL
open C8 (pss_cut tCut)
abbrev sLaw : Stmt := topS 80
abbrev nLw : List Str := ["_law_script", "_law_k"]
theorem scLaw : FnScope nLw ["_law_script"] (defScope sLaw) := ⟨rfl, rfl, rfl, by decide +kernel, rfl, by decide +kernel, by decide +kernel⟩
def spLaw (K : PySem.W.Frag) : Sp := fun vs H Q _ => ∃ (a : Addr) (ns : List Int), vs = [.ref a] ∧ SqL K H a (ns.map V.int) ∧ ns.length ≤ 63 ∧ ∀ H', Q (.bl true) H'
structure TxtLw (K : PySem.W.Frag) (mg : Str → Option Value) (fD fI : Addr) (dD dI : FuncData) : Prop where
  dice : Df K mg "_law_dice" sDice ["_law_script", "_law_at"] fD dD
  right : Df K mg "_law_right" sRt ["_law_dice_here"] fI dI
  max : mg "max" = none
  min : mg "min" = none
  range : mg "range" = none
theorem sql_ds {K : PySem.W.Frag} {d a : Addr} {H0 H H' : Hp} {xs : List V} (nd : H0 d = none) (h0 : SqL K H0 a xs) (s : Same H0 H) (k : DS d H H') : SqL K H' a xs := by
  have ne : ∀ {o : HO}, H0 a = some o → a ≠ d := fun e z => by
    rw [z, nd] at e
    cases e
  rcases h0 with (h | ⟨ob, h⟩) | h
  · exact Or.inl (Or.inl (k _ _ (ne h) (s _ _ h)))
  · exact Or.inl (Or.inr ⟨ob, k _ _ (ne h) (s _ _ h)⟩)
  · exact Or.inr h
section
variable {P : Program} {w : World} {K : PySem.W.Frag} {mg : Str → Option Value} {base : Heap} {fD fI : Addr} {dD dI : FuncData}
theorem ok_Law {f : Addr} {fd : FuncData} {k : Nat} (F : Fun K "law" "law" sLaw f fd) (L : TxtLw K mg fD fI dD dI) (TD : TxtD mg) (GI : FnG P w K mg base CX0 (k + 8) fI dI ["_law_dice_here"] spRt) : FnG P w K mg base CX0 (k + 9) f fd ["_law_script"] (spLaw K) := by
  have GD : FnOk P w K mg base CX0 1 fD dD ["_law_script", "_law_at"] (spDice K) := ok_dice L.dice.F TD
  refine fnG_ok F scLaw (fun vs H Q E h => ?_) (fun cdv A outer s H vs Q E hgd hr h => ?_)
  · obtain ⟨a, ns, rfl, _⟩ := h
    rfl
  · obtain ⟨a, ns, rfl, hS, hlen, q⟩ := h
    have hu := hr.units
    have hr1 : Room 1 _ := hr.mono (by omega)
    refine ⟨_, pss_cut (ps_for PassesOwn.never rfl (pi_range1 rfl L.range (pa_cons (pe_callB (call_max2 rfl) (by rfl) L.max (by decide +kernel) (pa_cons pe_int (pa_cons (pe_callB (call_min2 rfl) (by rfl) L.min (by decide +kernel) (pa_cons pe_int (pa_cons (pe_callB call_len_seq (by rfl) TD.len PySem.boot_len (pa_cons (pv 0) pa_nil)) pa_nil))) pa_nil))) pa_nil)) (pg_name (i := 1) scLaw.nd rfl (.inl rfl))
        (pss_one (ps_if (pt_not (pt_val (pe_callG GI hgd hr (by rfl) L.right.g L.right.F.kp L.right.b .nil pass0 (pa_cons (pe_call GD hr1 (by rfl) L.dice.g L.dice.F.kp L.dice.b .nil pass0 (pa_cons (pv 0) (pa_cons (pv 1) pa_nil))) pa_nil)))) pss_never pss_nil)))
      (pss_one (ps_ret pe_bl)), ?_⟩
    have hlt : (ns.map V.int).length ≤ 63 := by rw [List.length_map]; exact hlen
    refine ⟨fun σ' H' => True, ?_, fun σ' H' _ => q _⟩
    refine ⟨_, rfl, a, _, rfl, .inl hS, _, _, rfl, _, _, rfl, ?_⟩
    obtain ⟨n, hn, hn6⟩ : ∃ n : Nat, (let m : Int := (if ((ns.map V.int).length : Int) < 4 then ((ns.map V.int).length : Int) else 4); if m > 1 then m else 1) = (n : Int) ∧ n ≤ 4 := by
      dsimp only
      by_cases c : ((ns.map V.int).length : Int) < 4
      · rw [if_pos c]
        by_cases c2 : ((ns.map V.int).length : Int) > 1
        · rw [if_pos c2]; exact ⟨_, rfl, by omega⟩
        · rw [if_neg c2]; exact ⟨1, rfl, by omega⟩
      · rw [if_neg c]; exact ⟨4, rfl, by omega⟩
    refine ⟨(n : Int), congrArg (fun z => [V.int z]) hn, by omega, by omega, ?_⟩
    rw [Int.toNat_natCast]
    refine for_range (lo := 0) (n := n) (fun i σ' H' => (∃ u1 : Option V, σ' = [some (.ref a), u1]) ∧ SqL K H' a (ns.map V.int)) ⟨⟨none, rfl⟩, hS⟩ ?_ (fun _ _ _ => trivial)
    rintro i σ0 H0 hi ⟨⟨u1, rfl⟩, S0⟩
    rw [Int.zero_add]
    refine ⟨_, rfl, _, rfl, a, ns, i, rfl, S0, hlen, by omega, fun H1 d s1 hd D => ?_⟩
    exact ⟨d, 0, rfl, D, by decide, fun H2 k2 => ⟨_, rfl, ifF rfl ⟨⟨_, rfl⟩, sql_ds hd S0 s1 k2.ds⟩⟩⟩
end
end K55
/-! The end of a law whose def keeps its promise where no repr is under way. -/
namespace GL
open PySem PySem.Spec PyProof.Rows L2
section
variable {P : Program} {w : World} {K : PySem.W.Frag} {mg mb : Str → Option Value} {k : Nat} {fa a : Addr} {fd : FuncData} {x : Str} {sp : Sp} {s₁ : Shared} {vs : List Value} {ns : List Int}
/-- the law's call from one abstract heap, in which nothing but the script may be tracked -/
theorem law_core (KX : K.In s₁.heap) (hns : s₁.heap.Ns mainGlobals mg) (hb : s₁.heap.Ns builtinsNs mb) (hbb : ∀ x : Str, x ≠ "__name__" → mb x = bootBuiltins x) (hlim : s₁.heap.NoLimit) (hg : s₁.gens = #[])
    (ha : s₁.heap.get? a = some { cls := .type "list", data := .seq vs.toArray }) (hr : Room k callerA) (F : ∀ base : Heap, K.In base → base.Ns mainGlobals mg → FnG P w K mg base CX0 k fa fd [x] sp)
    (hbind : ∀ (s : Shared) (u : Value), BindsTo s fd ⟨[u], []⟩ [(x, u)]) {H : Hp} (only : Only H) (want : sp [.ref a] H (fun v _ => v = .bl true) fun _ _ _ => False) (hok : HOk P w H s₁.heap) (hA : ∀ b, H b ≠ none → b = a) (hK : H a ≠ none → K.lookup a = none) :
    codeAny (model P w) callerA (.call (.ref fa) ⟨[.ref a], []⟩) (fun r s' => r = .ok (.ret (.bool true)) ∧ OldK s₁.heap s'.heap ∧ s'.os = s₁.os ∧ AllBare s'.gens) s₁ := by
  have lay : ∀ {b : Addr} {o : Obj}, s₁.heap.get? b = some o → H b = none → (hidT s₁.heap H).get? b = some o := fun e n => hidT_get e n
  have away : ∀ {b : Addr} {o : Obj}, s₁.heap.get? b = some o → (b = a → False) → H b = none := fun {b o} _ na => by
    cases q : H b with
    | none => rfl
    | some u => exact (na (hA b (by rw [q]; exact fun z => nomatch z))).elim
  have names : ∀ {b : Addr} {m : Str → Option Value}, s₁.heap.Ns b m → (hidT s₁.heap H).Ns b m := by
    rintro b m ⟨o, es, ep, e, d, r⟩
    refine ⟨o, es, ep, lay e (away e fun z => ?_), d, r⟩
    subst z
    rw [ha] at e
    cases e
    exact nomatch d
  have part : K.In (hidT s₁.heap H) := fun b o e => lay (KX b o e) (by
    cases q : H b with
    | none => rfl
    | some u =>
      have z := hA b (by rw [q]; exact fun z => nomatch z)
      subst z
      have y := hK (by rw [q]; exact fun z => nomatch z)
      rw [y] at e
      cases e)
  have M : Mod K mg (hidT s₁.heap H) := ⟨part, names hns, ⟨mb, names hb, hbb⟩, let ⟨mc, h1, h2⟩ := hlim; ⟨mc, names h1, h2⟩⟩
  have env : Env0 P w K mg (hidT s₁.heap H) callerA [] s₁ H := ⟨rfl, M, fun b o e => of_hidT e, Nat.le_of_eq (hidT_size _ _), True.intro, fun b z => absurd (show b ∈ ([] : List Addr) from z) List.not_mem_nil, hok, .of_eq hg⟩
  refine codeAny_mono ((F _ part (names hns)).run callerA [] s₁ H ⟨[.ref a], []⟩ [.ref a] [.ref a] _ _ rfl hr env (hbind s₁ (.ref a)) (.cons rfl .nil) want) ?_
  intro r s' h
  match r, h with
  | .error e, h => exact h.elim
  | .ok (.ret u), h =>
    obtain ⟨v, H', os, bare, un, hok', rv, q⟩ := h
    have q' : v = .bl true := q
    subst q'
    cases rv
    refine ⟨rfl, OldK.of_keep fun b o e => ?_, os, bare⟩
    cases q : H b with
    | none => exact un.keep b o e q (fun z => absurd (show b ∈ ([] : List Addr) from z) List.not_mem_nil) List.not_mem_nil
    | some u =>
      rcases only b with z | ⟨ob, xs, z⟩
      · rw [q] at z; exact nomatch z
      · have c1 := (show ObjOk P w H s₁.heap b (.frz ob (.lst xs)) from hok b _ z).1
        have c2 := (show ObjOk P w H' s'.heap b (.frz ob (.lst xs)) from hok' b _ (un.frzs b ob _ z)).1
        rw [e] at c1
        cases c1
        exact c2
theorem law_callG (KX : K.In s₁.heap) (hns : s₁.heap.Ns mainGlobals mg) (hb : s₁.heap.Ns builtinsNs mb) (hbb : ∀ x : Str, x ≠ "__name__" → mb x = bootBuiltins x) (hlim : s₁.heap.NoLimit) (hg : s₁.gens = #[])
    (ha : s₁.heap.get? a = some { cls := .type "list", data := .seq vs.toArray }) (hi : IntsAre vs ns) (hl : ns.length ≤ sizeLine) (hr : Room k callerA) (F : ∀ base : Heap, K.In base → base.Ns mainGlobals mg → FnG P w K mg base CX0 k fa fd [x] sp)
    (hbind : ∀ (s : Shared) (u : Value), BindsTo s fd ⟨[u], []⟩ [(x, u)]) (hsp : ∀ H : Hp, Only H → SqL K H a (ns.map V.int) → sp [.ref a] H (fun v _ => v = .bl true) fun _ _ _ => False) :
    codeAny (model P w) callerA (.call (.ref fa) ⟨[.ref a], []⟩) (fun r s' => r = .ok (.ret (.bool true)) ∧ OldK s₁.heap s'.heap ∧ s'.os = s₁.os ∧ AllBare s'.gens) s₁ := by
  have go := fun (H : Hp) (o : Only H) (q : SqL K H a (ns.map V.int)) => law_core KX hns hb hbb hlim hg ha hr F hbind o (hsp H o q)
  cases hk : K.lookup a with
  | some o =>
    have e := KX a o hk
    rw [ha] at e
    cases e
    have lenV : vs.toArray.size = ns.length := by rw [List.size_toArray]; exact hi.length
    refine go (fun _ => none) (fun _ => Or.inl rfl) (Or.inr ⟨_, vs.toArray, _, hk, rfl, rfl, rfl, lenV ▸ hl, by simpa using vals_ints hi⟩) (fun b u z => nomatch z) (fun b z => (z rfl).elim) fun z => (z rfl).elim
  | none =>
    let G : Hp := fun b => if b = a then some (.frz { cls := .type "list", data := .seq vs.toArray } (.lst (ns.map V.int))) else none
    have Ga : G a = some (.frz { cls := .type "list", data := .seq vs.toArray } (.lst (ns.map V.int))) := if_pos rfl
    have Gn : ∀ {b : Addr}, b ≠ a → G b = none := fun h => if_neg h
    refine go G (fun b => ?_) (Or.inl (Or.inr ⟨_, Ga⟩)) (fun b u z => ?_) (fun b z => ?_) fun _ => hk
    · by_cases h : b = a
      · subst h; exact Or.inr ⟨_, _, Ga⟩
      · exact Or.inl (Gn h)
    · by_cases h : b = a
      · subst h
        rw [Ga] at z
        cases z
        exact ⟨ha, by rw [List.length_map]; exact hl, vs, _, vals_ints hi, ha⟩
      · rw [Gn h] at z
        exact nomatch z
    · by_cases h : b = a
      · exact h
      · exact (z (Gn h)).elim
end
/-- the goal behind the head, from the law's promise -/
theorem walk_ofG {l : PySem.W.OpenLaw} {n k : Nat} {q : Program} {loose : List Str} {XP : (Str → Option Value) → Heap → Prop} {YP : World → Heap → Prop} {d : DefRec} {K : Params → PySem.W.Frag} {sp : PySem.W.Frag → Sp} {x : Str}
    (hn : l.most = some n) (hn2 : n ≤ sizeLine) (hdf : d.params.defaults = []) (hr : Room k callerA) (hY : ∀ (w : World) (h : Heap), YP w h → (K w.params).In h)
    (F : ∀ (w : World) (mg : Str → Option Value) (fa : Addr) (h : Heap), (K w.params).In h → h.Ns mainGlobals mg → mg d.name = some (.ref fa) → ∃ fd : FuncData, (∀ (s : Shared) (u : Value), BindsTo s fd ⟨[u], []⟩ [(x, u)]) ∧
      ∀ base : Heap, (K w.params).In base → base.Ns mainGlobals mg → FnG l.prog w (K w.params) mg base CX0 k fa fd [x] (sp (K w.params)))
    (hsp : ∀ (K : PySem.W.Frag) (H : Hp) (a : Addr) (ns : List Int), ns.length ≤ n → SqL K H a (ns.map V.int) → sp K [.ref a] H (fun v _ => v = .bl true) fun _ _ _ => False) :
    PySem.W.WalkO q loose XP YP l.row.toRowW d [] (fun f vs => PySem.call f vs) := by
  refine Att.attach_call hn hdf ?_
  intro w s₀ s₁ mg mb fa o pm cd doc a vs ns G Y ho hd hcd hmg hobj hints hlen hg
  obtain ⟨fd, hbind, hF⟩ := F w mg fa _ (hY w _ Y) G.T.g hmg
  exact law_callG (hY w _ Y) G.T.g G.T.b G.T.builtins G.T.nolimit hg hobj hints (Nat.le_trans hlen hn2) hr hF hbind fun H _ hS => hsp (K w.params) H a ns hlen hS
end GL
/-! all that law reaches -/
namespace K55
open PySem PySem.Spec PyProof.Rows L2 WD NS MC GL
theorem txtE_s {K : PySem.W.Frag} {tE : Addr} {od : Option Addr} {n : Nat} {osl : Array (Option Value)} {t1 t2 : Tok} (l : K.lookup tE = some ⟨.type "tuple", od, .seq #[.str "send" t1, .str "take" t2] n, osl⟩) :
    ∃ (o : Obj) (its : Array Value) (n : Nat), K.lookup tE = some o ∧ o.cls = .type "tuple" ∧ o.data = .seq its n ∧ its.size ≤ sizeLine ∧ Vals exV its.toList :=
  ⟨_, _, _, l, rfl, rfl, by show 2 ≤ sizeLine; decide, .cons ⟨_, rfl⟩ (.cons ⟨_, rfl⟩ .nil)⟩
theorem all_mk {l : PySem.W.OpenLaw} {w : World} {K : PySem.W.Frag} {h : Heap} {mg : Str → Option Value} {fa tE cM f__law_roll f__law_one_of f_is_exchange f_is_whole f_renamed_deed f_is_name f_are_states f_are_transitions f_is_machine_near f_is_machine f_check_machine f_channels_in f_linked_in f_is_ascending f_is_without_circle f_are_links f_is_network f_names_in f_check_network f_check_name f_ordered_link f_ways_from f_with_neighbours_named f_neighbours_in f_branch_names f_check_linked f_check_single f_rest_in f_with_neighbour f_assembled f_is_row f_are_names f_are_states_of f_are_queues_of f_fits_network f_check_configuration f__law_channels f__law_linked f__law_row f__law_made f__law_tree f__law_links f__law_words f__law_wild f__law_members f__law_put f__law_done f__law_moves f__law_joined f__law_single f_with_branch f__law_replaced f__law_run f__law_first f__law_any f_rest_of f__law_rest f__law_dice f__law_right f_law : Addr} {d__law_roll d__law_one_of d_is_exchange d_is_whole d_renamed_deed d_is_name d_are_states d_are_transitions d_is_machine_near d_is_machine d_check_machine d_channels_in d_linked_in d_is_ascending d_is_without_circle d_are_links d_is_network d_names_in d_check_network d_check_name d_ordered_link d_ways_from d_with_neighbours_named d_neighbours_in d_branch_names d_check_linked d_check_single d_rest_in d_with_neighbour d_assembled d_is_row d_are_names d_are_states_of d_are_queues_of d_fits_network d_check_configuration d__law_channels d__law_linked d__law_row d__law_made d__law_tree d__law_links d__law_words d__law_wild d__law_members d__law_put d__law_done d__law_moves d__law_joined d__law_single d_with_branch d__law_replaced d__law_run d__law_first d__law_any d_rest_of d__law_rest d__law_dice d__law_right d_law : FuncData} {tLN tMS tMT tMM : Tok} (X : K.In h) (G : h.Ns mainGlobals mg) (hfa : mg "law" = some (.ref fa))
    (a__law_roll : PySem.W.nsIn K mainGlobals "_law_roll" = some (some (.ref f__law_roll)))
    (a__law_one_of : PySem.W.nsIn K mainGlobals "_law_one_of" = some (some (.ref f__law_one_of)))
    (a_is_exchange : PySem.W.nsIn K mainGlobals "is_exchange" = some (some (.ref f_is_exchange)))
    (a_is_whole : PySem.W.nsIn K mainGlobals "is_whole" = some (some (.ref f_is_whole)))
    (a_renamed_deed : PySem.W.nsIn K mainGlobals "renamed_deed" = some (some (.ref f_renamed_deed)))
    (a_is_name : PySem.W.nsIn K mainGlobals "is_name" = some (some (.ref f_is_name)))
    (a_are_states : PySem.W.nsIn K mainGlobals "are_states" = some (some (.ref f_are_states)))
    (a_are_transitions : PySem.W.nsIn K mainGlobals "are_transitions" = some (some (.ref f_are_transitions)))
    (a_is_machine_near : PySem.W.nsIn K mainGlobals "is_machine_near" = some (some (.ref f_is_machine_near)))
    (a_is_machine : PySem.W.nsIn K mainGlobals "is_machine" = some (some (.ref f_is_machine)))
    (a_check_machine : PySem.W.nsIn K mainGlobals "check_machine" = some (some (.ref f_check_machine)))
    (a_channels_in : PySem.W.nsIn K mainGlobals "channels_in" = some (some (.ref f_channels_in)))
    (a_linked_in : PySem.W.nsIn K mainGlobals "linked_in" = some (some (.ref f_linked_in)))
    (a_is_ascending : PySem.W.nsIn K mainGlobals "is_ascending" = some (some (.ref f_is_ascending)))
    (a_is_without_circle : PySem.W.nsIn K mainGlobals "is_without_circle" = some (some (.ref f_is_without_circle)))
    (a_are_links : PySem.W.nsIn K mainGlobals "are_links" = some (some (.ref f_are_links)))
    (a_is_network : PySem.W.nsIn K mainGlobals "is_network" = some (some (.ref f_is_network)))
    (a_names_in : PySem.W.nsIn K mainGlobals "names_in" = some (some (.ref f_names_in)))
    (a_check_network : PySem.W.nsIn K mainGlobals "check_network" = some (some (.ref f_check_network)))
    (a_check_name : PySem.W.nsIn K mainGlobals "check_name" = some (some (.ref f_check_name)))
    (a_ordered_link : PySem.W.nsIn K mainGlobals "ordered_link" = some (some (.ref f_ordered_link)))
    (a_ways_from : PySem.W.nsIn K mainGlobals "ways_from" = some (some (.ref f_ways_from)))
    (a_with_neighbours_named : PySem.W.nsIn K mainGlobals "with_neighbours_named" = some (some (.ref f_with_neighbours_named)))
    (a_neighbours_in : PySem.W.nsIn K mainGlobals "neighbours_in" = some (some (.ref f_neighbours_in)))
    (a_branch_names : PySem.W.nsIn K mainGlobals "branch_names" = some (some (.ref f_branch_names)))
    (a_check_linked : PySem.W.nsIn K mainGlobals "check_linked" = some (some (.ref f_check_linked)))
    (a_check_single : PySem.W.nsIn K mainGlobals "check_single" = some (some (.ref f_check_single)))
    (a_rest_in : PySem.W.nsIn K mainGlobals "rest_in" = some (some (.ref f_rest_in)))
    (a_with_neighbour : PySem.W.nsIn K mainGlobals "with_neighbour" = some (some (.ref f_with_neighbour)))
    (a_assembled : PySem.W.nsIn K mainGlobals "assembled" = some (some (.ref f_assembled)))
    (a_is_row : PySem.W.nsIn K mainGlobals "is_row" = some (some (.ref f_is_row)))
    (a_are_names : PySem.W.nsIn K mainGlobals "are_names" = some (some (.ref f_are_names)))
    (a_are_states_of : PySem.W.nsIn K mainGlobals "are_states_of" = some (some (.ref f_are_states_of)))
    (a_are_queues_of : PySem.W.nsIn K mainGlobals "are_queues_of" = some (some (.ref f_are_queues_of)))
    (a_fits_network : PySem.W.nsIn K mainGlobals "fits_network" = some (some (.ref f_fits_network)))
    (a_check_configuration : PySem.W.nsIn K mainGlobals "check_configuration" = some (some (.ref f_check_configuration)))
    (a__law_channels : PySem.W.nsIn K mainGlobals "_law_channels" = some (some (.ref f__law_channels)))
    (a__law_linked : PySem.W.nsIn K mainGlobals "_law_linked" = some (some (.ref f__law_linked)))
    (a__law_row : PySem.W.nsIn K mainGlobals "_law_row" = some (some (.ref f__law_row)))
    (a__law_made : PySem.W.nsIn K mainGlobals "_law_made" = some (some (.ref f__law_made)))
    (a__law_tree : PySem.W.nsIn K mainGlobals "_law_tree" = some (some (.ref f__law_tree)))
    (a__law_links : PySem.W.nsIn K mainGlobals "_law_links" = some (some (.ref f__law_links)))
    (a__law_words : PySem.W.nsIn K mainGlobals "_law_words" = some (some (.ref f__law_words)))
    (a__law_wild : PySem.W.nsIn K mainGlobals "_law_wild" = some (some (.ref f__law_wild)))
    (a__law_members : PySem.W.nsIn K mainGlobals "_law_members" = some (some (.ref f__law_members)))
    (a__law_put : PySem.W.nsIn K mainGlobals "_law_put" = some (some (.ref f__law_put)))
    (a__law_done : PySem.W.nsIn K mainGlobals "_law_done" = some (some (.ref f__law_done)))
    (a__law_moves : PySem.W.nsIn K mainGlobals "_law_moves" = some (some (.ref f__law_moves)))
    (a__law_joined : PySem.W.nsIn K mainGlobals "_law_joined" = some (some (.ref f__law_joined)))
    (a__law_single : PySem.W.nsIn K mainGlobals "_law_single" = some (some (.ref f__law_single)))
    (a_with_branch : PySem.W.nsIn K mainGlobals "with_branch" = some (some (.ref f_with_branch)))
    (a__law_replaced : PySem.W.nsIn K mainGlobals "_law_replaced" = some (some (.ref f__law_replaced)))
    (a__law_run : PySem.W.nsIn K mainGlobals "_law_run" = some (some (.ref f__law_run)))
    (a__law_first : PySem.W.nsIn K mainGlobals "_law_first" = some (some (.ref f__law_first)))
    (a__law_any : PySem.W.nsIn K mainGlobals "_law_any" = some (some (.ref f__law_any)))
    (a_rest_of : PySem.W.nsIn K mainGlobals "rest_of" = some (some (.ref f_rest_of)))
    (a__law_rest : PySem.W.nsIn K mainGlobals "_law_rest" = some (some (.ref f__law_rest)))
    (a__law_dice : PySem.W.nsIn K mainGlobals "_law_dice" = some (some (.ref f__law_dice)))
    (a__law_right : PySem.W.nsIn K mainGlobals "_law_right" = some (some (.ref f__law_right)))
    (a_law : PySem.W.nsIn K mainGlobals "law" = some (some (.ref f_law)))
    (acM : PySem.W.nsIn K mainGlobals "InvalidMachine" = some (some (.ref cM)))
    (aE : PySem.W.nsIn K mainGlobals "EXCHANGES" = some (some (.ref tE)))
    (aLN : PySem.W.nsIn K mainGlobals "LONGEST_NAME" = some (some (.int 8 tLN)))
    (aMS : PySem.W.nsIn K mainGlobals "MAX_STATES" = some (some (.int 30 tMS)))
    (aMT : PySem.W.nsIn K mainGlobals "MAX_TRANSITIONS" = some (some (.int 90 tMT)))
    (aMM : PySem.W.nsIn K mainGlobals "MAX_MACHINES" = some (some (.int 6 tMM)))
    (z_abs : PySem.W.nsIn K mainGlobals "abs" = some none)
    (z_all : PySem.W.nsIn K mainGlobals "all" = some none)
    (z_bool : PySem.W.nsIn K mainGlobals "bool" = some none)
    (z_dict : PySem.W.nsIn K mainGlobals "dict" = some none)
    (z_enumerate : PySem.W.nsIn K mainGlobals "enumerate" = some none)
    (z_int : PySem.W.nsIn K mainGlobals "int" = some none)
    (z_isinstance : PySem.W.nsIn K mainGlobals "isinstance" = some none)
    (z_len : PySem.W.nsIn K mainGlobals "len" = some none)
    (z_list : PySem.W.nsIn K mainGlobals "list" = some none)
    (z_max : PySem.W.nsIn K mainGlobals "max" = some none)
    (z_min : PySem.W.nsIn K mainGlobals "min" = some none)
    (z_range : PySem.W.nsIn K mainGlobals "range" = some none)
    (z_repr : PySem.W.nsIn K mainGlobals "repr" = some none)
    (z_set : PySem.W.nsIn K mainGlobals "set" = some none)
    (z_sorted : PySem.W.nsIn K mainGlobals "sorted" = some none)
    (z_str : PySem.W.nsIn K mainGlobals "str" = some none)
    (z_tuple : PySem.W.nsIn K mainGlobals "tuple" = some none)
    (z_type : PySem.W.nsIn K mainGlobals "type" = some none)
    (z_zip : PySem.W.nsIn K mainGlobals "zip" = some none)
    (F__law_roll : Fun K "_law_roll" "_law_roll" sRoll f__law_roll d__law_roll)
    (F__law_one_of : Fun K "_law_one_of" "_law_one_of" sOneOf f__law_one_of d__law_one_of)
    (F_is_exchange : Fun K "is_exchange" "is_exchange" sIsEx f_is_exchange d_is_exchange)
    (F_is_whole : Fun K "is_whole" "is_whole" sIsWh f_is_whole d_is_whole)
    (F_renamed_deed : Fun K "renamed_deed" "renamed_deed" sRenD f_renamed_deed d_renamed_deed)
    (F_is_name : Fun K "is_name" "is_name" sName f_is_name d_is_name)
    (F_are_states : Fun K "are_states" "are_states" sAreSt f_are_states d_are_states)
    (F_are_transitions : Fun K "are_transitions" "are_transitions" sAreTr f_are_transitions d_are_transitions)
    (F_is_machine_near : Fun K "is_machine_near" "is_machine_near" sNearM f_is_machine_near d_is_machine_near)
    (F_is_machine : Fun K "is_machine" "is_machine" sIsM f_is_machine d_is_machine)
    (F_check_machine : Fun K "check_machine" "check_machine" sChkM f_check_machine d_check_machine)
    (F_channels_in : Fun K "channels_in" "channels_in" sChIn f_channels_in d_channels_in)
    (F_linked_in : Fun K "linked_in" "linked_in" sLkIn f_linked_in d_linked_in)
    (F_is_ascending : Fun K "is_ascending" "is_ascending" sAsc f_is_ascending d_is_ascending)
    (F_is_without_circle : Fun K "is_without_circle" "is_without_circle" sWC f_is_without_circle d_is_without_circle)
    (F_are_links : Fun K "are_links" "are_links" sAL f_are_links d_are_links)
    (F_is_network : Fun K "is_network" "is_network" sIN f_is_network d_is_network)
    (F_names_in : Fun K "names_in" "names_in" sNmIn f_names_in d_names_in)
    (F_check_network : Fun K "check_network" "check_network" sCN f_check_network d_check_network)
    (F_check_name : Fun K "check_name" "check_name" sCM f_check_name d_check_name)
    (F_ordered_link : Fun K "ordered_link" "ordered_link" sOrdL f_ordered_link d_ordered_link)
    (F_ways_from : Fun K "ways_from" "ways_from" sWF f_ways_from d_ways_from)
    (F_with_neighbours_named : Fun K "with_neighbours_named" "with_neighbours_named" sWNN f_with_neighbours_named d_with_neighbours_named)
    (F_neighbours_in : Fun K "neighbours_in" "neighbours_in" sNbIn f_neighbours_in d_neighbours_in)
    (F_branch_names : Fun K "branch_names" "branch_names" sBN f_branch_names d_branch_names)
    (F_check_linked : Fun K "check_linked" "check_linked" sCL f_check_linked d_check_linked)
    (F_check_single : Fun K "check_single" "check_single" sCS f_check_single d_check_single)
    (F_rest_in : Fun K "rest_in" "rest_in" sRI f_rest_in d_rest_in)
    (F_with_neighbour : Fun K "with_neighbour" "with_neighbour" sWN f_with_neighbour d_with_neighbour)
    (F_assembled : Fun K "assembled" "assembled" sAsm f_assembled d_assembled)
    (F_is_row : Fun K "is_row" "is_row" sIsRow f_is_row d_is_row)
    (F_are_names : Fun K "are_names" "are_names" sAreNm f_are_names d_are_names)
    (F_are_states_of : Fun K "are_states_of" "are_states_of" sSO f_are_states_of d_are_states_of)
    (F_are_queues_of : Fun K "are_queues_of" "are_queues_of" sQO f_are_queues_of d_are_queues_of)
    (F_fits_network : Fun K "fits_network" "fits_network" sFN f_fits_network d_fits_network)
    (F_check_configuration : Fun K "check_configuration" "check_configuration" sCC f_check_configuration d_check_configuration)
    (F__law_channels : Fun K "_law_channels" "_law_channels" sLCh f__law_channels d__law_channels)
    (F__law_linked : Fun K "_law_linked" "_law_linked" sLkd f__law_linked d__law_linked)
    (F__law_row : Fun K "_law_row" "_law_row" sRowL f__law_row d__law_row)
    (F__law_made : Fun K "_law_made" "_law_made" sMade f__law_made d__law_made)
    (F__law_tree : Fun K "_law_tree" "_law_tree" sTree f__law_tree d__law_tree)
    (F__law_links : Fun K "_law_links" "_law_links" sLks f__law_links d__law_links)
    (F__law_words : Fun K "_law_words" "_law_words" sWords f__law_words d__law_words)
    (F__law_wild : Fun K "_law_wild" "_law_wild" sWl f__law_wild d__law_wild)
    (F__law_members : Fun K "_law_members" "_law_members" sMem f__law_members d__law_members)
    (F__law_put : Fun K "_law_put" "_law_put" sPut f__law_put d__law_put)
    (F__law_done : Fun K "_law_done" "_law_done" sDn f__law_done d__law_done)
    (F__law_moves : Fun K "_law_moves" "_law_moves" sMv f__law_moves d__law_moves)
    (F__law_joined : Fun K "_law_joined" "_law_joined" sJn f__law_joined d__law_joined)
    (F__law_single : Fun K "_law_single" "_law_single" sSgl f__law_single d__law_single)
    (F_with_branch : Fun K "with_branch" "with_branch" sWB f_with_branch d_with_branch)
    (F__law_replaced : Fun K "_law_replaced" "_law_replaced" sRp f__law_replaced d__law_replaced)
    (F__law_run : Fun K "_law_run" "_law_run" sRn f__law_run d__law_run)
    (F__law_first : Fun K "_law_first" "_law_first" sFst f__law_first d__law_first)
    (F__law_any : Fun K "_law_any" "_law_any" sAny f__law_any d__law_any)
    (F_rest_of : Fun K "rest_of" "rest_of" sRO f_rest_of d_rest_of)
    (F__law_rest : Fun K "_law_rest" "_law_rest" sRs f__law_rest d__law_rest)
    (F__law_dice : Fun K "_law_dice" "_law_dice" sDice f__law_dice d__law_dice)
    (F__law_right : Fun K "_law_right" "_law_right" sRt f__law_right d__law_right)
    (F_law : Fun K "law" "law" sLaw f_law d_law)
    (ckM : ErrC K cM veC "ValueError.__new__")
    (tyM : PySem.W.typeIn K (.ref cM) = some (.type "type"))
    (iniM : PySem.W.findIn K (.ref cM) "__init__" = some (some (.builtin "ValueError.__init__")))
    (eE : ∃ (o : Obj) (its : Array Value) (n : Nat), K.lookup tE = some o ∧ o.cls = .type "tuple" ∧ o.data = .seq its n ∧ its.size ≤ sizeLine ∧ Vals exV its.toList)
    : ∃ fd : FuncData, (∀ (s : Shared) (v : Value), BindsTo s fd ⟨[v], []⟩ [("_law_script", v)]) ∧ ∀ base : Heap, K.In base → base.Ns mainGlobals mg → FnG l.prog w K mg base CX0 9 fa fd ["_law_script"] (spLaw K) := by
  have e := hfa.symm.trans (PySem.W.mg_of X G a_law)
  cases e
  have b__law_roll := F__law_roll.binds (ps := ["_law_dice_here", "_law_total"]) fun _ _ _ _ _ _ us hl => match us, hl with | [_, _], _ => rfl
  have b__law_one_of := F__law_one_of.binds (ps := ["_law_dice_here", "_law_items"]) fun _ _ _ _ _ _ us hl => match us, hl with | [_, _], _ => rfl
  have b_is_exchange := F_is_exchange.binds (ps := ["word"]) fun _ _ _ _ _ _ us hl => match us, hl with | [_], _ => rfl
  have b_is_whole := F_is_whole.binds (ps := ["value"]) fun _ _ _ _ _ _ us hl => match us, hl with | [_], _ => rfl
  have b_renamed_deed := F_renamed_deed.binds (ps := ["deed", "names"]) fun _ _ _ _ _ _ us hl => match us, hl with | [_, _], _ => rfl
  have b_is_name := F_is_name.binds (ps := ["value"]) fun _ _ _ _ _ _ us hl => match us, hl with | [_], _ => rfl
  have b_are_states := F_are_states.binds (ps := ["value", "size"]) fun _ _ _ _ _ _ us hl => match us, hl with | [_, _], _ => rfl
  have b_are_transitions := F_are_transitions.binds (ps := ["value", "size", "near"]) fun _ _ _ _ _ _ us hl => match us, hl with | [_, _, _], _ => rfl
  have b_is_machine_near := F_is_machine_near.binds (ps := ["value", "near"]) fun _ _ _ _ _ _ us hl => match us, hl with | [_, _], _ => rfl
  have b_is_machine := F_is_machine.binds (ps := ["value"]) fun _ _ _ _ _ _ us hl => match us, hl with | [_], _ => rfl
  have b_check_machine := F_check_machine.binds (ps := ["machine"]) fun _ _ _ _ _ _ us hl => match us, hl with | [_], _ => rfl
  have b_channels_in := F_channels_in.binds (ps := ["network"]) fun _ _ _ _ _ _ us hl => match us, hl with | [_], _ => rfl
  have b_linked_in := F_linked_in.binds (ps := ["network", "name"]) fun _ _ _ _ _ _ us hl => match us, hl with | [_, _], _ => rfl
  have b_is_ascending := F_is_ascending.binds (ps := ["parts"]) fun _ _ _ _ _ _ us hl => match us, hl with | [_], _ => rfl
  have b_is_without_circle := F_is_without_circle.binds (ps := ["links", "names"]) fun _ _ _ _ _ _ us hl => match us, hl with | [_, _], _ => rfl
  have b_are_links := F_are_links.binds (ps := ["value", "names"]) fun _ _ _ _ _ _ us hl => match us, hl with | [_, _], _ => rfl
  have b_is_network := F_is_network.binds (ps := ["value"]) fun _ _ _ _ _ _ us hl => match us, hl with | [_], _ => rfl
  have b_names_in := F_names_in.binds (ps := ["network"]) fun _ _ _ _ _ _ us hl => match us, hl with | [_], _ => rfl
  have b_check_network := F_check_network.binds (ps := ["network"]) fun _ _ _ _ _ _ us hl => match us, hl with | [_], _ => rfl
  have b_check_name := F_check_name.binds (ps := ["network", "name"]) fun _ _ _ _ _ _ us hl => match us, hl with | [_, _], _ => rfl
  have b_ordered_link := F_ordered_link.binds (ps := ["one", "other"]) fun _ _ _ _ _ _ us hl => match us, hl with | [_, _], _ => rfl
  have b_ways_from := F_ways_from.binds (ps := ["network", "name"]) fun _ _ _ _ _ _ us hl => match us, hl with | [_, _], _ => rfl
  have b_with_neighbours_named := F_with_neighbours_named.binds (ps := ["machine", "names"]) fun _ _ _ _ _ _ us hl => match us, hl with | [_, _], _ => rfl
  have b_neighbours_in := F_neighbours_in.binds (ps := ["machine"]) fun _ _ _ _ _ _ us hl => match us, hl with | [_], _ => rfl
  have b_branch_names := F_branch_names.binds (ps := ["network", "one", "other"]) fun _ _ _ _ _ _ us hl => match us, hl with | [_, _, _], _ => rfl
  have b_check_linked := F_check_linked.binds (ps := ["network", "one", "other"]) fun _ _ _ _ _ _ us hl => match us, hl with | [_, _, _], _ => rfl
  have b_check_single := F_check_single.binds (ps := ["machine"]) fun _ _ _ _ _ _ us hl => match us, hl with | [_], _ => rfl
  have b_rest_in := F_rest_in.binds (ps := ["network", "one", "other"]) fun _ _ _ _ _ _ us hl => match us, hl with | [_, _, _], _ => rfl
  have b_with_neighbour := F_with_neighbour.binds (ps := ["machine", "name"]) fun _ _ _ _ _ _ us hl => match us, hl with | [_, _], _ => rfl
  have b_assembled := F_assembled.binds (ps := ["machines", "links"]) fun _ _ _ _ _ _ us hl => match us, hl with | [_, _], _ => rfl
  have b_is_row := F_is_row.binds (ps := ["value", "size"]) fun _ _ _ _ _ _ us hl => match us, hl with | [_, _], _ => rfl
  have b_are_names := F_are_names.binds (ps := ["value"]) fun _ _ _ _ _ _ us hl => match us, hl with | [_], _ => rfl
  have b_are_states_of := F_are_states_of.binds (ps := ["network", "value"]) fun _ _ _ _ _ _ us hl => match us, hl with | [_, _], _ => rfl
  have b_are_queues_of := F_are_queues_of.binds (ps := ["network", "value"]) fun _ _ _ _ _ _ us hl => match us, hl with | [_, _], _ => rfl
  have b_fits_network := F_fits_network.binds (ps := ["network", "value"]) fun _ _ _ _ _ _ us hl => match us, hl with | [_, _], _ => rfl
  have b_check_configuration := F_check_configuration.binds (ps := ["network", "configuration"]) fun _ _ _ _ _ _ us hl => match us, hl with | [_, _], _ => rfl
  have b__law_channels := F__law_channels.binds (ps := ["_law_net"]) fun _ _ _ _ _ _ us hl => match us, hl with | [_], _ => rfl
  have b__law_linked := F__law_linked.binds (ps := ["_law_links_here", "_law_name"]) fun _ _ _ _ _ _ us hl => match us, hl with | [_, _], _ => rfl
  have b__law_row := F__law_row.binds (ps := ["_law_dice_here", "_law_size", "_law_others"]) fun _ _ _ _ _ _ us hl => match us, hl with | [_, _, _], _ => rfl
  have b__law_made := F__law_made.binds (ps := ["_law_size", "_law_finals", "_law_rows"]) fun _ _ _ _ _ _ us hl => match us, hl with | [_, _, _], _ => rfl
  have b__law_tree := F__law_tree.binds (ps := ["_law_dice_here", "_law_names"]) fun _ _ _ _ _ _ us hl => match us, hl with | [_, _], _ => rfl
  have b__law_links := F__law_links.binds (ps := ["_law_parents"]) fun _ _ _ _ _ _ us hl => match us, hl with | [_], _ => rfl
  have b__law_words := F__law_words.binds (ps := ["_law_dice_here", "_law_total"]) fun _ _ _ _ _ _ us hl => match us, hl with | [_, _], _ => rfl
  have b__law_wild := F__law_wild.binds (ps := ["_law_dice_here", "_law_names"]) fun _ _ _ _ _ _ us hl => match us, hl with | [_, _], _ => rfl
  have b__law_members := F__law_members.binds (ps := ["_law_net", "_law_one", "_law_other"]) fun _ _ _ _ _ _ us hl => match us, hl with | [_, _, _], _ => rfl
  have b__law_put := F__law_put.binds (ps := ["_law_row_here", "_law_place", "_law_value"]) fun _ _ _ _ _ _ us hl => match us, hl with | [_, _, _], _ => rfl
  have b__law_done := F__law_done.binds (ps := ["_law_net", "_law_here", "_law_move"]) fun _ _ _ _ _ _ us hl => match us, hl with | [_, _, _], _ => rfl
  have b__law_moves := F__law_moves.binds (ps := ["_law_net", "_law_here"]) fun _ _ _ _ _ _ us hl => match us, hl with | [_, _], _ => rfl
  have b__law_joined := F__law_joined.binds (ps := ["_law_dice_here", "_law_total"]) fun _ _ _ _ _ _ us hl => match us, hl with | [_, _], _ => rfl
  have b__law_single := F__law_single.binds (ps := ["_law_dice_here", "_law_other"]) fun _ _ _ _ _ _ us hl => match us, hl with | [_, _], _ => rfl
  have b_with_branch := F_with_branch.binds (ps := ["network", "one", "other", "machine"]) fun _ _ _ _ _ _ us hl => match us, hl with | [_, _, _, _], _ => rfl
  have b__law_replaced := F__law_replaced.binds (ps := ["_law_net", "_law_one", "_law_other", "_law_machine"]) fun _ _ _ _ _ _ us hl => match us, hl with | [_, _, _, _], _ => rfl
  have b__law_run := F__law_run.binds (ps := ["_law_dice_here", "_law_net", "_law_here", "_law_total"]) fun _ _ _ _ _ _ us hl => match us, hl with | [_, _, _, _], _ => rfl
  have b__law_first := F__law_first.binds (ps := ["_law_net"]) fun _ _ _ _ _ _ us hl => match us, hl with | [_], _ => rfl
  have b__law_any := F__law_any.binds (ps := ["_law_dice_here", "_law_net"]) fun _ _ _ _ _ _ us hl => match us, hl with | [_, _], _ => rfl
  have b_rest_of := F_rest_of.binds (ps := ["network", "one", "other", "configuration"]) fun _ _ _ _ _ _ us hl => match us, hl with | [_, _, _, _], _ => rfl
  have b__law_rest := F__law_rest.binds (ps := ["_law_net", "_law_one", "_law_other", "_law_here"]) fun _ _ _ _ _ _ us hl => match us, hl with | [_, _, _, _], _ => rfl
  have b__law_dice := F__law_dice.binds (ps := ["_law_script", "_law_at"]) fun _ _ _ _ _ _ us hl => match us, hl with | [_, _], _ => rfl
  have b__law_right := F__law_right.binds (ps := ["_law_dice_here"]) fun _ _ _ _ _ _ us hl => match us, hl with | [_], _ => rfl
  have b_law := F_law.binds (ps := ["_law_script"]) fun _ _ _ _ _ _ us hl => match us, hl with | [_], _ => rfl
  have g__law_roll := PySem.W.mg_of X G a__law_roll
  have g__law_one_of := PySem.W.mg_of X G a__law_one_of
  have g_is_exchange := PySem.W.mg_of X G a_is_exchange
  have g_is_whole := PySem.W.mg_of X G a_is_whole
  have g_renamed_deed := PySem.W.mg_of X G a_renamed_deed
  have g_is_name := PySem.W.mg_of X G a_is_name
  have g_are_states := PySem.W.mg_of X G a_are_states
  have g_are_transitions := PySem.W.mg_of X G a_are_transitions
  have g_is_machine_near := PySem.W.mg_of X G a_is_machine_near
  have g_is_machine := PySem.W.mg_of X G a_is_machine
  have g_check_machine := PySem.W.mg_of X G a_check_machine
  have g_channels_in := PySem.W.mg_of X G a_channels_in
  have g_linked_in := PySem.W.mg_of X G a_linked_in
  have g_is_ascending := PySem.W.mg_of X G a_is_ascending
  have g_is_without_circle := PySem.W.mg_of X G a_is_without_circle
  have g_are_links := PySem.W.mg_of X G a_are_links
  have g_is_network := PySem.W.mg_of X G a_is_network
  have g_names_in := PySem.W.mg_of X G a_names_in
  have g_check_network := PySem.W.mg_of X G a_check_network
  have g_check_name := PySem.W.mg_of X G a_check_name
  have g_ordered_link := PySem.W.mg_of X G a_ordered_link
  have g_ways_from := PySem.W.mg_of X G a_ways_from
  have g_with_neighbours_named := PySem.W.mg_of X G a_with_neighbours_named
  have g_neighbours_in := PySem.W.mg_of X G a_neighbours_in
  have g_branch_names := PySem.W.mg_of X G a_branch_names
  have g_check_linked := PySem.W.mg_of X G a_check_linked
  have g_check_single := PySem.W.mg_of X G a_check_single
  have g_rest_in := PySem.W.mg_of X G a_rest_in
  have g_with_neighbour := PySem.W.mg_of X G a_with_neighbour
  have g_assembled := PySem.W.mg_of X G a_assembled
  have g_is_row := PySem.W.mg_of X G a_is_row
  have g_are_names := PySem.W.mg_of X G a_are_names
  have g_are_states_of := PySem.W.mg_of X G a_are_states_of
  have g_are_queues_of := PySem.W.mg_of X G a_are_queues_of
  have g_fits_network := PySem.W.mg_of X G a_fits_network
  have g_check_configuration := PySem.W.mg_of X G a_check_configuration
  have g__law_channels := PySem.W.mg_of X G a__law_channels
  have g__law_linked := PySem.W.mg_of X G a__law_linked
  have g__law_row := PySem.W.mg_of X G a__law_row
  have g__law_made := PySem.W.mg_of X G a__law_made
  have g__law_tree := PySem.W.mg_of X G a__law_tree
  have g__law_links := PySem.W.mg_of X G a__law_links
  have g__law_words := PySem.W.mg_of X G a__law_words
  have g__law_wild := PySem.W.mg_of X G a__law_wild
  have g__law_members := PySem.W.mg_of X G a__law_members
  have g__law_put := PySem.W.mg_of X G a__law_put
  have g__law_done := PySem.W.mg_of X G a__law_done
  have g__law_moves := PySem.W.mg_of X G a__law_moves
  have g__law_joined := PySem.W.mg_of X G a__law_joined
  have g__law_single := PySem.W.mg_of X G a__law_single
  have g_with_branch := PySem.W.mg_of X G a_with_branch
  have g__law_replaced := PySem.W.mg_of X G a__law_replaced
  have g__law_run := PySem.W.mg_of X G a__law_run
  have g__law_first := PySem.W.mg_of X G a__law_first
  have g__law_any := PySem.W.mg_of X G a__law_any
  have g_rest_of := PySem.W.mg_of X G a_rest_of
  have g__law_rest := PySem.W.mg_of X G a__law_rest
  have g__law_dice := PySem.W.mg_of X G a__law_dice
  have g__law_right := PySem.W.mg_of X G a__law_right
  have g_law := PySem.W.mg_of X G a_law
  have gcM := PySem.W.mg_of X G acM
  have gE := PySem.W.mg_of X G aE
  have gLN := PySem.W.mg_of X G aLN
  have gMS := PySem.W.mg_of X G aMS
  have gMT := PySem.W.mg_of X G aMT
  have gMM := PySem.W.mg_of X G aMM
  have n_abs := PySem.W.mg_none_of X G z_abs
  have n_all := PySem.W.mg_none_of X G z_all
  have n_bool := PySem.W.mg_none_of X G z_bool
  have n_dict := PySem.W.mg_none_of X G z_dict
  have n_enumerate := PySem.W.mg_none_of X G z_enumerate
  have n_int := PySem.W.mg_none_of X G z_int
  have n_isinstance := PySem.W.mg_none_of X G z_isinstance
  have n_len := PySem.W.mg_none_of X G z_len
  have n_list := PySem.W.mg_none_of X G z_list
  have n_max := PySem.W.mg_none_of X G z_max
  have n_min := PySem.W.mg_none_of X G z_min
  have n_range := PySem.W.mg_none_of X G z_range
  have n_repr := PySem.W.mg_none_of X G z_repr
  have n_set := PySem.W.mg_none_of X G z_set
  have n_sorted := PySem.W.mg_none_of X G z_sorted
  have n_str := PySem.W.mg_none_of X G z_str
  have n_tuple := PySem.W.mg_none_of X G z_tuple
  have n_type := PySem.W.mg_none_of X G z_type
  have n_zip := PySem.W.mg_none_of X G z_zip
  have T_TxtD : TxtD mg := ⟨n_len, n_abs, n_int, n_enumerate⟩
  have T_TxtW : TxtW K mg f__law_roll d__law_roll := ⟨F__law_roll, b__law_roll, g__law_roll, n_range⟩
  have T_TxtR : TxtR K mg f__law_roll f__law_one_of d__law_roll d__law_one_of := ⟨F__law_roll, b__law_roll, g__law_roll, F__law_one_of, b__law_one_of, g__law_one_of⟩
  have T_TxtS : TxtS mg := ⟨n_set, n_sorted, n_tuple⟩
  have T_TxtE : TxtE K mg tE := ⟨gE, eE⟩
  have T_TxtX : TxtX K mg f_is_exchange d_is_exchange := ⟨⟨tE, gE, eE⟩, F_is_exchange, b_is_exchange, g_is_exchange⟩
  have T_TxtI : TxtI K mg f_is_whole f_is_whole d_is_whole d_is_whole := ⟨n_isinstance, n_int, n_bool, F_is_whole, b_is_whole, g_is_whole⟩
  have T_TxtNm : TxtNm K mg := ⟨n_isinstance, n_str, n_len, n_tuple, ⟨_, gLN⟩⟩
  have T_TxtD3 : TxtD3 K mg f_renamed_deed d_renamed_deed := ⟨F_renamed_deed, b_renamed_deed, g_renamed_deed⟩
  have T_TxtT : TxtT K mg f_is_name d_is_name := ⟨n_type, ⟨tE, gE, eE⟩, F_is_name, b_is_name, g_is_name⟩
  have T_TxtM : TxtM K mg f_are_states f_are_transitions f_is_machine_near f_is_machine f_check_machine cM d_are_states d_are_transitions d_is_machine_near d_is_machine d_check_machine := ⟨⟨_, gMS⟩, ⟨_, gMT⟩, F_are_states, b_are_states, g_are_states, F_are_transitions, b_are_transitions, g_are_transitions, F_is_machine_near, b_is_machine_near, g_is_machine_near, F_is_machine, b_is_machine, g_is_machine, F_check_machine, b_check_machine, g_check_machine, ckM, iniM, tyM, gcM⟩
  have T_TxtC : TxtC K mg f_channels_in d_channels_in := ⟨F_channels_in, b_channels_in, g_channels_in⟩
  have T_TxtL : TxtL K mg f_linked_in d_linked_in := ⟨F_linked_in, b_linked_in, g_linked_in⟩
  have T_TxtA : TxtA K mg f_is_ascending f_is_without_circle d_is_ascending d_is_without_circle := ⟨n_range, F_is_ascending, b_is_ascending, g_is_ascending, F_is_without_circle, b_is_without_circle, g_is_without_circle⟩
  have T_TxtN : TxtN K mg f_are_links f_is_network d_are_links d_is_network := ⟨⟨_, gMM⟩, F_are_links, b_are_links, g_are_links, F_is_network, b_is_network, g_is_network⟩
  have T_TxtCk : TxtCk K mg f_names_in f_check_network f_check_name f_ordered_link d_names_in d_check_network d_check_name d_ordered_link := ⟨F_names_in, b_names_in, g_names_in, F_check_network, b_check_network, g_check_network, F_check_name, b_check_name, g_check_name, F_ordered_link, b_ordered_link, g_ordered_link⟩
  have T_TxtWF : TxtWF K mg f_ways_from d_ways_from := ⟨n_list, F_ways_from, b_ways_from, g_ways_from⟩
  have T_TxtWN : TxtWN K mg f_with_neighbours_named f_neighbours_in d_with_neighbours_named d_neighbours_in := ⟨F_with_neighbours_named, b_with_neighbours_named, g_with_neighbours_named, F_neighbours_in, b_neighbours_in, g_neighbours_in⟩
  have T_TxtBN : TxtBN K mg f_branch_names d_branch_names := ⟨F_branch_names, b_branch_names, g_branch_names⟩
  have T_TxtWB : TxtWB K mg f_check_linked f_check_single f_rest_in f_with_neighbour f_assembled d_check_linked d_check_single d_rest_in d_with_neighbour d_assembled := ⟨n_dict, F_check_linked, b_check_linked, g_check_linked, F_check_single, b_check_single, g_check_single, F_rest_in, b_rest_in, g_rest_in, F_with_neighbour, b_with_neighbour, g_with_neighbour, F_assembled, b_assembled, g_assembled⟩
  have T_TxtRw : TxtRw K mg f_is_row d_is_row := ⟨n_zip, n_all, F_is_row, b_is_row, g_is_row⟩
  have T_TxtFN : TxtFN K mg f_are_names f_are_states_of f_are_queues_of f_fits_network d_are_names d_are_states_of d_are_queues_of d_fits_network := ⟨F_are_names, b_are_names, g_are_names, F_are_states_of, b_are_states_of, g_are_states_of, F_are_queues_of, b_are_queues_of, g_are_queues_of, F_fits_network, b_fits_network, g_fits_network⟩
  have T_TxtRO : TxtRO K mg f_check_linked f_check_configuration d_check_linked d_check_configuration := ⟨F_check_linked, b_check_linked, g_check_linked, F_check_configuration, b_check_configuration, g_check_configuration⟩
  have T_TxtMm : TxtMm mg := ⟨n_min, n_max⟩
  have T_TxtLC : TxtLC K mg f__law_channels d__law_channels := ⟨n_len, F__law_channels, b__law_channels, g__law_channels⟩
  have T_TxtLk : TxtLk K mg f__law_linked d__law_linked := ⟨F__law_linked, b__law_linked, g__law_linked⟩
  have T_TxtMk : TxtMk K mg f__law_row f__law_made d__law_row d__law_made := ⟨n_range, F__law_row, b__law_row, g__law_row, F__law_made, b__law_made, g__law_made⟩
  have T_TxtWl : TxtWl K mg f__law_tree f__law_links f__law_linked d__law_tree d__law_links d__law_linked := ⟨F__law_tree, b__law_tree, g__law_tree, F__law_links, b__law_links, g__law_links⟩
  have T_TxtJn : TxtJn K mg f__law_words f__law_wild d__law_words d__law_wild := ⟨F__law_words, b__law_words, g__law_words, F__law_wild, b__law_wild, g__law_wild⟩
  have T_TxtMb : TxtMb K mg f__law_members d__law_members := ⟨F__law_members, b__law_members, g__law_members⟩
  have T_TxtPt : TxtPt K mg f__law_put d__law_put := ⟨F__law_put, b__law_put, g__law_put⟩
  have T_TxtDn : TxtDn K mg f__law_done d__law_done := ⟨F__law_done, b__law_done, g__law_done⟩
  have T_TxtMvs : TxtMvs K mg f__law_moves d__law_moves := ⟨F__law_moves, b__law_moves, g__law_moves⟩
  have T_TxtRt : TxtRt K mg f__law_joined f__law_single f__law_one_of f_with_branch f__law_replaced f__law_members f__law_run f__law_first f__law_any f_rest_of f__law_rest d__law_joined d__law_single d__law_one_of d_with_branch d__law_replaced d__law_members d__law_run d__law_first d__law_any d_rest_of d__law_rest := ⟨⟨F__law_joined, b__law_joined, g__law_joined⟩, ⟨F__law_single, b__law_single, g__law_single⟩, ⟨F__law_one_of, b__law_one_of, g__law_one_of⟩, ⟨F_with_branch, b_with_branch, g_with_branch⟩, ⟨F__law_replaced, b__law_replaced, g__law_replaced⟩, ⟨F__law_members, b__law_members, g__law_members⟩, ⟨F__law_run, b__law_run, g__law_run⟩, ⟨F__law_first, b__law_first, g__law_first⟩, ⟨F__law_any, b__law_any, g__law_any⟩, ⟨F_rest_of, b_rest_of, g_rest_of⟩, ⟨F__law_rest, b__law_rest, g__law_rest⟩, n_repr, n_dict, n_list, n_range⟩
  have T_TxtLw : TxtLw K mg f__law_dice f__law_right d__law_dice d__law_right := ⟨⟨F__law_dice, b__law_dice, g__law_dice⟩, ⟨F__law_right, b__law_right, g__law_right⟩, n_max, n_min, n_range⟩
  refine ⟨d_law, ?_, fun base _ _ => ?_⟩
  · obtain ⟨oc, od, kV, doc, pm, an, cdv, ct, osl, rfl, _, _⟩ := F_law.ex
    exact fun s v => .of_eq rfl
  · have GJ : FnOk l.prog w K mg base CX0 5 f__law_joined d__law_joined ["_law_dice_here", "_law_total"] spJn := ok_Jn F__law_joined T_TxtR T_TxtD T_TxtS T_TxtMm T_TxtMk T_TxtWl T_TxtLk T_TxtJn
    have GS : FnOk l.prog w K mg base CX0 4 f__law_single d__law_single ["_law_dice_here", "_law_other"] spSgl := ok_Sgl F__law_single T_TxtR T_TxtD T_TxtS T_TxtMk
    have GO : FnOk l.prog w K mg base CX0 2 f__law_one_of d__law_one_of ["_law_dice_here", "_law_items"] spOneOf := ok_oneOf F__law_one_of F__law_roll b__law_roll g__law_roll T_TxtD
    have GW : FnOk l.prog w K mg base CX0 7 f_with_branch d_with_branch ["network", "one", "other", "machine"] spWB := ok_WB F_with_branch T_TxtS T_TxtI T_TxtNm T_TxtT T_TxtM T_TxtA T_TxtN T_TxtCk T_TxtC T_TxtL T_TxtWF T_TxtBN T_TxtX T_TxtD3 T_TxtWN T_TxtWB
    have GP : FnOk l.prog w K mg base CX0 7 f__law_replaced d__law_replaced ["_law_net", "_law_one", "_law_other", "_law_machine"] spWB := ok_Rp (k := 4) F__law_replaced T_TxtS T_TxtMm T_TxtLk T_TxtMb
    have GM : FnOk l.prog w K mg base CX0 7 f__law_members d__law_members ["_law_net", "_law_one", "_law_other"] spMem := ok_Mem (k := 5) F__law_members T_TxtS T_TxtLk
    have GR : FnOk l.prog w K mg base CX0 7 f__law_run d__law_run ["_law_dice_here", "_law_net", "_law_here", "_law_total"] spRn := ok_Rn (k := 3) F__law_run T_TxtR T_TxtD T_TxtS n_range T_TxtLC T_TxtPt T_TxtDn T_TxtMvs
    have GF : FnOk l.prog w K mg base CX0 7 f__law_first d__law_first ["_law_net"] spFst := ok_Fst (k := 5) F__law_first T_TxtS T_TxtLC
    have GA : FnOk l.prog w K mg base CX0 7 f__law_any d__law_any ["_law_dice_here", "_law_net"] spAny := ok_Any (k := 4) F__law_any T_TxtR T_TxtD T_TxtS n_range T_TxtLC
    have GX : FnOk l.prog w K mg base CX0 7 f_rest_of d_rest_of ["network", "one", "other", "configuration"] spRO := ok_RO F_rest_of T_TxtS T_TxtI T_TxtNm T_TxtT T_TxtM T_TxtA T_TxtN T_TxtCk T_TxtC T_TxtL T_TxtWF T_TxtBN T_TxtRw T_TxtFN T_TxtRO
    have GY : FnOk l.prog w K mg base CX0 7 f__law_rest d__law_rest ["_law_net", "_law_one", "_law_other", "_law_here"] spRO := ok_Rs (k := 4) F__law_rest T_TxtS n_zip T_TxtLk T_TxtMb T_TxtLC
    exact ok_Law (k := 0) F_law T_TxtLw T_TxtD (ok_Rt (k := 0) F__law_right T_TxtRt GJ GS GO GW GP GM GR GF GA GX GY)
end K55
set_option maxHeartbeats 0
open PySem PySem.W PyProof.Rows
open_top hd for PySem.Challenge.rw_halflink_k55_rests
theorem PySem.Challenge.cw_halflink_k55_rests_holds : PySem.Challenge.rw_halflink_k55_rests.Holds :=
  hd (by
  k_fill
  refine GL.walk_ofG (l := PySem.Challenge.rw_halflink_k55_rests) (n := 63) (k := 9) (x := "_law_script") (sp := K55.spLaw) rfl (by decide) rfl ⟨rfl, by decide, by decide⟩ (fun w h Y => PySem.W.kIn_of Y) ?F (fun K H a ns hl hS => ⟨a, ns, rfl, hS, hl, fun _ => rfl⟩)
  case F =>
    intro w mg fa h KX G hmg
    refine' K55.all_mk KX G hmg ?a__law_roll ?a__law_one_of ?a_is_exchange ?a_is_whole ?a_renamed_deed ?a_is_name ?a_are_states ?a_are_transitions ?a_is_machine_near ?a_is_machine ?a_check_machine ?a_channels_in ?a_linked_in ?a_is_ascending ?a_is_without_circle ?a_are_links ?a_is_network ?a_names_in ?a_check_network ?a_check_name ?a_ordered_link ?a_ways_from ?a_with_neighbours_named ?a_neighbours_in ?a_branch_names ?a_check_linked ?a_check_single ?a_rest_in ?a_with_neighbour ?a_assembled ?a_is_row ?a_are_names ?a_are_states_of ?a_are_queues_of ?a_fits_network ?a_check_configuration ?a__law_channels ?a__law_linked ?a__law_row ?a__law_made ?a__law_tree ?a__law_links ?a__law_words ?a__law_wild ?a__law_members ?a__law_put ?a__law_done ?a__law_moves ?a__law_joined ?a__law_single ?a_with_branch ?a__law_replaced ?a__law_run ?a__law_first ?a__law_any ?a_rest_of ?a__law_rest ?a__law_dice ?a__law_right ?a_law ?acM ?aE ?aLN ?aMS ?aMT ?aMM ?z_abs ?z_all ?z_bool ?z_dict ?z_enumerate ?z_int ?z_isinstance ?z_len ?z_list ?z_max ?z_min ?z_range ?z_repr ?z_set ?z_sorted ?z_str ?z_tuple ?z_type ?z_zip ?F__law_roll ?F__law_one_of ?F_is_exchange ?F_is_whole ?F_renamed_deed ?F_is_name ?F_are_states ?F_are_transitions ?F_is_machine_near ?F_is_machine ?F_check_machine ?F_channels_in ?F_linked_in ?F_is_ascending ?F_is_without_circle ?F_are_links ?F_is_network ?F_names_in ?F_check_network ?F_check_name ?F_ordered_link ?F_ways_from ?F_with_neighbours_named ?F_neighbours_in ?F_branch_names ?F_check_linked ?F_check_single ?F_rest_in ?F_with_neighbour ?F_assembled ?F_is_row ?F_are_names ?F_are_states_of ?F_are_queues_of ?F_fits_network ?F_check_configuration ?F__law_channels ?F__law_linked ?F__law_row ?F__law_made ?F__law_tree ?F__law_links ?F__law_words ?F__law_wild ?F__law_members ?F__law_put ?F__law_done ?F__law_moves ?F__law_joined ?F__law_single ?F_with_branch ?F__law_replaced ?F__law_run ?F__law_first ?F__law_any ?F_rest_of ?F__law_rest ?F__law_dice ?F__law_right ?F_law ?ckM ?tyM ?iniM ?eE
    (case a__law_roll => k_is)
    (case a__law_one_of => k_is)
    (case a_is_exchange => k_is)
    (case a_is_whole => k_is)
    (case a_renamed_deed => k_is)
    (case a_is_name => k_is)
    (case a_are_states => k_is)
    (case a_are_transitions => k_is)
    (case a_is_machine_near => k_is)
    (case a_is_machine => k_is)
    (case a_check_machine => k_is)
    (case a_channels_in => k_is)
    (case a_linked_in => k_is)
    (case a_is_ascending => k_is)
    (case a_is_without_circle => k_is)
    (case a_are_links => k_is)
    (case a_is_network => k_is)
    (case a_names_in => k_is)
    (case a_check_network => k_is)
    (case a_check_name => k_is)
    (case a_ordered_link => k_is)
    (case a_ways_from => k_is)
    (case a_with_neighbours_named => k_is)
    (case a_neighbours_in => k_is)
    (case a_branch_names => k_is)
    (case a_check_linked => k_is)
    (case a_check_single => k_is)
    (case a_rest_in => k_is)
    (case a_with_neighbour => k_is)
    (case a_assembled => k_is)
    (case a_is_row => k_is)
    (case a_are_names => k_is)
    (case a_are_states_of => k_is)
    (case a_are_queues_of => k_is)
    (case a_fits_network => k_is)
    (case a_check_configuration => k_is)
    (case a__law_channels => k_is)
    (case a__law_linked => k_is)
    (case a__law_row => k_is)
    (case a__law_made => k_is)
    (case a__law_tree => k_is)
    (case a__law_links => k_is)
    (case a__law_words => k_is)
    (case a__law_wild => k_is)
    (case a__law_members => k_is)
    (case a__law_put => k_is)
    (case a__law_done => k_is)
    (case a__law_moves => k_is)
    (case a__law_joined => k_is)
    (case a__law_single => k_is)
    (case a_with_branch => k_is)
    (case a__law_replaced => k_is)
    (case a__law_run => k_is)
    (case a__law_first => k_is)
    (case a__law_any => k_is)
    (case a_rest_of => k_is)
    (case a__law_rest => k_is)
    (case a__law_dice => k_is)
    (case a__law_right => k_is)
    (case a_law => k_is)
    (case acM => k_is)
    (case aE => k_is)
    (case aLN => k_is)
    (case aMS => k_is)
    (case aMT => k_is)
    (case aMM => k_is)
    (case z_abs => k_is)
    (case z_all => k_is)
    (case z_bool => k_is)
    (case z_dict => k_is)
    (case z_enumerate => k_is)
    (case z_int => k_is)
    (case z_isinstance => k_is)
    (case z_len => k_is)
    (case z_list => k_is)
    (case z_max => k_is)
    (case z_min => k_is)
    (case z_range => k_is)
    (case z_repr => k_is)
    (case z_set => k_is)
    (case z_sorted => k_is)
    (case z_str => k_is)
    (case z_tuple => k_is)
    (case z_type => k_is)
    (case z_zip => k_is)
    (case F__law_roll => refine' L2.fun_mk ?l ?c ?k; (case l => k_is); (case c => k_is); (case k => k_is))
    (case F__law_one_of => refine' L2.fun_mk ?l ?c ?k; (case l => k_is); (case c => k_is); (case k => k_is))
    (case F_is_exchange => refine' L2.fun_mk ?l ?c ?k; (case l => k_is); (case c => k_is); (case k => k_is))
    (case F_is_whole => refine' L2.fun_mk ?l ?c ?k; (case l => k_is); (case c => k_is); (case k => k_is))
    (case F_renamed_deed => refine' L2.fun_mk ?l ?c ?k; (case l => k_is); (case c => k_is); (case k => k_is))
    (case F_is_name => refine' L2.fun_mk ?l ?c ?k; (case l => k_is); (case c => k_is); (case k => k_is))
    (case F_are_states => refine' L2.fun_mk ?l ?c ?k; (case l => k_is); (case c => k_is); (case k => k_is))
    (case F_are_transitions => refine' L2.fun_mk ?l ?c ?k; (case l => k_is); (case c => k_is); (case k => k_is))
    (case F_is_machine_near => refine' L2.fun_mk ?l ?c ?k; (case l => k_is); (case c => k_is); (case k => k_is))
    (case F_is_machine => refine' L2.fun_mk ?l ?c ?k; (case l => k_is); (case c => k_is); (case k => k_is))
    (case F_check_machine => refine' L2.fun_mk ?l ?c ?k; (case l => k_is); (case c => k_is); (case k => k_is))
    (case F_channels_in => refine' L2.fun_mk ?l ?c ?k; (case l => k_is); (case c => k_is); (case k => k_is))
    (case F_linked_in => refine' L2.fun_mk ?l ?c ?k; (case l => k_is); (case c => k_is); (case k => k_is))
    (case F_is_ascending => refine' L2.fun_mk ?l ?c ?k; (case l => k_is); (case c => k_is); (case k => k_is))
    (case F_is_without_circle => refine' L2.fun_mk ?l ?c ?k; (case l => k_is); (case c => k_is); (case k => k_is))
    (case F_are_links => refine' L2.fun_mk ?l ?c ?k; (case l => k_is); (case c => k_is); (case k => k_is))
    (case F_is_network => refine' L2.fun_mk ?l ?c ?k; (case l => k_is); (case c => k_is); (case k => k_is))
    (case F_names_in => refine' L2.fun_mk ?l ?c ?k; (case l => k_is); (case c => k_is); (case k => k_is))
    (case F_check_network => refine' L2.fun_mk ?l ?c ?k; (case l => k_is); (case c => k_is); (case k => k_is))
    (case F_check_name => refine' L2.fun_mk ?l ?c ?k; (case l => k_is); (case c => k_is); (case k => k_is))
    (case F_ordered_link => refine' L2.fun_mk ?l ?c ?k; (case l => k_is); (case c => k_is); (case k => k_is))
    (case F_ways_from => refine' L2.fun_mk ?l ?c ?k; (case l => k_is); (case c => k_is); (case k => k_is))
    (case F_with_neighbours_named => refine' L2.fun_mk ?l ?c ?k; (case l => k_is); (case c => k_is); (case k => k_is))
    (case F_neighbours_in => refine' L2.fun_mk ?l ?c ?k; (case l => k_is); (case c => k_is); (case k => k_is))
    (case F_branch_names => refine' L2.fun_mk ?l ?c ?k; (case l => k_is); (case c => k_is); (case k => k_is))
    (case F_check_linked => refine' L2.fun_mk ?l ?c ?k; (case l => k_is); (case c => k_is); (case k => k_is))
    (case F_check_single => refine' L2.fun_mk ?l ?c ?k; (case l => k_is); (case c => k_is); (case k => k_is))
    (case F_rest_in => refine' L2.fun_mk ?l ?c ?k; (case l => k_is); (case c => k_is); (case k => k_is))
    (case F_with_neighbour => refine' L2.fun_mk ?l ?c ?k; (case l => k_is); (case c => k_is); (case k => k_is))
    (case F_assembled => refine' L2.fun_mk ?l ?c ?k; (case l => k_is); (case c => k_is); (case k => k_is))
    (case F_is_row => refine' L2.fun_mk ?l ?c ?k; (case l => k_is); (case c => k_is); (case k => k_is))
    (case F_are_names => refine' L2.fun_mk ?l ?c ?k; (case l => k_is); (case c => k_is); (case k => k_is))
    (case F_are_states_of => refine' L2.fun_mk ?l ?c ?k; (case l => k_is); (case c => k_is); (case k => k_is))
    (case F_are_queues_of => refine' L2.fun_mk ?l ?c ?k; (case l => k_is); (case c => k_is); (case k => k_is))
    (case F_fits_network => refine' L2.fun_mk ?l ?c ?k; (case l => k_is); (case c => k_is); (case k => k_is))
    (case F_check_configuration => refine' L2.fun_mk ?l ?c ?k; (case l => k_is); (case c => k_is); (case k => k_is))
    (case F__law_channels => refine' L2.fun_mk ?l ?c ?k; (case l => k_is); (case c => k_is); (case k => k_is))
    (case F__law_linked => refine' L2.fun_mk ?l ?c ?k; (case l => k_is); (case c => k_is); (case k => k_is))
    (case F__law_row => refine' L2.fun_mk ?l ?c ?k; (case l => k_is); (case c => k_is); (case k => k_is))
    (case F__law_made => refine' L2.fun_mk ?l ?c ?k; (case l => k_is); (case c => k_is); (case k => k_is))
    (case F__law_tree => refine' L2.fun_mk ?l ?c ?k; (case l => k_is); (case c => k_is); (case k => k_is))
    (case F__law_links => refine' L2.fun_mk ?l ?c ?k; (case l => k_is); (case c => k_is); (case k => k_is))
    (case F__law_words => refine' L2.fun_mk ?l ?c ?k; (case l => k_is); (case c => k_is); (case k => k_is))
    (case F__law_wild => refine' L2.fun_mk ?l ?c ?k; (case l => k_is); (case c => k_is); (case k => k_is))
    (case F__law_members => refine' L2.fun_mk ?l ?c ?k; (case l => k_is); (case c => k_is); (case k => k_is))
    (case F__law_put => refine' L2.fun_mk ?l ?c ?k; (case l => k_is); (case c => k_is); (case k => k_is))
    (case F__law_done => refine' L2.fun_mk ?l ?c ?k; (case l => k_is); (case c => k_is); (case k => k_is))
    (case F__law_moves => refine' L2.fun_mk ?l ?c ?k; (case l => k_is); (case c => k_is); (case k => k_is))
    (case F__law_joined => refine' L2.fun_mk ?l ?c ?k; (case l => k_is); (case c => k_is); (case k => k_is))
    (case F__law_single => refine' L2.fun_mk ?l ?c ?k; (case l => k_is); (case c => k_is); (case k => k_is))
    (case F_with_branch => refine' L2.fun_mk ?l ?c ?k; (case l => k_is); (case c => k_is); (case k => k_is))
    (case F__law_replaced => refine' L2.fun_mk ?l ?c ?k; (case l => k_is); (case c => k_is); (case k => k_is))
    (case F__law_run => refine' L2.fun_mk ?l ?c ?k; (case l => k_is); (case c => k_is); (case k => k_is))
    (case F__law_first => refine' L2.fun_mk ?l ?c ?k; (case l => k_is); (case c => k_is); (case k => k_is))
    (case F__law_any => refine' L2.fun_mk ?l ?c ?k; (case l => k_is); (case c => k_is); (case k => k_is))
    (case F_rest_of => refine' L2.fun_mk ?l ?c ?k; (case l => k_is); (case c => k_is); (case k => k_is))
    (case F__law_rest => refine' L2.fun_mk ?l ?c ?k; (case l => k_is); (case c => k_is); (case k => k_is))
    (case F__law_dice => refine' L2.fun_mk ?l ?c ?k; (case l => k_is); (case c => k_is); (case k => k_is))
    (case F__law_right => refine' L2.fun_mk ?l ?c ?k; (case l => k_is); (case c => k_is); (case k => k_is))
    (case F_law => refine' L2.fun_mk ?l ?c ?k; (case l => k_is); (case c => k_is); (case k => k_is))
    (case ckM => refine' ⟨?m1, ?m2, ?m3, ?m4, ?m5, ?m6, ?m7, ?m8⟩; (case m1 => kx_is); (case m2 => k_is); (case m3 => k_is); (case m4 => k_is); (case m5 => k_is); (case m6 => k_is); (case m7 => k_is); (case m8 => k_is))
    (case tyM => k_is)
    (case iniM => k_is)
    (case eE => refine' K55.txtE_s ?l; (case l => k_is)))
