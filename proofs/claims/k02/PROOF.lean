import PyProof.Rows.All
import Wide.All
import OpenK.AllK
import Wide.FinOn
import HandS.Base
import HandS.Call
import HandS.Codes
import HandS.Comp
import HandS.EndTab
import HandS.Ends
import HandS.Exc
import HandS.ExcField
import HandS.ExcInit
import HandS.ExcOwn
import HandS.ExcValue
import HandS.IsInst
import HandS.Iter
import HandS.Lambda
import HandS.List
import HandS.RaiseMore
import HandS.SetBool
import HandS.SetFor
import HandS.StrMore
import HandS.Strs
import HandS.Style
import HandS.Text
import HandS.TryMany
import HandS.TupAny
import HandS.TupSets
import HandS.Walk
import HandS.Wide
import HandS.Words
import HandS.WordsExc
import HandS.WordsList
import HandS.Zip0
import KE.GoesMore
import KE.KExcInit
import KE.KExcIs
import KE.KExcLine
import KE.KExcStr
import KE.KIsAll
import KE.KNestM
import KE.KeyNested
import KE.LtData
import KE.RegKIsAll
import KE.RegKTryMore
import KE.SortData
import PyProof.ExcClass
import PyProof.FactsTree
import PyProof.NeKinds
import PyProof.ReprLen
import PyProof.ReprRoads
import PyProof.Rows.RuleB_pow
import PyProof.RulesRaise
import PySem.Challenge.RW_halflink_k02_letters_and_neighbours
set_option Elab.async false
set_option linter.all false
set_option maxRecDepth 100000
set_option maxHeartbeats 8000000
/-! The layer with one thing more: no repr of a container is under way where a def is entered (so repr itself can be told). -/
namespace GL
open PySem PySem.Spec PyProof.Rows L2
/-- a def's promise where no repr is under way -/
structure FnG (P : Program) (w : World) (K : PySem.W.Frag) (mg : Str → Option Value) (base : Heap) (CX : CXT) (k : Nat) (f : Addr) (fd : FuncData) (ps : List Str) (sp : Sp) : Prop where
  len : ∀ vs H Q E, sp vs H Q E → vs.length = ps.length
  run : ∀ (A : Around) (outer : List Env) (s : Shared) (H : Hp) (args : Args) (us : List Value) (vs : List V) (Q : VK) (E : XK),
    A.guards = some [] → Room k A → Env0 P w K mg base A outer s H → BindsTo s fd args (ps.zip us) → Vals vs us → sp vs H Q E → codeAny (model P w) A (.call (.ref f) args) (CR CX outer P w H s Q E) s
section
variable {P : Program} {w : World} {K : PySem.W.Frag} {mg : Str → Option Value} {base : Heap} {CX : CXT} {k : Nat} {f : Addr} {fd : FuncData} {ps : List Str} {sp : Sp}
theorem FnG.ofOk (F : FnOk P w K mg base CX k f fd ps sp) : FnG P w K mg base CX k f fd ps sp := ⟨F.len, fun A outer s H args us vs Q E _ => F.run A outer s H args us vs Q E⟩
theorem FnG.mono {j : Nat} (F : FnG P w K mg base CX j f fd ps sp) (h : j ≤ k) : FnG P w K mg base CX k f fd ps sp := ⟨F.len, fun A outer s H args us vs Q E hg hr => F.run A outer s H args us vs Q E hg (hr.mono h)⟩
/-- a def of the text, by its body's reading; hgd: no repr is under way in the body -/
theorem fnG_of {name qual : Str} {st : Stmt} {N : List Str} (F : Fun K name qual st f fd) (S : FnScope N ps (defScope st)) (len : ∀ vs H Q E, sp vs H Q E → vs.length = ps.length)
    (hbody : ∀ (cdv : Value) (A : Around) (outer : List Env) (s : Shared) (H : Hp) (vs : List V) (Q : VK) (E : XK), (A.deeper (envOfC qual (defScope st) s.heap.objs.size f cdv)).guards = some [] →
      Room k (A.deeper (envOfC qual (defScope st) s.heap.objs.size f cdv)) → sp vs H Q E →
      ∃ t, PSs (cxOf CX P w K mg base N qual (defScope st) f cdv A outer s H E) (defBody st) t ∧ t { nx := fun _ H' => Q .non H', rt := Q } (start N vs) H) : FnG P w K mg base CX (k + 1) f fd ps sp := by
  obtain ⟨oc, od, kV, doc, pm, an, cdv, ct, osl, rfl, lk, hcd⟩ := F.ex
  refine ⟨len, fun A outer s H args us vs Q E hgd hr e0 hb r hsp => ?_⟩
  have hvl : vs.length = ps.length := len _ _ _ _ hsp
  have inS : K.In s.heap := e0.mod.kin.keeps (fun b o e => And.left (e0.bs b o e))
  have noLim : s.heap.NoLimit := e0.mod.nolimit.keeps (fun b o e => And.left (e0.bs b o e))
  have kinds : ∀ y ∈ ps.zip us, (defScope st).names.lookup y.1 = some .local ∨
      ((defScope st).names.lookup y.1 = some .cell ∧ ((cellsFrom (s.heap.objs.size + 1) (defScope st).names []).lookup y.1).isSome = true) := by
    rintro ⟨n, v⟩ hy
    rcases S.par n (List.of_mem_zip hy).1 with q | q
    · exact Or.inl q
    · exact Or.inr (And.intro q (PySem.W.cellsFrom_some _ _ _ (Or.inl q)))
  obtain ⟨t, ht, hq⟩ := hbody cdv A outer s H vs Q E hgd (hr.deeper _) hsp
  refine codeAny_call_function hr.depth (inS _ _ lk) rfl S.co S.gen rfl (PySem.W.codeRec_of inS hcd) (hb _ _ _ _ (wpAny_newFunctionEnv_cells S.kind kinds ?_))
  intro env he s1 x
  subst he
  have J := inv_start (CX := CX) (P := P) (mg := mg) (E := E) S hr.hd e0 hvl r x
  have out : ∀ {σ' : L2.St} {H' : Hp} {v : V} {u : Value} {s' : Shared}, Inv (cxOf CX P w K mg base N qual (defScope st) f cdv A outer s H E) [] σ' H' s' → RelV v u → Q v H' → CE outer P w H s Q u s' := by
    intro σ' H' v u s' Z rv q
    exact ⟨v, H', Z.os, Z.bare, Z.base, Z.hok, rv, q⟩
  refine ⟨noLim.keeps x.toInCall.keep, codeAny_func (wpAny_mono (ht.run [] s1 _ H _ J hq) ?_ (fun e s' hs => hs))⟩
  intro fl s' hs
  cases fl with
  | ret u => obtain ⟨v, σ', H', Z, rv, q⟩ := hs; exact out Z rv q
  | next => obtain ⟨σ', H', Z, q⟩ := hs; exact out (v := V.non) (u := Value.none) Z rfl q
  | brk => obtain ⟨_, _, _, q⟩ := hs; exact q.elim
  | cont => obtain ⟨_, _, _, q⟩ := hs; exact q.elim
end
/-- no exception leaves the def -/
theorem fnG_ok {P : Program} {w : World} {K : PySem.W.Frag} {mg : Str → Option Value} {base : Heap} {k : Nat} {f : Addr} {fd : FuncData} {ps : List Str} {sp : Sp} {name qual : Str} {st : Stmt} {N : List Str} (F : Fun K name qual st f fd) (S : FnScope N ps (defScope st))
    (len : ∀ vs H Q E, sp vs H Q E → vs.length = ps.length)
    (hbody : ∀ (cdv : Value) (A : Around) (outer : List Env) (s : Shared) (H : Hp) (vs : List V) (Q : VK) (E : XK), (A.deeper (envOfC qual (defScope st) s.heap.objs.size f cdv)).guards = some [] →
      Room k (A.deeper (envOfC qual (defScope st) s.heap.objs.size f cdv)) → sp vs H Q E →
      ∃ t, PSs (cxOf CX0 P w K mg base N qual (defScope st) f cdv A outer s H E).nox (defBody st) t ∧ t { nx := fun _ H' => Q .non H', rt := Q } (start N vs) H) : FnG P w K mg base CX0 (k + 1) f fd ps sp :=
  fnG_of F S len fun cdv A outer s H vs Q E hg hr h => let ⟨t, p, q⟩ := hbody cdv A outer s H vs Q E hg hr h; ⟨t, p.nox, q⟩
section
variable {X : Cx} {CX : CXT} {k : Nat} {f : Addr} {fd : FuncData} {ps : List Str} {sp : Sp} {dvs : List V} {ds : List Value} {E : XK} {x : Str} {p pos : Pos} {e : Expr} {es : List Expr} {t : TA}
theorem runG {pins : List (Addr × Obj)} {σ : L2.St} {H : Hp} {s : Shared} {Q : VK} {us : List Value} {vs : List V} (F : FnG X.prog X.w X.K X.mg X.base CX k f fd ps sp) (hgd : X.A.guards = some []) (hr : Room k X.A) (hb : Binds X.K fd ps ds) (hd : Vals dvs ds)
    (hx : Passes CX X E) (I : Inv X pins σ H s) (r : Vals vs us) (h : sp (vs ++ dvs) H Q E) : wpAny (model X.prog X.w) X.A (call (.ref f) us) (EP X pins σ Q) X.xe s := by
  have both : Vals (vs ++ dvs) (us ++ ds) := r.append hd
  have n : (us ++ ds).length = ps.length := both.length.symm.trans (F.len _ _ _ _ h)
  refine wpAny_call (codeAny_mono (F.run X.A X.stack s H ⟨us, []⟩ _ _ Q E hgd hr I.env0 (hb s us I.kIn n) both h) ?_)
  intro res s' hq
  match res, hq with
  | .error e, hq => exact hx pins σ H s e s' I hq
  | .ok (.ret u), hq => exact I.after hq
/-- f(..) of such a def -/
theorem pe_callG (F : FnG X.prog X.w X.K X.mg X.base CX k f fd ps sp) (hgd : X.A.guards = some []) (hr : Room k X.A) (hg : Gl X x) (hm : X.mg x = some (.ref f)) (hk : PySem.W.keepIn X.K (.ref f) = true) (hb : Binds X.K fd ps ds) (hd : Vals dvs ds) (hx : Passes CX X E)
    (ha : PA X (e :: es) t) (hdb : (x == ("__debug__" : Str)) = false := by decide) (he : starEach (e :: es) X.env = (false, eval e X.env) :: starEach es X.env := by rfl)
    (hpl : (backTo pos (starEach es X.env)).any (·.1) = false := by rfl) : PE X (.Call (.Name x p) (e :: es) [] pos) (tCall sp dvs E t) := by
  constructor
  intro pins s σ H Q I h
  refine wpAny_Call_Name_kw (ld_glob I hg hm (PySem.W.callWith_K (h₀ := X.base) I.ok.mod.kin hk (thn (ha.run pos pins s σ H _ I h) ?_) he hpl) hdb)
  rintro us s1 ⟨vs, H1, J, r, q⟩
  exact ⟨J.kIn, runG F hgd hr hb hd hx J r q⟩
theorem pe_callG0 (F : FnG X.prog X.w X.K X.mg X.base CX k f fd ps sp) (hgd : X.A.guards = some []) (hr : Room k X.A) (hg : Gl X x) (hm : X.mg x = some (.ref f)) (hk : PySem.W.keepIn X.K (.ref f) = true) (hb : Binds X.K fd ps ds) (hd : Vals dvs ds) (hx : Passes CX X E)
    (hdb : (x == ("__debug__" : Str)) = false := by decide) : PE X (.Call (.Name x p) [] [] pos) (tCall sp dvs E tNil) := by
  constructor
  intro pins s σ H Q I h
  exact wpAny_Call_Name_kw (ld_glob I hg hm (PySem.W.callWith_K0 I.kIn hk (runG (us := []) F hgd hr hb hd hx I .nil h)) hdb)
/-- repr of data -/
def rRepr (K : PySem.W.Frag) : List V → Hp → VK → Prop := fun xs H Q => ∃ (a : Addr) (d : PyData), xs = [.ref a] ∧ Dp K H (.ref a) d ∧ d.showable = true ∧ d.hasDict = false ∧ d.depth ≤ 60 ∧ d.shown.length ≤ sizeLine ∧ Q (.str d.shown) H
theorem call_repr_data (hgd : X.A.guards = some []) (hu : X.A.units + 64 < cLine) : CallR X (.builtin "repr") (rRepr X.K) := by
  intro pins s σ H xs us Q I r h
  obtain ⟨a, d, rfl, hd, hs, hn, hdp, hz, q⟩ := h
  cases r with
  | cons r1 r2 =>
    cases r2
    cases r1
    obtain ⟨as, rd⟩ := Dp.reads I d (.ref a) (.ref a) hd rfl
    refine repr_of_reads' rd hs (fun z => absurd (hn.symm.trans z) Bool.false_ne_true) hgd (by omega) (fun _ _ z => z) (fun h' u tk keep => ?_) hz
    exact ⟨.str d.shown, H, I.kept (t' := tk) keep, ⟨u, rfl⟩, q⟩
end
end GL
/-! Data that may hold an empty dict, its repr; a list display that stands behind what the start has laid. -/
namespace GL
open PySem PySem.Spec PyProof.Rows L2
mutual
/-- data, all of it new -/
inductive Dz (H : Hp) : V → PyData → Prop
  | non : Dz H .non .none
  | bl (b : Bool) : Dz H (.bl b) (.bool b)
  | int (i : Int) : Dz H (.int i) (.int i)
  | str (x : Str) : Dz H (.str x) (.str x)
  | lst {a : Addr} {xs : List V} {ds : List PyData} : 4 ≤ a → H a = some (.lst xs) → DzAll H xs ds → Dz H (.ref a) (.list ds)
  | tup {a : Addr} {xs : List V} {ds : List PyData} : H a = some (.tup xs) → DzAll H xs ds → Dz H (.ref a) (.tuple ds)
  | emp {a : Addr} : H a = some (.dK []) → Dz H (.ref a) (.dict [])
inductive DzAll (H : Hp) : List V → List PyData → Prop
  | nil : DzAll H [] []
  | cons {v : V} {vs : List V} {d : PyData} {ds : List PyData} : Dz H v d → DzAll H vs ds → DzAll H (v :: vs) (d :: ds)
end
mutual
theorem Dz.same {H H' : Hp} (s : Same H H') : ∀ (d : PyData) (v : V), Dz H v d → Dz H' v d
  | .none, _, h => by cases h; exact .non
  | .bool b, _, h => by cases h; exact .bl b
  | .int i, _, h => by cases h; exact .int i
  | .str x, _, h => by cases h; exact .str x
  | .list ds, _, h => by cases h with | lst h4 e h => exact .lst h4 (s _ _ e) (DzAll.same s ds _ h)
  | .tuple ds, _, h => by cases h with | tup e h => exact .tup (s _ _ e) (DzAll.same s ds _ h)
  | .dict kvs, _, h => by cases h with | emp e => exact .emp (s _ _ e)
theorem DzAll.same {H H' : Hp} (s : Same H H') : ∀ (ds : List PyData) (vs : List V), DzAll H vs ds → DzAll H' vs ds
  | [], _, h => by cases h; exact .nil
  | d :: ds, _, h => by cases h with | cons h1 h2 => exact .cons (Dz.same s d _ h1) (DzAll.same s ds _ h2)
end
section
variable {X : Cx} {pins : List (Addr × Obj)} {σ : L2.St} {H : Hp} {s : Shared}
mutual
theorem Dz.reads (I : Inv X pins σ H s) : ∀ (d : PyData) (v : V) (u : Value), Dz H v d → RelV v u → ∃ as, Reads s.heap u d as ∧ sysModules ∉ as
  | .none, _, _, h, r => by cases h; cases r; exact ⟨_, .none, by simp⟩
  | .bool b, _, _, h, r => by cases h; cases r; exact ⟨_, .bool b, by simp⟩
  | .int i, _, _, h, r => by cases h; obtain ⟨t, rfl⟩ := r; exact ⟨_, .int i t, by simp⟩
  | .str x, _, _, h, r => by cases h; obtain ⟨t, rfl⟩ := r; exact ⟨_, .str x t, by simp⟩
  | .list ds, _, _, h, r => by
    cases h with
    | @lst a0 xs0 _ h4 e h =>
      cases r
      obtain ⟨_, its, n, rv, ho⟩ := (show ObjOk X.prog X.w H s.heap _ (.lst _) from I.hok _ _ e)
      obtain ⟨as, q, nas⟩ := DzAll.reads I ds _ its h rv
      refine ⟨_, .list ho rfl rfl (by simpa using q), ?_⟩
      intro z
      rcases List.mem_cons.mp z with z | z
      · have z1 : (1 : Nat) = a0 := z
        rw [← z1] at h4
        exact absurd h4 (by decide)
      · exact nas z
  | .tuple ds, _, _, h, r => by
    cases h with
    | tup e h =>
      cases r
      obtain ⟨_, its, rv, o, ho, hc, n, hd⟩ := (show ObjOk X.prog X.w H s.heap _ (.tup _) from I.hok _ _ e)
      obtain ⟨as, q, nas⟩ := DzAll.reads I ds _ its h rv
      exact ⟨_, .tuple ho hc hd (by simpa using q), nas⟩
  | .dict kvs, _, _, h, r => by
    cases h with
    | @emp a e =>
      cases r
      obtain ⟨_, ns, vs, kv, o, es, ep, ho, hx, hd, _, hes, _⟩ := (show ObjOk X.prog X.w H s.heap _ (.dK []) from I.hok _ _ e)
      cases kv
      have e0 : es.toList = [] := List.length_eq_zero_iff.mp (PySem.Pairs.length hes)
      refine ⟨[a] ++ [], .dict (as := []) (bs := []) ho hx.1 hd (by rw [e0]; exact .nil) (by rw [e0]; exact .nil), ?_⟩
      intro z
      have z' : sysModules = a := by simpa using z
      rw [← z'] at ns
      simp at ns
theorem DzAll.reads (I : Inv X pins σ H s) : ∀ (ds : List PyData) (vs : List V) (us : List Value), DzAll H vs ds → Vals vs us → ∃ as, ReadsAll s.heap us ds as ∧ sysModules ∉ as
  | [], _, _, h, r => by cases h; cases r; exact ⟨_, .nil, by simp⟩
  | d :: ds, _, _, h, r => by
    cases h with
    | cons h1 h2 =>
      cases r with
      | cons r1 r2 =>
        obtain ⟨as, q1, n1⟩ := Dz.reads I d _ _ h1 r1
        obtain ⟨bs, q2, n2⟩ := DzAll.reads I ds _ _ h2 r2
        refine ⟨_, .cons q1 q2, fun z => ?_⟩
        rcases List.mem_append.mp z with z | z
        · exact n1 z
        · exact n2 z
end
end
section
variable {X : Cx} {es : List Expr} {t : TA} {pos : Pos}
/-- what may be shown: little, and not deep -/
def small (d : PyData) : Bool := d.showable && decide (d.depth ≤ 60) && decide (d.shown.length ≤ 16777216)
def rReprZ : List V → Hp → VK → Prop := fun xs H Q => ∃ (a : Addr) (d : PyData), xs = [.ref a] ∧ Dz H (.ref a) d ∧ small d = true ∧ Q (.str d.shown) H
theorem call_repr_z (hgd : X.A.guards = some []) (hu : X.A.units + 64 < cLine) : CallR X (.builtin "repr") rReprZ := by
  intro pins s σ H xs us Q I r h
  obtain ⟨a, d, rfl, hd, hs, q⟩ := h
  unfold small at hs
  rw [Bool.and_eq_true, Bool.and_eq_true, decide_eq_true_eq, decide_eq_true_eq] at hs
  obtain ⟨⟨hs, hdp⟩, hz⟩ := hs
  cases r with
  | cons r1 r2 =>
    cases r2
    cases r1
    obtain ⟨as, rd, ns⟩ := Dz.reads I d (.ref a) (.ref a) hd rfl
    refine repr_of_reads' rd hs (fun _ => ns) hgd (by omega) (fun _ _ z => z) (fun h' u tk keep => ?_) (by rw [sizeLine_eq]; exact hz)
    exact ⟨.str d.shown, H, I.kept (t' := tk) keep, ⟨u, rfl⟩, q⟩
/-- [a, b, ..]: it lies behind what every start lays -/
def tLst4 (t : TA) : TE := fun σ H Q => t σ H fun xs H1 => xs.length ≤ sizeLine ∧ ∀ p, H1 p = none → 4 ≤ p → Q (.ref p) (upd H1 p (.lst xs))
theorem pe_lst4 (h : PA X es t) : PE X (.List es pos) (tLst4 t) := by
  constructor
  intro pins s σ H Q I hq
  refine wpAny_List_spliced (thn (h.run pos pins s σ H _ I hq) ?_)
  rintro us s1 ⟨xs, H1, J, r, z, q⟩
  refine ⟨r.length ▸ z, ?_⟩
  have four : 4 ≤ s1.heap.objs.size := by
    obtain ⟨o, es, ep, ho, _⟩ := J.ok.mod.glob
    have lt : (3 : Nat) < s1.heap.objs.size := Heap.lt_size (J.bk _ _ ho)
    exact lt
  refine ⟨.ref s1.heap.objs.size, upd H1 s1.heap.objs.size (.lst xs), J.laid (t' := s1.toks) (fun b u e => Heap.get?_push_of_some _ e) (Nat.le_refl _) ⟨z, us, 0, r, Heap.get?_push_size _ rfl⟩, rfl, q _ (J.hok.fresh (Nat.le_refl _)) four⟩
end
end GL
namespace K02
open PySem PySem.Spec PyProof.Rows L2
open C8 (pss_cut tCut)
def topS (i : Nat) : Stmt := PySem.Challenge.pw_halflink_k02_letters_and_neighbours.main.body.getD i (.Pass ⟨0, 0, 0, 0⟩)
abbrev sDice : Stmt := topS 28
abbrev sRoll : Stmt := topS 29
abbrev sOneOf : Stmt := topS 30
theorem same_upd {H : Hp} {p : Addr} {o : HO} (h : H p = none) : Same H (upd H p o) := fun b x e => by
  rw [upd_ne (ne_of_none e h)]
  exact e
section
variable {X : Cx}
theorem op_powW : OpR X (binaryOp .Pow) (rI (fun i j => 0 ≤ j ∧ (Builtin.Int.intBits i : Int) * j ≤ 2 ^ 27) fun i j => .int (i ^ j.toNat)) := opI fun _ _ _ _ _ _ _ hc q => pow_int hc.1 hc.2 q
end
/-- the source of draws at d: at most n times asked without great digits -/
def Dice (H : Hp) (d : Addr) (n : Nat) : Prop := ∃ g s c : Int, H d = some (.lst [.int g, .int s, .int c]) ∧ 0 ≤ g ∧ 0 ≤ s ∧ s < 4611686018427387904 ∧ 0 ≤ c ∧ c ≤ n
theorem Dice.same {H H' : Hp} {d : Addr} {n : Nat} (h : Dice H d n) (s : H' d = H d) : Dice H' d n := by
  obtain ⟨g, s', c, e, r⟩ := h
  exact ⟨g, s', c, s.trans e, r⟩
theorem Dice.mono {H : Hp} {d : Addr} {n m : Nat} (h : Dice H d n) (s : n ≤ m) : Dice H d m := by
  obtain ⟨g, s', c, e, h1, h2, h3, h4, h5⟩ := h
  exact ⟨g, s', c, e, h1, h2, h3, h4, by omega⟩
structure TxtD (mg : Str → Option Value) : Prop where
  len : mg "len" = none
  abs : mg "abs" = none
  int : mg "int" = none
  enumerate : mg "enumerate" = none
section
variable {P : Program} {w : World} {K : PySem.W.Frag} {mg : Str → Option Value} {base : Heap}
def spDice (K : PySem.W.Frag) : Sp := fun vs H Q _ => ∃ (a : Addr) (ns : List Int) (k : Nat), vs = [.ref a, .int k] ∧ SqL K H a (ns.map V.int) ∧ ns.length ≤ 63 ∧ k ≤ 1000 ∧
  ∀ H' p, Same H H' → H p = none → Dice H' p 0 → Q (.ref p) H'
theorem scDice : FnScope ["_law_script", "_law_at", "_law_cell", "_law_great", "_law_seed", "_law_place", "_law_other"] ["_law_script", "_law_at"] (defScope sDice) := ⟨rfl, rfl, rfl, by decide +kernel, rfl, by decide +kernel, by decide +kernel⟩
theorem ok_dice {f : Addr} {fd : FuncData} {k : Nat} (F : Fun K "_law_dice" "_law_dice" sDice f fd) (T : TxtD mg) : FnOk P w K mg base CX0 (k + 1) f fd ["_law_script", "_law_at"] (spDice K) := by
  refine F.ok scDice (fun vs H Q E h => ?_) (fun cdv A outer s H vs Q E hr h => ?_)
  · obtain ⟨a, ns, k, rfl, _⟩ := h
    rfl
  · obtain ⟨a, ns, k, rfl, hS, hlen, hk, q⟩ := h
    refine ⟨_, pss_cut (ps_set (i := 2) scDice.nd rfl (.inl rfl) (pe_ifExp (pt_cmpR op_lt (pv 1) (pe_callB call_len_seq (by rfl) T.len PySem.boot_len (pa_cons (pv 0) pa_nil)) (nomark _)) (pe_ix ix_list (pv 0) (pv 1) (fun _ _ => rfl)) (pe_op op_add (pe_op op_mul pe_int (pv 1)) pe_int)))
      (pss_cut (ps_set (i := 3) scDice.nd rfl (.inl rfl) (pe_op op_mod (pe_callB call_abs (by rfl) T.abs (by decide +kernel) (pa_cons (pv 2) pa_nil)) (pe_op op_powW (pe_op op_pow pe_int pe_int) pe_int)))
      (pss_cut (ps_set (i := 4) scDice.nd rfl (.inl rfl) (pe_op op_add (pe_op op_add (pe_op op_add (pe_op op_mod (pv 3) pe_int) (pe_op op_mul pe_int (pv 1))) (pe_op op_mul pe_int (pe_callTy call_int1 (by rfl) T.int (by decide +kernel) (pa_cons (pe_cmpR op_lt (pv 2) pe_int (nomark _)) pa_nil)))) pe_int))
      (pss_cut (ps_for PassesOwn.never rfl (pi_enum (by rfl) T.enumerate (pa_cons (pv 0) pa_nil)) (pg_tup rfl (pgs_cons (pg_name (i := 5) scDice.nd rfl (.inl rfl)) (pgs_cons (pg_name (i := 6) scDice.nd rfl (.inl rfl)) pgs_nil)))
        (pss_one (ps_if (pt_cmpR op_ne (pv 5) (pv 1) (nomark _)) (pss_one (ps_set (i := 4) scDice.nd rfl (.inl rfl) (pe_op op_mod (pe_op op_add (pe_op op_add (pe_op op_mul pe_int (pv 4)) (pv 6)) (pv 5)) pe_int))) pss_nil)))
      (pss_cut (ps_set (i := 4) scDice.nd rfl (.inl rfl) (pe_op op_mod (pe_op op_pow (pv 4) pe_int) pe_int))
      (pss_one (ps_ret (pe_lst (pa_cons (pe_op op_mul (pe_op op_fdivW (pv 3) (pe_op op_pow pe_int pe_int)) (pe_callTy call_int1 (by rfl) T.int (by decide +kernel) (pa_cons (pe_cmpR op_ge (pv 3) (pe_op op_pow pe_int pe_int) (nomark _)) pa_nil))) (pa_cons (pv 4) (pa_cons pe_int pa_nil))))))))))
      , ?_⟩
    -- the cell
    refine ⟨fun σ' H' => ∃ z : Int, σ' = [some (.ref a), some (.int k), some (.int z), none, none, none, none] ∧ H' = H, ?_, ?_⟩
    · refine ⟨_, rfl, _, rfl, a, _, rfl, .inl hS, _, _, rfl, rfl, _, rfl, ite2 (fun c => ?_) (fun c => ?_)⟩
      · have c1 : (k : Int) < ((ns.map V.int).length : Nat) := of_decide_eq_true c
        rw [List.length_map] at c1
        have c2 : k < ns.length := by omega
        have hz : (ns.map V.int)[k]? = some (.int ns[k]) := by
          rw [List.getElem?_map, List.getElem?_eq_getElem c2]
          rfl
        exact ⟨_, rfl, _, rfl, a, _, _, _, rfl, rfl, hS, atI_nat hz, _, rfl, rfl⟩
      · exact ⟨_, rfl, _, _, rfl, rfl, .inl (by omega), _, _, rfl, rfl, _, rfl, rfl⟩
    rintro σ1 H1 ⟨z, rfl, rfl⟩
    -- great
    refine ⟨fun σ' H' => ∃ g : Int, 0 ≤ g ∧ g < 10 ^ 780 ∧ σ' = [some (.ref a), some (.int k), some (.int z), some (.int g), none, none, none] ∧ H' = H1, ?_, ?_⟩
    · have hp : (0 : Int) < 10 ^ 780 := by decide +kernel
      have e60 : ((10 : Int) ^ (60 : Int).toNat) ^ (13 : Int).toNat = 10 ^ 780 := by decide +kernel
      refine ⟨_, rfl, _, rfl, _, _, rfl, rfl, ⟨by decide, by decide, by decide⟩, _, _, rfl, rfl, ⟨by decide, by decide +kernel⟩, _, _, rfl, rfl, ?_, _, Int.emod_nonneg _ ?_, ?_, rfl, rfl⟩
      · rw [e60]; exact hp
      · rw [e60]; omega
      · rw [e60]; exact Int.emod_lt_of_pos _ hp
    rintro σ1 H2 ⟨g, g0, g1, rfl, rfl⟩
    -- seed
    refine ⟨fun σ' H' => ∃ y : Int, 0 ≤ y ∧ y < 4611686018427387904 ∧ σ' = [some (.ref a), some (.int k), some (.int z), some (.int g), some (.int y), none, none] ∧ H' = H2, ?_, ?_⟩
    · refine ⟨_, rfl, _, _, rfl, rfl, (by show (0 : Int) < 2305843009213693907; decide), _, rfl, _, _, rfl, rfl, .inl (by decide), _, _, rfl, rfl, _, rfl, _, _, rfl, rfl, .inr ⟨_, rfl, _, _, rfl, rfl, .inl (by decide), _, _, rfl, rfl, _, _, rfl, rfl, _, ?_, ?_, rfl, rfl⟩⟩
      · have h1 := Int.emod_nonneg g (show (2305843009213693907 : Int) ≠ 0 by decide)
        split <;> omega
      · have h1 := Int.emod_lt_of_pos g (show (0 : Int) < 2305843009213693907 by decide)
        split <;> omega
    rintro σ1 H3 ⟨y, y0, y1, rfl, rfl⟩
    -- for place, other in enumerate(script)
    refine ⟨fun σ' H' => ∃ (y : Int) (u v : Option V), 0 ≤ y ∧ y < 4611686018427387904 ∧ σ' = [some (.ref a), some (.int k), some (.int z), some (.int g), some (.int y), u, v] ∧ Same H3 H', ?_, ?_⟩
    · refine ⟨_, rfl, a, _, rfl, hS, ?_⟩
      refine for_it (walk_enum (xs := ns.map V.int)) (fun i σ H' => ∃ (y : Int) (u v : Option V), 0 ≤ y ∧ y < 4611686018427387904 ∧ σ = [some (.ref a), some (.int k), some (.int z), some (.int g), some (.int y), u, v] ∧ Same H3 H') ⟨y, none, none, y0, y1, rfl, fun _ _ e => e⟩ (fun i σ H' _ ⟨_, _, _, _, _, _, s5⟩ => s5.seq hS) ?_ ?_
      · rintro i x σ H4 H5 hi ⟨y, u, v, y0, y1, rfl, s5⟩ ⟨T, x1, x2, rfl, nT, rfl, e1, e2⟩
        have x1e : x1 = .int (i : Nat) := (Option.some.inj e1).symm
        obtain ⟨m, hm⟩ : ∃ m : Int, x2 = .int m := by
          have e2' : (ns.map V.int)[i]? = some x2 := e2
          rw [List.getElem?_map] at e2'
          cases e : ns[i]? with
          | none => rw [e] at e2'; cases e2'
          | some m => rw [e] at e2'; exact ⟨m, (Option.some.inj e2').symm⟩
        subst x1e hm
        have s6 : Same H3 (upd H4 T (.tup [.int (i : Nat), .int m])) := s5.trans (same_upd nT)
        refine ⟨T, _, rfl, .inl (.inl upd_same), rfl, _, _, rfl, _, _, rfl, rfl, ?_⟩
        refine ⟨_, rfl, _, rfl, rfl, _, rfl, ite2 (fun c => ?_) (fun c => ?_)⟩
        · refine ⟨_, rfl, _, _, rfl, rfl, .inl (by decide), _, rfl, _, _, rfl, rfl, _, rfl, _, _, rfl, rfl, _, _, rfl, rfl, (by show (0 : Int) < 2305843009213693907; decide), _, _, _, ?_, ?_, rfl, s6⟩
          · exact Int.emod_nonneg _ (by decide)
          · exact Int.lt_trans (Int.emod_lt_of_pos _ (by decide)) (by decide)
        · exact ⟨y, _, _, y0, y1, rfl, s6⟩
      · rintro σ H' ⟨y, u, v, y0, y1, rfl, s5⟩
        exact ⟨y, u, v, y0, y1, rfl, s5⟩
    rintro σ1 H4 ⟨y, u, v, y0, y1, rfl, s5⟩
    -- seed ** 3 % ..
    refine ⟨fun σ' H' => ∃ (y : Int), 0 ≤ y ∧ y < 2305843009213693921 ∧ σ' = [some (.ref a), some (.int k), some (.int z), some (.int g), some (.int y), u, v] ∧ H' = H4, ?_, ?_⟩
    · refine ⟨_, rfl, _, _, rfl, rfl, ⟨by decide, by decide, by omega⟩, _, _, rfl, rfl, (by show (0 : Int) < 2305843009213693921; decide), _, Int.emod_nonneg _ (by decide), Int.emod_lt_of_pos _ (by decide), rfl, rfl⟩
    rintro σ1 H5 ⟨y, y0, y1, rfl, rfl⟩
    -- the list
    have e18 : (10 : Int) ^ (18 : Int).toNat = 1000000000000000000 := by decide +kernel
    refine ⟨_, rfl, _, _, rfl, rfl, ⟨by decide, by decide, by decide⟩, _, _, rfl, rfl, (by rw [e18]; exact wide_div (b := 60) (by decide) (by decide +kernel) (by decide) (by decide)), _, rfl, _, _, rfl, rfl, ⟨by decide, by decide, by decide⟩, _, _, rfl, rfl, .inr ⟨_, rfl, _, _, rfl, rfl, .inr ?_, _, rfl, (by show 3 ≤ sizeLine; decide), fun p hp => ?_⟩⟩
    · split <;> decide
    · refine q _ p (s5.trans (same_upd hp)) (s5.free hp) ⟨_, _, _, upd_same, ?_, y0, ?_, Int.le_refl _, Int.le_refl _⟩
      · have h1 : 0 ≤ g / (10 : Int) ^ (18 : Int).toNat := Int.ediv_nonneg g0 (by decide)
        split
        · rw [Int.mul_one]; exact h1
        · rw [Int.mul_zero]; exact Int.le_refl _
      · omega
def spRoll : Sp := fun vs H Q _ => ∃ (d : Addr) (m : Int) (n : Nat), vs = [.ref d, .int m] ∧ Dice H d n ∧ n ≤ 1000000000 ∧ 0 < m ∧ m < 1073741824 ∧
  ∀ (r : Int) (o : HO), 0 ≤ r → r < m → Dice (upd H d o) d (n + 1) → Q (.int r) (upd H d o)
theorem scRoll : FnScope ["_law_dice_here", "_law_total", "_law_found", "_law_one", "_law_two"] ["_law_dice_here", "_law_total"] (defScope sRoll) := ⟨rfl, rfl, rfl, by decide +kernel, rfl, by decide +kernel, by decide +kernel⟩
theorem ok_roll {f : Addr} {fd : FuncData} {k : Nat} (F : Fun K "_law_roll" "_law_roll" sRoll f fd) : FnOk P w K mg base CX0 (k + 1) f fd ["_law_dice_here", "_law_total"] spRoll := by
  refine F.ok scRoll (fun vs H Q E h => ?_) (fun cdv A outer s H vs Q E hr h => ?_)
  · obtain ⟨d, m, n, rfl, _⟩ := h
    rfl
  · obtain ⟨d, m, n, rfl, ⟨g, y, c, hd, g0, y0, y1, c0, c1⟩, hn, m0, m1, q⟩ := h
    have I0 : atI [V.int g, V.int y, V.int c] 0 = some (V.int g) := atI_nat (j := 0) rfl
    have I1 : atI [V.int g, V.int y, V.int c] 1 = some (V.int y) := atI_nat (j := 1) rfl
    have I2 : atI [V.int g, V.int y, V.int c] 2 = some (V.int c) := atI_nat (j := 2) rfl
    have I1' : ∀ z : Int, atI [V.int g, V.int y, V.int z] 1 = some (V.int y) := fun z => atI_nat (j := 1) rfl
    have I2' : ∀ z : Int, atI [V.int g, V.int y, V.int z] 2 = some (V.int z) := fun z => atI_nat (j := 2) rfl
    refine ⟨_, pss_cons (ps_if (pt_cmpR op_gt (pe_ix ix_list (pv 0) pe_int (fun _ _ => rfl)) pe_int (nomark _))
        (pss_cons (ps_set (i := 2) scRoll.nd rfl (.inl rfl) (pe_op op_mod (pe_ix ix_list (pv 0) pe_int (fun _ _ => rfl)) (pv 1)))
        (pss_cons (ps_asg (pe_op op_fdiv (pe_ix ix_list (pv 0) pe_int (fun _ _ => rfl)) (pv 1)) (pg_sub (pv 0) pe_int set_list))
        (pss_one (ps_ret (pv 2))))) pss_nil)
      (pss_cons (ps_asg (pe_op op_add (pe_ix ix_list (pv 0) pe_int (fun _ _ => rfl)) pe_int) (pg_sub (pv 0) pe_int set_list))
      (pss_cons (ps_set (i := 3) scRoll.nd rfl (.inl rfl) (pe_op op_mod (pe_op op_pow (pe_op op_add (pe_ix ix_list (pv 0) pe_int (fun _ _ => rfl)) (pe_op op_mul pe_int (pe_ix ix_list (pv 0) pe_int (fun _ _ => rfl)))) pe_int) pe_int))
      (pss_cons (ps_set (i := 4) scRoll.nd rfl (.inl rfl) (pe_op op_mod (pe_op op_pow (pe_op op_add (pe_op op_add (pv 3) (pe_op op_mod (pe_ix ix_list (pv 0) pe_int (fun _ _ => rfl)) pe_int)) (pe_op op_mul pe_int (pe_ix ix_list (pv 0) pe_int (fun _ _ => rfl)))) pe_int) pe_int))
      (pss_one (ps_ret (pe_op op_mod (pe_op op_fdiv (pv 4) pe_int) (pv 1))))))), ?_⟩
    refine ⟨_, rfl, d, _, _, _, rfl, rfl, SqL.of hd, I0, _, _, rfl, rfl, _, rfl, ite2 (fun _ => ?_) (fun _ => ?_)⟩
    · refine ⟨_, rfl, d, _, _, _, rfl, rfl, SqL.of hd, I0, _, rfl, _, _, rfl, rfl, m0, ?_⟩
      refine ⟨_, rfl, d, _, _, _, rfl, rfl, SqL.of hd, I0, _, rfl, _, _, rfl, rfl, ⟨m0, m1⟩, ?_⟩
      refine ⟨_, rfl, d, _, _, 0, rfl, rfl, hd, rfl, ?_⟩
      exact ⟨_, rfl, q _ _ (Int.emod_nonneg _ (by omega)) (Int.emod_lt_of_pos _ m0) ⟨_, y, _, upd_same, Int.ediv_nonneg g0 (by omega), y0, y1, c0, by omega⟩⟩
    · refine ⟨_, rfl, d, _, _, _, rfl, rfl, SqL.of hd, I2, _, _, rfl, rfl, ?_⟩
      refine ⟨_, rfl, d, _, _, 2, rfl, rfl, hd, rfl, ?_⟩
      have hd2 : upd H d (.lst ([V.int g, V.int y, V.int c].set 2 (V.int (c + 1)))) d = some (.lst [V.int g, V.int y, V.int (c + 1)]) := upd_same
      refine ⟨_, rfl, d, _, _, _, rfl, rfl, SqL.of hd2, I1' _, _, rfl, d, _, _, _, rfl, rfl, SqL.of hd2, I2' _, _, _, rfl, rfl, .inl (by decide), _, _, rfl, rfl, _, _, rfl, rfl, ⟨by decide, by decide, by omega⟩, _, _, rfl, rfl, (by show (0 : Int) < 2305843009213693951; decide), ?_⟩
      have a0 := Int.emod_nonneg ((y + 15485867 * (c + 1)) ^ (3 : Int).toNat) (show (2305843009213693951 : Int) ≠ 0 by decide)
      have a1 := Int.emod_lt_of_pos ((y + 15485867 * (c + 1)) ^ (3 : Int).toNat) (show (0 : Int) < 2305843009213693951 by decide)
      have b0 := Int.emod_nonneg y (show (1000081 : Int) ≠ 0 by decide)
      have b1 := Int.emod_lt_of_pos y (show (0 : Int) < 1000081 by decide)
      refine ⟨_, rfl, _, rfl, d, _, _, _, rfl, rfl, SqL.of hd2, I1' _, _, _, rfl, rfl, (by show (0 : Int) < 1000081; decide), _, _, rfl, rfl, _, rfl, d, _, _, _, rfl, rfl, SqL.of hd2, I2' _, _, _, rfl, rfl, .inl (by decide), _, _, rfl, rfl, _, _, rfl, rfl, ⟨by decide, by decide, by omega⟩, _, _, rfl, rfl, (by show (0 : Int) < 2305843009213693907; decide), ?_⟩
      refine ⟨_, rfl, _, _, rfl, rfl, ⟨by decide, by decide⟩, _, rfl, _, _, rfl, rfl, m0, ?_⟩
      exact q _ _ (Int.emod_nonneg _ (by omega)) (Int.emod_lt_of_pos _ m0) ⟨g, y, c + 1, upd_same, g0, y0, y1, by omega, by omega⟩
def spOneOf : Sp := fun vs H Q _ => ∃ (d l : Addr) (n : Nat) (xs : List V), vs = [.ref d, .ref l] ∧ Dice H d n ∧ n ≤ 1000000000 ∧ H l = some (.lst xs) ∧ l ≠ d ∧ 0 < xs.length ∧ xs.length < 1000000 ∧
  ∀ (x : V) (o : HO), x ∈ xs → Dice (upd H d o) d (n + 1) → Q x (upd H d o)
theorem scOneOf : FnScope ["_law_dice_here", "_law_items"] ["_law_dice_here", "_law_items"] (defScope sOneOf) := ⟨rfl, rfl, rfl, by decide +kernel, rfl, by decide +kernel, by decide +kernel⟩
theorem ok_oneOf {f fR : Addr} {fd fdR : FuncData} {k : Nat} (F : Fun K "_law_one_of" "_law_one_of" sOneOf f fd) (FR : Fun K "_law_roll" "_law_roll" sRoll fR fdR) (bR : Binds K fdR ["_law_dice_here", "_law_total"] []) (gR : mg "_law_roll" = some (.ref fR)) (T : TxtD mg) :
    FnOk P w K mg base CX0 (k + 2) f fd ["_law_dice_here", "_law_items"] spOneOf := by
  have GR : FnOk P w K mg base CX0 (k + 1) fR fdR ["_law_dice_here", "_law_total"] spRoll := ok_roll FR
  refine F.ok scOneOf (fun vs H Q E h => ?_) (fun cdv A outer s H vs Q E hr h => ?_)
  · obtain ⟨d, l, n, xs, rfl, _⟩ := h
    rfl
  · obtain ⟨d, l, n, xs, rfl, hd, hn, hl, ne, x0, x1, q⟩ := h
    refine ⟨_, pss_one (ps_ret (pe_ix ix_list (pv 1) (pe_call GR hr (by rfl) gR FR.kp bR .nil pass0 (pa_cons (pv 0) (pa_cons (pe_callB call_len_seq (by rfl) T.len PySem.boot_len (pa_cons (pv 1) pa_nil)) pa_nil))) (fun _ _ => rfl))), ?_⟩
    refine ⟨_, rfl, _, rfl, _, rfl, l, _, rfl, .inl (SqL.of hl), d, _, n, rfl, hd, hn, by omega, by omega, fun r o r0 r1 D => ?_⟩
    obtain ⟨j, rfl⟩ : ∃ j : Nat, r = j := ⟨r.toNat, by omega⟩
    have hj : j < xs.length := by omega
    have hl' : upd H d o l = some (.lst xs) := by rw [upd_ne ne]; exact hl
    exact ⟨l, _, _, _, rfl, rfl, SqL.of hl', atI_nat (List.getElem?_eq_getElem hj), q _ o (List.getElem_mem hj) D⟩
end
end K02
/-! The words that laws draw: one to eight signs from a to z. -/
namespace WD
open PySem PySem.Spec PyProof.Rows L2
/-- signs a to z alone -/
def Low (x : Str) : Prop := ∀ c ∈ x.cps.toList, 97 ≤ c ∧ c ≤ 122
structure Wd (x : Str) : Prop where
  low : Low x
  pos : 0 < x.length
  le : x.length ≤ 8
abbrev abc : Str := "abcdefghijklmnopqrstuvwxyz"
theorem abc_len : abc.length = 26 := by decide +kernel
theorem abc_all : ∀ i < 26, abc.cps.toList[i]? = some (97 + i) := by decide +kernel
theorem len_list {x : Str} : x.cps.toList.length = x.length := by rw [Array.length_toList]; rfl
theorem low_nil : Low "" := fun c h => by
  have e : (("" : Str).cps.toList : List Nat) = [] := by decide +kernel
  rw [e] at h
  cases h
theorem low_one {c : Nat} (h1 : 97 ≤ c) (h2 : c ≤ 122) : Low ⟨#[c]⟩ := fun d h => by
  have e : d = c := by simpa using h
  rw [e]
  exact ⟨h1, h2⟩
theorem app_list {x y : Str} : (x ++ y).cps.toList = x.cps.toList ++ y.cps.toList := by
  show (x.cps ++ y.cps).toList = _
  exact Array.toList_append
theorem app_len {x y : Str} : (x ++ y).length = x.length + y.length := by
  rw [← len_list, app_list, List.length_append, len_list, len_list]
theorem low_app {x y : Str} (a : Low x) (b : Low y) : Low (x ++ y) := fun c h => by
  rw [app_list] at h
  exact (List.mem_append.mp h).elim (a c) (b c)
theorem cut_list (x : Str) (lo hi : Option Int) : (cutS x lo hi).cps.toList = (x.cps.toList.drop (HT.sIx x.length 0 lo)).take (HT.sIx x.length x.length hi - HT.sIx x.length 0 lo) := by
  rw [cutS]
theorem low_cut {x : Str} (a : Low x) (lo hi : Option Int) : Low (cutS x lo hi) := fun c h => by
  rw [cut_list] at h
  exact a c (List.mem_of_mem_drop (List.mem_of_mem_take h))
theorem cut8_len {x : Str} : (cutS x none (some 8)).length = min 8 x.length := by
  rw [← len_list, cut_list, List.length_take, List.length_drop, len_list]
  show min (HT.sIx x.length x.length (some ((8 : Nat) : Int)) - 0) (x.length - 0) = _
  rw [HT.sIx_nat]
  omega
theorem cut1_len {x : Str} (h : 0 < x.length) : (cutS x (some 1) none).length = x.length - 1 := by
  rw [← len_list, cut_list, List.length_take, List.length_drop, len_list]
  show min (x.length - HT.sIx x.length 0 (some ((1 : Nat) : Int))) (x.length - HT.sIx x.length 0 (some ((1 : Nat) : Int))) = _
  rw [HT.sIx_nat]
  omega
/-- the first sign of a word, found again among the letters -/
theorem at_first {x : Str} (h : Wd x) : ∃ c, atI x.cps.toList 0 = some c ∧ 97 ≤ c ∧ c ≤ 122 := by
  have p := h.pos
  rw [← len_list] at p
  obtain ⟨c, l, e⟩ : ∃ c l, x.cps.toList = c :: l := by
    cases z : x.cps.toList with
    | nil => rw [z] at p; exact absurd p (by decide)
    | cons c l => exact ⟨c, l, rfl⟩
  refine ⟨c, ?_, h.low c (by rw [e]; exact List.mem_cons_self)⟩
  rw [e]
  exact atI_nat (j := 0) rfl
theorem found_all : ∀ c, 97 ≤ c ∧ c ≤ 122 → Txt.index0 abc ⟨#[c]⟩ = some (c - 97) := by
  intro c h
  have all : ∀ i < 26, Txt.index0 abc ⟨#[97 + i]⟩ = some i := by decide +kernel
  have z := all (c - 97) (by omega)
  rw [show 97 + (c - 97) = c by omega] at z
  exact z
theorem takes_none {X : Cx} : Takes X fun _ _ _ _ => False := fun _ _ ⟨_, _, _, _, _, _, _, _, _, _, _, _, _, _, _, _, w⟩ => w.elim
/-- all but d stays -/
def DS (d : Addr) (H H' : Hp) : Prop := ∀ b o, b ≠ d → H b = some o → H' b = some o
theorem DS.rfl {d : Addr} {H : Hp} : DS d H H := fun _ _ _ e => e
theorem DS.trans {d : Addr} {H H1 H2 : Hp} (a : DS d H H1) (b : DS d H1 H2) : DS d H H2 := fun c o n e => b c o n (a c o n e)
theorem Same.ds {d : Addr} {H H' : Hp} (s : Same H H') : DS d H H' := fun b o _ e => s b o e
end WD
namespace K02
open PySem PySem.Spec PyProof.Rows L2 WD
open C8 (pss_cut tCut)
abbrev sWords : Stmt := topS 31
structure TxtW (K : PySem.W.Frag) (mg : Str → Option Value) (fR : Addr) (dR : FuncData) : Prop where
  R : Fun K "_law_roll" "_law_roll" sRoll fR dR
  bR : L2.Binds K dR ["_law_dice_here", "_law_total"] []
  gR : mg "_law_roll" = some (.ref fR)
  range : mg "range" = none
theorem ifF {c : Bool} {A B : Prop} (hc : c = false) (h : B) : if c = true then A else B := by
  subst hc
  exact iteF h
theorem ifT {c : Bool} {A B : Prop} (hc : c = true) (h : A) : if c = true then A else B := by
  subst hc
  exact iteT h
theorem ifB {c : Bool} {A B : Prop} (ht : c = true → A) (hf : c = false → B) : if c = true then A else B := by
  cases c
  · exact ifF rfl (hf rfl)
  · exact ifT rfl (ht rfl)
theorem dp_strs {K : PySem.W.Frag} {H : Hp} : ∀ ws : List Str, DpAll K H (ws.map V.str) (ws.map PyData.str)
  | [] => .nil
  | x :: ws => .cons (.str x) (dp_strs ws)
theorem low_ok {x : Str} (h : Low x) : PyData.canLay0 (.str x) = true := by
  show x.cps.all (fun c => decide (c < 0x110000)) = true
  rw [← Array.all_toList, List.all_eq_true]
  exact fun c m => decide_eq_true (Nat.lt_of_le_of_lt (h c m).2 (by decide))
theorem can_strs : ∀ ws : List Str, (∀ x ∈ ws, Wd x) → PyData.canLayAll0 (ws.map PyData.str) = true
  | [], _ => rfl
  | x :: ws, h => by rw [List.map_cons, PyData.canLayAll0, low_ok (h x List.mem_cons_self).low, can_strs ws fun y hy => h y (List.mem_cons_of_mem _ hy)]; rfl
theorem depth_strs : ∀ ws : List Str, PyData.depthAll (ws.map PyData.str) = 0
  | [] => rfl
  | x :: ws => by rw [List.map_cons, PyData.depthAll, depth_strs ws]; rfl
theorem shaped_strs (ws : List Str) (h : ∀ x ∈ ws, Wd x) : SeqAt.shaped (.list (ws.map PyData.str)) = true := by
  rw [SeqAt.shaped, PyData.canLay0, can_strs ws h, PyData.depth, depth_strs]
  rfl
theorem flat_strs : ∀ ws : List Str, (ws.map V.str).all flatV = true
  | [] => rfl
  | x :: ws => by rw [List.map_cons, List.all_cons, flat_strs ws]; rfl
/-- what a law's def that fills a list at p has kept: all but the dice and the list -/
structure Kept (H : Hp) (d p : Addr) (c : Nat) (xs : List V) (H' : Hp) : Prop where
  ds : DS d H H'
  dice : Dice H' d c
  lst : H' p = some (.lst xs)
theorem Kept.roll {H H' : Hp} {d p : Addr} {c c' : Nat} {xs : List V} {o : HO} (k : Kept H d p c xs H') (ne : p ≠ d) (D : Dice (upd H' d o) d c') : Kept H d p c' xs (upd H' d o) := by
  refine ⟨fun b u n e => ?_, D, ?_⟩
  · rw [upd_ne n]; exact k.ds b u n e
  · rw [upd_ne ne]; exact k.lst
theorem Kept.new {H H' : Hp} {d p l : Addr} {c : Nat} {xs : List V} {o : HO} (k : Kept H d p c xs H') (n : H' l = none) : Kept H d p c xs (upd H' l o) ∧ l ≠ d ∧ l ≠ p := by
  have nd : l ≠ d := fun z => by
    obtain ⟨g, s, i, e, _⟩ := k.dice
    rw [z, e] at n
    cases n
  have np : l ≠ p := fun z => by
    rw [z, k.lst] at n
    cases n
  refine ⟨⟨fun b u m e => same_upd n b u (k.ds b u m e), k.dice.same (upd_ne nd.symm), same_upd n p _ k.lst⟩, nd, np⟩
theorem Kept.put {H H' : Hp} {d p : Addr} {c : Nat} {xs ys : List V} (k : Kept H d p c xs H') (ne : p ≠ d) (n : H p = none) : Kept H d p c ys (upd H' p (.lst ys)) := by
  refine ⟨fun b u m e => ?_, k.dice.same (upd_ne ne.symm), upd_same⟩
  rw [upd_ne (ne_of_none e n)]
  exact k.ds b u m e
theorem Kept.more {H H' : Hp} {d p : Addr} {c c' : Nat} {xs : List V} (k : Kept H d p c xs H') (h : c ≤ c') : Kept H d p c' xs H' := ⟨k.ds, k.dice.mono h, k.lst⟩
theorem turns_cases {r : Int} (h0 : 0 ≤ r) (h1 : r < 4) : ∃ k : Nat, 1 ≤ k ∧ k ≤ 8 ∧ atI [V.int 1, V.int 1, V.int 2, V.int 8] r = some (.int k) := by
  have z : r = 0 ∨ r = 1 ∨ r = 2 ∨ r = 3 := by omega
  rcases z with rfl | rfl | rfl | rfl
  · exact ⟨1, by decide, by decide, atI_nat (j := 0) rfl⟩
  · exact ⟨1, by decide, by decide, atI_nat (j := 1) rfl⟩
  · exact ⟨2, by decide, by decide, atI_nat (j := 2) rfl⟩
  · exact ⟨8, by decide, by decide, atI_nat (j := 3) rfl⟩
theorem abc_at {r : Int} (h0 : 0 ≤ r) (h1 : r < 26) : ∃ c, atI abc.cps.toList r = some c ∧ 97 ≤ c ∧ c ≤ 122 := by
  obtain ⟨j, rfl⟩ : ∃ j : Nat, r = j := ⟨r.toNat, by omega⟩
  exact ⟨97 + j, atI_nat (abc_all j (by omega)), by omega, by omega⟩
theorem abc_fits : abc.length ≤ sizeLine := by rw [abc_len, sizeLine_eq]; decide
abbrev nW : List Str := ["_law_dice_here", "_law_total", "_law_letters", "_law_found", "_law_at", "_law_word", "_law_turn"]
theorem scWords : FnScope nW ["_law_dice_here", "_law_total"] (defScope sWords) := ⟨rfl, rfl, rfl, by decide +kernel, rfl, by decide +kernel, by decide +kernel⟩
/-- m words, the dice asked at most twelve times for each -/
def spWords : Sp := fun vs H Q _ => ∃ (d : Addr) (m n : Nat), vs = [.ref d, .int m] ∧ Dice H d n ∧ n ≤ 1000000 ∧ m ≤ 10 ∧
  ∀ H' p (ws : List Str), DS d H H' → H p = none → Dice H' d (n + 12 * m) → H' p = some (.lst (ws.map V.str)) → ws.length = m → (∀ x ∈ ws, Wd x) → Q (.ref p) H'
section
variable {P : Program} {w : World} {K : PySem.W.Frag} {mg : Str → Option Value} {base : Heap} {fR : Addr} {dR : FuncData}
theorem ok_Words {f : Addr} {fd : FuncData} (F : Fun K "_law_words" "_law_words" sWords f fd) (W : TxtW K mg fR dR) : FnOk P w K mg base CX0 2 f fd ["_law_dice_here", "_law_total"] spWords := by
  have GR : FnOk P w K mg base CX0 1 fR dR ["_law_dice_here", "_law_total"] spRoll := ok_roll W.R
  refine F.ok scWords (fun vs H Q E h => ?_) (fun cdv A outer s H vs Q E hr h => ?_)
  · obtain ⟨d, m, n, rfl, _⟩ := h
    rfl
  · obtain ⟨d, m, n, rfl, D, hn, hm, q⟩ := h
    have hu := hr.units
    refine ⟨_, pss_cut (ps_par (i := 2) (j := 3) (by rfl) scWords.nd rfl rfl (by decide) rfl rfl (pa_cons pe_str (pa_cons (pe_lst pa_nil) pa_nil)) (by rfl))
      (pss_cut (ps_for PassesOwn.never rfl (pi_range1 rfl W.range (pa_cons (pv 1) pa_nil)) (pg_name (i := 4) scWords.nd rfl (.inl rfl))
        (pss_cut (ps_set (i := 5) scWords.nd rfl (.inl rfl) pe_str)
        (pss_cut (ps_for PassesOwn.never rfl (pi_range1 rfl W.range (pa_cons (pe_ix ix_list (pe_lst (pa_cons pe_int (pa_cons pe_int (pa_cons pe_int (pa_cons pe_int pa_nil))))) (pe_call GR hr (by rfl) W.gR W.R.kp W.bR .nil pass0 (pa_cons (pv 0) (pa_cons pe_int pa_nil))) (fun _ _ => rfl)) pa_nil)) (pg_name (i := 6) scWords.nd rfl (.inl rfl))
          (pss_one (ps_set (i := 5) scWords.nd rfl (.inl rfl) (pe_op op_add_str (pv 5) (pe_ix ix_str (pv 2) (pe_call GR hr (by rfl) W.gR W.R.kp W.bR .nil pass0 (pa_cons (pv 0) (pa_cons pe_int pa_nil))) (fun _ _ => rfl))))))
        (pss_cut (ps_if (PW.pt (pw_and (pt_cmpR (op_neD hu) (pv 3) (pe_lst pa_nil) (nomark _)) (pw_and1 (pt_cmpR op_eq (pe_call GR hr (by rfl) W.gR W.R.kp W.bR .nil pass0 (pa_cons (pv 0) (pa_cons pe_int pa_nil))) pe_int (nomark _)))))
            (pss_one (ps_set (i := 5) scWords.nd rfl (.inl rfl) (pe_slice sl_str (pe_op op_add_str (pe_ix ix_list (pv 3) (pe_un un_neg pe_int) (fun _ _ => rfl)) pe_str) po_none (po_some pe_int)))) pss_nil)
        (pss_cut (ps_for PassesOwn.never rfl (pi_range1 rfl W.range (pa_cons (pv 1) pa_nil)) (pg_name (i := 6) scWords.nd rfl (.inl rfl))
          (pss_one (ps_if (pt_cmpR op_in_seq (pv 5) (pv 3) (by rfl))
            (pss_one (ps_set (i := 5) scWords.nd rfl (.inl rfl) (pe_op op_add_str (pe_ix ix_str (pv 2) (pe_op op_mod (pe_op op_add (pe_bmS PySem.F.plainAttrs_str PySem.F.slot_str_index PySem.F.type_str_index (mt_indexX rfl takes_none) (pv 2) (pa_cons (pe_ix ix_str (pv 5) pe_int (fun _ _ => rfl)) pa_nil)) pe_int) pe_int) (fun _ _ => rfl)) (pe_slice sl_str (pv 5) (po_some pe_int) po_none)))) pss_nil)))
        (pss_one (ps_expr (pe_bm PySem.F.plainAttrs_list PySem.F.slot_list_append PySem.F.type_list_append mt_append (pv 3) (pa_cons (pv 5) pa_nil)))))))))
      (pss_one (ps_ret (pv 3)))), ?_⟩
    refine ⟨fun σ' H' => ∃ p, σ' = [some (.ref d), some (.int m), some (.str abc), some (.ref p), none, none, none] ∧ H p = none ∧ p ≠ d ∧ Kept H d p n [] H', ?_, ?_⟩
    · refine ⟨(by show 0 ≤ sizeLine; decide), fun p hp => ⟨_, _, rfl, p, rfl, hp, ?_, ⟨fun b o _ e => same_upd hp b o e, ?_, upd_same⟩⟩⟩
      · intro z
        obtain ⟨g, s, i, e, _⟩ := D
        rw [z, e] at hp
        cases hp
      · refine D.same (upd_ne ?_)
        intro z
        obtain ⟨g, s, i, e, _⟩ := D
        rw [← z, e] at hp
        cases hp
    rintro σ1 H1 ⟨p, rfl, np, nd, k1⟩
    refine ⟨fun σ' H' => ∃ (ws : List Str) (u4 u5 u6 : Option V), σ' = [some (.ref d), some (.int m), some (.str abc), some (.ref p), u4, u5, u6] ∧ Kept H d p (n + 12 * m) (ws.map V.str) H' ∧ ws.length = m ∧ ∀ x ∈ ws, Wd x, ?_, ?_⟩
    rotate_left
    · rintro σ2 H2 ⟨ws, u4, u5, u6, rfl, k2, l2, w2⟩
      exact ⟨_, rfl, q H2 p ws k2.ds np k2.dice k2.lst l2 w2⟩
    refine ⟨_, rfl, (m : Int), rfl, by omega, by omega, ?_⟩
    rw [Int.toNat_natCast]
    refine for_range (lo := 0) (n := m) (fun i σ' H' => ∃ (ws : List Str) (u4 u5 u6 : Option V), σ' = [some (.ref d), some (.int m), some (.str abc), some (.ref p), u4, u5, u6] ∧ Kept H d p (n + 12 * i) (ws.map V.str) H' ∧ ws.length = i ∧ ∀ x ∈ ws, Wd x)
      ⟨[], none, none, none, rfl, k1, rfl, fun _ z => (nomatch z)⟩ ?_ (fun σ' H' z => z)
    rintro i σ2 H2 hi ⟨ws, u4, u5, u6, rfl, k2, l2, w2⟩
    rw [Int.zero_add]
    -- word = ''
    refine ⟨fun σ' H' => σ' = [some (.ref d), some (.int m), some (.str abc), some (.ref p), some (.int i), some (.str ""), u6] ∧ H' = H2, ⟨rfl, rfl⟩, ?_⟩
    rintro σ3 H3 ⟨rfl, rfl⟩
    -- its signs
    refine ⟨fun σ' H' => ∃ (x : Str) (u6 : Option V), σ' = [some (.ref d), some (.int m), some (.str abc), some (.ref p), some (.int i), some (.str x), u6] ∧ Wd x ∧ Kept H d p (n + 12 * i + 9) (ws.map V.str) H', ?_, ?_⟩
    · refine ⟨(by show 4 ≤ sizeLine; decide), fun l nl => ?_⟩
      obtain ⟨k3, ld, lp⟩ := k2.new (o := .lst [.int 1, .int 1, .int 2, .int 8]) nl
      refine ⟨_, rfl, d, 4, _, rfl, k3.dice, by omega, by decide, by decide, fun r o r0 r1 D4 => ?_⟩
      have k4 := k3.roll nd D4
      obtain ⟨t, t1, t8, et⟩ := turns_cases r0 r1
      refine ⟨l, _, r, _, rfl, rfl, SqL.of (xs := [.int 1, .int 1, .int 2, .int 8]) (by rw [upd_ne ld]; exact upd_same), et, (t : Int), rfl, by omega, by omega, ?_⟩
      rw [Int.toNat_natCast]
      refine for_range (lo := 0) (n := t) (fun j σ' H' => ∃ (x : Str) (u6 : Option V), σ' = [some (.ref d), some (.int m), some (.str abc), some (.ref p), some (.int i), some (.str x), u6] ∧ Low x ∧ x.length = j ∧ Kept H d p (n + 12 * i + 1 + j) (ws.map V.str) H')
        ⟨"", u6, rfl, low_nil, by decide +kernel, k4⟩ ?_ ?_
      · rintro j σ5 H5 hj ⟨x, v6, rfl, lx, ex, k5⟩
        refine ⟨_, rfl, _, rfl, _, rfl, d, 26, _, rfl, k5.dice, by omega, by decide, by decide, fun r o r0 r1 D6 => ?_⟩
        obtain ⟨c, ec, c1, c2⟩ := abc_at r0 r1
        refine ⟨abc, r, c, rfl, rfl, abc_fits, ec, x, _, rfl, rfl, ?_, x ++ ⟨#[c]⟩, some (.int (0 + (j : Int))), rfl, low_app lx (low_one c1 c2), ?_, k5.roll nd D6⟩
        · rw [ex, sizeLine_eq]
          show j + 1 ≤ _
          omega
        · rw [app_len, ex]
          rfl
      · rintro σ5 H5 ⟨x, v6, rfl, lx, ex, k5⟩
        exact ⟨x, v6, rfl, ⟨lx, by omega, by omega⟩, k5.more (by omega)⟩
    rintro σ3 H4 ⟨x, v6, rfl, wx, k4⟩
    -- a sign behind the word before
    refine ⟨fun σ' H' => ∃ (x : Str), σ' = [some (.ref d), some (.int m), some (.str abc), some (.ref p), some (.int i), some (.str x), v6] ∧ Wd x ∧ Kept H d p (n + 12 * i + 10) (ws.map V.str) H', ?_, ?_⟩
    · refine ⟨_, rfl, (by show 0 ≤ sizeLine; decide), fun l nl => ?_⟩
      obtain ⟨k5, ld, lp⟩ := k4.new (o := .lst []) nl
      refine ⟨_, _, .lst (SqL.of k5.lst) (dp_strs ws), .lst (SqL.of upd_same) .nil, shaped_strs ws w2, rfl, _, rfl, ifB (fun e => ?_) fun _ => ?_⟩
      · refine ⟨_, rfl, d, 4, _, rfl, k5.dice, by omega, by decide, by decide, fun r o r0 r1 D6 => ?_⟩
        have k6 := k5.roll nd D6
        refine ⟨rfl, _, rfl, ifB (fun _ => ?_) fun _ => ?_⟩
        · obtain ⟨w0, y, rfl⟩ : ∃ w0 y, ws = w0 ++ [y] := by
            rcases List.eq_nil_or_concat ws with z | ⟨w0, y, z⟩
            · rw [z] at e
              exact absurd e (by decide)
            · exact ⟨w0, y, by rw [z, List.concat_eq_append]⟩
          have wy : Wd y := w2 y (by simp)
          refine ⟨_, rfl, 1, rfl, p, _, -1, .str y, rfl, rfl, SqL.of k6.lst, ?_, y, "a", rfl, rfl, ?_, 8, rfl, y ++ "a", rfl, ?_, ?_⟩
          · rw [List.map_append]
            exact atI_last _ _
          · have := wy.le
            rw [sizeLine_eq]
            show y.length + 1 ≤ _
            omega
          · have := wy.le
            rw [app_len, sizeLine_eq]
            show y.length + 1 ≤ _
            omega
          · have ya : (y ++ "a").length = y.length + 1 := app_len
            have la : Low "a" := by
              have z : ("a" : Str) = ⟨#[97]⟩ := by decide +kernel
              rw [z]
              exact low_one (by decide) (by decide)
            exact ⟨cutS (y ++ "a") none (some 8), rfl, ⟨low_cut (low_app wy.low la) _ _, by rw [cut8_len, ya]; omega, by rw [cut8_len]; omega⟩, k6⟩
        · exact ⟨x, rfl, wx, k6⟩
      · exact ⟨x, rfl, wx, k5.more (by omega)⟩
    rintro σ4 H5 ⟨x, rfl, wx, k5⟩
    -- another first sign while the word is there
    refine ⟨fun σ' H' => ∃ (x : Str) (u6 : Option V), σ' = [some (.ref d), some (.int m), some (.str abc), some (.ref p), some (.int i), some (.str x), u6] ∧ Wd x ∧ H' = H5, ?_, ?_⟩
    · refine ⟨_, rfl, (m : Int), rfl, by omega, by omega, ?_⟩
      rw [Int.toNat_natCast]
      refine for_range (lo := 0) (n := m) (fun j σ' H' => ∃ (x : Str) (u6 : Option V), σ' = [some (.ref d), some (.int m), some (.str abc), some (.ref p), some (.int i), some (.str x), u6] ∧ Wd x ∧ H' = H5) ⟨x, v6, rfl, wx, rfl⟩ ?_ (fun σ' H' z => z)
      rintro j σ6 H6 hj ⟨x, u6, rfl, wx, rfl⟩
      refine ⟨_, rfl, _, rfl, p, _, rfl, .inl (SqL.of k5.lst), rfl, flat_strs ws, _, rfl, ifB (fun _ => ?_) fun _ => ?_⟩
      · obtain ⟨c, ec, c1, c2⟩ := at_first wx
        refine ⟨_, rfl, _, rfl, rfl, _, rfl, x, 0, c, rfl, rfl, ?_, ec, abc, _, rfl, rfl, fun k ek => ?_, fun en => ?_⟩
        · have := wx.le
          rw [sizeLine_eq]
          omega
        · have kc : k < 26 := by
            rw [found_all c ⟨c1, c2⟩] at ek
            cases ek
            omega
          obtain ⟨c', ec', d1, d2⟩ := abc_at (r := ((k : Int) + 1) % 26) (by omega) (by omega)
          have cl := cut1_len wx.pos
          have xl := wx.le
          refine ⟨_, _, rfl, rfl, _, _, rfl, rfl, (by show (0 : Int) < 26; decide), abc, _, c', rfl, rfl, abc_fits, ec', _, rfl, 1, rfl, x, rfl, by rw [sizeLine_eq]; omega, _, _, rfl, rfl, ?_, _, _, rfl, ⟨low_app (low_one d1 d2) (low_cut wx.low _ _), ?_, ?_⟩, rfl⟩
          · rw [cl, sizeLine_eq]
            show 1 + (x.length - 1) ≤ _
            omega
          · rw [app_len, cl]
            show 0 < 1 + (x.length - 1)
            omega
          · rw [app_len, cl]
            show 1 + (x.length - 1) ≤ 8
            omega
        · rw [found_all c ⟨c1, c2⟩] at en
          exact nomatch en
      · exact ⟨x, _, rfl, wx, rfl⟩
    rintro σ5 H6 ⟨x, u6, rfl, wx, rfl⟩
    refine ⟨_, rfl, .inl ⟨rfl, _, SqL.of k5.lst⟩, _, rfl, p, _, _, rfl, rfl, k5.lst, ?_, ?_⟩
    · rw [List.length_map, l2, sizeLine_eq]
      omega
    · refine ⟨ws ++ [x], _, _, _, rfl, ?_, by rw [List.length_append, l2]; rfl, fun y hy => ?_⟩
      · rw [List.map_append]
        exact (k5.put nd np).more (by omega)
      · rcases List.mem_append.mp hy with z | z
        · exact w2 y z
        · rw [List.mem_singleton.mp z]; exact wx
end
end K02
/-! Sets of nested keys (tuples of numbers, texts, tuples ..): what a table asks of its items. -/
namespace NS
open PySem PySem.Spec PyProof.Rows L2
section
variable {P : Program} {w : World}
/-- hashByValue answers, one way or the other -/
def AnyHash (P : Program) (w : World) (n : Nat) (s : Shared) (v : Value) : Prop := ∀ (A : Around) (E : Value → Shared → Prop) (Q : Bool → Shared → Prop), (∀ b, Q b s) → wpAny (model P w) A (hashByValue n v) Q E s
def NoClass (P : Program) (w : World) (n : Nat) (s : Shared) (v : Value) : Prop := ∀ (A : Around) (E : Value → Shared → Prop) (Q : Bool → Shared → Prop), Q false s → wpAny (model P w) A (ofAClassStatement n v) Q E s
theorem AnyHash.of_eq {n : Nat} {s : Shared} {v : Value} {b : Bool} (e : hashByValue n v = pure b) : AnyHash P w n s v := fun A E Q q => by
  rw [e]
  exact wpAny_pure (q b)
theorem NoClass.of_eq {n : Nat} {s : Shared} {v : Value} (e : ofAClassStatement n v = pure false) : NoClass P w n s v := fun A E Q q => by
  rw [e]
  exact wpAny_pure q
theorem AnyHash.tup {n : Nat} {s : Shared} {a : Addr} {o : Obj} {vs : Array Value} {m : Nat} (ho : s.heap.get? a = some o) (hc : o.cls = .type "tuple") (hd : o.data = .seq vs m) (all : ∀ v ∈ vs.toList, AnyHash P w n s v) : AnyHash P w (n + 1) s (.ref a) := fun A E Q q => by
  have ty : s.TypeIs (.ref a) "tuple" := ⟨o, ho, hc⟩
  rw [hashByValue]
  refine wpAny_bind (wpAny_specialOf ty F.slot_tuple_hash.lookup (show wpAny _ _ (seqItems? (.ref a) >>= _) _ _ s from wpAny_bind (wpAny_seqItems ho hd (wpAny_bind ?_))))
  show wpAny _ _ (forIn vs _ _) _ _ s
  rw [← Array.forIn_toList]
  refine wpAny_forIn_list _ (fun l r s1 => s1 = s ∧ r.1 = none ∧ ∀ v ∈ l, AnyHash P w n s v) _ (fun v l r s1 i => ?_) (fun r s1 i => ?_) _ _ ⟨rfl, rfl, all⟩
  · obtain ⟨rfl, e, al⟩ := i
    refine wpAny_bind (al v List.mem_cons_self _ _ _ fun b => ?_)
    cases b
    · exact wpAny_pure (wpAny_pure (q false))
    · exact wpAny_pure ⟨rfl, rfl, fun u hu => al u (List.mem_cons_of_mem _ hu)⟩
  · obtain ⟨r1, r2⟩ := r
    obtain ⟨rfl, e, _⟩ := i
    cases e
    exact wpAny_pure (q true)
theorem NoClass.tup {n : Nat} {s : Shared} {a : Addr} {o : Obj} {vs : Array Value} {m : Nat} (ho : s.heap.get? a = some o) (hc : o.cls = .type "tuple") (hd : o.data = .seq vs m) (all : ∀ v ∈ vs.toList, NoClass P w n s v) : NoClass P w (n + 1) s (.ref a) := fun A E Q q => by
  have ty : s.TypeIs (.ref a) "tuple" := ⟨o, ho, hc⟩
  rw [ofAClassStatement]
  refine wpAny_bind (wpAny_typeOf ty ?_)
  dsimp only
  rw [show (("tuple" : String) == "tuple") = true from rfl]
  simp only [if_true, Bool.not_true, Bool.false_eq_true, if_false]
  try refine wpAny_bind (wpAny_pure ?_)
  try simp only [Bool.not_true, Bool.false_eq_true, if_false]
  refine (show wpAny _ _ (seqItems? (.ref a) >>= _) _ _ s from wpAny_bind (wpAny_seqItems ho hd (wpAny_bind ?_)))
  show wpAny _ _ (forIn vs _ _) _ _ s
  rw [← Array.forIn_toList]
  refine wpAny_forIn_list _ (fun l r s1 => s1 = s ∧ r.1 = none ∧ ∀ v ∈ l, NoClass P w n s v) _ (fun v l r s1 i => ?_) (fun r s1 i => ?_) _ _ ⟨rfl, rfl, all⟩
  · obtain ⟨rfl, e, al⟩ := i
    exact wpAny_bind (al v List.mem_cons_self _ _ _ (wpAny_pure ⟨rfl, rfl, fun u hu => al u (List.mem_cons_of_mem _ hu)⟩))
  · obtain ⟨r1, r2⟩ := r
    obtain ⟨rfl, e, _⟩ := i
    cases e
    exact wpAny_pure q
mutual
theorem hash_key : ∀ (k : NestedKey) (v : Value) (n : Nat) (s : Shared), NestedIs s.heap k v → AnyHash P w n s v
  | .none, _, n, s, x => by cases x; cases n <;> exact .of_eq (b := true) rfl
  | .num i, _, n, s, x => by cases x <;> cases n <;> exact .of_eq (b := true) rfl
  | .text y, _, n, s, x => by cases x; cases n <;> exact .of_eq (b := false) rfl
  | .tup ks, _, n, s, x => by
    cases x with
    | tup a1 a2 a3 a4 =>
      cases n with
      | zero => exact .of_eq (b := false) rfl
      | succ n => exact .tup a1 a2 a3 (hash_keys ks _ n s a4)
theorem hash_keys : ∀ (ks : List NestedKey) (vs : List Value) (n : Nat) (s : Shared), NestedAll s.heap ks vs → ∀ v ∈ vs, AnyHash P w n s v
  | [], _, n, s, x, v, m => by cases x; exact nomatch m
  | k :: ks, _, n, s, x, v, m => by
    cases x with
    | cons x1 x2 => exact (List.mem_cons.mp m).elim (fun e => e ▸ hash_key k _ n s x1) (hash_keys ks _ n s x2 v)
end
mutual
theorem class_key : ∀ (k : NestedKey) (v : Value) (n : Nat) (s : Shared), NestedIs s.heap k v → k.depth ≤ n → NoClass P w n s v
  | .none, _, n, s, x, _ => by cases x; cases n <;> exact .of_eq rfl
  | .num i, _, n, s, x, _ => by cases x <;> cases n <;> exact .of_eq rfl
  | .text y, _, n, s, x, _ => by cases x; cases n <;> exact .of_eq rfl
  | .tup ks, _, n, s, x, d => by
    cases x with
    | tup a1 a2 a3 a4 =>
      rw [NestedKey.depth] at d
      cases n with
      | zero => exact absurd d (Nat.not_succ_le_zero _)
      | succ n => exact .tup a1 a2 a3 (class_keys ks _ n s a4 (Nat.le_of_succ_le_succ d))
theorem class_keys : ∀ (ks : List NestedKey) (vs : List Value) (n : Nat) (s : Shared), NestedAll s.heap ks vs → NestedKey.depthAll ks ≤ n → ∀ v ∈ vs, NoClass P w n s v
  | [], _, n, s, x, _, v, m => by cases x; exact nomatch m
  | k :: ks, _, n, s, x, d, v, m => by
    cases x with
    | cons x1 x2 =>
      rw [NestedKey.depthAll] at d
      exact (List.mem_cons.mp m).elim (fun e => e ▸ class_key k _ n s x1 (by omega)) (class_keys ks _ n s x2 (by omega) v)
end
/-- what a set may hold here: the tuple at a is the key k, at most eight deep -/
structure Nk (h : Heap) (k : NestedKey) (a : Addr) : Prop where
  is : NestedIs h k (.ref a)
  dp : k.depth ≤ 8
theorem Nk.inj {h : Heap} {x y : NestedKey} {a : Addr} (p : Nk h x a) (q : Nk h y a) : x = y := NestedIs.inj x y _ p.is q.is
theorem Nk.keep {h h' : Heap} {k : NestedKey} {a : Addr} (p : Nk h k a) (f : ∀ b o, h.get? b = some o → h'.get? b = some o) : Nk h' k a := ⟨NestedIs.at (fun b o _ _ e _ => f b o e) k _ p.is, p.dp⟩
theorem Nk.but {h h' : Heap} {k : NestedKey} {a b : Addr} {o : Obj} {es : Array (Int × Value)} {ep : Nat} {t : SetTable} (p : Nk h k b) (ho : h.get? a = some o) (hd : o.data = .set es ep t) (sb : Heap.SameBut a h h') : Nk h' k b := by
  refine ⟨NestedIs.at (fun c oc vs n e ec => (sb.2 c fun z => ?_).trans e) k _ p.is, p.dp⟩
  subst z
  rw [ho] at e
  cases e
  rw [hd] at ec
  cases ec
variable {A : Around} {E : Value → Shared → Prop} {s : Shared}
/-- a search among keys shows nothing -/
theorem hidden {k : NestedKey} {a : Addr} {Q : Bool → Shared → Prop} (x : Nk s.heap k a) {ys : List Value} (hy : ∀ y ∈ ys, ∃ j b, y = Value.ref b ∧ Nk s.heap j b) (q : Q false s) : wpAny (model P w) A (searchCouldBeSeen (.ref a) ys) Q E s := by
  rw [searchCouldBeSeen]
  refine wpAny_bind (wpAny_forIn_list _ (fun l r s1 => s1 = s ∧ r.1 = none ∧ ∀ y ∈ l, ∃ j b, y = Value.ref b ∧ Nk s.heap j b) _ (fun v l r s1 i => ?_) (fun r s1 i => ?_) _ _ ⟨rfl, rfl, hy⟩)
  · obtain ⟨rfl, e, al⟩ := i
    obtain ⟨j, b, rfl, xb⟩ := al v List.mem_cons_self
    have nx : s1 = s1 ∧ (none : Option Bool) = none ∧ ∀ y ∈ l, ∃ j b, y = Value.ref b ∧ Nk s1.heap j b := ⟨rfl, rfl, fun u hu => al u (List.mem_cons_of_mem _ hu)⟩
    by_cases c : (a == b || (carriedByValue (.ref a) && carriedByValue (.ref b))) = true
    · exact wp_if_pos c (wpAny_pure nx)
    · refine wp_if_neg c (wpAny_bind (quiet_key k _ 8 s1 x.is x.dp _ _ _ ?_))
      refine wpAny_bind (quiet_key j _ 8 s1 xb.is xb.dp _ _ _ ?_)
      refine wpAny_bind (class_key k _ 8 s1 x.is x.dp _ _ _ ?_)
      refine wpAny_bind (class_key j _ 8 s1 xb.is xb.dp _ _ _ ?_)
      exact wpAny_pure nx
  · obtain ⟨r1, r2⟩ := r
    obtain ⟨rfl, e, _⟩ := i
    cases e
    exact wpAny_pure q
end
end NS
/-! Sets of nested keys: the set at an address, looking for a key in it, putting one in. -/
namespace NS
open PySem PySem.Spec PyProof.Rows L2
abbrev Row := Addr × NestedKey
/-- what the set keeps of its rows -/
def kept (w : World) (L : List Row) : List (Int × Value) := L.map fun p => (p.2.hash w, Value.ref p.1)
theorem kept_len {w : World} {L : List Row} : (kept w L).length = L.length := List.length_map _
theorem kept_get {w : World} {L : List Row} {i : Nat} {p : Row} (e : L[i]? = some p) : (kept w L)[i]? = some (p.2.hash w, Value.ref p.1) := by
  rw [kept, List.getElem?_map, e]
  rfl
/-- the keys of the rows -/
abbrev keysOf (L : List Row) : List NestedKey := L.map Prod.snd
abbrev hashesOf (w : World) (L : List Row) : List Int := L.map fun p => p.2.hash w
structure NSet (P : Program) (w : World) (h : Heap) (a : Addr) (L : List Row) (es : Array (Int × Value)) (ep : Nat) (t : SetTable) : Prop where
  here : ∃ o, h.get? a = some o ∧ o.ExactSet ∧ o.data = .set es ep t
  es : es.toList = kept w L
  tab : TabOk t (hashesOf w L)
  once : (keysOf L).Nodup
  keys : ∀ p ∈ L, Nk h p.2 p.1
  led : w.params.followText "set-order" = true ∨ t.led = true
  space : L.length * 5 < t.mask * 3
  few : L.length < 64
/-- the c-th stand of the search for the hash g -/
abbrev stand (t : SetTable) (g : Int) (c : Nat) : SetTable.Probe := nth t.mask (runAt t.mask (SetTable.bits g % (t.mask + 1)) (SetTable.bits g)) c
theorem stand_on (t : SetTable) (g : Int) (c q : Nat) : nth t.mask (stand t g c) q = stand t g (c + q) := (nth_add t.mask c _ q).symm
theorem adv_dummy {m : Nat} {p : SetTable.Probe} (e : p.dummy = none) : (adv m p).dummy = none := by
  unfold adv
  split
  · exact e
  · exact e
theorem nth_dummy {m : Nat} : ∀ (n : Nat) {p : SetTable.Probe}, p.dummy = none → (nth m p n).dummy = none
  | 0, _, e => e
  | n + 1, _, e => nth_dummy n (adv_dummy e)
theorem stand_dummy (t : SetTable) (g : Int) (c : Nat) : (stand t g c).dummy = none := nth_dummy c rfl
section
variable {P : Program} {w : World} {A : Around} {E : Value → Shared → Prop} {s : Shared} {a : Addr} {L : List Row} {es : Array (Int × Value)} {ep : Nat} {t : SetTable}
theorem NSet.size (R : NSet P w s.heap a L es ep t) : es.size = L.length := by
  rw [← Array.length_toList, R.es, kept_len]
theorem NSet.places (R : NSet P w s.heap a L es ep t) : t.place.size = L.length := R.tab.sz.trans (List.length_map _)
theorem NSet.fits (R : NSet P w s.heap a L es ep t) : t.fits es.size = true := by
  have n1 := R.places
  have n2 := R.size
  have n3 := R.space
  have n4 : t.fill = L.length := by
    show t.place.size + t.dummies.size = L.length
    rw [R.tab.dm, n1]
    rfl
  rw [SetTable.fits, n4, n1, n2, beq_self_eq_true, Bool.true_and, decide_eq_true_eq]
  omega
theorem NSet.at (R : NSet P w s.heap a L es ep t) {i : Nat} {p : Row} (e : L[i]? = some p) : es[i]? = some (p.2.hash w, Value.ref p.1) := by
  rw [← Array.getElem?_toList, R.es, kept_get e]
theorem NSet.keptHash (R : NSet P w s.heap a L es ep t) {i : Nat} {p : Row} (e : L[i]? = some p) : (es[i]?.map (·.1)).getD 0 = p.2.hash w := by
  rw [R.at e]
  rfl
theorem NSet.still (R : NSet P w s.heap a L es ep t) : ¬ t.gaveWay = true := by
  rw [SetTable.gaveWay, mask_odd R.tab.mok]
  decide
/-- the search for k, from its c-th stand on; N is the first stand at an empty slot -/
theorem look (R : NSet P w s.heap a L es ep t) {x : Addr} {k : NestedKey} (hx : Nk s.heap k x) (hu : A.units + 8 < cLine) {N : Nat} (bound : N < 10 * SetTable.turns t.mask)
    (free : way t.mask (k.hash w) N ∉ t.place.toList) (full : ∀ c, c < N → way t.mask (k.hash w) c ∈ t.place.toList) {Q : SetFound → Shared → Prop}
    (yes : k ∈ keysOf L → Q (.there none) s) (no : k ∉ keysOf L → Q (.free (way t.mask (k.hash w) N) false) s) (fuel : Nat) :
    ∀ (c : Nat) (from? : Option SetTable.Probe), from?.getD (t.probeStart (k.hash w)) = stand t (k.hash w) c → c ≤ N → N < fuel + c →
      (∀ (i : Nat) (p : Row), L[i]? = some p → p.2 = k → ∃ d, c ≤ d ∧ d < N ∧ t.place.toList[i]? = some (way t.mask (k.hash w) d)) →
      wpAny (model P w) A (setSearchFrom a (.ref x) (k.hash w) true fuel from?) Q E s := by
  induction fuel with
  | zero => intro c _ _ h1 h2; omega
  | succ fuel ih =>
    intro c from? hfrom hc hfuel ahead
    obtain ⟨o, ho, hex, hd⟩ := R.here
    generalize hg : k.hash w = g at *
    have onj : ∀ q, (nth t.mask (stand t g c) q).j = way t.mask g (c + q) := fun q => congrArg SetTable.Probe.j (stand_on t g c q)
    have eN : c + (N - c) = N := by omega
    have found := go_spec t R.tab.ris R.tab.dm (fun i => (es[i]?.map (·.1)).getD 0) g (10 * SetTable.turns t.mask) (N - c) (stand t g c) (stand_dummy t g c) (by omega)
      (fun q hq => by rw [onj]; exact full _ (by omega)) (by rw [onj, eN]; exact free)
    rw [setSearchFrom_succ]
    refine wpAny_bind (wpAny_setState_of ho hd R.fits (wp_if_neg R.still ?_))
    try refine wpAny_bind (wpAny_pure ?_)
    rcases found with ⟨q, i, hq, hi, hh, early, ans⟩ | ⟨none, ans⟩
    · -- an entry of the same hash
      have ans2 : t.probe (fun i => (es[i]?.map (·.1)).getD 0) g (from?.getD (t.probeStart g)) = some (.candidate (way t.mask g (c + q)) i (stand t g (c + (q + 1)))) := by
        rw [hfrom, ← onj, ← stand_on]
        exact ans
      rw [onj] at hi
      have hil : i < L.length := by
        have z := (List.getElem?_eq_some_iff.mp hi).1
        rw [Array.length_toList, R.places] at z
        exact z
      obtain ⟨p, hp⟩ : ∃ p, L[i]? = some p := ⟨_, List.getElem?_eq_getElem hil⟩
      have mp : p ∈ L := List.mem_of_getElem? hp
      have here : t.slot (way t.mask g (c + q)) = .live i := slot_live R.tab.ris hi
      have go : wpAny (model P w) A (searchRest a (.ref x) g true fuel es t (way t.mask g (c + q)) i (stand t g (c + (q + 1)))) Q E s := by
        rw [searchRest, R.at hp]
        refine wpAny_bind (wpAny_holding (eqAt_key p.2 k A s _ _ (R.keys p mp).is hx.is (by have := hx.dp; omega) _ _ _ _ ?_))
        refine wpAny_bind (wpAny_setState_of ho hd R.fits ?_)
        by_cases same : p.2 = k
        · have eb : NestedKey.beq p.2 k = true := by rw [same]; exact NestedKey.beq_self k
          rw [eb]
          exact wpAny_pure (yes (List.mem_map.mpr ⟨p, mp, same⟩))
        · have eb : NestedKey.beq p.2 k = false := by rw [← NestedKey.decide_eq]; exact decide_eq_false same
          rw [eb]
          simp only [Bool.and_false, Bool.false_eq_true, if_false]
          try refine wpAny_bind (wpAny_pure ?_)
          rw [sameMem]
          simp only [if_true, here, R.at hp]
          refine wpAny_bind (wpAny_isSame_ref_self (wpAny_bind (wpAny_pure ?_)))
          simp only [if_true, Bool.false_eq_true, if_false]
          refine ih (c + (q + 1)) _ rfl (by omega) (by omega) fun i2 p2 h2 e2 => ?_
          obtain ⟨d, d1, d2, d3⟩ := ahead i2 p2 h2 e2
          refine ⟨d, ?_, d2, d3⟩
          rcases Nat.lt_trichotomy d (c + q) with z | z | z
          · refine absurd ((R.keptHash h2).trans (by rw [e2]; exact hg)) (early (d - c) i2 (by omega) ?_)
            rw [onj, show c + (d - c) = d by omega]
            exact d3
          · rw [z] at d3
            have l2 := slot_live R.tab.ris d3
            rw [here] at l2
            injection l2 with l2
            rw [← l2, hp] at h2
            cases h2
            exact absurd e2 same
          · omega
      rw [ans2]
      by_cases hl : t.led = true
      · refine wp_if_neg (by rw [hl]; decide) ?_
        try refine wpAny_bind (wpAny_pure ?_)
        exact go
      · refine wp_if_pos (by cases z : t.led with | true => exact absurd z hl | false => rfl) ?_
        refine wpAny_bind (hidden hx (fun y hy => ?_) ?_)
        · obtain ⟨e, he, ee⟩ := List.mem_map.mp hy
          have he1 : e ∈ es.toList := by
            have z : e ∈ es ∧ e.1 = g := by simpa using he
            simpa using z.1
          rw [R.es] at he1
          obtain ⟨p2, m2, e2⟩ := List.mem_map.mp he1
          exact ⟨p2.2, p2.1, by rw [← ee, ← e2], R.keys p2 m2⟩
        · simp only [Bool.false_eq_true, if_false]
          try refine wpAny_bind (wpAny_pure ?_)
          exact go
    · -- the empty slot
      have ans2 : t.probe (fun i => (es[i]?.map (·.1)).getD 0) g (from?.getD (t.probeStart g)) = some (.empty (way t.mask g N) Option.none) := by
        rw [hfrom, show way t.mask g N = (nth t.mask (stand t g c) (N - c)).j by rw [onj, eN]]
        exact ans
      rw [ans2]
      refine wpAny_pure (no fun m => ?_)
      obtain ⟨p, mp, e⟩ := List.mem_map.mp m
      obtain ⟨i, hi, ei⟩ := List.getElem_of_mem mp
      have hp : L[i]? = some p := by rw [List.getElem?_eq_getElem hi, ei]
      obtain ⟨d, d1, d2, d3⟩ := ahead i p hp e
      refine none (d - c) i (by omega) ?_ ((R.keptHash hp).trans (by rw [e]; exact hg))
      rw [onj, show c + (d - c) = d by omega]
      exact d3
theorem lookup (R : NSet P w s.heap a L es ep t) {x : Addr} {k : NestedKey} (hx : Nk s.heap k x) (hu : A.units + 8 < cLine) {Q : SetFound → Shared → Prop} (yes : k ∈ keysOf L → Q (.there none) s)
    (no : ∀ N, k ∉ keysOf L → way t.mask (k.hash w) N ∉ t.place.toList → (∀ c, c < N → way t.mask (k.hash w) c ∈ t.place.toList) → Q (.free (way t.mask (k.hash w) N) false) s) :
    wpAny (model P w) A (setSearch a (.ref x) (k.hash w) true) Q E s := by
  have sp := R.space
  obtain ⟨N, n1, n2, n3⟩ := R.tab.first (by rw [List.length_map]; omega) (k.hash w)
  have small : N < 100000 := by
    have z : 10 * SetTable.turns t.mask ≤ 1420 := by
      unfold SetTable.turns
      rcases R.tab.mok with e | e | e <;> omega
    omega
  refine look R hx hu n1 n2 n3 yes (fun m => no N m n2 n3) 100000 0 none rfl (Nat.zero_le _) (by omega) fun i p hp e => ?_
  have hi : (hashesOf w L)[i]? = some (k.hash w) := by
    rw [List.getElem?_map, hp, ← e]
    rfl
  have il : i < t.place.toList.length := by
    rw [Array.length_toList, R.places]
    exact (List.getElem?_eq_some_iff.mp hp).1
  obtain ⟨d, d1, d2⟩ := R.tab.before n2 hi (List.getElem?_eq_getElem il)
  exact ⟨d, Nat.zero_le _, d1, by rw [List.getElem?_eq_getElem il, d2]⟩
end
end NS
/-! Sets of nested keys: laying the table anew, adding. -/
namespace NS
open PySem PySem.Spec PyProof.Rows L2
theorem range_get {α : Type} : ∀ l : List α, (List.range l.length).filterMap (fun i => l[i]?) = l
  | [] => rfl
  | x :: l => by
    rw [List.length_cons, List.range_succ_eq_map, List.filterMap_cons, List.filterMap_map]
    have e : (List.range l.length).filterMap ((fun i => (x :: l)[i]?) ∘ Nat.succ) = (List.range l.length).filterMap fun i => l[i]? := by
      congr 1
    rw [e, range_get l]
    rfl
section
variable {P : Program} {w : World}
theorem reordered {L : List Row} {es : Array (Int × Value)} {order : Array Nat} (he : es.toList = kept w L) (hp : order.toList.Perm (List.range L.length)) :
    ∃ L2, (order.filterMap (es[·]?)).toList = kept w L2 ∧ L2.Perm L ∧ hashesOf w L2 = order.toList.map fun i => (es.map (·.1)).getD i 0 := by
  have at' : ∀ i, es[i]? = (L[i]?).map fun p : Row => (p.2.hash w, Value.ref p.1) := fun i => by
    rw [← Array.getElem?_toList, he, kept, List.getElem?_map]
  refine ⟨order.toList.filterMap fun i => L[i]?, ?_, ?_, ?_⟩
  · rw [kept, List.map_filterMap]
    have e : (fun i => es[i]?) = fun i => (L[i]?).map fun p : Row => (p.2.hash w, Value.ref p.1) := funext at'
    rw [e]
    simp
  · have z := hp.filterMap fun i => L[i]?
    rw [range_get] at z
    exact z
  · show List.map _ _ = _
    rw [List.map_filterMap]
    have e : ∀ i ∈ order.toList, ((L[i]?).map fun p => p.2.hash w) = some ((es.map (·.1)).getD i 0) := fun i hi => by
      have il : i < L.length := List.mem_range.mp (hp.mem_iff.mp hi)
      have q : (es.map (·.1))[i]? = some (L[i].2.hash w) := by
        rw [Array.getElem?_map, at', List.getElem?_eq_getElem il]
        rfl
      rw [List.getElem?_eq_getElem il, Array.getD_eq_getD_getElem?, q]
      rfl
    have go : ∀ l : List Nat, (∀ i ∈ l, ((L[i]?).map fun p => p.2.hash w) = some ((es.map (·.1)).getD i 0)) → l.filterMap (fun i => (L[i]?).map fun p => p.2.hash w) = l.map fun i => (es.map (·.1)).getD i 0 := by
      intro l
      induction l with
      | nil => intro _; rfl
      | cons i l ih => intro h; rw [List.filterMap_cons, h i List.mem_cons_self, List.map_cons, ← ih fun j hj => h j (List.mem_cons_of_mem _ hj)]
    exact go _ e
variable {A : Around} {E : Value → Shared → Prop} {s : Shared} {a : Addr} {L : List Row} {es : Array (Int × Value)} {ep : Nat} {t : SetTable}
/-- what stands at a while its table is too full: as NSet, but for the space -/
structure Tight (P : Program) (w : World) (h : Heap) (a : Addr) (L : List Row) (es : Array (Int × Value)) (ep : Nat) (t : SetTable) : Prop where
  here : ∃ o, h.get? a = some o ∧ o.ExactSet ∧ o.data = .set es ep t
  es : es.toList = kept w L
  tab : TabOk t (hashesOf w L)
  once : (keysOf L).Nodup
  keys : ∀ p ∈ L, Nk h p.2 p.1
  led : w.params.followText "set-order" = true ∨ t.led = true
  few : L.length < 64
  in' : L.length ≤ t.mask
theorem relay (R : Tight P w s.heap a L es ep t) {wanted M : Nat} (e1 : SetTable.sizeAbove wanted - 1 = M) (e2 : MaskOk M) (e3 : SetTable.sizeAbove wanted ≤ 128) (e4 : L.length * 5 < M * 3) {Q : Unit → Shared → Prop}
    (q : ∀ h1 L1 es1 ep1 t1, Heap.SameBut a s.heap h1 → NSet P w h1 a L1 es1 ep1 t1 → L1.Perm L → Q () { s with heap := h1 }) : wpAny (model P w) A (setRelay a wanted) Q E s := by
  obtain ⟨o, ho, hex, hd⟩ := R.here
  have sz : es.size = L.length := by rw [← Array.length_toList, R.es, kept_len]
  have pl : t.place.size = L.length := R.tab.sz.trans (List.length_map _)
  have fit : t.fits es.size = true := by
    have fl : t.fill = L.length := by
      show t.place.size + t.dummies.size = L.length
      rw [R.tab.dm, pl]
      rfl
    rw [SetTable.fits, fl, pl, sz, beq_self_eq_true, Bool.true_and, decide_eq_true_eq]
    exact R.in'
  obtain ⟨t1, order, r1, r2, r3, r4, r5, _, r7⟩ := relaid_ok t (hs := es.map (·.1)) (wanted := wanted) e1 e2 (by rw [Array.size_map, sz]; omega)
  rw [Array.size_map, sz] at r2
  obtain ⟨L1, m1, m2, m3⟩ := reordered R.es r2
  rw [← m3] at r3
  have sz1 : (order.filterMap (es[·]?)).size = es.size := by rw [← Array.length_toList, m1, kept_len, m2.length_eq, sz]
  rw [setRelay_eq]
  refine wpAny_bind (wpAny_setState_of ho hd fit (wp_if_neg (by rw [sizeLine_eq]; omega) ?_))
  try refine wpAny_bind (wpAny_pure ?_)
  rw [r1]
  refine wpAny_bind (wp_if_neg (by rw [sz1]; simp) ?_)
  try refine wpAny_bind (wpAny_pure ?_)
  refine wpAny_pure (wpAny_storeSet_of ho hd ?_ (by rw [sz1, sz, sizeLine_eq]; have := R.few; omega))
  have sb : Heap.SameBut a s.heap (s.heap.update a (Obj.putSet (order.filterMap (es[·]?)) t1)) := Heap.SameBut.update ..
  refine q _ L1 _ (ep + 1) t1 sb ⟨⟨_, store_at ho hd, ⟨hex.1, hex.2.1, hex.2.2⟩, rfl⟩, m1, r3, ?_, fun p mp => (R.keys p (m2.mem_iff.mp mp)).but ho hd sb, ?_, ?_, ?_⟩ m2
  · exact (m2.map Prod.snd).nodup_iff.mpr R.once
  · rw [r5]; exact R.led
  · rw [m2.length_eq, r4]; exact e4
  · rw [m2.length_eq]; exact R.few
/-- one more row -/
theorem put_in (R : NSet P w s.heap a L es ep t) {x : Addr} {k : NestedKey} (hx : Nk s.heap k x) (hu : A.units + 8 < cLine) (few : L.length + 1 < 64) {Q : Bool → Shared → Prop}
    (q : ∀ b h1 L1 es1 ep1 t1, Heap.SameBut a s.heap h1 → NSet P w h1 a L1 es1 ep1 t1 → (k ∈ keysOf L → L1 = L) → (k ∉ keysOf L → L1.Perm ((x, k) :: L)) → Q b { s with heap := h1 }) :
    wpAny (model P w) A (setAddHashed a (.ref x) (k.hash w)) Q E s := by
  obtain ⟨o, ho, hex, hd⟩ := R.here
  have sz := R.size
  have sp := R.space
  rw [setAddHashed]
  refine wpAny_holding ?_
  rw [show (100000 : Nat) = 99999 + 1 from rfl, setAddHashedIn_succ]
  refine wpAny_bind (wpAny_setState_of ho hd R.fits (wp_if_neg (by simp [byScan, Value.scannable]) ?_))
  try refine wpAny_bind (wpAny_pure ?_)
  refine wpAny_bind (lookup R hx hu (fun m => ?_) fun N m n1 n2 => ?_)
  · exact wpAny_pure (q false s.heap L es ep t (Heap.SameBut.refl a s.heap) R (fun _ => rfl) fun z => absurd m z)
  · refine wpAny_bind (wpAny_setState_of ho hd R.fits ?_)
    obtain ⟨q1, q2, q3, q4, q5, q6, q7, q8, q9⟩ := R.tab.put n1 n2
    dsimp only
    generalize way t.mask (k.hash w) N = j at q1 q2 q3 q4 q5 q6 q7 q8 q9 ⊢
    generalize hpt : t.put j = pt at q1 q3 q4 q5 q6 q7 q8 q9 ⊢
    obtain ⟨t1, at1⟩ := pt
    dsimp only at q1 q3 q4 q5 q6 q7 q8 q9 ⊢
    subst q1
    generalize hb : SetTable.below t.place j = b at q2 q3 ⊢
    have rows1 : (SetTable.insertAt es b (k.hash w, Value.ref x)).toList = kept w (L.take b ++ (x, k) :: L.drop b) := by
      rw [SetTable.toList_insertAt, R.es, kept, kept, List.map_append, List.map_cons, List.map_take, List.map_drop]
    have hash1 : (hashesOf w L).take b ++ k.hash w :: (hashesOf w L).drop b = hashesOf w (L.take b ++ (x, k) :: L.drop b) := by
      rw [hashesOf, hashesOf, List.map_append, List.map_cons, List.map_take, List.map_drop]
    rw [hash1] at q3
    have pm := put_perm L b (x, k)
    generalize L.take b ++ (x, k) :: L.drop b = L1 at pm rows1 q3
    have n1 : L1.length = L.length + 1 := pm.length_eq
    have once1 : (keysOf L1).Nodup := (pm.map Prod.snd).nodup_iff.mpr (by rw [List.map_cons]; exact List.nodup_cons.mpr ⟨m, R.once⟩)
    generalize SetTable.insertAt es b (k.hash w, Value.ref x) = es1 at rows1 ⊢
    have sz1 : es1.size = L.length + 1 := by rw [← Array.length_toList, rows1, kept_len, n1]
    -- the rest, whatever the flag says
    have rest : ∀ t2 : SetTable, t2.place = t1.place → t2.dummies = t1.dummies → t2.mask = t1.mask → t2.led = t1.led →
        wpAny (model P w) A (storeSet a es1 t2 >>= fun _ => if (!false && t2.tooFull) = true then (setRelay a (SetTable.grown (es.size + 1)) >>= fun _ => pure true) else pure true) Q E s := by
      intro t2 p1 p2 p3 p4
      have tab2 : TabOk t2 (hashesOf w L1) := ⟨by rw [p1]; exact q3.ris, by rw [p2]; exact q3.dm, by rw [p1]; exact q3.sz, by rw [p3]; exact q3.mok, by rw [p1, p3]; exact q3.bd, by rw [p1, p3]; exact q3.reach⟩
      have fill2 : t2.fill = L.length + 1 := by
        show t2.place.size + t2.dummies.size = L.length + 1
        rw [p1, p2]
        have z : t1.place.size + t1.dummies.size = (hashesOf w L).length + 1 := q9
        rw [z, List.length_map]
      have led2 : w.params.followText "set-order" = true ∨ t2.led = true := by rw [p4, q5]; exact R.led
      refine wpAny_bind (wpAny_storeSet_of ho hd ?_ (by rw [sz1, sizeLine_eq]; omega))
      have sb : Heap.SameBut a s.heap (s.heap.update a (Obj.putSet es1 t2)) := Heap.SameBut.update ..
      have ho1 := store_at (es' := es1) (t' := t2) ho hd
      generalize s.heap.update a (Obj.putSet es1 t2) = h1 at sb ho1 ⊢
      have keys1 : ∀ p ∈ L1, Nk h1 p.2 p.1 := fun p mp => by
        rcases List.mem_cons.mp (pm.mem_iff.mp mp) with e | mp
        · rw [e]; exact hx.but ho hd sb
        · exact (R.keys p mp).but ho hd sb
      have here1 : ∃ o, h1.get? a = some o ∧ o.ExactSet ∧ o.data = .set es1 (ep + 1) t2 := ⟨_, ho1, ⟨hex.1, hex.2.1, hex.2.2⟩, rfl⟩
      by_cases hf : t2.tooFull = true
      · have z := hf
        rw [SetTable.tooFull, decide_eq_true_eq, fill2, p3, q4] at z
        have two : (t.mask = 7 ∧ L.length = 4) ∨ (t.mask = 31 ∧ L.length = 18) := by
          rcases R.tab.mok with e | e | e
          · left; rw [e] at z sp; exact ⟨e, by omega⟩
          · right; rw [e] at z sp; exact ⟨e, by omega⟩
          · exfalso; rw [e] at z; omega
        have tg : Tight P w h1 a L1 es1 (ep + 1) t2 := ⟨here1, rows1, tab2, once1, keys1, led2, by rw [n1]; exact few, by rw [n1, p3, q4]; rcases two with ⟨e, e'⟩ | ⟨e, e'⟩ <;> omega⟩
        have go : ∀ M, SetTable.sizeAbove (SetTable.grown (es.size + 1)) - 1 = M → MaskOk M → SetTable.sizeAbove (SetTable.grown (es.size + 1)) ≤ 128 → (L.length + 1) * 5 < M * 3 →
            wpAny (model P w) A (setRelay a (SetTable.grown (es.size + 1))) (fun _ s1 => wpAny (model P w) A (pure true) Q E s1) E { s with heap := h1 } := fun M g1 g2 g3 g4 =>
          relay (s := { s with heap := h1 }) tg g1 g2 g3 (by rw [n1]; exact g4) fun h2 L2 es2 ep2 t3 sb2 R2 pm2 => wpAny_pure (q true h2 L2 es2 ep2 t3 (sb.trans sb2) R2 (fun z => absurd z m) fun _ => pm2.trans pm)
        refine wp_if_pos (by rw [hf]; rfl) (wpAny_bind ?_)
        rcases two with ⟨_, e⟩ | ⟨_, e⟩
        · exact go 31 (by rw [sz, e, size_20]) (.inr (.inl rfl)) (by rw [sz, e, size_20]; decide) (by omega)
        · exact go 127 (by rw [sz, e, size_76]) (.inr (.inr rfl)) (by rw [sz, e, size_76]; decide) (by omega)
      · have fin : Q true { s with heap := h1 } := by
          refine q true h1 L1 es1 (ep + 1) t2 sb ⟨here1, rows1, tab2, once1, keys1, led2, ?_, by rw [n1]; exact few⟩ (fun z => absurd z m) fun _ => pm
          have z := hf
          rw [SetTable.tooFull, decide_eq_true_eq, fill2] at z
          rw [n1]
          omega
        exact wp_if_neg (by cases y : t2.tooFull with | true => exact absurd y hf | false => decide) (wpAny_pure fin)
    by_cases hp : t1.plain = true
    · refine wp_if_pos hp (wpAny_bind (hash_key k _ 8 s hx.is _ _ _ fun b => ?_))
      cases b
      · exact rest { t1 with plain := false } rfl rfl rfl rfl
      · exact rest t1 rfl rfl rfl rfl
    · exact wp_if_neg hp (wpAny_bind (wpAny_pure (rest t1 rfl rfl rfl rfl)))
end
end NS
/-! Sets of nested keys: set(xs). -/
namespace NS
open PySem PySem.Spec PyProof.Rows L2
/-- L is what a set has got of the rows -/
structure Has (rows L : List Row) : Prop where
  sub : ∀ p ∈ L, p ∈ rows
  all : ∀ p ∈ rows, p.2 ∈ keysOf L
  len : L.length ≤ rows.length
theorem Has.nil : Has [] [] := ⟨fun _ m => (nomatch m), fun _ m => (nomatch m), Nat.le_refl _⟩
theorem Has.same {rows L : List Row} {x : Row} (g : Has rows L) (m : x.2 ∈ keysOf L) : Has (rows ++ [x]) L := by
  refine ⟨fun p mp => List.mem_append_left _ (g.sub p mp), fun p mp => ?_, ?_⟩
  · rcases List.mem_append.mp mp with z | z
    · exact g.all p z
    · rw [List.mem_singleton.mp z]; exact m
  · rw [List.length_append]; exact Nat.le_trans g.len (Nat.le_add_right _ _)
theorem Has.more {rows L L1 : List Row} {x : Row} (g : Has rows L) (pm : L1.Perm (x :: L)) : Has (rows ++ [x]) L1 := by
  refine ⟨fun p mp => ?_, fun p mp => ?_, ?_⟩
  · rcases List.mem_cons.mp (pm.mem_iff.mp mp) with z | z
    · rw [z]; exact List.mem_append_right _ (List.mem_singleton.mpr rfl)
    · exact List.mem_append_left _ (g.sub p z)
  · rw [(pm.map Prod.snd).mem_iff, List.map_cons]
    rcases List.mem_append.mp mp with z | z
    · exact List.mem_cons_of_mem _ (g.all p z)
    · rw [List.mem_singleton.mp z]; exact List.mem_cons_self
  · rw [pm.length_eq, List.length_cons, List.length_append]
    exact Nat.succ_le_succ g.len
section
variable {P : Program} {w : World} {A : Around} {E : Value → Shared → Prop} {s : Shared}
theorem NSet.carry {h h' : Heap} {a : Addr} {L : List Row} {es : Array (Int × Value)} {ep : Nat} {t : SetTable} (R : NSet P w h a L es ep t) (f : ∀ o, h.get? a = some o → h'.get? a = some o) (g : ∀ p ∈ L, Nk h' p.2 p.1) : NSet P w h' a L es ep t :=
  let ⟨o, ho, r⟩ := R.here
  ⟨⟨o, f o ho, r⟩, R.es, R.tab, R.once, g, R.led, R.space, R.few⟩
abbrev bare (w : World) : SetTable := .fresh 0 0 (!w.params.followText "set-order")
theorem NSet.new {h : Heap} {a : Addr} (ho : h.get? a = some { cls := .type "set", dict := none, data := .set #[] 0 (bare w) }) : NSet P w h a [] #[] 0 (bare w) := by
  refine ⟨⟨_, ho, ⟨rfl, rfl, rfl⟩, rfl⟩, rfl, ⟨List.Pairwise.nil, rfl, rfl, .inl rfl, fun _ m => (nomatch m), fun i g j e => (nomatch e)⟩, List.nodup_nil, fun _ m => (nomatch m), ?_, (by show 0 * 5 < 7 * 3; decide), (by show 0 < 64; decide)⟩
  cases e : w.params.followText "set-order" with
  | true => exact .inl rfl
  | false => exact .inr (show (!w.params.followText "set-order") = true by rw [e]; rfl)
/-- set.update's loop over rows -/
theorem fill {I S : Addr} {fp wr : List Addr} {G : Array GenState → Array GenState → Prop} {n : Nat} {Pv : Nat → Value → Prop} {St : Nat → Shared → Prop} {R : Result → Shared → Prop} {rows : List Row} {h0 : Heap}
    (W : WalksS P w A.in1 I fp wr G n Pv St) (nS : S ∉ fp) (hn : n = rows.length) (few : rows.length < 64) (val : ∀ i v, Pv i v → ∃ p, rows[i]? = some p ∧ v = .ref p.1)
    (ks : ∀ p ∈ rows, Nk h0 p.2 p.1) (new : h0.get? S = none) (newW : ∀ b ∈ wr, h0.get? b = none) (hu : A.units + 9 < cLine) (rest : List Row) :
    ∀ (done : List Row) (s : Shared), rows = done ++ rest → St done.length s → (∀ b o, h0.get? b = some o → s.heap.get? b = some o) → (∃ L es ep t, NSet P w s.heap S L es ep t ∧ Has done L) →
      (∀ s1 L es ep t, Moved (S :: wr) G s s1 → NSet P w s1.heap S L es ep t → Has rows L → (∀ b o, h0.get? b = some o → s1.heap.get? b = some o) → R (.ok (.ret .none)) s1) →
      codeAny (model P w) A (.builtin "set.update.loop" ⟨[.ref S, .ref I], []⟩) R s := by
  have u1 : A.in1.units + 8 < cLine := by rw [Around.in1_units]; omega
  have up : ∀ b ∈ wr, b ∈ S :: wr := fun b m => List.mem_cons_of_mem _ m
  have nSw : S ∉ wr := fun m => nS (W.sub _ m)
  have on : ∀ {s s1 : Shared}, Moved wr G s s1 → (∀ b o, h0.get? b = some o → s.heap.get? b = some o) → ∀ b o, h0.get? b = some o → s1.heap.get? b = some o := fun {s s1} m k b o e =>
    m.heap b o (fun z => by rw [newW b z] at e; exact nomatch e) (k b o e)
  induction rest with
  | nil =>
    intro done s er st k0 hs fin
    obtain ⟨L, es, ep, t, R0, g⟩ := hs
    rw [List.append_nil] at er
    subst er
    rw [← hn] at st
    refine codeAny_builtin F.entry_set_update_loop ?_
    rw [Around.under_plainId F.plain_set_update_loop _]
    refine (show wpAny _ A.in1 (pyNext (.ref I) >>= _) _ _ s from wpAny_bind (W.done s _ _ st fun s1 m => ?_))
    have k1 := on m k0
    exact (show wpAny _ A.in1 (ret Value.none) _ _ s1 from wpAny_pure (fin s1 L es ep t (m.mono up) (R0.carry (fun o e => m.heap S o nSw e) fun p mp => (ks p (g.sub p mp)).keep k1) g k1))
  | cons x rest ih =>
    intro done s er st k0 hs fin
    obtain ⟨L, es, ep, t, R0, g⟩ := hs
    have il : done.length < n := by rw [hn, er, List.length_append, List.length_cons]; omega
    have xe : rows[done.length]? = some x := by rw [er, List.getElem?_append_right (Nat.le_refl _), Nat.sub_self]; rfl
    refine codeAny_builtin F.entry_set_update_loop ?_
    rw [Around.under_plainId F.plain_set_update_loop _]
    refine (show wpAny _ A.in1 (pyNext (.ref I) >>= _) _ _ s from wpAny_bind (W.item done.length s _ _ il st fun v s1 pv st1 m => ?_))
    obtain ⟨p, pe, rfl⟩ := val _ _ pv
    rw [xe] at pe
    cases pe
    have k1 := on m k0
    have mem : ∀ p ∈ done, p ∈ rows := fun p mp => by rw [er]; exact List.mem_append_left _ mp
    have R1 : NSet P w s1.heap S L es ep t := R0.carry (fun o e => m.heap S o nSw e) fun p mp => (ks p (mem p (g.sub p mp))).keep k1
    have x1 : Nk s1.heap x.2 x.1 := (ks x (List.mem_of_getElem? xe)).keep k1
    have len1 : L.length + 1 < 64 := by
      have z := g.len
      rw [er, List.length_append, List.length_cons] at few
      omega
    refine (show wpAny _ A.in1 (holding [Value.ref x.1] (setAdd S (.ref x.1)) >>= _) _ _ s1 from wpAny_bind (wpAny_holding ?_))
    rw [setAdd]
    refine wpAny_holding (wpAny_bind (pyHash_key x.2 _ _ _ _ x1.is (by have := x1.dp; omega) ?_))
    refine put_in (s := { s1 with toks := s1.toks + x.2.draws }) R1 x1 u1 len1 fun b h2 L2 es2 ep2 t2 sb R2 c1 c2 => ?_
    have g2 : Has (done ++ [x]) L2 := by
      rcases Classical.em (x.2 ∈ keysOf L) with c | c
      · rw [c1 c]; exact g.same c
      · exact g.more (c2 c)
    have k2 : ∀ b o, h0.get? b = some o → h2.get? b = some o := fun b o e => (sb.2 b fun z => by rw [z, new] at e; exact nomatch e).trans (k1 b o e)
    refine wpAny_pure ⟨plainId_quiet F.plain_set_update_loop _, ih (done ++ [x]) _ (by rw [er, List.append_assoc]; rfl) ?_ k2 ⟨L2, es2, ep2, t2, R2, g2⟩ fun s3 L3 es3 ep3 t3 m3 R3 g3 k3 => ?_⟩
    · rw [List.length_append]
      exact W.frame _ s1 _ _ st1 (Nat.le_add_right _ _) fun b mb o e => (sb.2 b fun z => nS (z ▸ mb)).trans e
    · refine fin s3 L3 es3 ep3 t3 (Moved.trans W.gtrans ((m.mono up).then_heap (Nat.le_add_right _ _) fun b o mb e => ?_) m3) R3 g3 k3
      exact (sb.2 b fun z => mb (z ▸ List.mem_cons_self)).trans e
end
end NS
/-! Sets of nested keys: the call set(xs), xs a list. -/
namespace NS
open PySem PySem.Spec PyProof.Rows L2
section
variable {P : Program} {w : World} {A : Around} {E : Value → Shared → Prop} {s : Shared}
abbrev setObj (w : World) : Obj := { cls := .type "set", dict := none, data := .set #[] 0 (bare w) }
/-- what set.__init__ has done -/
def Done (P : Program) (w : World) (s : Shared) (rows : List Row) (s2 : Shared) : Prop :=
  ∃ h2 tk L es ep t, s2 = { s with heap := h2, toks := tk } ∧ NSet P w h2 s.heap.objs.size L es ep t ∧ Has rows L ∧ ∀ b o, s.heap.get? b = some o → h2.get? b = some o
theorem init_list {l : Addr} {items : Array Value} {rows : List Row} (calm : A.handled = none) (hl : s.heap.IsList l items) (he : items.toList = rows.map fun p => Value.ref p.1) (ks : ∀ p ∈ rows, Nk s.heap p.2 p.1) (few : rows.length < 64) (hu : A.units + 12 < cLine) :
    codeAny (model P w) A.in1 (.call (.builtin "set.__init__") ⟨[.ref s.heap.objs.size, .ref l], []⟩) (wants (fun r s2 => r = .none ∧ Done P w s rows s2) E) { s with heap := s.heap.push (setObj w) } := by
  have at0 : (s.heap.push (setObj w)).get? s.heap.objs.size = some (setObj w) := Heap.get?_push_size _ rfl
  have ty : Shared.TypeIs { s with heap := s.heap.push (setObj w) } (.ref s.heap.objs.size) "set" := ⟨_, at0, rfl⟩
  have n0 : items.size = rows.length := by rw [← Array.length_toList, he, List.length_map]
  have none_of : ∀ b, s.heap.objs.size ≤ b → s.heap.get? b = none := fun b hb => by
    cases q : s.heap.get? b with
    | none => rfl
    | some o => exact absurd (Heap.lt_size q) (Nat.not_lt.mpr hb)
  refine codeAny_call_builtin F.called_set.init.plain F.entry_set_init (check_set_init_1 ty ?_)
  obtain ⟨ol, hol, hcl, nl, hdl⟩ := hl
  obtain ⟨cl, dl, datal, sl⟩ := ol
  simp only at hcl hdl
  subst hcl hdl
  have hol1 : (s.heap.push (setObj w)).get? l = some { cls := .type "list", dict := dl, data := .seq items nl, slots := sl } := Heap.get?_push_of_some _ hol
  have il : (s.heap.push (setObj w)).IsList l items := ⟨_, hol1, rfl, nl, rfl⟩
  have lt : l < s.heap.objs.size := Heap.lt_size hol
  have sub1 := F.sub_list_set
  have sub2 := F.sub_list_frozenset
  have ne : (Value.type "list" == Value.type "dict") = false := by decide
  unfold Builtin.«set.__init__» noKeywords Builtin.Frozenset.updateFrom
  generalize hPI : pyIter = PI
  wp_walk
  subst hPI
  refine wpAny_pyIter_list il (wpAny_bind (wpAny_runValue ?_))
  have calm3 : A.in1.in1.in1.handled = none := by simp [calm]
  have sz1 : (s.heap.push (setObj w)).objs.size = s.heap.objs.size + 1 := Heap.size_push ..
  have neI : l ≠ (s.heap.push (setObj w)).objs.size := by rw [sz1]; exact Nat.ne_of_lt (Nat.lt_succ_of_lt lt)
  refine fill (rows := rows) (h0 := s.heap) ((Walks.list calm3 _ l neI items).toS) (S := s.heap.objs.size) (fun m => ?_) n0 few (fun i v hv => ?_) ks (none_of _ (Nat.le_refl _)) (fun b mb => ?_) (by simp only [Around.in1_units]; omega) rows [] _ rfl
    ⟨⟨_, Heap.get?_push_size _ rfl, rfl, rfl⟩, il.push _⟩ (fun b o e => Heap.get?_push_of_some _ (Heap.get?_push_of_some _ e)) ⟨[], #[], 0, bare w, NSet.new (Heap.get?_push_of_some _ at0), .nil⟩ fun s2 L es ep t m R g k => ?_
  · rw [sz1] at m
    rcases List.mem_cons.mp m with z | z
    · exact absurd z (Nat.ne_of_lt (Nat.lt_succ_self _))
    · exact absurd (List.mem_singleton.mp z) (Nat.ne_of_gt lt)
  · have q : items.toList[i]? = some v := by rw [Array.getElem?_toList]; exact hv
    rw [he, List.getElem?_map] at q
    cases e : rows[i]? with
    | none => rw [e] at q; exact nomatch q
    | some p => rw [e] at q; exact ⟨p, rfl, (Option.some.inj q).symm⟩
  · rw [List.mem_singleton.mp mb, sz1]
    exact none_of _ (Nat.le_succ _)
  · obtain ⟨h2, g2, d2, tk, o2⟩ := s2
    cases (m.gens : g2 = s.gens)
    cases (m.drawn : d2 = s.drawn)
    cases (m.os : o2 = s.os)
    exact wpAny_pure (wpAny_pure ⟨rfl, h2, tk, L, es, ep, t, rfl, R, g, k⟩)
/-- set(xs) -/
theorem call_set {l : Addr} {items : Array Value} {rows : List Row} {Q : Value → Shared → Prop} (calm : A.handled = none) (hl : s.heap.IsList l items) (he : items.toList = rows.map fun p => Value.ref p.1) (ks : ∀ p ∈ rows, Nk s.heap p.2 p.1) (few : rows.length < 64) (hu : A.units + 16 < cLine)
    (q : ∀ (h2 : Heap) (tk : Nat) L es ep t, NSet P w h2 s.heap.objs.size L es ep t → Has rows L → (∀ b o, s.heap.get? b = some o → h2.get? b = some o) → Q (.ref s.heap.objs.size) { s with heap := h2, toks := tk }) :
    wpAny (model P w) A (call (.type "set") [.ref l]) Q E s := by
  obtain ⟨c, tl, mro⟩ := F.called_set.mro
  have made := F.called_set.made
  have sub := F.called_set.sub
  refine wpAny_call (codeAny_of_tree (show wpAny _ _ (callAny (.type "set") _) _ _ _ from wpAny_pure ⟨Code.quiet_builtin _ (by decide +kernel), codeAny_builtin F.entry_type_call ?_⟩))
  rw [Around.under_plain (weight_type_call_type "set" [.ref l] []) rfl]
  have t1 := F.called_set.notType
  have t2 := F.called_set.canCreate
  have t3 := F.typeCall_set_1 (.ref l)
  repeat (any_goals (first | assumption | wp_step))
  refine codeAny_mono (code_set_led1 (.ref l) (E := E) (Q₁ := fun u s1 => u = .ref s.heap.objs.size ∧ s1 = { s with heap := s.heap.push (setObj w) }) ⟨rfl, rfl⟩) fun r s1 hr => ?_
  match r, hr with
  | .error _, hr => exact hr
  | .ok (.ret u), hr =>
    obtain ⟨rfl, rfl⟩ := hr
    have ty : Shared.TypeIs { s with heap := s.heap.push (setObj w) } (.ref s.heap.objs.size) "set" := ⟨_, Heap.get?_push_size _ rfl, rfl⟩
    have i1 := F.called_set.init.lookup
    have i2 := F.called_set.init.bind (.ref s.heap.objs.size)
    repeat (any_goals (first | assumption | wp_step))
    refine codeAny_mono (init_list (E := E) calm hl he ks few (by omega)) fun r2 s2 hr2 => ?_
    match r2, hr2 with
    | .error _, hr2 => exact hr2
    | .ok (.ret r), hr2 =>
      obtain ⟨rfl, h2, tk, L, es, ep, t, rfl, R, g, k⟩ := hr2
      repeat (any_goals (first | assumption | wp_step))
      exact q h2 tk L es ep t R g k
end
end NS
/-! Sets of nested keys over the hand layer: set(xs), sorted(that set), x < y of such keys. -/
namespace NS
open PySem PySem.Spec PyProof.Rows L2
mutual
/-- the value x is the key k: all its tuples new -/
inductive Kz (H : Hp) : V → NestedKey → Prop
  | non : Kz H .non .none
  | int (i : Int) : Kz H (.int i) (.num i)
  | str (x : Str) : Kz H (.str x) (.text x)
  | tup {a : Addr} {xs : List V} {ks : List NestedKey} : H a = some (.tup xs) → KzAll H xs ks → Kz H (.ref a) (.tup ks)
inductive KzAll (H : Hp) : List V → List NestedKey → Prop
  | nil : KzAll H [] []
  | cons {v : V} {vs : List V} {k : NestedKey} {ks : List NestedKey} : Kz H v k → KzAll H vs ks → KzAll H (v :: vs) (k :: ks)
end
mutual
theorem Kz.same {H H' : Hp} (s : Same H H') : ∀ (k : NestedKey) (v : V), Kz H v k → Kz H' v k
  | .none, _, h => by cases h; exact .non
  | .num i, _, h => by cases h; exact .int i
  | .text x, _, h => by cases h; exact .str x
  | .tup ks, _, h => by cases h with | tup e h => exact .tup (s _ _ e) (KzAll.same s ks _ h)
theorem KzAll.same {H H' : Hp} (s : Same H H') : ∀ (ks : List NestedKey) (vs : List V), KzAll H vs ks → KzAll H' vs ks
  | [], _, h => by cases h; exact .nil
  | k :: ks, _, h => by cases h with | cons h1 h2 => exact .cons (Kz.same s k _ h1) (KzAll.same s ks _ h2)
end
mutual
theorem depth_data : ∀ k : NestedKey, k.data.depth = k.depth
  | .none => rfl
  | .num _ => rfl
  | .text _ => rfl
  | .tup ks => by rw [NestedKey.data, PyData.depth, NestedKey.depth, depth_datas ks]
theorem depth_datas : ∀ ks : List NestedKey, PyData.depthAll (NestedKey.datas ks) = NestedKey.depthAll ks
  | [] => rfl
  | k :: ks => by rw [NestedKey.datas, PyData.depthAll, NestedKey.depthAll, depth_data k, depth_datas ks]
end
section
variable {X : Cx} {pins : List (Addr × Obj)} {σ : L2.St} {H : Hp} {s : Shared}
mutual
theorem Kz.is (I : Inv X pins σ H s) : ∀ (k : NestedKey) (v : V) (u : Value), Kz H v k → RelV v u → NestedIs s.heap k u ∧ Reads s.heap u k.data []
  | .none, _, _, h, r => by cases h; cases r; exact ⟨.none, .none⟩
  | .num i, _, _, h, r => by cases h; obtain ⟨t, rfl⟩ := r; exact ⟨.int i t, .int i t⟩
  | .text x, _, _, h, r => by cases h; obtain ⟨t, rfl⟩ := r; exact ⟨.text x t, .str x t⟩
  | .tup ks, _, _, h, r => by
    cases h with
    | tup e h =>
      cases r
      obtain ⟨_, its, rv, o, ho, hc, n, hd⟩ := (show ObjOk X.prog X.w H s.heap _ (.tup _) from I.hok _ _ e)
      obtain ⟨q1, q2⟩ := KzAll.is I ks _ its h rv
      exact ⟨.tup ho hc hd (by simpa using q1), .tuple ho hc hd (by simpa using q2)⟩
theorem KzAll.is (I : Inv X pins σ H s) : ∀ (ks : List NestedKey) (vs : List V) (us : List Value), KzAll H vs ks → Vals vs us → NestedAll s.heap ks us ∧ ReadsAll s.heap us (NestedKey.datas ks) []
  | [], _, _, h, r => by cases h; cases r; exact ⟨.nil, .nil⟩
  | k :: ks, _, _, h, r => by
    cases h with
    | cons h1 h2 =>
      cases r with
      | cons r1 r2 =>
        obtain ⟨a1, a2⟩ := Kz.is I k _ _ h1 r1
        obtain ⟨b1, b2⟩ := KzAll.is I ks _ _ h2 r2
        exact ⟨.cons a1 b1, .cons a2 b2⟩
end
end
/-- the set alone -/
structure Sole (P : Program) (w : World) (h : Heap) (a : Addr) (L : List Row) : Prop where
  ex : ∃ (es : Array (Int × Value)) (ep : Nat) (t : SetTable), (∃ o, h.get? a = some o ∧ o.ExactSet ∧ o.data = .set es ep t) ∧ es.toList = kept w L ∧ TabOk t (hashesOf w L) ∧ (keysOf L).Nodup ∧ (w.params.followText "set-order" = true ∨ t.led = true) ∧ L.length * 5 < t.mask * 3 ∧ L.length < 64
def SetO (P : Program) (w : World) (a : Addr) (L : List Row) : HO := .ext fun h => Sole P w h a L
theorem NSet.sole {P : Program} {w : World} {h : Heap} {a : Addr} {L : List Row} {es : Array (Int × Value)} {ep : Nat} {t : SetTable} (R : NSet P w h a L es ep t) : Sole P w h a L := ⟨es, ep, t, R.here, R.es, R.tab, R.once, R.led, R.space, R.few⟩
theorem Sole.all {P : Program} {w : World} {h : Heap} {a : Addr} {L : List Row} (R : Sole P w h a L) (ks : ∀ p ∈ L, Nk h p.2 p.1) : ∃ es ep t, NSet P w h a L es ep t := by
  obtain ⟨es, ep, t, r1, r2, r3, r4, r5, r6, r7⟩ := R.ex
  exact ⟨es, ep, t, r1, r2, r3, r4, ks, r5, r6, r7⟩
theorem setO_ok {P : Program} {w : World} {H : Hp} {h : Heap} {a : Addr} {L : List Row} (R : Sole P w h a L) : ObjOk P w H h a (SetO P w a L) := by
  have z := R.ex
  obtain ⟨es, ep, t, ⟨o, ho, r⟩, q⟩ := z
  refine ⟨R, ⟨o, ho⟩, fun h1 h2 p k => ?_⟩
  obtain ⟨es', ep', t', ⟨o', ho', r'⟩, q'⟩ := (Sole.ex p : _)
  exact ⟨es', ep', t', ⟨o', k o' ho', r'⟩, q'⟩
theorem vals_rows : ∀ rows : List Row, Vals (rows.map fun p => V.ref p.1) (rows.map fun p => Value.ref p.1)
  | [] => .nil
  | _ :: rows => .cons rfl (vals_rows rows)
theorem rows_vals : ∀ {rows : List Row} {us : List Value}, Vals (rows.map fun p => V.ref p.1) us → us = rows.map fun p => Value.ref p.1
  | [], _, .nil => rfl
  | _ :: rows, _, .cons r t => by
    cases r
    rw [rows_vals t]
    rfl
section
variable {X : Cx}
/-- set(xs) of keys -/
def rSet (X : Cx) : List V → Hp → VK → Prop := fun xs H Q => ∃ (l : Addr) (rows : List Row), xs = [V.ref l] ∧ SqL X.K H l (rows.map fun p => V.ref p.1) ∧ (∀ p ∈ rows, Kz H (.ref p.1) p.2 ∧ p.2.depth ≤ 8) ∧ rows.length < 64 ∧
  ∀ a L, H a = none → Has rows L → (keysOf L).Nodup → Q (.ref a) (upd H a (SetO X.prog X.w a L))
theorem cr_set (hc : X.calm = true) (hu : X.A.units + 64 < cLine) : CallR X (.type "set") (rSet X) := by
  intro pins s σ H xs us Q I r h
  obtain ⟨l, rows, rfl, hl, ks, few, q⟩ := h
  rw [Vals.ref1 r]
  obtain ⟨its, rv, pl, hz⟩ := I.list hl
  have n0 : H s.heap.objs.size = none := I.hok.fresh (Nat.le_refl _)
  refine call_set (P := X.prog) (w := X.w) (rows := rows) (I.ok.hd hc) pl.isList (by simpa using rows_vals rv) (fun p mp => ⟨(Kz.is I p.2 _ _ (ks p mp).1 rfl).1, (ks p mp).2⟩) few (by omega) fun h2 tk L es ep t R g k => ?_
  exact ⟨.ref s.heap.objs.size, upd H s.heap.objs.size (SetO X.prog X.w s.heap.objs.size L), I.laid (t' := tk) k (Nat.le_refl _) (setO_ok R.sole), rfl, q _ L n0 g R.once⟩
end
end NS
/-! Sets of nested keys: sorted(that set); x < y of such keys. -/
namespace NS
open PySem PySem.Spec PyProof.Rows L2
theorem perm_map_inv {α β : Type} {f : α → β} : ∀ {l : List α} {vs : List β}, vs.Perm (l.map f) → ∃ l0 : List α, vs = l0.map f ∧ l0.Perm l
  | [], vs, h => ⟨[], List.Perm.eq_nil h, List.Perm.refl _⟩
  | x :: l, vs, h => by
    rw [List.map_cons] at h
    obtain ⟨v1, v2, rfl⟩ := List.append_of_mem (h.mem_iff.mpr List.mem_cons_self)
    have z : (v1 ++ v2).Perm (l.map f) := (List.perm_middle.symm.trans h).cons_inv
    obtain ⟨l0, e, p⟩ := perm_map_inv z
    obtain ⟨a, b, rfl, rfl, rfl⟩ := List.append_eq_map_iff.mp e
    exact ⟨a ++ x :: b, by rw [List.map_append, List.map_cons], List.perm_middle.trans (p.cons x)⟩
theorem each_refs : ∀ L : List Row, PySem.W.EachIs (fun (v : Value) (p : Row) => v = .ref p.1) (L.map fun p => Value.ref p.1) L
  | [] => .nil
  | _ :: L => .cons rfl (each_refs L)
theorem refs_each : ∀ {L : List Row} {vs : List Value}, PySem.W.EachIs (fun (v : Value) (p : Row) => v = .ref p.1) vs L → vs = L.map fun p => Value.ref p.1
  | [], _, .nil => rfl
  | _ :: L, _, .cons r t => by rw [r, refs_each t, List.map_cons]
/-- the order of the rows' keys -/
abbrev rowLe (p q : Row) : Bool := PySem.W.dataLe false (fun p : Row => p.2.data) p q
section
variable {P : Program} {w : World} {A : Around} {E : Value → Shared → Prop} {s : Shared}
theorem each_mk {h : Heap} {f : Addr} : ∀ {L : List Row}, (∀ p ∈ L, Reads h (.ref p.1) p.2.data []) → PySem.W.EachIs (fun (v : Value) (p : Row) => ∃ as, Reads h v p.2.data as ∧ f ∉ as) (L.map fun p => Value.ref p.1) L
  | [], _ => .nil
  | p :: L, h => .cons ⟨[], h p List.mem_cons_self, List.not_mem_nil⟩ (each_mk fun q hq => h q (List.mem_cons_of_mem _ hq))
theorem sorted_rows {a : Addr} {L : List Row} {es : Array (Int × Value)} {ep : Nat} {t : SetTable} {Q : Value → Shared → Prop} (R : NSet P w s.heap a L es ep t) (calm : A.handled = none) (rd : ∀ p ∈ L, Reads s.heap (.ref p.1) p.2.data [])
    (al : PySem.W.AllAlike (L.map fun p => p.2.data)) (so : PySem.W.Sortable (L.map fun p => p.2.data)) (hu : A.units + 16 < cLine)
    (q : ∀ s1 p (out : Array Value) (c : Nat) (L1 : List Row), (∀ b o, s.heap.get? b = some o → s1.heap.get? b = some o) → s1.gens = s.gens → s1.os = s.os → s.heap.objs.size ≤ p → s1.heap.get? p = some (seqObj "list" out c) →
      out.toList = L1.map (fun r => Value.ref r.1) → L1.Perm L → L1.Pairwise (fun x y => rowLe x y = true) → Q (.ref p) s1) :
    wpAny (model P w) A (call (.builtin "sorted") [.ref a]) Q E s := by
  obtain ⟨o, ho, hex, hd⟩ := R.here
  have sz := R.size
  have few := R.few
  refine Calls.call_function_entry kind_sorted plain_sorted entry_sorted (args_sorted1 _) ?_
  unfold Builtin.«sorted»
  refine wpAny_bind (m := checkCount "sorted" 1 1 _) (wpAny_pure (wpAny_bind (collect_set (A := A.in1) calm ⟨o, ho, hex.1, hd⟩ R.fits (by unfold scanBound; omega) R.tab.ris R.led fun s1 vs k1 z1 g1 o1 pm => ?_)))
  have e1 : es.toList.map (·.2) = L.map fun p => Value.ref p.1 := by
    rw [R.es, kept, List.map_map]
    rfl
  rw [e1] at pm
  obtain ⟨L0, rfl, p0⟩ := perm_map_inv pm
  have n0 : L0.length < 64 := by rw [p0.length_eq]; exact few
  refine wpAny_bind (wpAny_newList ?_ (by rw [List.length_map, sizeLine_eq]; omega))
  have at1 : (s1.heap.push (seqObj "list" (L0.map fun p => Value.ref p.1).toArray 0)).get? s1.heap.objs.size = some (seqObj "list" (L0.map fun p => Value.ref p.1).toArray 0) := Heap.get?_push_size _ rfl
  have rd1 : ∀ p ∈ L0, Reads (s1.heap.push (seqObj "list" (L0.map fun p => Value.ref p.1).toArray 0)) (.ref p.1) p.2.data [] := fun p mp => PyProof.Rows.Reads.keeps (fun b u e => Heap.get?_push_of_some _ (k1 b u e)) (rd p (p0.mem_iff.mp mp))
  have pd := p0.map fun p => p.2.data
  refine wpAny_bind (wpAny_holding (PySem.W.list_sort_data (s := { s1 with heap := s1.heap.push (seqObj "list" (L0.map fun p => Value.ref p.1).toArray 0) }) (R := fun (v : Value) (p : Row) => v = .ref p.1) (enc := fun p : Row => p.2.data) (bs := L0) at1 (each_refs L0) (each_mk rd1)
    (fun d hd d2 hd2 => al d (pd.mem_iff.mp hd) d2 (pd.mem_iff.mp hd2)) (so.imp (fun f d hd => f d (pd.mem_iff.mp hd)) fun f d hd => f d (pd.mem_iff.mp hd)) (by rw [sizeLine_eq]; omega) (fun b hb => ?_) fun out n1 eo => ?_))
  · have dp := (R.keys b (p0.mem_iff.mp hb)).dp
    show A.in1.units + 1 + b.2.data.depth < cLine
    rw [depth_data, Around.in1_units]
    omega
  · obtain ⟨c, hc⟩ := sortedHeap_at (vs := L0.map fun p => Value.ref p.1) (out := List.toArray out) at1
    refine wpAny_pure ⟨_, rfl, q _ s1.heap.objs.size (List.toArray out) c (L0.mergeSort (PySem.W.dataLe false fun p : Row => p.2.data)) (fun b u e => ?_) g1 o1 z1 hc (by rw [List.toList_toArray]; exact refs_each eo) ((List.mergeSort_perm _ _).trans p0) (PySem.W.sort_pairwise (PySem.W.sortLe_total _ _ _) _)⟩
    have e2 := k1 b u e
    have lt := Heap.lt_size e2
    exact (sortedHeap_old (Nat.ne_of_lt lt) (by rw [size_push']; exact Nat.lt_succ_of_lt lt)).trans (Heap.get?_push_of_some _ e2)
end
section
variable {X : Cx}
/-- sorted(a set of keys) -/
def rSorted (X : Cx) : List V → Hp → VK → Prop := fun vs H Q => ∃ (a : Addr) (L : List Row), vs = [V.ref a] ∧ H a = some (SetO X.prog X.w a L) ∧ (∀ p ∈ L, Kz H (.ref p.1) p.2 ∧ p.2.depth ≤ 8) ∧ PySem.W.AllAlike (L.map fun p => p.2.data) ∧ PySem.W.Sortable (L.map fun p => p.2.data) ∧
  ∀ (L1 : List Row) (p : Addr), L1.Perm L → L1.Pairwise (fun x y => rowLe x y = true) → L1.length < 64 → H p = none → Q (.ref p) (upd H p (.lst (L1.map fun r => V.ref r.1)))
theorem cr_sorted (hc : X.calm = true) (hu : X.A.units + 64 < cLine) : CallR X (.builtin "sorted") (rSorted X) := by
  intro pins s σ H vs us Q I r h
  obtain ⟨a, L, rfl, ha, ks, al, so, q⟩ := h
  have R0 : Sole X.prog X.w s.heap a L := (I.hok a _ ha).1
  have kz : ∀ p ∈ L, NestedIs s.heap p.2 (.ref p.1) ∧ Reads s.heap (.ref p.1) p.2.data [] := fun p mp => Kz.is I p.2 _ _ (ks p mp).1 rfl
  obtain ⟨es, ep, t, R⟩ := R0.all fun p mp => ⟨(kz p mp).1, (ks p mp).2⟩
  rw [Vals.ref1 r]
  refine sorted_rows R (I.ok.hd hc) (fun p mp => (kz p mp).2) al so (by omega) fun s1 p out c L1 k g o hp hg ho pm pw => ?_
  have few : L1.length < 64 := by rw [pm.length_eq]; exact R.few
  have n0 : H p = none := I.hok.fresh hp
  have J := I.call' (s' := s1) (ch := []) (H' := upd H p (.lst (L1.map fun r => V.ref r.1))) o (Un.laid k hp n0) (I.hok.laid k hp ⟨by rw [List.length_map, sizeLine_eq]; omega, out.toList, c, by rw [ho]; exact vals_rows L1, hg⟩) (by rw [g]; exact I.bare) (fun _ z => nomatch z)
  exact ⟨.ref p, _, J, rfl, q L1 p pm pw few n0⟩
/-- x < y of two alike keys -/
def rLt : R2 := fun x y H Q => ∃ j k : NestedKey, Kz H x j ∧ Kz H y k ∧ PySem.W.alike j.data k.data = true ∧ j ≠ .none ∧ j.depth ≤ 8 ∧ Q (.bl (PySem.W.dataLt j.data k.data)) H
theorem op_ltK (hu : X.A.units + 64 < cLine) : OpR X (compareOp .Lt) rLt := by
  intro pins s σ H x y v u Q I rx ry h
  obtain ⟨j, k, hx, hy, al, nn, dp, q⟩ := h
  have a1 := (Kz.is I j x v hx rx).2
  have a2 := (Kz.is I k y u hy ry).2
  refine PySem.W.rcLt_alike j.data k.data X.A s v u [] [] a1 a2 al (fun e => ?_) (by rw [depth_data]; omega) X.prog X.w _ _ ⟨.bl _, H, I, rfl, q⟩
  cases j with
  | none => exact nn rfl
  | num _ => exact nomatch e
  | text _ => exact nomatch e
  | tup _ => exact nomatch e
end
end NS
/-! Machines as data: deeds, rows, their keys, their order. -/
namespace MC
open PySem PySem.Spec PyProof.Rows L2 NS WD
inductive Deed where
  | step
  | ex (send : Bool) (name letter : Str)
deriving DecidableEq
abbrev wordOf (b : Bool) : Str := if b = true then "send" else "take"
def Deed.key : Deed → NestedKey
  | .step => .tup [.text "step"]
  | .ex b n l => .tup [.text (wordOf b), .text n, .text l]
structure RowM where
  before : Int
  deed : Deed
  after : Int
deriving DecidableEq
def RowM.key (r : RowM) : NestedKey := .tup [.num r.before, r.deed.key, .num r.after]
def Deed.Ok : Deed → Prop
  | .step => True
  | .ex _ n l => Wd n ∧ Wd l
structure RowM.Ok (size : Nat) (r : RowM) : Prop where
  b0 : 0 ≤ r.before
  b1 : r.before < size
  dd : r.deed.Ok
  a0 : 0 ≤ r.after
  a1 : r.after < size
theorem word_inj {a b : Bool} (h : wordOf a = wordOf b) : a = b := by
  have ne : ("send" : Str) ≠ "take" := by decide +kernel
  cases a <;> cases b
  · rfl
  · exact absurd h.symm ne
  · exact absurd h ne
  · rfl
theorem deed_inj {d e : Deed} (h : d.key = e.key) : d = e := by
  cases d with
  | step =>
    cases e with
    | step => rfl
    | ex b n l => simp [Deed.key] at h
  | ex b n l =>
    cases e with
    | step => simp [Deed.key] at h
    | ex b' n' l' =>
      injection h with h
      injection h with h1 h
      injection h with h2 h
      injection h with h3 h
      injection h1 with h1
      injection h2 with h2
      injection h3 with h3
      rw [word_inj h1, h2, h3]
theorem row_inj {r s : RowM} (h : r.key = s.key) : r = s := by
  obtain ⟨b, d, a⟩ := r
  obtain ⟨b', d', a'⟩ := s
  injection h with h
  injection h with h1 h
  injection h with h2 h
  injection h with h3 h
  injection h1 with h1
  injection h3 with h3
  cases deed_inj h2
  cases h1
  cases h3
  rfl
theorem deed_depth (d : Deed) : d.key.depth = 1 := by cases d <;> rfl
theorem row_depth (r : RowM) : r.key.depth = 2 := by
  obtain ⟨b, d, a⟩ := r
  cases d <;> rfl
theorem deed_alike (d e : Deed) : PySem.W.alike d.key.data e.key.data = true := by cases d <;> cases e <;> rfl
theorem row_alike (r s : RowM) : PySem.W.alike r.key.data s.key.data = true := by
  obtain ⟨b, d, a⟩ := r
  obtain ⟨b', d', a'⟩ := s
  cases d <;> cases d' <;> rfl
mutual
theorem eqv_data : ∀ j k : NestedKey, PyData.eqv j.data k.data = NestedKey.beq j k
  | .none, .none => rfl
  | .none, .num _ => rfl
  | .none, .text _ => rfl
  | .none, .tup _ => rfl
  | .num _, .none => rfl
  | .num a, .num b => by
    show (a == b) = decide (a = b)
    by_cases h : a = b
    · rw [h]; simp
    · simp [h]
  | .num _, .text _ => rfl
  | .num _, .tup _ => rfl
  | .text _, .none => rfl
  | .text _, .num _ => rfl
  | .text a, .text b => by
    show (a == b) = decide (a = b)
    by_cases h : a = b
    · rw [h]; simp
    · simp [h]
  | .text _, .tup _ => rfl
  | .tup _, .none => rfl
  | .tup _, .num _ => rfl
  | .tup _, .text _ => rfl
  | .tup a, .tup b => by
    rw [NestedKey.data, NestedKey.data, NestedKey.beq, ← eqv_datas a b, PyData.eqv]
theorem eqv_datas : ∀ j k : List NestedKey, PyData.eqvAll (NestedKey.datas j) (NestedKey.datas k) = NestedKey.beqAll j k
  | [], [] => rfl
  | [], _ :: _ => rfl
  | _ :: _, [] => rfl
  | a :: as, b :: bs => by
    rw [NestedKey.datas, NestedKey.datas, PyData.eqvAll, NestedKey.beqAll, eqv_data a b, eqv_datas as bs]
end
/-- two different alike keys stand in one order or the other -/
theorem lt_of_le {j k : NestedKey} (al : PySem.W.alike j.data k.data = true) (ne : j ≠ k) (le : PySem.W.dataLt k.data j.data = false) : PySem.W.dataLt j.data k.data = true := by
  have ev : PyData.eqv j.data k.data = false := by rw [eqv_data, ← NestedKey.decide_eq]; exact decide_eq_false ne
  cases h : PySem.W.dataLt j.data k.data with
  | true => rfl
  | false =>
    exfalso
    have e : PySem.W.keyToks j.data = PySem.W.keyToks k.data := lex_total _ _ h le
    have z := (PySem.W.toks_eqv _ _ al).2 ev [] [.inl 0]
    rw [e, List.append_nil, lex_irrefl] at z
    have y : PyProof.Rows.lexLt itemOrd (PySem.W.keyToks k.data ++ []) (PySem.W.keyToks k.data ++ [.inl 0]) = true := by
      rw [PySem.W.lex_pre]
      rfl
    rw [List.append_nil, z] at y
    exact nomatch y
end MC
namespace K02
open PySem PySem.Spec PyProof.Rows L2 WD NS MC
open C8 (pss_cut tCut)
abbrev sMade : Stmt := topS 32
abbrev sRowL : Stmt := topS 33
/-- tuples stay -/
def Tups (H H' : Hp) : Prop := ∀ b xs, H b = some (.tup xs) → H' b = some (.tup xs)
theorem Tups.refl {H : Hp} : Tups H H := fun _ _ e => e
theorem Tups.trans {H H1 H2 : Hp} (a : Tups H H1) (b : Tups H1 H2) : Tups H H2 := fun c xs e => b c xs (a c xs e)
theorem tups_same {H H' : Hp} (s : Same H H') : Tups H H' := fun b _ e => s b _ e
theorem tups_list {H : Hp} {a : Addr} {xs : List V} {o : HO} (e : H a = some (.lst xs)) : Tups H (upd H a o) := fun b ys eb => by
  have n : b ≠ a := fun z => by
    rw [z, e] at eb
    cases eb
  rw [upd_ne n]
  exact eb
theorem tups_dice {H : Hp} {d : Addr} {n : Nat} {o : HO} (D : Dice H d n) : Tups H (upd H d o) := by
  obtain ⟨g, s, c, e, _⟩ := D
  exact tups_list e
mutual
theorem kz_tups {H H' : Hp} (s : Tups H H') : ∀ (k : NestedKey) (v : V), Kz H v k → Kz H' v k
  | .none, _, h => by cases h; exact .non
  | .num i, _, h => by cases h; exact .int i
  | .text x, _, h => by cases h; exact .str x
  | .tup ks, _, h => by cases h with | tup e h => exact .tup (s _ _ e) (kzs_tups s ks _ h)
theorem kzs_tups {H H' : Hp} (s : Tups H H') : ∀ (ks : List NestedKey) (vs : List V), KzAll H vs ks → KzAll H' vs ks
  | [], _, h => by cases h; exact .nil
  | k :: ks, _, h => by cases h with | cons h1 h2 => exact .cons (kz_tups s k _ h1) (kzs_tups s ks _ h2)
end
/-- a way: a deed of the others, or a step -/
def Way (H : Hp) (v : V) : Prop := ∃ dd : Deed, dd.Ok ∧ Kz H v dd.key
theorem Way.tups {H H' : Hp} {v : V} (w : Way H v) (s : Tups H H') : Way H' v := let ⟨dd, o, k⟩ := w; ⟨dd, o, kz_tups s _ _ k⟩
theorem seq_ds {K : PySem.W.Frag} {d l : Addr} {H H' : Hp} {xs : List V} (s : DS d H H') (n : l ≠ d) (h : SqL K H l xs) : SqL K H' l xs := by
  rcases h with (h | ⟨ob, h⟩) | h
  · exact Or.inl (Or.inl (s _ _ n h))
  · exact Or.inl (Or.inr ⟨ob, s _ _ n h⟩)
  · exact Or.inr h
theorem Kept.free {H H' : Hp} {d p t : Addr} {c : Nat} {xs : List V} (k : Kept H d p c xs H') (n : H' t = none) : H t = none := by
  cases e : H t with
  | none => rfl
  | some o =>
    exfalso
    by_cases z : t = d
    · obtain ⟨g, s, i, ed, _⟩ := k.dice
      rw [z, ed] at n
      cases n
    · rw [k.ds t o z e] at n
      cases n
theorem Kept.tups {H H' : Hp} {d p : Addr} {c : Nat} {xs : List V} {o : HO} (k : Kept H d p c xs H') : Tups H' (upd H' d o) := tups_dice k.dice
theorem wd_letter {j : Nat} {v : V} (h : [V.str "x", V.str "y", V.str "z"][j]? = some v) : ∃ x, v = .str x ∧ Wd x := by
  have one : ∀ c : Nat, 97 ≤ c → c ≤ 122 → Wd ⟨#[c]⟩ := fun c h1 h2 => ⟨low_one h1 h2, by show 0 < 1; decide, by show 1 ≤ 8; decide⟩
  have ex : ("x" : Str) = ⟨#[120]⟩ := by decide +kernel
  have ey : ("y" : Str) = ⟨#[121]⟩ := by decide +kernel
  have ez : ("z" : Str) = ⟨#[122]⟩ := by decide +kernel
  match j, h with
  | 0, h => cases h; exact ⟨_, rfl, by rw [ex]; exact one 120 (by decide) (by decide)⟩
  | 1, h => cases h; exact ⟨_, rfl, by rw [ey]; exact one 121 (by decide) (by decide)⟩
  | 2, h => cases h; exact ⟨_, rfl, by rw [ez]; exact one 122 (by decide) (by decide)⟩
  | _ + 3, h => simp at h
/-- the ways so far -/
structure Ways (H : Hp) (d p : Addr) (n : Nat) (xs : List V) (H' : Hp) : Prop where
  k : Kept H d p n xs H'
  t : Tups H H'
  w : ∀ v ∈ xs, Way H' v
  pos : 0 < xs.length
theorem Ways.new {H H' : Hp} {d p l : Addr} {n : Nat} {xs : List V} {o : HO} (s : Ways H d p n xs H') (h : H' l = none) : Ways H d p n xs (upd H' l o) ∧ l ≠ d ∧ l ≠ p := by
  obtain ⟨k, nd, np⟩ := s.k.new (o := o) h
  have z := tups_same (same_upd (o := o) h)
  exact ⟨⟨k, s.t.trans z, fun v m => (s.w v m).tups z, s.pos⟩, nd, np⟩
theorem Ways.roll {H H' : Hp} {d p : Addr} {n n' : Nat} {xs : List V} {o : HO} (s : Ways H d p n xs H') (ne : p ≠ d) (D : Dice (upd H' d o) d n') : Ways H d p n' xs (upd H' d o) := by
  have z : Tups H' (upd H' d o) := s.k.tups
  exact ⟨s.k.roll ne D, s.t.trans z, fun v m => (s.w v m).tups z, s.pos⟩
structure TxtR (K : PySem.W.Frag) (mg : Str → Option Value) (fR fO : Addr) (dR dO : FuncData) : Prop where
  R : Fun K "_law_roll" "_law_roll" sRoll fR dR
  bR : L2.Binds K dR ["_law_dice_here", "_law_total"] []
  gR : mg "_law_roll" = some (.ref fR)
  O : Fun K "_law_one_of" "_law_one_of" sOneOf fO dO
  bO : L2.Binds K dO ["_law_dice_here", "_law_items"] []
  gO : mg "_law_one_of" = some (.ref fO)
abbrev nR : List Str := ["_law_dice_here", "_law_size", "_law_others", "_law_ways", "_law_other", "_law_letter"]
theorem scRowL : FnScope nR ["_law_dice_here", "_law_size", "_law_others"] (defScope sRowL) := ⟨rfl, rfl, rfl, by decide +kernel, rfl, by decide +kernel, by decide +kernel⟩
/-- a row drawn -/
def spRowL (K : PySem.W.Frag) : Sp := fun vs H Q _ => ∃ (d l : Addr) (size n : Nat) (ws : List Str), vs = [.ref d, .int size, .ref l] ∧ Dice H d n ∧ n ≤ 1000000 ∧ 0 < size ∧ size ≤ 100 ∧ l ≠ d ∧ SqL K H l (ws.map V.str) ∧ ws.length ≤ 10 ∧ (∀ x ∈ ws, Wd x) ∧
  ∀ H' p (r : RowM), DS d H H' → H p = none → Tups H H' → Dice H' d (n + 3) → r.Ok size → Kz H' (.ref p) r.key → Q (.ref p) H'
section
variable {P : Program} {w : World} {K : PySem.W.Frag} {mg : Str → Option Value} {base : Heap} {fR fO : Addr} {dR dO : FuncData}
theorem ok_RowL {f : Addr} {fd : FuncData} (F : Fun K "_law_row" "_law_row" sRowL f fd) (W : TxtR K mg fR fO dR dO) (TD : TxtD mg) : FnOk P w K mg base CX0 3 f fd ["_law_dice_here", "_law_size", "_law_others"] (spRowL K) := by
  have GR : FnOk P w K mg base CX0 1 fR dR ["_law_dice_here", "_law_total"] spRoll := ok_roll W.R
  have GO : FnOk P w K mg base CX0 2 fO dO ["_law_dice_here", "_law_items"] spOneOf := ok_oneOf W.O W.R W.bR W.gR TD
  refine F.ok scRowL (fun vs H Q E h => ?_) (fun cdv A outer s H vs Q E hr h => ?_)
  · obtain ⟨d, l, size, n, ws, rfl, _⟩ := h
    rfl
  · obtain ⟨d, l, size, n, ws, rfl, D, hn, s0, s1, nl, hl, lw, hw, q⟩ := h
    have hr1 : Room 1 _ := hr.mono (by decide)
    refine ⟨_, pss_cut (ps_set (i := 3) scRowL.nd rfl (.inl rfl) (pe_lst (pa_cons (pe_tup (pa_cons pe_str pa_nil)) pa_nil)))
      (pss_cut (ps_for PassesOwn.never rfl (pi_list (pv 2)) (pg_name (i := 4) scRowL.nd rfl (.inl rfl))
        (pss_one (ps_for PassesOwn.never rfl (pi_tup (pe_tup (pa_cons pe_str (pa_cons pe_str (pa_cons pe_str pa_nil))))) (pg_name (i := 5) scRowL.nd rfl (.inl rfl))
          (pss_one (ps_expr (pe_bm PySem.F.plainAttrs_list PySem.F.slot_list_extend PySem.F.type_list_extend mt_extend (pv 3) (pa_cons (pe_lst (pa_cons (pe_tup (pa_cons pe_str (pa_cons (pv 4) (pa_cons (pv 5) pa_nil)))) (pa_cons (pe_tup (pa_cons pe_str (pa_cons (pv 4) (pa_cons (pv 5) pa_nil)))) pa_nil))) pa_nil)))))))
      (pss_one (ps_ret (pe_tup (pa_cons (pe_call GR hr1 (by rfl) W.gR W.R.kp W.bR .nil pass0 (pa_cons (pv 0) (pa_cons (pv 1) pa_nil))) (pa_cons (pe_call GO hr (by rfl) W.gO W.O.kp W.bO .nil pass0 (pa_cons (pv 0) (pa_cons (pv 3) pa_nil))) (pa_cons (pe_call GR hr1 (by rfl) W.gR W.R.kp W.bR .nil pass0 (pa_cons (pv 0) (pa_cons (pv 1) pa_nil))) pa_nil))))))), ?_⟩
    have dd0 : H d ≠ none := fun z => by
      obtain ⟨g, s, c, e, _⟩ := D
      rw [e] at z
      cases z
    -- ways = [('step',)]
    refine ⟨fun σ' H' => ∃ p, σ' = [some (.ref d), some (.int size), some (.ref l), some (.ref p), none, none] ∧ H p = none ∧ p ≠ d ∧ ∃ xs, Ways H d p n xs H' ∧ xs.length ≤ 1, ?_, ?_⟩
    · refine ⟨(by show 1 ≤ sizeLine; decide), fun t nt => ⟨(by show 1 ≤ sizeLine; decide), fun p np => ?_⟩⟩
      have s1' := same_upd (o := .tup [.str "step"]) nt
      have s2' := same_upd (o := .lst [.ref t]) np
      have np0 : H p = none := s1'.free np
      have pd : p ≠ d := fun z => dd0 (z ▸ np0)
      have td : t ≠ d := fun z => dd0 (z ▸ nt)
      refine ⟨p, rfl, np0, pd, [.ref t], ⟨⟨fun b o _ e => s2' _ _ (s1' _ _ e), ?_, upd_same⟩, tups_same (s1'.trans s2'), fun v m => ?_, Nat.zero_lt_succ _⟩, Nat.le_refl _⟩
      · exact (D.same (upd_ne td.symm)).same (upd_ne pd.symm)
      · rw [List.mem_singleton.mp m]
        exact ⟨.step, True.intro, .tup (s2' _ _ upd_same) (.cons (.str _) .nil)⟩
    rintro σ1 H1 ⟨p, rfl, np, pd, xs0, w0, l0⟩
    have lp : l ≠ p ∨ ∃ o, K.lookup l = some o := by
      rcases hl with (h | ⟨ob, h⟩) | h
      · exact Or.inl fun z => by rw [z, np] at h; cases h
      · exact Or.inl fun z => by rw [z, np] at h; cases h
      · obtain ⟨o, _, _, e, _⟩ := h
        exact Or.inr ⟨o, e⟩
    have at_l : ∀ {xs : List V} {c : Nat} {H' : Hp}, Ways H d p c xs H' → SqL K H' l (ws.map V.str) := fun s => seq_ds s.k.ds nl hl
    refine ⟨fun σ' H' => ∃ xs u4 u5, σ' = [some (.ref d), some (.int size), some (.ref l), some (.ref p), u4, u5] ∧ Ways H d p n xs H' ∧ xs.length ≤ 1 + 6 * ws.length, ?_, ?_⟩
    · refine ⟨_, rfl, l, rfl, ⟨_, at_l w0⟩, ?_⟩
      refine for_list (xs := ws.map V.str) (fun i σ' H' => ∃ xs u4 u5, σ' = [some (.ref d), some (.int size), some (.ref l), some (.ref p), u4, u5] ∧ Ways H d p n xs H' ∧ xs.length ≤ 1 + 6 * i) ⟨xs0, none, none, rfl, w0, l0⟩ (fun i σ H' _ ⟨_, _, _, _, s, _⟩ => at_l s) ?_ (fun σ' H' z => ?_)
      rotate_left
      · rw [List.length_map] at z
        exact z
      rintro i v σ2 H2 hv ⟨xs, u4, u5, rfl, w2, l2⟩
      obtain ⟨y, hy, rfl⟩ : ∃ y, y ∈ ws ∧ v = .str y := by
        obtain ⟨y, hy, e⟩ := List.mem_map.mp (List.mem_of_getElem? hv)
        exact ⟨y, hy, e.symm⟩
      have il : i < ws.length := by
        have z := (List.getElem?_eq_some_iff.mp hv).1
        rw [List.length_map] at z
        exact z
      refine ⟨(by show 3 ≤ sizeLine; decide), fun t nt => ⟨t, rfl, ⟨_, SqT.of upd_same⟩, ?_⟩⟩
      obtain ⟨w3, td, tp⟩ := w2.new (o := .tup [.str "x", .str "y", .str "z"]) nt
      refine for_tup (xs := [.str "x", .str "y", .str "z"]) (fun j σ' H' => ∃ xs u5, σ' = [some (.ref d), some (.int size), some (.ref l), some (.ref p), some (.str y), u5] ∧ Ways H d p n xs H' ∧ xs.length ≤ 1 + 6 * i + 2 * j ∧ H' t = some (.tup [.str "x", .str "y", .str "z"]))
        ⟨xs, u5, rfl, w3, by omega, upd_same⟩ (fun j σ H' _ ⟨_, _, _, _, _, e⟩ => SqT.of e) ?_ (fun σ' H' ⟨xs, u5, e, s, z, _⟩ => ⟨xs, _, u5, e, s, by have z' : xs.length ≤ 1 + 6 * i + 2 * 3 := z; omega⟩)
      rintro j v σ4 H4 hv4 ⟨xs, u5, rfl, w4, l4, et⟩
      obtain ⟨z, rfl, wz⟩ := wd_letter hv4
      have jl : j < 3 := (List.getElem?_eq_some_iff.mp hv4).1
      refine ⟨_, rfl, .inl ⟨rfl, _, SqL.of w4.k.lst⟩, _, rfl, _, rfl, (by show 3 ≤ sizeLine; decide), fun t1 n1 => ⟨_, rfl, _, rfl, (by show 3 ≤ sizeLine; decide), fun t2 n2 => ⟨(by show 2 ≤ sizeLine; decide), fun l2 n3 => ?_⟩⟩⟩
      obtain ⟨w5, _, _⟩ := w4.new (o := .tup [.str "send", .str y, .str z]) n1
      obtain ⟨w6, _, _⟩ := w5.new (o := .tup [.str "take", .str y, .str z]) n2
      obtain ⟨w7, ld, lp2⟩ := w6.new (o := .lst [.ref t1, .ref t2]) n3
      have c1 := same_upd (o := .tup [.str "send", .str y, .str z]) n1
      have c2 := same_upd (o := .tup [.str "take", .str y, .str z]) n2
      have c3 := same_upd (o := .lst [.ref t1, .ref t2]) n3
      refine ⟨p, l2, xs, [.ref t1, .ref t2], rfl, rfl, w7.k.lst, upd_same, ?_, ?_⟩
      · rw [sizeLine_eq]
        show xs.length + 2 ≤ _
        omega
      · have ts := tups_list (o := .lst (xs ++ [.ref t1, .ref t2])) w7.k.lst
        refine ⟨xs ++ [.ref t1, .ref t2], _, rfl, ⟨w7.k.put pd np, w7.t.trans ts, fun v m => ?_, ?_⟩, ?_, ?_⟩
        · rcases List.mem_append.mp m with m | m
          · exact (w7.w v m).tups ts
          · have m' : v = .ref t1 ∨ v = .ref t2 := by simpa using m
            rcases m' with rfl | rfl
            · exact ⟨.ex true y z, ⟨hw y hy, wz⟩, kz_tups ts _ _ (.tup (c3 _ _ (c2 _ _ upd_same)) (.cons (.str _) (.cons (.str _) (.cons (.str _) .nil))))⟩
            · exact ⟨.ex false y z, ⟨hw y hy, wz⟩, kz_tups ts _ _ (.tup (c3 _ _ upd_same) (.cons (.str _) (.cons (.str _) (.cons (.str _) .nil))))⟩
        · rw [List.length_append]
          exact Nat.lt_of_lt_of_le w7.pos (Nat.le_add_right _ _)
        · rw [List.length_append]
          show xs.length + 2 ≤ _
          omega
        · exact ts _ _ (c3 _ _ (c2 _ _ (c1 _ _ et)))
    rintro σ2 H2 ⟨xs, u4, u5, rfl, w2, l2⟩
    refine ⟨_, rfl, _, rfl, d, size, n, rfl, w2.k.dice, by omega, by omega, by omega, fun r0 o r00 r01 D3 => ?_⟩
    have w3 := w2.roll pd D3
    refine ⟨_, rfl, _, rfl, d, p, _, xs, rfl, w3.k.dice, by omega, w3.k.lst, pd, w3.pos, by omega, fun x o hx D4 => ?_⟩
    have w4 := w3.roll pd D4
    refine ⟨_, rfl, _, rfl, d, size, _, rfl, w4.k.dice, by omega, by omega, by omega, fun r2 o r20 r21 D5 => ⟨(by show 3 ≤ sizeLine; decide), fun t nt => ?_⟩⟩
    have w5 := w4.roll pd D5
    obtain ⟨dd, od, kd⟩ := w5.w x hx
    obtain ⟨w6, td, tp⟩ := w5.new (o := .tup [.int r0, x, .int r2]) nt
    have sm := same_upd (o := .tup [.int r0, x, .int r2]) nt
    exact q _ t ⟨r0, dd, r2⟩ w6.k.ds (w5.k.free nt) w6.t w6.k.dice ⟨r00, by omega, od, r20, by omega⟩ (.tup upd_same (.cons (.int _) (.cons (Kz.same sm _ _ kd) (.cons (.int _) .nil))))
end
end K02
/-! Sets of numbers: the call set(xs), xs a list. -/
namespace NS
open PySem PySem.Spec PyProof.Rows L2
section
variable {P : Program} {w : World} {A : Around} {E : Value → Shared → Prop} {s : Shared}
/-- what set.__init__ has done -/
def DoneI (w : World) (s : Shared) (ns : List Int) (s2 : Shared) : Prop :=
  ∃ h2 tk c, s2 = { s with heap := h2, toks := tk } ∧ SetR w h2 s.heap.objs.size (fun j => decide (j ∈ ns)) c ∧ c ≤ ns.length ∧ ∀ b o, s.heap.get? b = some o → h2.get? b = some o
theorem init_ints {l : Addr} {items : Array Value} {ns : List Int} (calm : A.handled = none) (hl : s.heap.IsList l items) (he : IntsAre items.toList ns) (few : ns.length < 1000) :
    codeAny (model P w) A.in1 (.call (.builtin "set.__init__") ⟨[.ref s.heap.objs.size, .ref l], []⟩) (wants (fun r s2 => r = .none ∧ DoneI w s ns s2) E) { s with heap := s.heap.push (setObj w) } := by
  have at0 : (s.heap.push (setObj w)).get? s.heap.objs.size = some (setObj w) := Heap.get?_push_size _ rfl
  have ty : Shared.TypeIs { s with heap := s.heap.push (setObj w) } (.ref s.heap.objs.size) "set" := ⟨_, at0, rfl⟩
  have n0 : items.size = ns.length := by rw [← Array.length_toList]; exact he.length
  have none_of : ∀ b, s.heap.objs.size ≤ b → s.heap.get? b = none := fun b hb => by
    cases q : s.heap.get? b with
    | none => rfl
    | some o => exact absurd (Heap.lt_size q) (Nat.not_lt.mpr hb)
  refine codeAny_call_builtin F.called_set.init.plain F.entry_set_init (check_set_init_1 ty ?_)
  obtain ⟨ol, hol, hcl, nl, hdl⟩ := hl
  obtain ⟨cl, dl, datal, sl⟩ := ol
  simp only at hcl hdl
  subst hcl hdl
  have hol1 : (s.heap.push (setObj w)).get? l = some { cls := .type "list", dict := dl, data := .seq items nl, slots := sl } := Heap.get?_push_of_some _ hol
  have il : (s.heap.push (setObj w)).IsList l items := ⟨_, hol1, rfl, nl, rfl⟩
  have lt : l < s.heap.objs.size := Heap.lt_size hol
  have sub1 := F.sub_list_set
  have sub2 := F.sub_list_frozenset
  have ne : (Value.type "list" == Value.type "dict") = false := by decide
  unfold Builtin.«set.__init__» noKeywords Builtin.Frozenset.updateFrom
  generalize hPI : pyIter = PI
  wp_walk
  subst hPI
  refine wpAny_pyIter_list il (wpAny_bind (wpAny_runValue ?_))
  have calm3 : A.in1.in1.in1.handled = none := by simp [calm]
  have sz1 : (s.heap.push (setObj w)).objs.size = s.heap.objs.size + 1 := Heap.size_push ..
  have neI : l ≠ (s.heap.push (setObj w)).objs.size := by rw [sz1]; exact Nat.ne_of_lt (Nat.lt_succ_of_lt lt)
  have at2 : ((s.heap.push (setObj w)).push { cls := .type "list_iterator", data := .fields #[.ref l, .int 0 0] }).get? s.heap.objs.size = some (setObj w) := Heap.get?_push_of_some _ at0
  refine set_update_ints ((Walks.list calm3 _ l neI items).toS) s.heap.objs.size (fun m => ?_) ns n0 (by unfold scanBound; omega) (fun i v hv => ?_) (items.size - 0) 0 _ (by omega) (Nat.zero_le _)
    ⟨⟨_, Heap.get?_push_size _ rfl, rfl, rfl⟩, il.push _⟩ ⟨0, Nat.le_refl _, setR_new_at at2⟩ fun s2 c m hc R => ?_
  · rw [sz1] at m
    rcases List.mem_cons.mp m with z | z
    · exact absurd z (Nat.ne_of_lt (Nat.lt_succ_self _))
    · exact absurd (List.mem_singleton.mp z) (Nat.ne_of_gt lt)
  · have q : items.toList[i]? = some v := by rw [Array.getElem?_toList]; exact hv
    obtain ⟨t, e⟩ := PyProof.Rows.IntsAre.int_at he i v q
    have il2 : i < ns.length := by rw [← n0]; exact (Array.getElem?_eq_some_iff.mp hv).1
    exact ⟨ns[i], t, List.getElem?_eq_getElem il2, by rw [e, List.getD_eq_getElem?_getD, List.getElem?_eq_getElem il2]; rfl⟩
  · have keep : ∀ b o, s.heap.get? b = some o → s2.heap.get? b = some o := fun b o e => m.heap b o (fun z => by
      rcases List.mem_cons.mp z with z | z
      · rw [z, none_of _ (Nat.le_refl _)] at e; exact nomatch e
      · rw [List.mem_singleton.mp z, sz1, none_of _ (Nat.le_succ _)] at e; exact nomatch e) (Heap.get?_push_of_some _ (Heap.get?_push_of_some _ e))
    obtain ⟨h2, g2, d2, tk, o2⟩ := s2
    cases (m.gens : g2 = s.gens)
    cases (m.drawn : d2 = s.drawn)
    cases (m.os : o2 = s.os)
    rw [n0] at hc
    exact wpAny_pure (wpAny_pure ⟨rfl, h2, tk, c, rfl, R, hc, keep⟩)
/-- set(xs) -/
theorem call_ints {l : Addr} {items : Array Value} {ns : List Int} {Q : Value → Shared → Prop} (calm : A.handled = none) (hl : s.heap.IsList l items) (he : IntsAre items.toList ns) (few : ns.length < 1000)
    (q : ∀ (h2 : Heap) (tk c : Nat), SetR w h2 s.heap.objs.size (fun j => decide (j ∈ ns)) c → c ≤ ns.length → (∀ b o, s.heap.get? b = some o → h2.get? b = some o) → Q (.ref s.heap.objs.size) { s with heap := h2, toks := tk }) :
    wpAny (model P w) A (call (.type "set") [.ref l]) Q E s := by
  obtain ⟨c, tl, mro⟩ := F.called_set.mro
  have made := F.called_set.made
  have sub := F.called_set.sub
  refine wpAny_call (codeAny_of_tree (show wpAny _ _ (callAny (.type "set") _) _ _ _ from wpAny_pure ⟨Code.quiet_builtin _ (by decide +kernel), codeAny_builtin F.entry_type_call ?_⟩))
  rw [Around.under_plain (weight_type_call_type "set" [.ref l] []) rfl]
  have t1 := F.called_set.notType
  have t2 := F.called_set.canCreate
  have t3 := F.typeCall_set_1 (.ref l)
  repeat (any_goals (first | assumption | wp_step))
  refine codeAny_mono (code_set_led1 (.ref l) (E := E) (Q₁ := fun u s1 => u = .ref s.heap.objs.size ∧ s1 = { s with heap := s.heap.push (setObj w) }) ⟨rfl, rfl⟩) fun r s1 hr => ?_
  match r, hr with
  | .error _, hr => exact hr
  | .ok (.ret u), hr =>
    obtain ⟨rfl, rfl⟩ := hr
    have ty : Shared.TypeIs { s with heap := s.heap.push (setObj w) } (.ref s.heap.objs.size) "set" := ⟨_, Heap.get?_push_size _ rfl, rfl⟩
    have i1 := F.called_set.init.lookup
    have i2 := F.called_set.init.bind (.ref s.heap.objs.size)
    repeat (any_goals (first | assumption | wp_step))
    refine codeAny_mono (init_ints (E := E) calm hl he few) fun r2 s2 hr2 => ?_
    match r2, hr2 with
    | .error _, hr2 => exact hr2
    | .ok (.ret r), hr2 =>
      obtain ⟨rfl, h2, tk, c, rfl, R, hc, k⟩ := hr2
      repeat (any_goals (first | assumption | wp_step))
      exact q h2 tk c R hc k
end
section
variable {X : Cx}
/-- set(xs) of numbers -/
def rSetI (X : Cx) : List V → Hp → VK → Prop := fun xs H Q => ∃ (l : Addr) (ns : List Int), xs = [V.ref l] ∧ SqL X.K H l (ns.map V.int) ∧ ns.length < 64 ∧ ∀ a c, H a = none → c ≤ ns.length → Q (.ref a) (upd H a (L2.SetO X.w a (fun j => decide (j ∈ ns)) c))
theorem cr_setI (hc : X.calm = true) : CallR X (.type "set") (rSetI X) := by
  intro pins s σ H xs us Q I r h
  obtain ⟨l, ns, rfl, hl, few, q⟩ := h
  rw [Vals.ref1 r]
  obtain ⟨its, rv, pl, hz⟩ := I.list hl
  have n0 : H s.heap.objs.size = none := I.hok.fresh (Nat.le_refl _)
  refine call_ints (P := X.prog) (w := X.w) (ns := ns) (I.ok.hd hc) pl.isList (by simpa using Vals.ints rv) (by omega) fun h2 tk c R hcn k => ?_
  exact ⟨.ref s.heap.objs.size, upd H s.heap.objs.size (L2.SetO X.w s.heap.objs.size (fun j => decide (j ∈ ns)) c), I.laid (t' := tk) k (Nat.le_refl _) (setO_new R), rfl, q _ c n0 hcn⟩
end
end NS
/-! Machines as data: the whole machine; what sorted rows are. -/
namespace MC
open PySem PySem.Spec PyProof.Rows L2 NS WD
structure MachM where
  size : Nat
  finals : List Int
  rows : List RowM
def MachM.key (m : MachM) : NestedKey := .tup [.num m.size, .tup (m.finals.map .num), .tup (m.rows.map RowM.key)]
abbrev rowLt (r s : RowM) : Prop := PySem.W.dataLt r.key.data s.key.data = true
structure MachM.Ok (m : MachM) : Prop where
  s0 : 0 < m.size
  s1 : m.size ≤ 30
  f1 : ∀ k ∈ m.finals, 0 ≤ k ∧ k < m.size
  f2 : m.finals.Pairwise (· < ·)
  f3 : m.finals.length < 64
  r1 : ∀ r ∈ m.rows, r.Ok m.size
  r2 : m.rows.Pairwise rowLt
  r3 : m.rows.length < 64
theorem as_rows {size : Nat} : ∀ {L : List NS.Row}, (∀ p ∈ L, ∃ r : RowM, r.Ok size ∧ p.2 = r.key) → ∃ rs : List RowM, keysOf L = rs.map RowM.key ∧ ∀ r ∈ rs, r.Ok size
  | [], _ => ⟨[], rfl, fun _ z => (nomatch z)⟩
  | p :: L, h => by
    obtain ⟨r, ok, e⟩ := h p List.mem_cons_self
    obtain ⟨rs, e2, all⟩ := as_rows fun q hq => h q (List.mem_cons_of_mem _ hq)
    refine ⟨r :: rs, by rw [List.map_cons, keysOf, List.map_cons, e, ← e2], fun s hs => ?_⟩
    rcases List.mem_cons.mp hs with z | z
    · rw [z]; exact ok
    · exact all s z
theorem kz_rows {H : Hp} : ∀ {L : List NS.Row}, (∀ p ∈ L, Kz H (.ref p.1) p.2) → KzAll H (L.map fun p => V.ref p.1) (keysOf L)
  | [], _ => .nil
  | p :: L, h => .cons (h p List.mem_cons_self) (kz_rows fun q hq => h q (List.mem_cons_of_mem _ hq))
theorem kz_ints {H : Hp} : ∀ ns : List Int, KzAll H (ns.map V.int) (ns.map NestedKey.num)
  | [] => .nil
  | n :: ns => .cons (.int n) (kz_ints ns)
theorem alike_rows {size : Nat} {L : List NS.Row} (h : ∀ p ∈ L, ∃ r : RowM, r.Ok size ∧ p.2 = r.key) : PySem.W.AllAlike (L.map fun p => p.2.data) := by
  intro d hd e he
  obtain ⟨p, hp, rfl⟩ := List.mem_map.mp hd
  obtain ⟨q, hq, rfl⟩ := List.mem_map.mp he
  obtain ⟨r, _, e1⟩ := h p hp
  obtain ⟨s, _, e2⟩ := h q hq
  show PySem.W.alike p.2.data q.2.data = true
  rw [e1, e2]
  exact row_alike r s
theorem sortable_rows {size : Nat} {L : List NS.Row} (h : ∀ p ∈ L, ∃ r : RowM, r.Ok size ∧ p.2 = r.key) : PySem.W.Sortable (L.map fun p => p.2.data) := by
  refine .inl fun d hd => ?_
  obtain ⟨p, hp, rfl⟩ := List.mem_map.mp hd
  obtain ⟨r, _, e1⟩ := h p hp
  refine ⟨.int r.before, [r.deed.key.data, .int r.after], ?_⟩
  show p.2.data = _
  rw [e1]
  rfl
/-- sorted, and each once: each before the next -/
theorem strict_rows {size : Nat} {L : List NS.Row} {rs : List RowM} (h : ∀ p ∈ L, ∃ r : RowM, r.Ok size ∧ p.2 = r.key) (e : keysOf L = rs.map RowM.key) (once : (keysOf L).Nodup) (le : L.Pairwise (fun x y => NS.rowLe x y = true)) : rs.Pairwise rowLt := by
  have z : L.Pairwise (fun x y => PySem.W.dataLt x.2.data y.2.data = true) := by
    have o2 : L.Pairwise (fun x y => x.2 ≠ y.2) := List.pairwise_map.mp once
    refine List.Pairwise.imp_of_mem (fun {x y} hx hy hxy => ?_) (le.and o2)
    obtain ⟨l, n⟩ := hxy
    obtain ⟨r, _, e1⟩ := h x hx
    obtain ⟨s, _, e2⟩ := h y hy
    refine lt_of_le (by rw [e1, e2]; exact row_alike r s) n ?_
    have l' : (!PySem.W.dataLt y.2.data x.2.data) = true := by
      have q := l
      unfold NS.rowLe at q
      rw [PySem.W.dataLe_eq] at q
      exact q
    simpa using l'
  have y : (keysOf L).Pairwise (fun j k => PySem.W.dataLt j.data k.data = true) := List.pairwise_map.mpr z
  rw [e] at y
  have x : rs.Pairwise (fun r s => PySem.W.dataLt r.key.data s.key.data = true) := List.pairwise_map.mp y
  exact x
end MC
namespace K02
open PySem PySem.Spec PyProof.Rows L2 WD NS MC
open C8 (pss_cut tCut)
structure TxtS (mg : Str → Option Value) : Prop where
  set : mg "set" = none
  sorted : mg "sorted" = none
  tuple : mg "tuple" = none
abbrev nMd : List Str := ["_law_size", "_law_finals", "_law_rows"]
theorem scMade : FnScope nMd nMd (defScope sMade) := ⟨rfl, rfl, rfl, by decide +kernel, rfl, by decide +kernel, by decide +kernel⟩
/-- the machine of drawn finals and rows -/
def spMade (K : PySem.W.Frag) : Sp := fun vs H Q _ => ∃ (lf lr : Addr) (size : Nat) (fs : List Int) (L : List NS.Row), vs = [.int size, .ref lf, .ref lr] ∧ 0 < size ∧ size ≤ 30 ∧ SqL K H lf (fs.map V.int) ∧ fs.length < 64 ∧ (∀ k ∈ fs, 0 ≤ k ∧ k < size) ∧
  SqL K H lr (L.map fun p => V.ref p.1) ∧ L.length < 64 ∧ (∀ p ∈ L, Kz H (.ref p.1) p.2 ∧ ∃ r : RowM, r.Ok size ∧ p.2 = r.key) ∧
  ∀ H' p (m : MachM), Same H H' → H p = none → m.size = size → m.Ok → Kz H' (.ref p) m.key → Q (.ref p) H'
section
variable {P : Program} {w : World} {K : PySem.W.Frag} {mg : Str → Option Value} {base : Heap}
theorem ok_Made {f : Addr} {fd : FuncData} {k : Nat} (F : Fun K "_law_made" "_law_made" sMade f fd) (T : TxtS mg) : FnOk P w K mg base CX0 (k + 1) f fd nMd (spMade K) := by
  refine F.ok scMade (fun vs H Q E h => ?_) (fun cdv A outer s H vs Q E hr h => ?_)
  · obtain ⟨lf, lr, size, fs, L, rfl, _⟩ := h
    rfl
  · obtain ⟨lf, lr, size, fs, L, rfl, s0, s1, hf, lf6, rf, hl, ll6, rl, q⟩ := h
    have hu := hr.units
    refine ⟨_, pss_one (ps_ret (pe_tup (pa_cons (pv 0)
      (pa_cons (pe_callTy call_tuple_of (by rfl) T.tuple (by decide +kernel) (pa_cons (pe_callB (cr_sortedSet rfl) (by rfl) T.sorted (by decide +kernel) (pa_cons (pe_callTy (cr_setI rfl) (by rfl) T.set (by decide +kernel) (pa_cons (pv 1) pa_nil)) pa_nil)) pa_nil))
      (pa_cons (pe_callTy call_tuple_of (by rfl) T.tuple (by decide +kernel) (pa_cons (pe_callB (cr_sorted rfl hu) (by rfl) T.sorted (by decide +kernel) (pa_cons (pe_callTy (cr_set rfl hu) (by rfl) T.set (by decide +kernel) (pa_cons (pv 2) pa_nil)) pa_nil)) pa_nil)) pa_nil))))), ?_⟩
    refine ⟨_, rfl, _, rfl, lf, fs, rfl, hf, lf6, fun a1 c1 n1 h1 => ?_⟩
    have z1 := same_upd (o := L2.SetO w a1 (fun j => decide (j ∈ fs)) c1) n1
    refine ⟨a1, _, c1, rfl, upd_same, by omega, fun ns p2 pw mem len n2 => ?_⟩
    have z2 := same_upd (o := .lst (ns.map V.int)) n2
    refine ⟨p2, _, rfl, .inl ⟨SqL.of upd_same, fun t3 n3 => ?_⟩⟩
    have z3 := same_upd (o := .tup (ns.map V.int)) n3
    have z13 := z1.trans (z2.trans z3)
    refine ⟨_, rfl, lr, L, rfl, z13.seq hl, fun p hp => ⟨Kz.same z13 _ _ (rl p hp).1, ?_⟩, ll6, fun a4 L4 n4 has once => ?_⟩
    · obtain ⟨r, _, e⟩ := (rl p hp).2
      rw [e, row_depth]
      decide
    have z4 := same_upd (o := NS.SetO P w a4 L4) n4
    have z14 := z13.trans z4
    have rl4 : ∀ p ∈ L4, ∃ r : RowM, r.Ok size ∧ p.2 = r.key := fun p hp => (rl p (has.sub p hp)).2
    refine ⟨a4, L4, rfl, upd_same, fun p hp => ⟨Kz.same z14 _ _ (rl p (has.sub p hp)).1, ?_⟩, alike_rows rl4, sortable_rows rl4, fun L5 p5 pm pw5 len5 n5 => ?_⟩
    · obtain ⟨r, _, e⟩ := rl4 p hp
      rw [e, row_depth]
      decide
    have z5 := same_upd (o := .lst (L5.map fun r => V.ref r.1)) n5
    refine ⟨p5, _, rfl, .inl ⟨SqL.of upd_same, fun t6 n6 => ⟨(by show 3 ≤ sizeLine; decide), fun t7 n7 => ?_⟩⟩⟩
    have z6 := same_upd (o := .tup (L5.map fun r => V.ref r.1)) n6
    have z7 := same_upd (o := .tup [.int size, .ref t3, .ref t6]) n7
    have z16 := z14.trans (z5.trans z6)
    have rl5 : ∀ p ∈ L5, ∃ r : RowM, r.Ok size ∧ p.2 = r.key := fun p hp => rl4 p (pm.mem_iff.mp hp)
    obtain ⟨rs, ers, okrs⟩ := as_rows rl5
    have once5 : (keysOf L5).Nodup := (pm.map Prod.snd).nodup_iff.mpr once
    have lrs : rs.length = L5.length := by
      have z := congrArg List.length ers
      rw [List.length_map, List.length_map] at z
      exact z.symm
    refine q _ t7 ⟨size, ns, rs⟩ (z16.trans z7) (z16.free n7) rfl ⟨s0, s1, fun k hk => rf k (of_decide_eq_true ((mem k).mp hk)), pw, by show ns.length < 64; omega, okrs, strict_rows rl5 ers once5 pw5, by show rs.length < 64; omega⟩ ?_
    refine .tup upd_same (.cons (.int _) (.cons (.tup (z7 _ _ (z6 _ _ (z5 _ _ (z4 _ _ upd_same)))) (kz_ints ns)) (.cons (.tup (z7 _ _ upd_same) ?_) .nil)))
    show KzAll _ _ (rs.map RowM.key)
    rw [← ers]
    exact kz_rows fun p hp => Kz.same (z4.trans (z5.trans (z6.trans z7))) _ _ (Kz.same z13 _ _ (rl p (has.sub p (pm.mem_iff.mp hp))).1)
end
end K02
/-! Sets of texts: putting in, set(xs), sorted. -/
namespace NS
open PySem PySem.Spec PyProof.Rows L2
theorem isText (x : Str) (t : Tok) : Value.isStrOf x (.str x t) = true := by simp [Value.isStrOf]
def textOf (e : Int × Value) : Str := match e.2 with
  | .str x _ => x
  | _ => Str.empty
def IsText (w : World) (e : Int × Value) : Prop := ∃ x t, e = (hashStr w x, Value.str x t)
/-- the set of the texts ws at a, in the order of its entries -/
structure TSet (P : Program) (w : World) (h : Heap) (a : Addr) (ws : List Str) : Prop where
  ex : ∃ (o : Obj) (es : Array (Int × Value)) (ep : Nat) (t : SetTable), h.get? a = some o ∧ o.ExactSet ∧ o.data = .set es ep t ∧ (∀ e ∈ es.toList, IsText w e) ∧ es.toList.map textOf = ws ∧ ws.Nodup ∧ es.size < scanBound ∧ t.fits es.size = true ∧ Ris t.place.toList ∧
    (w.params.followText "set-order" = true ∨ t.led = true)
section
variable {P : Program} {w : World} {A : Around} {E : Value → Shared → Prop} {s : Shared} {a : Addr} {ws : List Str}
theorem TSet.carry {h h' : Heap} (R : TSet P w h a ws) (f : ∀ o, h.get? a = some o → h'.get? a = some o) : TSet P w h' a ws := by
  obtain ⟨o, es, ep, t, ho, r⟩ := R.ex
  exact ⟨o, es, ep, t, f o ho, r⟩
theorem elems_texts {l : List (Int × Value)} (h : ∀ e ∈ l, IsText w e) : ElemsOf (PySem.strKind P w) l := fun e m => by
  obtain ⟨x, t, rfl⟩ := h e m
  exact ⟨⟨x, isText x t, rfl⟩, rfl⟩
/-- what is left once a text has got its place -/
theorem put_rest {g : Bool → Sem Unit} (hg : ∀ (b : Bool) (s1 : Shared) (Q : Unit → Shared → Prop), Q () s1 → wpAny (model P w) A (g b) Q E s1) {o : Obj} {es : Array (Int × Value)} {ep : Nat} {t : SetTable} (ho : s.heap.get? a = some o) (hex : o.ExactSet) (hd : o.data = .set es ep t)
    {es1 : Array (Int × Value)} {t2 : SetTable} (all : ∀ e ∈ es1.toList, IsText w e) (once : (es1.toList.map textOf).Nodup) (small : es1.size < scanBound) (fit : t2.fits es1.size = true) (ris : Ris t2.place.toList) (led : w.params.followText "set-order" = true ∨ t2.led = true) {dum : Bool} {R : Option Bool → Shared → Prop}
    (q : ∀ h1 ws1, Heap.SameBut a s.heap h1 → TSet P w h1 a ws1 → ws1.Perm (es1.toList.map textOf) → R (some true) { s with heap := h1 }) :
    wpAny (model P w) A (do
        storeSet a es1 t2
        if (!dum && t2.tooFull) = true then do
            g (relayAll t2 es1 (SetTable.grown es1.size)).2.2
            storeSet a (relayAll t2 es1 (SetTable.grown es1.size)).1 (relayAll t2 es1 (SetTable.grown es1.size)).2.1
            pure (some true)
          else pure (some true)) R E s := by
  have sb1 := Heap.SameBut.update s.heap a (Obj.putSet es1 t2)
  have ho1 := store_at (es' := es1) (t' := t2) ho hd
  refine wpAny_bind (wpAny_storeSet_of ho hd ?_ (fits_of_scanBound small))
  split
  · have n1 := relayAll_perm t2 es1 (SetTable.grown es1.size)
    have n2 := relayAll_fits t2 es1 (SetTable.grown es1.size)
    have n3 := relayAll_ris t2 es1 (SetTable.grown es1.size)
    have n4 := relayAll_led t2 es1 (SetTable.grown es1.size)
    generalize relayAll t2 es1 (SetTable.grown es1.size) = Z at n1 n2 n3 n4 ⊢
    obtain ⟨es2, t3, gave⟩ := Z
    have sz : es2.size = es1.size := by rw [← Array.length_toList, n1.length_eq, Array.length_toList]
    have small2 : es2.size < scanBound := by rw [sz]; exact small
    refine wpAny_bind (hg _ _ _ (wpAny_bind (wpAny_storeSet_of ho1 rfl ?_ (fits_of_scanBound small2))))
    exact wpAny_pure (q _ _ (sb1.trans (Heap.SameBut.update _ a _)) ⟨_, es2, _, t3, store_at (es' := es2) (t' := t3) ho1 rfl, hex, rfl, fun e m => all e (n1.mem_iff.mp m), rfl, (n1.map textOf).nodup_iff.mpr once, small2, n2, n3, led.imp id fun z => n4.trans z⟩ (n1.map textOf))
  · exact wpAny_pure (q _ _ sb1 ⟨_, es1, _, t2, ho1, hex, rfl, all, rfl, once, small, fit, ris, led⟩ (List.Perm.refl _))
theorem put_text {x : Str} {tk : Tok} {Q : Bool → Shared → Prop} (R : TSet P w s.heap a ws) (room : ws.length + 1 < scanBound)
    (q : ∀ b h1 ws1, Heap.SameBut a s.heap h1 → TSet P w h1 a ws1 → (x ∈ ws → ws1 = ws) → (x ∉ ws → ws1.Perm (x :: ws)) → Q b { s with heap := h1 }) :
    wpAny (model P w) A (setAddHashed a (.str x tk) (hashStr w x)) Q E s := by
  obtain ⟨o, es, ep, t, ho, hex, hd, all, rfl, once, small, fit, ris, led⟩ := R.ex
  have key : (PySem.strKind P w).is x (.str x tk) = true := isText x tk
  have scan : (Value.str x tk).scannable = true := rfl
  have el : ElemsOf (PySem.strKind P w) es.toList := elems_texts all
  have is_iff : ∀ e ∈ es.toList, (PySem.strKind P w).is x e.2 = true ↔ textOf e = x := fun e m => by
    obtain ⟨y, t, rfl⟩ := all e m
    exact ⟨fun z => Value.isStrOf_inj _ _ _ (isText y t) z, fun z => by rw [← show y = x from z]; exact isText y t⟩
  unfold setAddHashed setAddHashedIn
  refine wpAny_holding (wpAny_bind (wpAny_setState_of ho hd fit ?_))
  dsimp only
  rw [byScan_of scan small el]
  simp only [↓reduceIte]
  unfold setAddByScan
  refine wpAny_bind (wpAny_bind (wpAny_rule (wpAny_bind (wpAny_setScan_of key ho hd fit el ?_))))
  cases hfi : List.findIdx? (fun e => (PySem.strKind P w).is x e.2) es.toList with
  | some j =>
    obtain ⟨hj, pj, _⟩ := List.findIdx?_eq_some_iff_getElem.mp hfi
    have m : x ∈ es.toList.map textOf := List.mem_map.mpr ⟨es.toList[j], List.getElem_mem hj, (is_iff _ (List.getElem_mem hj)).mp pj⟩
    exact wpAny_pure (wpAny_pure (q _ s.heap _ (Heap.SameBut.refl a s.heap) R (fun _ => rfl) fun z => absurd m z))
  | none =>
    have m : x ∉ es.toList.map textOf := fun z => by
      obtain ⟨e, me, ee⟩ := List.mem_map.mp z
      have c := List.findIdx?_eq_none_iff.mp hfi e me
      rw [(is_iff e me).mpr ee] at c
      cases c
    dsimp only
    have gw : ∀ (b : Bool) {s1 : Shared} {G : Unit → Shared → Prop}, G () s1 → wpAny (model P w) A (match b with | true => rule "set.scan.the-table-gave-way" | false => pure ()) G E s1 := fun b s1 G z => by cases b <;> first | exact wpAny_pure z | exact wpAny_rule z
    have n1 := layNew_perm t es (hashStr w x) (.str x tk)
    have n2 := layNew_fits t es (hashStr w x) (.str x tk)
    have n3 := layNew_ris t es (hashStr w x) (.str x tk) ris
    have n4 := layNew_led t es (hashStr w x) (.str x tk)
    generalize layNew t es (hashStr w x) (.str x tk) = Z at n1 n2 n3 n4 ⊢
    obtain ⟨es1, t1, dum, gave⟩ := Z
    dsimp only at n1 n2 n3 n4 ⊢
    rw [Array.toList_push] at n1
    have pc : es1.toList.Perm ((hashStr w x, Value.str x tk) :: es.toList) := n1.trans (List.perm_append_singleton _ _)
    have pt : (es1.toList.map textOf).Perm (x :: es.toList.map textOf) := pc.map textOf
    have all1 : ∀ e ∈ es1.toList, IsText w e := fun e me => (List.mem_cons.mp (pc.mem_iff.mp me)).elim (fun z => ⟨x, tk, z⟩) (all e)
    have once1 : (es1.toList.map textOf).Nodup := pt.nodup_iff.mpr (List.nodup_cons.mpr ⟨m, once⟩)
    have small1 : es1.size < scanBound := by
      have z := pt.length_eq
      rw [List.length_map, List.length_cons, Array.length_toList] at z
      rw [z]
      exact room
    have led1 : w.params.followText "set-order" = true ∨ t1.led = true := led.imp id fun z => n4.trans z
    have fin : ∀ h1 ws1, Heap.SameBut a s.heap h1 → TSet P w h1 a ws1 → ws1.Perm (es1.toList.map textOf) → Q true { s with heap := h1 } := fun h1 ws1 sb T p => q true h1 ws1 sb T (fun z => absurd z m) fun _ => p.trans pt
    refine wpAny_bind (gw _ ?_)
    split
    · refine wpAny_bind ?_
      rw [hashByValue_scannable 8 scan]
      refine wpAny_pure (put_rest (fun b s1 G z => ?_) ho hex hd all1 once1 small1 ?_ ?_ ?_ fun h1 ws1 sb T p => ?_)
      · cases b <;> first | exact wpAny_pure z | exact wpAny_rule z
      · first | (split <;> first | exact n2 | exact SetTable.fits_plain_off n2) | exact n2 | exact SetTable.fits_plain_off n2
      · first | (split <;> exact n3) | exact n3
      · first | (split <;> exact led1) | exact led1
      · exact wpAny_pure (fin h1 ws1 sb T p)
    · refine wpAny_bind (wpAny_pure ?_)
      simp only [↓reduceIte]
      refine put_rest (fun b s1 G z => ?_) ho hex hd all1 once1 small1 n2 n3 led1 fun h1 ws1 sb T p => ?_
      · cases b <;> first | exact wpAny_pure z | exact wpAny_rule z
      · exact wpAny_pure (fin h1 ws1 sb T p)
end
end NS
/-! Sets of texts: the call set(xs), xs a list; sorted of such a set. -/
namespace NS
open PySem PySem.Spec PyProof.Rows L2
theorem texts_at : ∀ {xs : List Str} {us : List Value}, Vals (xs.map V.str) us → ∀ (i : Nat) (v : Value), us[i]? = some v → ∃ x t, xs[i]? = some x ∧ v = Value.str x t
  | [], _, .nil, i, v, h => by simp at h
  | x :: xs, _, .cons r t, 0, v, h => by
    obtain ⟨tk, rfl⟩ := r
    exact ⟨x, tk, rfl, (Option.some.inj h).symm⟩
  | x :: xs, _, .cons r t, i + 1, v, h => texts_at t i v h
section
variable {P : Program} {w : World} {A : Around} {E : Value → Shared → Prop} {s : Shared} {a : Addr} {ws : List Str}
/-- what set.__init__ has done -/
def DoneT (P : Program) (w : World) (s : Shared) (xs : List Str) (s2 : Shared) : Prop :=
  ∃ h2 tk ws, s2 = { s with heap := h2, toks := tk } ∧ TSet P w h2 s.heap.objs.size ws ∧ (∀ x, x ∈ ws ↔ x ∈ xs) ∧ ∀ b o, s.heap.get? b = some o → h2.get? b = some o
theorem TSet.new {h : Heap} {a : Addr} (ho : h.get? a = some (setObj w)) : TSet P w h a [] := by
  refine ⟨_, #[], 0, _, ho, ⟨rfl, rfl, rfl⟩, rfl, fun _ m => (nomatch m), rfl, List.nodup_nil, by decide, rfl, List.Pairwise.nil, ?_⟩
  cases e : w.params.followText "set-order" with
  | true => exact .inl rfl
  | false => exact .inr (show (!w.params.followText "set-order") = true by rw [e]; rfl)
theorem TSet.once {h : Heap} (R : TSet P w h a ws) : ws.Nodup := by
  obtain ⟨_, _, _, _, _, _, _, _, _, o, _⟩ := R.ex
  exact o
/-- set.update's loop over texts -/
theorem fillT {I S : Addr} {fp wr : List Addr} {G : Array GenState → Array GenState → Prop} {n : Nat} {Pv : Nat → Value → Prop} {St : Nat → Shared → Prop} {R : Result → Shared → Prop} {xs : List Str}
    (W : WalksS P w A.in1 I fp wr G n Pv St) (nS : S ∉ fp) (hn : n = xs.length) (few : xs.length < 64) (val : ∀ i v, Pv i v → ∃ x t, xs[i]? = some x ∧ v = .str x t) (rest : List Str) :
    ∀ (done : List Str) (s : Shared), xs = done ++ rest → St done.length s → (∃ ws, TSet P w s.heap S ws ∧ (∀ x, x ∈ ws ↔ x ∈ done) ∧ ws.length ≤ done.length) →
      (∀ s1 ws, Moved (S :: wr) G s s1 → TSet P w s1.heap S ws → (∀ x, x ∈ ws ↔ x ∈ xs) → R (.ok (.ret .none)) s1) →
      codeAny (model P w) A (.builtin "set.update.loop" ⟨[.ref S, .ref I], []⟩) R s := by
  have up : ∀ b ∈ wr, b ∈ S :: wr := fun b m => List.mem_cons_of_mem _ m
  have nSw : S ∉ wr := fun m => nS (W.sub _ m)
  induction rest with
  | nil =>
    intro done s er st hs fin
    obtain ⟨ws, R0, g, _⟩ := hs
    rw [List.append_nil] at er
    subst er
    rw [← hn] at st
    refine codeAny_builtin F.entry_set_update_loop ?_
    rw [Around.under_plainId F.plain_set_update_loop _]
    refine (show wpAny _ A.in1 (pyNext (.ref I) >>= _) _ _ s from wpAny_bind (W.done s _ _ st fun s1 m => ?_))
    exact (show wpAny _ A.in1 (ret Value.none) _ _ s1 from wpAny_pure (fin s1 ws (m.mono up) (R0.carry fun o e => m.heap S o nSw e) g))
  | cons x rest ih =>
    intro done s er st hs fin
    obtain ⟨ws, R0, g, gl⟩ := hs
    have il : done.length < n := by rw [hn, er, List.length_append, List.length_cons]; omega
    have xe : xs[done.length]? = some x := by rw [er, List.getElem?_append_right (Nat.le_refl _), Nat.sub_self]; rfl
    refine codeAny_builtin F.entry_set_update_loop ?_
    rw [Around.under_plainId F.plain_set_update_loop _]
    refine (show wpAny _ A.in1 (pyNext (.ref I) >>= _) _ _ s from wpAny_bind (W.item done.length s _ _ il st fun v s1 pv st1 m => ?_))
    obtain ⟨y, t, pe, rfl⟩ := val _ _ pv
    rw [xe] at pe
    cases pe
    have R1 : TSet P w s1.heap S ws := R0.carry fun o e => m.heap S o nSw e
    refine (show wpAny _ A.in1 (holding [Value.str x t] (setAdd S (.str x t)) >>= _) _ _ s1 from wpAny_bind (wpAny_holding ?_))
    rw [setAdd]
    refine wpAny_holding (wpAny_bind (wpAny_pyHash_str ?_))
    refine put_text (s := { s1 with toks := s1.toks + 1 }) R1 (by rw [er, List.length_append, List.length_cons] at few; unfold scanBound; omega) fun b h2 ws2 sb R2 c1 c2 => ?_
    have g2 : (∀ y, y ∈ ws2 ↔ y ∈ done ++ [x]) ∧ ws2.length ≤ (done ++ [x]).length := by
      rw [List.length_append, List.length_singleton]
      rcases Classical.em (x ∈ ws) with c | c
      · rw [c1 c]
        refine ⟨fun y => ?_, by omega⟩
        rw [List.mem_append, List.mem_singleton, g y]
        exact ⟨Or.inl, fun z => z.elim id fun z => by rw [z]; exact (g x).mp c⟩
      · have p := c2 c
        refine ⟨fun y => ?_, by rw [p.length_eq, List.length_cons]; omega⟩
        rw [p.mem_iff, List.mem_cons, List.mem_append, List.mem_singleton, g y]
        exact Or.comm
    refine wpAny_pure ⟨plainId_quiet F.plain_set_update_loop _, ih (done ++ [x]) _ (by rw [er, List.append_assoc]; rfl) ?_ ⟨ws2, R2, g2⟩ fun s3 ws3 m3 R3 g3 => ?_⟩
    · rw [List.length_append]
      exact W.frame _ s1 _ _ st1 (Nat.le_add_right _ _) fun b mb o e => (sb.2 b fun z => nS (z ▸ mb)).trans e
    · refine fin s3 ws3 (Moved.trans W.gtrans ((m.mono up).then_heap (Nat.le_add_right _ _) fun b o mb e => ?_) m3) R3 g3
      exact (sb.2 b fun z => mb (z ▸ List.mem_cons_self)).trans e
theorem init_texts {l : Addr} {items : Array Value} {xs : List Str} (calm : A.handled = none) (hl : s.heap.IsList l items) (he : Vals (xs.map V.str) items.toList) (few : xs.length < 64) :
    codeAny (model P w) A.in1 (.call (.builtin "set.__init__") ⟨[.ref s.heap.objs.size, .ref l], []⟩) (wants (fun r s2 => r = .none ∧ DoneT P w s xs s2) E) { s with heap := s.heap.push (setObj w) } := by
  have at0 : (s.heap.push (setObj w)).get? s.heap.objs.size = some (setObj w) := Heap.get?_push_size _ rfl
  have ty : Shared.TypeIs { s with heap := s.heap.push (setObj w) } (.ref s.heap.objs.size) "set" := ⟨_, at0, rfl⟩
  have n0 : items.size = xs.length := by
    have z := he.length
    rw [List.length_map, Array.length_toList] at z
    exact z.symm
  have none_of : ∀ b, s.heap.objs.size ≤ b → s.heap.get? b = none := fun b hb => by
    cases q : s.heap.get? b with
    | none => rfl
    | some o => exact absurd (Heap.lt_size q) (Nat.not_lt.mpr hb)
  refine codeAny_call_builtin F.called_set.init.plain F.entry_set_init (check_set_init_1 ty ?_)
  obtain ⟨ol, hol, hcl, nl, hdl⟩ := hl
  obtain ⟨cl, dl, datal, sl⟩ := ol
  simp only at hcl hdl
  subst hcl hdl
  have hol1 : (s.heap.push (setObj w)).get? l = some { cls := .type "list", dict := dl, data := .seq items nl, slots := sl } := Heap.get?_push_of_some _ hol
  have il : (s.heap.push (setObj w)).IsList l items := ⟨_, hol1, rfl, nl, rfl⟩
  have lt : l < s.heap.objs.size := Heap.lt_size hol
  have sub1 := F.sub_list_set
  have sub2 := F.sub_list_frozenset
  have ne : (Value.type "list" == Value.type "dict") = false := by decide
  unfold Builtin.«set.__init__» noKeywords Builtin.Frozenset.updateFrom
  generalize hPI : pyIter = PI
  wp_walk
  subst hPI
  refine wpAny_pyIter_list il (wpAny_bind (wpAny_runValue ?_))
  have calm3 : A.in1.in1.in1.handled = none := by simp [calm]
  have sz1 : (s.heap.push (setObj w)).objs.size = s.heap.objs.size + 1 := Heap.size_push ..
  have neI : l ≠ (s.heap.push (setObj w)).objs.size := by rw [sz1]; exact Nat.ne_of_lt (Nat.lt_succ_of_lt lt)
  have at2 : ((s.heap.push (setObj w)).push { cls := .type "list_iterator", data := .fields #[.ref l, .int 0 0] }).get? s.heap.objs.size = some (setObj w) := Heap.get?_push_of_some _ at0
  refine fillT (xs := xs) (S := s.heap.objs.size) ((Walks.list calm3 _ l neI items).toS) (fun m => ?_) n0 few (fun i v hv => ?_) xs [] _ rfl
    ⟨⟨_, Heap.get?_push_size _ rfl, rfl, rfl⟩, il.push _⟩ ⟨[], TSet.new at2, fun _ => Iff.rfl, Nat.le_refl _⟩ fun s2 ws m R g => ?_
  · rw [sz1] at m
    rcases List.mem_cons.mp m with z | z
    · exact absurd z (Nat.ne_of_lt (Nat.lt_succ_self _))
    · exact absurd (List.mem_singleton.mp z) (Nat.ne_of_gt lt)
  · have q : items.toList[i]? = some v := by rw [Array.getElem?_toList]; exact hv
    exact texts_at he i v q
  · have keep : ∀ b o, s.heap.get? b = some o → s2.heap.get? b = some o := fun b o e => m.heap b o (fun z => by
      rcases List.mem_cons.mp z with z | z
      · rw [z, none_of _ (Nat.le_refl _)] at e; exact nomatch e
      · rw [List.mem_singleton.mp z, sz1, none_of _ (Nat.le_succ _)] at e; exact nomatch e) (Heap.get?_push_of_some _ (Heap.get?_push_of_some _ e))
    obtain ⟨h2, g2, d2, tk, o2⟩ := s2
    cases (m.gens : g2 = s.gens)
    cases (m.drawn : d2 = s.drawn)
    cases (m.os : o2 = s.os)
    exact wpAny_pure (wpAny_pure ⟨rfl, h2, tk, ws, rfl, R, g, keep⟩)
/-- set(xs) -/
theorem call_texts {l : Addr} {items : Array Value} {xs : List Str} {Q : Value → Shared → Prop} (calm : A.handled = none) (hl : s.heap.IsList l items) (he : Vals (xs.map V.str) items.toList) (few : xs.length < 64)
    (q : ∀ (h2 : Heap) (tk : Nat) (ws : List Str), TSet P w h2 s.heap.objs.size ws → (∀ x, x ∈ ws ↔ x ∈ xs) → (∀ b o, s.heap.get? b = some o → h2.get? b = some o) → Q (.ref s.heap.objs.size) { s with heap := h2, toks := tk }) :
    wpAny (model P w) A (call (.type "set") [.ref l]) Q E s := by
  obtain ⟨c, tl, mro⟩ := F.called_set.mro
  have made := F.called_set.made
  have sub := F.called_set.sub
  refine wpAny_call (codeAny_of_tree (show wpAny _ _ (callAny (.type "set") _) _ _ _ from wpAny_pure ⟨Code.quiet_builtin _ (by decide +kernel), codeAny_builtin F.entry_type_call ?_⟩))
  rw [Around.under_plain (weight_type_call_type "set" [.ref l] []) rfl]
  have t1 := F.called_set.notType
  have t2 := F.called_set.canCreate
  have t3 := F.typeCall_set_1 (.ref l)
  repeat (any_goals (first | assumption | wp_step))
  refine codeAny_mono (code_set_led1 (.ref l) (E := E) (Q₁ := fun u s1 => u = .ref s.heap.objs.size ∧ s1 = { s with heap := s.heap.push (setObj w) }) ⟨rfl, rfl⟩) fun r s1 hr => ?_
  match r, hr with
  | .error _, hr => exact hr
  | .ok (.ret u), hr =>
    obtain ⟨rfl, rfl⟩ := hr
    have ty : Shared.TypeIs { s with heap := s.heap.push (setObj w) } (.ref s.heap.objs.size) "set" := ⟨_, Heap.get?_push_size _ rfl, rfl⟩
    have i1 := F.called_set.init.lookup
    have i2 := F.called_set.init.bind (.ref s.heap.objs.size)
    repeat (any_goals (first | assumption | wp_step))
    refine codeAny_mono (init_texts (E := E) calm hl he few) fun r2 s2 hr2 => ?_
    match r2, hr2 with
    | .error _, hr2 => exact hr2
    | .ok (.ret r), hr2 =>
      obtain ⟨rfl, h2, tk, ws, rfl, R, g, k⟩ := hr2
      repeat (any_goals (first | assumption | wp_step))
      exact q h2 tk ws R g k
end
section
variable {X : Cx}
/-- the set of texts at a -/
def TSetO (P : Program) (w : World) (a : Addr) (ws : List Str) : HO := .ext fun h => TSet P w h a ws
theorem tSetO_ok {P : Program} {w : World} {H : Hp} {h : Heap} {a : Addr} {ws : List Str} (R : TSet P w h a ws) : ObjOk P w H h a (TSetO P w a ws) := by
  have z := R.ex
  obtain ⟨o, es, ep, t, ho, r⟩ := z
  exact ⟨R, ⟨o, ho⟩, fun h1 h2 p k => TSet.carry p k⟩
/-- set(xs) of texts -/
def rSetT (X : Cx) : List V → Hp → VK → Prop := fun vs H Q => ∃ (l : Addr) (xs : List Str), vs = [V.ref l] ∧ SqL X.K H l (xs.map V.str) ∧ xs.length < 64 ∧ ∀ a ws, H a = none → ws.Nodup → (∀ x, x ∈ ws ↔ x ∈ xs) → Q (.ref a) (upd H a (TSetO X.prog X.w a ws))
theorem cr_setT (hc : X.calm = true) : CallR X (.type "set") (rSetT X) := by
  intro pins s σ H vs us Q I r h
  obtain ⟨l, xs, rfl, hl, few, q⟩ := h
  rw [Vals.ref1 r]
  obtain ⟨its, rv, pl, hz⟩ := I.list hl
  have n0 : H s.heap.objs.size = none := I.hok.fresh (Nat.le_refl _)
  refine call_texts (P := X.prog) (w := X.w) (xs := xs) (I.ok.hd hc) pl.isList (by simpa using rv) few fun h2 tk ws R g k => ?_
  exact ⟨.ref s.heap.objs.size, upd H s.heap.objs.size (TSetO X.prog X.w s.heap.objs.size ws), I.laid (t' := tk) k (Nat.le_refl _) (tSetO_ok R), rfl, q _ ws n0 R.once g⟩
end
end NS
/-! Sets of texts: sorted of such a set. -/
namespace NS
open PySem PySem.Spec PyProof.Rows L2
abbrev strLe (x y : Str) : Bool := decide (x.cps.toList ≤ y.cps.toList)
theorem each_texts : ∀ {vs : List Value} {xs : List Str}, PySem.W.EachIs (fun (v : Value) (x : Str) => ∃ t, v = .str x t) vs xs → Vals (xs.map V.str) vs
  | _, _, .nil => .nil
  | _, _, .cons ⟨t, e⟩ r => .cons ⟨t, e⟩ (each_texts r)
theorem each_reads {h : Heap} {f : Addr} : ∀ {vs : List Value} {xs : List Str}, PySem.W.EachIs (fun (v : Value) (x : Str) => ∃ t, v = .str x t) vs xs → PySem.W.EachIs (fun (v : Value) (x : Str) => ∃ as, Reads h v (.str x) as ∧ f ∉ as) vs xs
  | _, _, .nil => .nil
  | _, _, .cons ⟨t, e⟩ r => by
    subst e
    exact .cons ⟨[], .str _ t, List.not_mem_nil⟩ (each_reads r)
theorem texts_each {w : World} : ∀ l : List (Int × Value), (∀ e ∈ l, IsText w e) → PySem.W.EachIs (fun (v : Value) (x : Str) => ∃ t, v = .str x t) (l.map (·.2)) (l.map textOf)
  | [], _ => .nil
  | e :: l, h => by
    obtain ⟨x, t, rfl⟩ := h e List.mem_cons_self
    exact .cons ⟨t, rfl⟩ (texts_each l fun d m => h d (List.mem_cons_of_mem _ m))
section
variable {P : Program} {w : World} {A : Around} {E : Value → Shared → Prop} {s : Shared} {a : Addr} {ws : List Str}
theorem sorted_texts {Q : Value → Shared → Prop} (R : TSet P w s.heap a ws) (calm : A.handled = none) (few : ws.length < 64) (hu : A.units + 16 < cLine)
    (q : ∀ s1 p (out : Array Value) (c : Nat) (ys : List Str), (∀ b o, s.heap.get? b = some o → s1.heap.get? b = some o) → s1.gens = s.gens → s1.os = s.os → s.heap.objs.size ≤ p → s1.heap.get? p = some (seqObj "list" out c) →
      Vals (ys.map V.str) out.toList → ys.Perm ws → ys.Pairwise (fun x y => x.cps.toList ≤ y.cps.toList) → Q (.ref p) s1) :
    wpAny (model P w) A (call (.builtin "sorted") [.ref a]) Q E s := by
  obtain ⟨o, es, ep, t, ho, hex, hd, all, rfl, once, small, fit, ris, led⟩ := R.ex
  refine Calls.call_function_entry kind_sorted plain_sorted entry_sorted (args_sorted1 _) ?_
  unfold Builtin.«sorted»
  refine wpAny_bind (m := checkCount "sorted" 1 1 _) (wpAny_pure (wpAny_bind (collect_set (A := A.in1) calm ⟨o, ho, hex.1, hd⟩ fit small ris led fun s1 vs k1 z1 g1 o1 pm => ?_)))
  obtain ⟨l0, rfl, p0⟩ := perm_map_inv pm
  have all0 : ∀ e ∈ l0, IsText w e := fun e m => all e (p0.mem_iff.mp m)
  have pt := p0.map textOf
  have n0 : l0.length < 64 := by
    have z := p0.length_eq
    rw [List.length_map] at few
    omega
  have each := texts_each l0 all0
  refine wpAny_bind (wpAny_newList ?_ (by rw [List.length_map, sizeLine_eq]; omega))
  have at1 : (s1.heap.push (seqObj "list" (l0.map (·.2)).toArray 0)).get? s1.heap.objs.size = some (seqObj "list" (l0.map (·.2)).toArray 0) := Heap.get?_push_size _ rfl
  refine wpAny_bind (wpAny_holding (PySem.W.list_sort_data (s := { s1 with heap := s1.heap.push (seqObj "list" (l0.map (·.2)).toArray 0) }) (R := fun (v : Value) (x : Str) => ∃ t, v = .str x t) (enc := PyData.str) (bs := l0.map textOf) at1 each (each_reads each)
    (PySem.W.AllAlike.of fun _ _ => rfl) (PySem.W.Sortable.others fun _ => ⟨fun z => (nomatch z), fun _ z => (nomatch z)⟩) (by rw [List.length_map, sizeLine_eq]; omega) (fun b _ => ?_) fun out n1 eo => ?_))
  · show A.in1.units + 1 + 0 < cLine
    rw [Around.in1_units]
    omega
  · obtain ⟨c, hc⟩ := sortedHeap_at (vs := l0.map (·.2)) (out := List.toArray out) at1
    refine wpAny_pure ⟨_, rfl, q _ s1.heap.objs.size (List.toArray out) c ((l0.map textOf).mergeSort (PySem.W.dataLe false PyData.str)) (fun b u e => ?_) g1 o1 z1 hc (by rw [List.toList_toArray]; exact each_texts eo) ((List.mergeSort_perm _ _).trans pt) ?_⟩
    · have e2 := k1 b u e
      have lt := Heap.lt_size e2
      exact (sortedHeap_old (Nat.ne_of_lt lt) (by rw [size_push']; exact Nat.lt_succ_of_lt lt)).trans (Heap.get?_push_of_some _ e2)
    · have z := PySem.W.sort_pairwise (PySem.W.sortLe_total _ _ _ : PySem.W.TotalLe (PySem.W.dataLe false PyData.str)) (l0.map textOf)
      refine z.imp fun {x y} h => ?_
      have e := congrFun (congrFun (PySem.W.dataLe_str fun x : Str => x) x) y
      exact of_decide_eq_true (e.symm.trans h)
end
section
variable {X : Cx}
/-- sorted(a set of texts) -/
def rSortedT (X : Cx) : List V → Hp → VK → Prop := fun vs H Q => ∃ (a : Addr) (ws : List Str), vs = [V.ref a] ∧ H a = some (TSetO X.prog X.w a ws) ∧ ws.length < 64 ∧
  ∀ (ys : List Str) (p : Addr), ys.Perm ws → ys.Pairwise (fun x y => x.cps.toList ≤ y.cps.toList) → H p = none → Q (.ref p) (upd H p (.lst (ys.map V.str)))
theorem cr_sortedT (hc : X.calm = true) (hu : X.A.units + 64 < cLine) : CallR X (.builtin "sorted") (rSortedT X) := by
  intro pins s σ H vs us Q I r h
  obtain ⟨a, ws, rfl, ha, few, q⟩ := h
  have R : TSet X.prog X.w s.heap a ws := (I.hok a _ ha).1
  rw [Vals.ref1 r]
  refine sorted_texts R (I.ok.hd hc) few (by omega) fun s1 p out c ys k g o hp hg hv pm pw => ?_
  have n0 : H p = none := I.hok.fresh hp
  have J := I.call' (s' := s1) (ch := []) (H' := upd H p (.lst (ys.map V.str))) o (Un.laid k hp n0) (I.hok.laid k hp ⟨by rw [List.length_map, pm.length_eq, sizeLine_eq]; omega, out.toList, c, hv, hg⟩) (by rw [g]; exact I.bare) (fun _ z => nomatch z)
  exact ⟨.ref p, _, J, rfl, q ys p pm pw n0⟩
end
end NS
/-! Machines over the abstract heap, part by part. -/
namespace MC
open PySem PySem.Spec PyProof.Rows L2 NS WD
theorem nodup_len {α : Type} [DecidableEq α] : ∀ (l D : List α), l.Nodup → (∀ x ∈ l, x ∈ D) → l.length ≤ D.length
  | [], _, _, _ => Nat.zero_le _
  | x :: l, D, n, s => by
    have hx := s x List.mem_cons_self
    have n' := List.nodup_cons.mp n
    have z := nodup_len l (D.erase x) n'.2 fun y hy => (List.mem_erase_of_ne fun e => n'.1 (by rw [← show y = x from e]; exact hy)).mpr (s y (List.mem_cons_of_mem _ hy))
    rw [List.length_erase_of_mem hx] at z
    have p : 0 < D.length := List.length_pos_of_mem hx
    rw [List.length_cons]
    omega
variable {H : Hp}
theorem kz_len : ∀ {xs : List V} {ks : List NestedKey}, KzAll H xs ks → xs.length = ks.length
  | _, _, .nil => rfl
  | _, _, .cons _ t => by rw [List.length_cons, List.length_cons, kz_len t]
theorem kz_get : ∀ {xs : List V} {ks : List NestedKey}, KzAll H xs ks → ∀ (i : Nat) (v : V), xs[i]? = some v → ∃ k, ks[i]? = some k ∧ Kz H v k
  | _, _, .nil, i, v, h => by simp at h
  | _, _, .cons r t, 0, v, h => ⟨_, rfl, (Option.some.inj h) ▸ r⟩
  | _, _, .cons r t, i + 1, v, h => kz_get t i v h
theorem kz_tup {v : V} {ks : List NestedKey} (h : Kz H v (.tup ks)) : ∃ a xs, v = .ref a ∧ H a = some (.tup xs) ∧ KzAll H xs ks := by
  cases h with
  | tup e h => exact ⟨_, _, rfl, e, h⟩
theorem kz_num {v : V} {i : Int} (h : Kz H v (.num i)) : v = .int i := by cases h; rfl
theorem kz_text {v : V} {x : Str} (h : Kz H v (.text x)) : v = .str x := by cases h; rfl
theorem kz_nums : ∀ {xs : List V} {ns : List Int}, KzAll H xs (ns.map NestedKey.num) → xs = ns.map V.int
  | _, [], h => by cases h; rfl
  | _, n :: ns, h => by
    cases h with
    | cons r t => rw [kz_num r, kz_nums t]; rfl
structure MachAt (H : Hp) (a : Addr) (m : MachM) where
  f : Addr
  t : Addr
  xs : List V
  top : H a = some (.tup [.int m.size, .ref f, .ref t])
  fin : H f = some (.tup (m.finals.map V.int))
  row : H t = some (.tup xs)
  all : KzAll H xs (m.rows.map RowM.key)
theorem mach_at {a : Addr} {m : MachM} (h : Kz H (.ref a) m.key) : Nonempty (MachAt H a m) := by
  obtain ⟨a', xs, e, ha, hs⟩ := kz_tup h
  cases e
  cases hs with
  | cons h1 hs =>
    cases hs with
    | cons h2 hs =>
      cases hs with
      | cons h3 hs =>
        cases hs
        cases kz_num h1
        obtain ⟨f, fs, rfl, ef, af⟩ := kz_tup h2
        obtain ⟨t, ts, rfl, et, at'⟩ := kz_tup h3
        cases kz_nums af
        exact ⟨⟨f, t, ts, ha, ef, et, at'⟩⟩
theorem row_at {xs : List V} {rows : List RowM} (all : KzAll H xs (rows.map RowM.key)) {i : Nat} {v : V} (h : xs[i]? = some v) : ∃ r : RowM, rows[i]? = some r ∧ ∃ (a : Addr) (dv : V), v = .ref a ∧ H a = some (.tup [.int r.before, dv, .int r.after]) ∧ Kz H dv r.deed.key := by
  obtain ⟨k, hk, z⟩ := kz_get all i v h
  rw [List.getElem?_map] at hk
  cases e : rows[i]? with
  | none => rw [e] at hk; exact nomatch hk
  | some r =>
    rw [e] at hk
    cases hk
    refine ⟨r, rfl, ?_⟩
    obtain ⟨a, ys, rfl, ha, hs⟩ := kz_tup z
    cases hs with
    | cons h1 hs =>
      cases hs with
      | cons h2 hs =>
        cases hs with
        | cons h3 hs =>
          cases hs
          cases kz_num h1
          cases kz_num h3
          exact ⟨a, _, rfl, ha, h2⟩
/-- the signs of a deed -/
def Deed.signs : Deed → List Str
  | .step => ["step"]
  | .ex b n l => [wordOf b, n, l]
theorem deed_at {dv : V} {d : Deed} (h : Kz H dv d.key) : ∃ q, dv = .ref q ∧ H q = some (.tup (d.signs.map V.str)) := by
  cases d with
  | step =>
    obtain ⟨q, ys, rfl, hq, hs⟩ := kz_tup h
    cases hs with
    | cons h1 hs =>
      cases hs
      cases kz_text h1
      exact ⟨q, rfl, hq⟩
  | ex b n l =>
    obtain ⟨q, ys, rfl, hq, hs⟩ := kz_tup h
    cases hs with
    | cons h1 hs =>
      cases hs with
      | cons h2 hs =>
        cases hs with
        | cons h3 hs =>
          cases hs
          cases kz_text h1
          cases kz_text h2
          cases kz_text h3
          exact ⟨q, rfl, hq⟩
def exName (r : RowM) : Option Str := match r.deed with
  | .step => none
  | .ex _ n _ => some n
def exNames (rs : List RowM) : List Str := rs.filterMap exName
theorem mem_exNames {rs : List RowM} {x : Str} : x ∈ exNames rs ↔ ∃ r ∈ rs, ∃ b l, r.deed = .ex b x l := by
  rw [exNames, List.mem_filterMap]
  constructor
  · rintro ⟨r, hr, e⟩
    refine ⟨r, hr, ?_⟩
    unfold exName at e
    cases h : r.deed with
    | step => rw [h] at e; exact nomatch e
    | ex b n l => rw [h] at e; cases e; exact ⟨b, l, rfl⟩
  · rintro ⟨r, hr, b, l, e⟩
    exact ⟨r, hr, by rw [exName, e]⟩
theorem exNames_next {rs : List RowM} {i : Nat} {r : RowM} (h : rs[i]? = some r) : exNames (rs.take (i + 1)) = exNames (rs.take i) ++ (exName r).toList := by
  rw [List.take_succ, h, exNames, exNames, List.filterMap_append]
  cases e : exName r with
  | none => simp [e]
  | some x => simp [e]
theorem exNames_len {rs : List RowM} : (exNames rs).length ≤ rs.length := List.length_filterMap_le _ _
end MC
namespace K02
open PySem PySem.Spec PyProof.Rows L2 WD NS MC
open C8 (pss_cut tCut)
/-- len of a list or a tuple -/
def rLenS (K : PySem.W.Frag) : List V → Hp → VK → Prop := fun xs H Q => ∃ p ys, xs = [V.ref p] ∧ (SqL K H p ys ∨ SqT K H p ys) ∧ Q (V.int ys.length) H
theorem call_lenS {X : Cx} : CallR X (.builtin "len") (rLenS X.K) := call_len_seq
abbrev sNear : Stmt := topS 35
abbrev sTold : Stmt := topS 36
abbrev nN : List Str := ["_law_machine", "_law_state", "_law_deed", "_law_later"]
theorem scNear : FnScope nN ["_law_machine"] (defScope sNear) := ⟨rfl, rfl, rfl, by decide +kernel, rfl, by decide +kernel, by decide +kernel⟩
/-- the neighbours, ascending -/
structure NearOf (m : MachM) (ys : List Str) : Prop where
  mem : ∀ x, x ∈ ys ↔ ∃ r ∈ m.rows, ∃ b l, r.deed = .ex b x l
  asc : ys.Pairwise (fun x y => x.cps.toList ≤ y.cps.toList)
  once : ys.Nodup
def spNear : Sp := fun vs H Q _ => ∃ (a : Addr) (m : MachM), vs = [.ref a] ∧ Kz H (.ref a) m.key ∧ m.Ok ∧
  ∀ H' p (ys : List Str), Same H H' → H p = none → H' p = some (.tup (ys.map V.str)) → NearOf m ys → ys.length < 64 → Q (.ref p) H'
section
variable {P : Program} {w : World} {K : PySem.W.Frag} {mg : Str → Option Value} {base : Heap}
theorem ok_Near {f : Addr} {fd : FuncData} {k : Nat} (F : Fun K "_law_near" "_law_near" sNear f fd) (T : TxtS mg) (TD : TxtD mg) : FnOk P w K mg base CX0 (k + 1) f fd ["_law_machine"] spNear := by
  refine F.ok scNear (fun vs H Q E h => ?_) (fun cdv A outer s H vs Q E hr h => ?_)
  · obtain ⟨a, m, rfl, _⟩ := h
    rfl
  · obtain ⟨a, m, rfl, hm, ok, q⟩ := h
    have hu := hr.units
    refine ⟨_, pss_one (ps_ret (pe_callTy call_tuple_of (by rfl) T.tuple (by decide +kernel) (pa_cons (pe_callB (cr_sortedT rfl hu) (by rfl) T.sorted (by decide +kernel) (pa_cons (pe_callTy (cr_setT rfl) (by rfl) T.set (by decide +kernel)
      (pa_cons (pe_lc (own := [("_law_state", 1), ("_law_deed", 2), ("_law_later", 3)]) (g := gTup K 3 (gCons (gName 1) (gCons (gName 2) (gCons (gName 3) gNil)))) (tt := tTest (tOp rEq (tCB (rLenS K) (tCons (tVar 2) tNil)) (tC (.int 3)))) (te := tOp (rIxT K) (tVar 2) (tC (.int 1))) rfl scNear.nd (pi_tup (pe_ix ix_tup (pv 0) pe_int (fun _ _ => rfl))) (blkOk_by (own := [("_law_state", 1), ("_law_deed", 2), ("_law_later", 3)]) (N := nN) (sc := defScope sNear) (by decide +kernel))
        (fun _ _ _ _ _ => pg_tup rfl (pgs_cons (pg_name (i := 1) scNear.nd rfl (.inl rfl)) (pgs_cons (pg_name (i := 2) scNear.nd rfl (.inl rfl)) (pgs_cons (pg_name (i := 3) scNear.nd rfl (.inl rfl)) pgs_nil))))
        (fun _ _ _ _ _ => pts_one (pt_cmpR op_eq (pe_callB (show CallR _ (.builtin "len") (rLenS K) from call_lenS) (by rfl) TD.len PySem.boot_len (pa_cons (pv 2) pa_nil)) pe_int (nomark _)))
        (fun _ _ _ _ _ => pe_ix (show IxR _ (rIxT K) from ix_tup) (pv 2) pe_int (fun _ _ => rfl))) pa_nil)) pa_nil)) pa_nil))), ?_⟩
    obtain ⟨M⟩ := mach_at hm
    refine ⟨_, rfl, a, _, 2, .ref M.t, rfl, rfl, SqT.of M.top, atI_nat (j := 2) rfl, M.t, rfl, ⟨_, SqT.of M.row⟩, fun D nD => ?_⟩
    have sD := same_upd (o := .lst []) nD
    refine lc_tup (xs := M.xs) (fun i H' => Same H H' ∧ H' D = some (.lst ((exNames (m.rows.take i)).map V.str))) ⟨sD, upd_same⟩ (fun i H' _ z => SqT.of (z.1 _ _ M.row)) ?_ ?_
    · rintro i v H2 hv ⟨s2, e2⟩
      obtain ⟨r, hr', ra, dv, rfl, er, kd⟩ := row_at M.all hv
      obtain ⟨qd, rfl, ed⟩ := deed_at kd
      refine ⟨ra, _, rfl, SqT.of (s2 _ _ er), rfl, _, _, rfl, _, _, rfl, _, _, rfl, rfl, rfl, ?_⟩
      refine ⟨_, rfl, qd, _, rfl, .inr (SqT.of (s2 _ _ ed)), rfl, _, rfl, ?_⟩
      have nx := exNames_next hr'
      have il : i < m.rows.length := (List.getElem?_eq_some_iff.mp hr').1
      have small : (exNames (m.rows.take i)).length < 64 := Nat.lt_of_le_of_lt (Nat.le_trans exNames_len (by rw [List.length_take]; omega)) ok.r3
      cases hd : r.deed with
      | step =>
        rw [hd] at ed
        refine iteF ⟨s2, ?_⟩
        rw [e2, nx, exName, hd]
        simp
      | ex b n l =>
        rw [hd] at ed
        refine iteT ⟨_, rfl, qd, _, 1, .str n, rfl, rfl, SqT.of (s2 _ _ ed), atI_nat (j := 1) rfl, _, e2, ?_, fun b' o' eb => ?_, ?_⟩
        · rw [List.length_map, sizeLine_eq]
          omega
        · rw [upd_ne (ne_of_none eb nD)]
          exact s2 _ _ eb
        · rw [upd_same, nx, exName, hd]
          simp
    · rintro H2 ⟨s2, e2⟩
      have lx : M.xs.length = m.rows.length := by
        have z := kz_len M.all
        rw [List.length_map] at z
        exact z
      rw [lx, List.take_length] at e2
      have few : (exNames m.rows).length < 64 := Nat.lt_of_le_of_lt exNames_len ok.r3
      refine ⟨D, exNames m.rows, rfl, SqL.of e2, few, fun a3 ws n3 once mem => ?_⟩
      have lw : ws.length ≤ (exNames m.rows).length := nodup_len _ _ once fun x hx => (mem x).mp hx
      have s3 := same_upd (o := TSetO P w a3 ws) n3
      refine ⟨a3, ws, rfl, upd_same, by omega, fun ys p4 pm pw n4 => ?_⟩
      have s4 := same_upd (o := .lst (ys.map V.str)) n4
      refine ⟨p4, _, rfl, .inl ⟨SqL.of upd_same, fun p5 n5 => ?_⟩⟩
      have s5 := same_upd (o := .tup (ys.map V.str)) n5
      have ss := s2.trans (s3.trans s4)
      exact q _ p5 ys (ss.trans s5) (ss.free n5) upd_same ⟨fun x => (pm.mem_iff.trans (mem x)).trans mem_exNames, pw, pm.nodup_iff.mpr once⟩ (by rw [pm.length_eq]; omega)
end
end K02
namespace K02
open PySem PySem.Spec PyProof.Rows L2 WD NS MC
open C8 (pss_cut tCut)
abbrev DeedX := Bool × Str × Str
abbrev deedVals (d : DeedX) : List V := [.str (wordOf d.1), .str d.2.1, .str d.2.2]
def exDeed (st : Int) (r : RowM) : Option DeedX := if r.before = st then (match r.deed with | .step => none | .ex b n l => some (b, n, l)) else none
def exDeeds (st : Int) (rs : List RowM) : List DeedX := rs.filterMap (exDeed st)
theorem exDeeds_next {st : Int} {rs : List RowM} {i : Nat} {r : RowM} (h : rs[i]? = some r) : exDeeds st (rs.take (i + 1)) = exDeeds st (rs.take i) ++ (exDeed st r).toList := by
  rw [List.take_succ, h, exDeeds, exDeeds, List.filterMap_append]
  cases e : exDeed st r with
  | none => simp [e]
  | some x => simp [e]
theorem mem_exDeeds {st : Int} {rs : List RowM} {d : DeedX} : d ∈ exDeeds st rs ↔ ∃ r ∈ rs, r.before = st ∧ r.deed = .ex d.1 d.2.1 d.2.2 := by
  rw [exDeeds, List.mem_filterMap]
  constructor
  · rintro ⟨r, hr, e⟩
    refine ⟨r, hr, ?_⟩
    unfold exDeed at e
    by_cases h : r.before = st
    · rw [if_pos h] at e
      cases hd : r.deed with
      | step => rw [hd] at e; exact nomatch e
      | ex b n l => rw [hd] at e; cases e; exact ⟨h, rfl⟩
    · rw [if_neg h] at e
      exact nomatch e
  · rintro ⟨r, hr, e1, e2⟩
    exact ⟨r, hr, by rw [exDeed, if_pos e1, e2]⟩
def letOf (wd : Bool) (o : Str) (d : DeedX) : Option Str := if d.1 = wd ∧ d.2.1 = o then some d.2.2 else none
def lets (wd : Bool) (o : Str) (ds : List DeedX) : List Str := ds.filterMap (letOf wd o)
theorem lets_next {wd : Bool} {o : Str} {ds : List DeedX} {i : Nat} {d : DeedX} (h : ds[i]? = some d) : lets wd o (ds.take (i + 1)) = lets wd o (ds.take i) ++ (letOf wd o d).toList := by
  rw [List.take_succ, h, lets, lets, List.filterMap_append]
  cases e : letOf wd o d with
  | none => simp [e]
  | some x => simp [e]
theorem mem_lets {wd : Bool} {o : Str} {ds : List DeedX} {x : Str} : x ∈ lets wd o ds ↔ (wd, o, x) ∈ ds := by
  rw [lets, List.mem_filterMap]
  constructor
  · rintro ⟨⟨b, n, l⟩, hd, e⟩
    unfold letOf at e
    by_cases h : b = wd ∧ n = o
    · rw [if_pos h] at e
      cases e
      rw [← h.1, ← h.2]
      exact hd
    · rw [if_neg h] at e
      exact nomatch e
  · intro hd
    exact ⟨_, hd, by rw [letOf, if_pos ⟨rfl, rfl⟩]⟩
theorem low_word (b : Bool) : Low (wordOf b) := by
  have e1 : ∀ c ∈ ("send" : Str).cps.toList, 97 ≤ c ∧ c ≤ 122 := by decide +kernel
  have e2 : ∀ c ∈ ("take" : Str).cps.toList, 97 ≤ c ∧ c ≤ 122 := by decide +kernel
  cases b
  · exact e2
  · exact e1
theorem shaped_two {x y : Str} (hx : Low x) (hy : Low y) : SeqAt.shaped (.tuple [.str x, .str y]) = true := by
  rw [SeqAt.shaped, PyData.canLay0, PyData.canLayAll0, PyData.canLayAll0, PyData.canLayAll0, low_ok hx, low_ok hy]
  rfl
theorem eqv_two {a b c d : Str} : PyData.eqv (.tuple [.str a, .str b]) (.tuple [.str c, .str d]) = decide (a = c ∧ b = d) := by
  rw [PyData.eqv, PyData.eqvAll, PyData.eqvAll, PyData.eqvAll]
  show ((a == c) && ((b == d) && true)) = _
  by_cases h1 : a = c <;> by_cases h2 : b = d <;> simp [h1, h2]
abbrev nTd : List Str := ["_law_machine", "_law_state", "_law_word", "_law_other", "_law_rows", "_law_here", "_law_deed", "_law_later"]
theorem scTold : FnScope nTd ["_law_machine", "_law_state", "_law_word", "_law_other"] (defScope sTold) := ⟨rfl, rfl, rfl, by decide +kernel, rfl, by decide +kernel, by decide +kernel⟩
/-- the letters of a state, a word, a neighbour, ascending -/
structure ToldOf (m : MachM) (st : Int) (wd : Bool) (o : Str) (ys : List Str) : Prop where
  mem : ∀ x, x ∈ ys ↔ ∃ r ∈ m.rows, r.before = st ∧ r.deed = .ex wd o x
  asc : ys.Pairwise (fun x y => x.cps.toList ≤ y.cps.toList)
  once : ys.Nodup
def spTold : Sp := fun vs H Q _ => ∃ (a : Addr) (m : MachM) (st : Int) (wd : Bool) (o : Str), vs = [.ref a, .int st, .str (wordOf wd), .str o] ∧ Kz H (.ref a) m.key ∧ m.Ok ∧ Low o ∧
  ∀ H' p (ys : List Str), Same H H' → H p = none → H' p = some (.tup (ys.map V.str)) → ToldOf m st wd o ys → ys.length < 64 → Q (.ref p) H'
section
variable {P : Program} {w : World} {K : PySem.W.Frag} {mg : Str → Option Value} {base : Heap}
theorem ok_Told {f : Addr} {fd : FuncData} {k : Nat} (F : Fun K "_law_told" "_law_told" sTold f fd) (T : TxtS mg) (TD : TxtD mg) : FnOk P w K mg base CX0 (k + 1) f fd ["_law_machine", "_law_state", "_law_word", "_law_other"] spTold := by
  refine F.ok scTold (fun vs H Q E h => ?_) (fun cdv A outer s H vs Q E hr h => ?_)
  · obtain ⟨a, m, st, wd, o, rfl, _⟩ := h
    rfl
  · obtain ⟨a, m, st, wd, o, rfl, hm, ok, lo, q⟩ := h
    have hu := hr.units
    refine ⟨_, pss_cut (ps_setLc (i := 4) (own := [("_law_here", 5), ("_law_deed", 6), ("_law_later", 7)]) (g := gTup K 3 (gCons (gName 5) (gCons (gName 6) (gCons (gName 7) gNil)))) (tt := tAnd (tTest (tOp rEq (tVar 5) (tVar 1))) (tTest (tOp rEq (tCB (rLenS K) (tCons (tVar 6) tNil)) (tC (.int 3))))) (te := tVar 6)
        rfl scTold.nd rfl rfl (sw_true rfl rfl rfl (by decide +kernel)) (pi_tup (pe_ix ix_tup (pv 0) pe_int (fun _ _ => rfl))) (blkOk_by (own := [("_law_here", 5), ("_law_deed", 6), ("_law_later", 7)]) (N := nTd) (sc := defScope sTold) (by decide +kernel))
        (fun _ _ _ _ _ => pg_tup rfl (pgs_cons (pg_name (i := 5) scTold.nd rfl (.inl rfl)) (pgs_cons (pg_name (i := 6) scTold.nd rfl (.inl rfl)) (pgs_cons (pg_name (i := 7) scTold.nd rfl (.inl rfl)) pgs_nil))))
        (fun _ _ _ _ _ => pts_one (PW.pt (pw_and (pt_cmpR op_eq (pv 5) (pv 1) (nomark _)) (pw_and1 (pt_cmpR op_eq (pe_callB (show CallR _ (.builtin "len") (rLenS K) from call_lenS) (by rfl) TD.len PySem.boot_len (pa_cons (pv 6) pa_nil)) pe_int (nomark _))))))
        (fun _ _ _ _ _ => pv 6))
      (pss_one (ps_ret (pe_callTy call_tuple_of (by rfl) T.tuple (by decide +kernel) (pa_cons (pe_callB (cr_sortedT rfl hu) (by rfl) T.sorted (by decide +kernel) (pa_cons (pe_callTy (cr_setT rfl) (by rfl) T.set (by decide +kernel)
      (pa_cons (pe_lc (own := [("_law_deed", 6)]) (g := gName 6) (tt := tTest (tOp (rEqD K) (tSl (rSlT K) (tVar 6) tNoPart (tPart (tC (.int 2)))) (tTup (tCons (tVar 2) (tCons (tVar 3) tNil))))) (te := tOp (rIxT K) (tVar 6) (tC (.int 2))) rfl scTold.nd (pi_list (pv 4)) (blkOk_by (own := [("_law_deed", 6)]) (N := nTd) (sc := defScope sTold) (by decide +kernel))
        (fun _ _ _ _ _ => pg_name (i := 6) scTold.nd rfl (.inl rfl))
        (fun _ _ _ _ _ => pts_one (pt_cmpR (show OpR _ (compareOp .Eq) (rEqD K) from op_eqD hu) (pe_slice (show SlR _ (rSlT K) from sl_tup) (pv 6) po_none (po_some pe_int)) (pe_tup (pa_cons (pv 2) (pa_cons (pv 3) pa_nil))) (nomark _)))
        (fun _ _ _ _ _ => pe_ix (show IxR _ (rIxT K) from ix_tup) (pv 6) pe_int (fun _ _ => rfl))) pa_nil)) pa_nil)) pa_nil)))), ?_⟩
    obtain ⟨M⟩ := mach_at hm
    have lx : M.xs.length = m.rows.length := by
      have z := kz_len M.all
      rw [List.length_map] at z
      exact z
    -- the deeds of the state
    refine ⟨fun σ' H' => ∃ (D : Addr) (qs : List (Addr × DeedX)), σ' = [some (.ref a), some (.int st), some (.str (wordOf wd)), some (.str o), some (.ref D), none, none, none] ∧ Same H H' ∧ H' D = some (.lst (qs.map fun p => V.ref p.1)) ∧ qs.map (·.2) = exDeeds st m.rows ∧ (∀ p ∈ qs, H p.1 = some (.tup (deedVals p.2)) ∧ Low p.2.2.1), ?_, ?_⟩
    · refine ⟨_, rfl, a, _, 2, .ref M.t, rfl, rfl, SqT.of M.top, atI_nat (j := 2) rfl, M.t, rfl, ⟨_, SqT.of M.row⟩, fun D nD => ?_⟩
      have sD := same_upd (o := .lst []) nD
      refine lc_tup (xs := M.xs) (fun i H' => Same H H' ∧ ∃ qs : List (Addr × DeedX), H' D = some (.lst (qs.map fun p => V.ref p.1)) ∧ qs.map (·.2) = exDeeds st (m.rows.take i) ∧ (∀ p ∈ qs, H p.1 = some (.tup (deedVals p.2)) ∧ Low p.2.2.1))
        ⟨sD, [], upd_same, rfl, fun _ z => (nomatch z)⟩ (fun i H' _ z => SqT.of (z.1 _ _ M.row)) ?_ ?_
      · rintro i v H2 hv ⟨s2, qs, e2, eq, hq⟩
        obtain ⟨r, hr', ra, dv, rfl, er, kd⟩ := row_at M.all hv
        obtain ⟨qd, rfl, ed⟩ := deed_at kd
        have okr := ok.r1 r (List.mem_of_getElem? hr')
        have nx := exDeeds_next (st := st) hr'
        have il : i < m.rows.length := (List.getElem?_eq_some_iff.mp hr').1
        refine ⟨ra, _, rfl, SqT.of (s2 _ _ er), rfl, _, _, rfl, _, _, rfl, _, _, rfl, rfl, rfl, ?_⟩
        have same' : ∀ {e : exDeed st r = none}, Same H H2 ∧ ∃ qs : List (Addr × DeedX), H2 D = some (.lst (qs.map fun p => V.ref p.1)) ∧ qs.map (·.2) = exDeeds st (m.rows.take (i + 1)) ∧ (∀ p ∈ qs, H p.1 = some (.tup (deedVals p.2)) ∧ Low p.2.2.1) := fun {e} =>
          ⟨s2, qs, e2, by rw [nx, e, eq]; simp, hq⟩
        refine ⟨_, rfl, _, rfl, rfl, _, rfl, ifB (fun hb => ?_) fun hb => ?_⟩
        · have eb : r.before = st := by simpa using hb
          refine ⟨_, rfl, qd, _, rfl, .inr (SqT.of (s2 _ _ ed)), rfl, _, rfl, ?_⟩
          cases hd : r.deed with
          | step =>
            rw [hd] at ed
            exact iteF (same' (e := by rw [exDeed, if_pos eb, hd]))
          | ex b n l =>
            rw [hd] at ed
            have okd := okr.dd
            rw [hd] at okd
            refine iteT ⟨_, rfl, _, e2, ?_, fun b' o' eb' => ?_, qs ++ [(qd, b, n, l)], ?_, ?_, fun p hp => ?_⟩
            · have z := congrArg List.length eq
              rw [List.length_map] at z
              have z2 : (exDeeds st (m.rows.take i)).length ≤ (m.rows.take i).length := List.length_filterMap_le _ _
              have z3 := ok.r3
              rw [List.length_take] at z2
              rw [List.length_map, sizeLine_eq]
              omega
            · rw [upd_ne (ne_of_none eb' nD)]
              exact s2 _ _ eb'
            · rw [upd_same, List.map_append]
              rfl
            · rw [List.map_append, eq, nx, exDeed, if_pos eb, hd]
              rfl
            · rcases List.mem_append.mp hp with z | z
              · exact hq p z
              · rw [List.mem_singleton.mp z]
                exact ⟨ed, okd.1.low⟩
        · have nb : ¬ r.before = st := by simpa using hb
          exact iteF (same' (e := by rw [exDeed, if_neg nb]))
      · rintro H2 ⟨s2, qs, e2, eq, hq⟩
        rw [lx, List.take_length] at eq
        exact ⟨D, qs, rfl, s2, e2, eq, hq⟩
    rintro σ1 H1 ⟨D, qs, rfl, s1, e1, eq, hq⟩
    have lq : qs.length < 64 := by
      have z := congrArg List.length eq
      rw [List.length_map] at z
      have z2 : (exDeeds st m.rows).length ≤ m.rows.length := List.length_filterMap_le _ _
      have z3 := ok.r3
      omega
    refine ⟨_, rfl, D, rfl, ⟨_, SqL.of e1⟩, fun D2 nD2 => ?_⟩
    have sD := same_upd (o := .lst []) nD2
    refine lc_list (xs := qs.map fun p => V.ref p.1) (fun i H' => Same H1 H' ∧ H' D2 = some (.lst ((lets wd o ((qs.map (·.2)).take i)).map V.str))) ⟨sD, upd_same⟩ (fun i H' _ z => SqL.of (z.1 _ _ e1)) ?_ ?_
    · rintro i v H2 hv ⟨s2, e2⟩
      obtain ⟨p, hp, rfl⟩ : ∃ p, qs[i]? = some p ∧ v = .ref p.1 := by
        rw [List.getElem?_map] at hv
        cases e : qs[i]? with
        | none => rw [e] at hv; exact nomatch hv
        | some p => rw [e] at hv; exact ⟨p, rfl, (Option.some.inj hv).symm⟩
      obtain ⟨pa, b, n, l⟩ := p
      obtain ⟨ep, ln⟩ := hq _ (List.mem_of_getElem? hp)
      have ep2 := s2 _ _ (s1 _ _ ep)
      have hd : (qs.map (·.2))[i]? = some (b, n, l) := by rw [List.getElem?_map, hp]; rfl
      have nx := lets_next (wd := wd) (o := o) hd
      refine ⟨rfl, _, rfl, 2, rfl, pa, _, rfl, SqT.of ep2, (by show ¬ (0 = 0 ∧ 2 = 3); decide), fun c1 n1 => ?_⟩
      refine ⟨_, rfl, _, rfl, (by show 2 ≤ sizeLine; decide), fun c2 n2 => ?_⟩
      have k1 := same_upd (o := .tup (cutV (deedVals (b, n, l)) none (some 2))) n1
      have k2 := same_upd (o := .tup [.str (wordOf wd), .str o]) n2
      have k12 := k1.trans k2
      refine ⟨.tuple [.str (wordOf b), .str n], .tuple [.str (wordOf wd), .str o], .tup (SqT.of (xs := [.str (wordOf b), .str n]) (k2 _ _ upd_same)) (.cons (.str _) (.cons (.str _) .nil)), .tup (SqT.of upd_same) (.cons (.str _) (.cons (.str _) .nil)), shaped_two (low_word b) ln, shaped_two (low_word wd) lo, _, rfl, ?_⟩
      rw [eqv_two]
      have iff' : (wordOf b = wordOf wd ∧ n = o) ↔ (b = wd ∧ n = o) := ⟨fun z => ⟨word_inj z.1, z.2⟩, fun z => ⟨by rw [z.1], z.2⟩⟩
      by_cases c : b = wd ∧ n = o
      · rw [decide_eq_true (iff'.mpr c)]
        refine iteT ⟨_, rfl, pa, _, 2, .str l, rfl, rfl, SqT.of (k12 _ _ ep2), atI_nat (j := 2) rfl, _, k12 _ _ e2, ?_, fun b' o' eb => ?_, ?_⟩
        · have z2 : (lets wd o ((qs.map (·.2)).take i)).length ≤ ((qs.map (·.2)).take i).length := List.length_filterMap_le _ _
          rw [List.length_take, List.length_map] at z2
          rw [List.length_map, sizeLine_eq]
          omega
        · rw [upd_ne (ne_of_none eb nD2)]
          exact k12 _ _ (s2 _ _ eb)
        · rw [upd_same, nx, letOf, if_pos c, List.map_append]
          rfl
      · rw [decide_eq_false fun z => c (iff'.mp z)]
        refine iteF ⟨s2.trans k12, ?_⟩
        rw [k12 _ _ e2, nx, letOf, if_neg c]
        simp
    · rintro H2 ⟨s2, e2⟩
      have et : (qs.map (·.2)).take (qs.map fun p => V.ref p.1).length = exDeeds st m.rows := by
        rw [List.length_map, eq, List.take_of_length_le]
        rw [← eq, List.length_map]
        exact Nat.le_refl _
      rw [et] at e2
      have few : (lets wd o (exDeeds st m.rows)).length < 64 := by
        have z2 : (lets wd o (exDeeds st m.rows)).length ≤ (exDeeds st m.rows).length := List.length_filterMap_le _ _
        have z3 : (exDeeds st m.rows).length ≤ m.rows.length := List.length_filterMap_le _ _
        have z4 := ok.r3
        omega
      refine ⟨D2, lets wd o (exDeeds st m.rows), rfl, SqL.of e2, few, fun a3 ws n3 once mem => ?_⟩
      have lw : ws.length ≤ (lets wd o (exDeeds st m.rows)).length := nodup_len _ _ once fun x hx => (mem x).mp hx
      have s3 := same_upd (o := TSetO P w a3 ws) n3
      refine ⟨a3, ws, rfl, upd_same, by omega, fun ys p4 pm pw n4 => ?_⟩
      have s4 := same_upd (o := .lst (ys.map V.str)) n4
      refine ⟨p4, _, rfl, .inl ⟨SqL.of upd_same, fun p5 n5 => ?_⟩⟩
      have s5 := same_upd (o := .tup (ys.map V.str)) n5
      have ss := s1.trans (s2.trans (s3.trans s4))
      exact q _ p5 ys (ss.trans s5) (ss.free n5) upd_same ⟨fun x => ((pm.mem_iff.trans (mem x)).trans mem_lets).trans mem_exDeeds, pw, pm.nodup_iff.mpr once⟩ (by rw [pm.length_eq]; omega)
end
end K02
/-! Set comprehensions over the hand layer: {e for x in xs if t}, by what the set is and how it grows; sets of texts. -/
namespace NS
open PySem PySem.Spec PyProof.Rows L2
/-- a kind of set: as it is when new, how it takes one more -/
structure SetK where
  o0 : Addr → HO
  put : Addr → V → Hp → (Hp → Prop) → Prop
structure SetK.Ok (k : SetK) (P : Program) (w : World) : Prop where
  new : ∀ {H : Hp} {h : Heap} {a : Addr}, h.get? a = some (setObj w) → ObjOk P w H h a (k.o0 a)
  add : ∀ {X : Cx} {pins : List (Addr × Obj)} {s : Shared} {σ : L2.St} {H : Hp} {D : Addr} {y : V} {u : Value} {N : Hp → Prop} {E : Value → Shared → Prop}, X.prog = P → X.w = w → Inv X pins σ H s → RelV y u → k.put D y H N →
    wpAny (model X.prog X.w) X.A (call (.builtin "set.add") [.ref D, u]) (fun _ s1 => ∃ H1, Inv X pins σ H1 s1 ∧ N H1) E s
section
variable {X : Cx}
def tSx (k : SetK) (wi : TI) (g : TG) (tt : TT) (te : TE) (vs : List Nat) : TE := fun σ H Q => wi σ H fun J H1 => ∀ D, H1 D = none → ∃ W : Nat → Nat → Hp → Prop, (∃ m, W 0 m (upd H1 D (k.o0 D))) ∧ ∀ i m H, W i m H →
  (J.stop i H ∧ Q (.ref D) H) ∨ (J.go i H ∧ ∃ N : Hp → Prop, (∀ H', N H' → ∃ m', m' < m ∧ W (i + 1) m' H') ∧ ∀ x H', J.yld i H x H' → g x (wipe σ vs) H' fun σ2 H2 => wipe σ2 vs = wipe σ vs ∧ tt σ2 H2 fun b H3 =>
    if b = true then te σ2 H3 fun y H4 => k.put D y H4 N else N H3)
/-- the block's context -/
abbrev blkOf (X : Cx) (s : Shared) (H : Hp) (scope : Scope) (cl : List (Str × Addr)) (C : Addr) (fp : List Addr) : Cx := X.blk s H scope (compEnvC scope cl C X.env) fp
theorem sx_run {k : SetK} (kk : k.Ok X.prog X.w) {pins : List (Addr × Obj)} {s : Shared} {σ : L2.St} {H : Hp} {Q : VK} {elt tg iter : Expr} {ifs : List Expr} {scope : Scope} {own : List (Str × Nat)} {pos pos' : Pos} {wi : TI} {g : TG} {tt : TT} {te : TE} {use : Option (Value → Sem Unit)} {Qf : Value → Shared → Prop}
    (calm : X.calm = true) (nd : X.N.Nodup) (I : Inv X pins σ H s) (hi : PI X tg iter wi) (ok : BlkOk X.N X.env.scope scope own)
    (tgt : ∀ s H C cl fp, PG (blkOf X s H scope cl C fp) tg g) (tst : ∀ s H C cl fp, PTs (blkOf X s H scope cl C fp) ifs tt) (ele : ∀ s H C cl fp, PE (blkOf X s H scope cl C fp) elt te) (fold : ∀ x, foldedSetIterable iter X.env x = pure x)
    (h : tSx k wi g tt te (own.map (·.2)) σ H Q)
    (fin : ∀ D C s' m H', Inv X pins σ H' s' → Q (.ref D) H' → s'.heap.Ns C m → FpOk X pins H' C → compPost (model X.prog X.w) X.A X.xe use Qf (.ref D) C (.ok .next) s') :
    wpAny (model X.prog X.w) X.A (comprehension (.SetComp elt [⟨tg, iter, ifs, 0⟩] scope pos) scope X.env pos' (newSet (.type "set")) false (eval iter X.env) use) Qf X.xe s := by
  have cells : ∀ y ∈ scope.names, y.2 = .free → ∃ c, X.env.cells.lookup y.1 = some c := fun y hy e => (ok.free y hy e).elim (fun z => I.ok.has _ (.inl z)) fun z => I.ok.has _ (.inr z)
  refine wpAny_comprehension_free (use := use) rfl fold (closure_ok cells) ok.kind (fun y hy e => by rw [ok.uniq y hy, e]) (thn (hi.run pins s σ H _ I h) fun xv s1 hx => thn hx fun itv s2 h2 => ?_)
  obtain ⟨it, fp, tn, J, H2, rfl, I2, T, st2, f2, q⟩ := h2
  refine PpSet.newSet_ok (newEnv_comp ?_)
  obtain ⟨D, eD⟩ : ∃ D, D = s2.heap.objs.size := ⟨_, rfl⟩
  have nD : H2 D = none := I2.hok.fresh (Nat.le_of_eq eD.symm)
  obtain ⟨W, ⟨m0, w0⟩, turn⟩ := q D nD
  obtain ⟨s3, e3⟩ : ∃ s3 : Shared, s3 = { s2 with heap := s2.heap.push (setObj X.w) } := ⟨_, rfl⟩
  obtain ⟨H3, eH⟩ : ∃ H3, H3 = upd H2 D (k.o0 D) := ⟨_, rfl⟩
  have I3 : Inv X pins σ H3 s3 := by
    rw [e3, eH]
    exact I2.laid (t' := s2.toks) (fun b o e => Heap.get?_push_of_some _ e) (Nat.le_of_eq eD.symm) (kk.new (by rw [eD]; exact Heap.get?_push_size _ rfl))
  have keep3 : ∀ b o, s2.heap.get? b = some o → s3.heap.get? b = some o := fun b o e => by rw [e3]; exact Heap.get?_push_of_some _ e
  have f3 : ∀ b ∈ fp, FpOk X pins H3 b ∧ b < s3.heap.objs.size := fun b hb => by
    obtain ⟨o, e, _⟩ := T.obj _ _ st2 b hb
    have lt := Heap.lt_size e
    refine ⟨⟨?_, (f2 b hb).2⟩, Heap.lt_size (keep3 b o e)⟩
    rw [eH, upd_ne (by rw [eD]; exact Nat.ne_of_lt lt)]
    exact (f2 b hb).1
  have st3 : tn 0 s3.heap := T.keep _ _ _ st2 fun b _ o e => keep3 b o e
  have I4 := block_start I3 ok nd f3
  obtain ⟨cl, ecl⟩ : ∃ cl, cl = cellsFrom (s3.heap.objs.size + 1) scope.names (cloFrom X.env.cells scope.names []) := ⟨_, rfl⟩
  obtain ⟨C, eC⟩ : ∃ C, C = s3.heap.objs.size := ⟨_, rfl⟩
  obtain ⟨s4, e4⟩ : ∃ s4 : Shared, s4 = { s3 with heap := pushCells (s3.heap.push { cls := .type "dict", data := .dict #[] }) scope.names } := ⟨_, rfl⟩
  have st4 : tn 0 s4.heap := T.keep _ _ _ st3 fun b _ o e => by rw [e4]; exact pushCells_keeps _ _ _ _ (Heap.get?_push_of_some _ e)
  rw [← e4, ← ecl, ← eC] at I4
  rw [← eH] at w0
  have pg := tgt s3 H3 C cl fp
  have pt := tst s3 H3 C cl fp
  have pe := ele s3 H3 C cl fp
  have goal : codeAny (model X.prog X.w) X.A (.compStart (.SetComp elt [⟨tg, iter, ifs, 0⟩] scope pos) 0 (.ref it) (.ref D) (compEnvC scope cl C X.env)) (compPost (model X.prog X.w) X.A X.xe use Qf (.ref D) C) s4 := by
    have cL : (compEnvC scope cl C X.env).locals = C := rfl
    have none3 : ∀ b ∈ fp, H3 b = none := fun b hb => (f3 b hb).1.1
    have stand : ∀ {σ' : L2.St} {H' : Hp} {s' : Shared}, Inv (blkOf X s3 H3 scope cl C fp) [] σ' H' s' → (∀ b ∈ fp, H' b = none) → ∀ b ∈ fp, FpOk (blkOf X s3 H3 scope cl C fp) [] H' b := fun {σ' H' s'} J n b hb =>
      ⟨n b hb, (J.ok.exf b hb).1, J.ok.exfs b hb, .inl hb, fun x c e => (J.ok.exf b hb).2 x c e, fun p hp => absurd (show p ∈ ([] : List (Addr × Obj)) ++ [] from hp) (by simp)⟩
    have loop : codeAny (model X.prog X.w) X.A (.compLoop (.SetComp elt [⟨tg, iter, ifs, 0⟩] scope pos) 0 (.ref it) (.ref D) (compEnvC scope cl C X.env)) (compPost (model X.prog X.w) X.A X.xe use Qf (.ref D) C) s4 := by
      refine PpSet.compLoopS_any (fun n s' => ∃ i H', Inv (blkOf X s3 H3 scope cl C fp) [] (wipe σ (own.map (·.2))) H' s' ∧ tn i s'.heap ∧ (∀ b ∈ fp, H' b = none) ∧ W i n H') ?_ m0 ⟨0, H3, I4, st4, none3, w0⟩
      rintro n s5 ⟨i, H5, I5, st5, n5, w5⟩
      rcases turn i n H5 w5 with ⟨stop, qq⟩ | ⟨go, N, hN, step⟩
      · refine thnF (T.done (blkOf X s3 H3 scope cl C fp) rfl rfl rfl calm i [] s5 _ H5 (fun _ _ => False) I5 (stand I5 n5) st5 stop) fun r s6 z => ?_
        obtain ⟨rfl, I6⟩ := z
        have back : Inv X pins σ H5 s6 := I3.call' (ch := fp) I6.os I6.base I6.hok I6.bare fun b hb => let t := (f3 b hb).1.2; ⟨t.2.2.1, t.1, t.2.2.2.1, t.2.2.2.2⟩
        obtain ⟨m, hn, _⟩ := I6.loc
        exact fin D C s6 m H5 back qq hn (I3.fpOk (Nat.le_of_eq eC.symm) I6.free)
      · refine thnF (T.item (blkOf X s3 H3 scope cl C fp) rfl rfl rfl calm i [] s5 _ H5 (fun _ _ => False) I5 (stand I5 n5) st5 go) fun r s6 z => ?_
        obtain ⟨u, rfl, h6⟩ := z
        refine thnF h6 fun _ s7 z => ?_
        obtain ⟨x, H7, I7, r7, y7, st7, n7⟩ := z
        refine thnF (pg.run _ s7 _ H7 x u _ (I7.pinned (stand I7 n7) (T.obj _ _ st7)) r7 (step x H7 y7)) fun _ s8 z => ?_
        obtain ⟨σ8, H8, I8, w8, q8⟩ := z
        refine thnF (pt.run _ s8 σ8 H8 _ I8 q8) fun b s9 z => ?_
        obtain ⟨H9, I9, q9⟩ := z
        have next : ∀ {s' : Shared} {H' : Hp}, Inv (blkOf X s3 H3 scope cl C fp) ([] ++ pinsAt fp s7.heap) σ8 H' s' → N H' → ∃ m, m < n ∧ ∃ i H', Inv (blkOf X s3 H3 scope cl C fp) [] (wipe σ (own.map (·.2))) H' s' ∧ tn i s'.heap ∧ (∀ b ∈ fp, H' b = none) ∧ W i m H' := fun {s' H'} K2 hN' => by
          obtain ⟨m2, lt, w2⟩ := hN H' hN'
          have pinned : ∀ b ∈ fp, ∀ o, s7.heap.get? b = some o → s'.heap.get? b = some o ∧ H' b = none := fun b hb o e =>
            let z := K2.pin (b, o) (List.mem_append_right _ (List.mem_append_right _ (mem_pinsAt hb e)))
            ⟨z.1, z.2.1⟩
          refine ⟨m2, lt, i + 1, H', (K2.unpinned (pins := [])).weak (by rw [← w8, wipe_length]) (fun j v e => ?_), T.keep _ _ _ st7 fun b hb o e => (pinned b hb o e).1, fun b hb => ?_, w2⟩
          · rw [← w8] at e
            exact (wipe_some e).1
          · obtain ⟨o, e, _⟩ := T.obj _ _ st7 b hb
            exact (pinned b hb o e).2
        cases b with
        | false => exact (show _ from next I9 q9)
        | true =>
          refine thnF (pe.run _ s9 σ8 H9 _ I9 q9) fun v s10 z => ?_
          obtain ⟨y, H10, I10, r10, pq⟩ := z
          refine thnF (kk.add (X := blkOf X s3 H3 scope cl C fp) rfl rfl I10 r10 pq) fun _ s11 z => ?_
          obtain ⟨H11, I11, n11⟩ := z
          exact next I11 n11
    exact PpSet.codeAny_compStart_set loop (T.self X.A 0 _ _ _ st4 loop)
  subst eC ecl e4 e3 eD
  exact goal
/-- as a value -/
theorem pe_sx {k : SetK} (kk : k.Ok X.prog X.w) {elt tg iter : Expr} {ifs : List Expr} {scope : Scope} {own : List (Str × Nat)} {pos : Pos} {wi : TI} {g : TG} {tt : TT} {te : TE} (calm : X.calm = true) (nd : X.N.Nodup) (hi : PI X tg iter wi) (ok : BlkOk X.N X.env.scope scope own)
    (tgt : ∀ s H C cl fp, PG (blkOf X s H scope cl C fp) tg g) (tst : ∀ s H C cl fp, PTs (blkOf X s H scope cl C fp) ifs tt) (ele : ∀ s H C cl fp, PE (blkOf X s H scope cl C fp) elt te) (fold : ∀ x, foldedSetIterable iter X.env x = pure x := by intro _; rfl) :
    PE X (.SetComp elt [⟨tg, iter, ifs, 0⟩] scope pos) (tSx k wi g tt te (own.map (·.2))) := by
  constructor
  intro pins s σ H Q I h
  rw [PpSet.eval_SetComp]
  refine sx_run kk calm nd I hi ok tgt tst ele fold h fun D C s1 m H1 I1 q hn f => ⟨m, hn, fun h2 sb => ?_⟩
  exact ⟨.ref D, H1, I1.turned (t' := s1.toks) (fun b o hb e => (sb.2 b hb).trans e) f.1 f.2.1 f.2.2.2.1 f.2.2.2.2.1 f.2.2.2.2.2, rfl, q⟩
end
/-- a block over anything that is walked -/
theorem sx_it {k : SetK} {J : It} {n : Nat} {G : Hp → Prop} {Y : Nat → Hp → V → Hp → Prop} (w : Walk J n G Y) {g : TG} {tt : TT} {te : TE} {vs : List Nat} {σ : L2.St} {H1 : Hp} {D : Addr} {Qd : Hp → Prop} (Pv : Nat → Hp → Prop) (h0 : Pv 0 (upd H1 D (k.o0 D))) (hG : ∀ i H, i ≤ n → Pv i H → G H)
    (hs : ∀ i x H H', i < n → Pv i H → Y i H x H' → g x (wipe σ vs) H' fun σ2 H2 => wipe σ2 vs = wipe σ vs ∧ tt σ2 H2 fun b H3 => if b = true then te σ2 H3 fun y H4 => k.put D y H4 (Pv (i + 1)) else Pv (i + 1) H3) (hd : ∀ H, Pv n H → Qd H) :
    ∃ W : Nat → Nat → Hp → Prop, (∃ m, W 0 m (upd H1 D (k.o0 D))) ∧ ∀ i m H, W i m H →
      (J.stop i H ∧ Qd H) ∨ (J.go i H ∧ ∃ N : Hp → Prop, (∀ H', N H' → ∃ m', m' < m ∧ W (i + 1) m' H') ∧ ∀ x H', J.yld i H x H' → g x (wipe σ vs) H' fun σ2 H2 => wipe σ2 vs = wipe σ vs ∧ tt σ2 H2 fun b H3 => if b = true then te σ2 H3 fun y H4 => k.put D y H4 N else N H3) := by
  refine ⟨fun i m H => m = n - i ∧ i ≤ n ∧ Pv i H, ⟨n, rfl, Nat.zero_le _, h0⟩, ?_⟩
  rintro i m H ⟨rfl, le, p⟩
  rcases Nat.lt_or_eq_of_le le with lt | rfl
  · exact .inr ⟨w.goes i H lt (hG i H le p), Pv (i + 1), fun H' p' => ⟨n - (i + 1), by omega, rfl, lt, p'⟩, fun x H' y => hs i x H H' lt p (w.yields i H x H' lt (hG i H le p) y)⟩
  · exact .inl ⟨w.stops H (hG _ H le p), hd H p⟩
/-- sets of texts -/
def txtK (P : Program) (w : World) : SetK where
  o0 := fun a => TSetO P w a []
  put := fun D y H N => ∃ (x : Str) (ws : List Str), y = .str x ∧ H D = some (TSetO P w D ws) ∧ ws.length + 1 < scanBound ∧ ∀ ws1 : List Str, ws1.Nodup → (x ∈ ws → ws1 = ws) → (x ∉ ws → ws1.Perm (x :: ws)) → N (upd H D (TSetO P w D ws1))
theorem add_text {P : Program} {w : World} {A : Around} {E : Value → Shared → Prop} {s : Shared} {a : Addr} {ws : List Str} {x : Str} {tk : Tok} {Q : Value → Shared → Prop} (R : TSet P w s.heap a ws) (room : ws.length + 1 < scanBound)
    (q : ∀ h1 ws1, Heap.SameBut a s.heap h1 → TSet P w h1 a ws1 → (x ∈ ws → ws1 = ws) → (x ∉ ws → ws1.Perm (x :: ws)) → Q .none { s with heap := h1, toks := s.toks + 1 }) :
    wpAny (model P w) A (call (.builtin "set.add") [.ref a, .str x tk]) Q E s := by
  have ty : s.TypeIs (.ref a) "set" := by
    obtain ⟨o, es, ep, t, ho, hex, _⟩ := R.ex
    exact ⟨o, ho, hex.1⟩
  refine wpAny_call_entry F.slot_set_add ty F.entry_set_add ?_ (F.args_set_add_2 _ _)
  unfold Builtin.«set.add» Builtin.Frozenset.oneOther Builtin.Frozenset.addrOf setAdd
  simp only [List.isEmpty_nil, bind_assoc]
  refine wpAny_bind (wpAny_pure ?_)
  try dsimp only
  try refine wpAny_bind (wpAny_pure ?_)
  try dsimp only
  refine wpAny_bind (wpAny_holding (wpAny_bind (wpAny_pyHash_str ?_)))
  refine put_text (s := { s with toks := s.toks + 1 }) R room fun b h1 ws1 sb T c1 c2 => ?_
  exact (show wpAny _ _ (ret Value.none) _ _ _ from wpAny_pure ⟨_, rfl, q h1 ws1 sb T c1 c2⟩)
theorem txtK_ok (P : Program) (w : World) : (txtK P w).Ok P w := by
  constructor
  · intro H h a ho
    exact tSetO_ok (TSet.new ho)
  · intro X pins s σ H D y u N E e1 e2 I r p
    subst e1 e2
    obtain ⟨x, ws, rfl, hD, room, n⟩ := p
    obtain ⟨tk, rfl⟩ := r
    have R : TSet X.prog X.w s.heap D ws := (I.hok D _ hD).1
    refine add_text R room fun h1 ws1 sb T c1 c2 => ?_
    have there : ∃ u, h1.get? D = some u := by
      obtain ⟨o, _, _, _, ho, _⟩ := T.ex
      exact ⟨o, ho⟩
    exact ⟨_, I.write (e := D) (t' := s.toks + 1) (by rw [hD]; trivial) (.inl rfl) (fun b u hb hu => (sb.2 b hb).trans hu) there (tSetO_ok T), n ws1 T.once c1 c2⟩
end NS
namespace K02
open PySem PySem.Spec PyProof.Rows L2 WD NS MC
open C8 (pss_cut tCut)
abbrev sIsEx : Stmt := topS 19
abbrev sNbIn : Stmt := topS 23
abbrev exV : List V := [.str "send", .str "take"]
/-- word in ('send', 'take') for None, a truth value, a number, a text -/
def spIsEx : Sp := fun vs H Q _ => ∃ x : V, vs = [x] ∧ flatV x = true ∧ ∀ H', Same H H' → Q (.bl (inV x exV)) H'
theorem scIsEx : FnScope ["word"] ["word"] (defScope sIsEx) := ⟨rfl, rfl, rfl, by decide +kernel, rfl, by decide +kernel, by decide +kernel⟩
/-- the module's constant EXCHANGES -/
structure TxtE (K : PySem.W.Frag) (mg : Str → Option Value) (tE : Addr) : Prop where
  g : mg "EXCHANGES" = some (.ref tE)
  s : ∃ (o : Obj) (its : Array Value) (n : Nat), K.lookup tE = some o ∧ o.cls = .type "tuple" ∧ o.data = .seq its n ∧ its.size ≤ sizeLine ∧ Vals exV its.toList
structure TxtX (K : PySem.W.Frag) (mg : Str → Option Value) (fX : Addr) (dX : FuncData) : Prop where
  E : ∃ tE, TxtE K mg tE
  X : Fun K "is_exchange" "is_exchange" sIsEx fX dX
  bX : L2.Binds K dX ["word"] []
  gX : mg "is_exchange" = some (.ref fX)
theorem ex_word (b : Bool) : inV (.str (wordOf b)) exV = true := by cases b <;> decide +kernel
theorem ex_step : inV (.str "step") exV = false := by decide +kernel
section
variable {P : Program} {w : World} {K : PySem.W.Frag} {mg : Str → Option Value} {base : Heap} {fX : Addr} {dX : FuncData}
theorem ok_IsEx {f : Addr} {fd : FuncData} {k : Nat} (F : Fun K "is_exchange" "is_exchange" sIsEx f fd) (TE : ∃ tE, TxtE K mg tE) : FnOk P w K mg base CX0 (k + 1) f fd ["word"] spIsEx := by
  obtain ⟨tE, gE, sE⟩ := TE
  refine F.ok scIsEx (fun vs H Q E h => ?_) (fun cdv A outer s H vs Q E hr h => ?_)
  · obtain ⟨x, rfl, _⟩ := h
    rfl
  · obtain ⟨x, rfl, fx, q⟩ := h
    refine ⟨_, pss_one (ps_ret (pe_cmpR op_in_seq (pv 0) (pe_glob (v := .ref tE) rfl gE rfl) (by rfl))), ?_⟩
    exact ⟨_, rfl, tE, exV, rfl, .inr (Or.inr sE), fx, rfl, q _ fun _ _ e => e⟩
theorem tYes_ite {σ : L2.St} {H : Hp} {A B : Hp → Prop} (h : A H) : tYes σ H (fun b H3 => if b = true then A H3 else B H3) := by
  show if true = true then A H else B H
  exact iteT h
def dName : Deed → Option Str
  | .step => none
  | .ex _ n _ => some n
theorem exNames_deeds (rs : List RowM) : exNames rs = (rs.map (·.deed)).filterMap dName := by
  rw [exNames, List.filterMap_map]
  congr 1
theorem dNames_next {ds : List Deed} {i : Nat} {d : Deed} (h : ds[i]? = some d) : (ds.take (i + 1)).filterMap dName = (ds.take i).filterMap dName ++ (dName d).toList := by
  rw [List.take_succ, h, List.filterMap_append]
  cases e : dName d with
  | none => simp [e]
  | some x => simp [e]
abbrev nNb : List Str := ["machine", "deeds", "transition", "deed"]
theorem scNbIn : FnScope nNb ["machine"] (defScope sNbIn) := ⟨rfl, rfl, rfl, by decide +kernel, rfl, by decide +kernel, by decide +kernel⟩
theorem ok_NbIn {f : Addr} {fd : FuncData} {k : Nat} (F : Fun K "neighbours_in" "neighbours_in" sNbIn f fd) (T : TxtS mg) (W : TxtX K mg fX dX) : FnOk P w K mg base CX0 (k + 2) f fd ["machine"] spNear := by
  have GX : FnOk P w K mg base CX0 (k + 1) fX dX ["word"] spIsEx := ok_IsEx W.X W.E
  refine F.ok scNbIn (fun vs H Q E h => ?_) (fun cdv A outer s H vs Q E hr h => ?_)
  · obtain ⟨a, m, rfl, _⟩ := h
    rfl
  · obtain ⟨a, m, rfl, hm, ok, q⟩ := h
    have hu := hr.units
    refine ⟨_, pss_cut (ps_setLc (i := 1) (own := [("transition", 2)]) (g := gName 2) (tt := tYes) (te := tOp (rIxT K) (tVar 2) (tC (.int 1))) rfl scNbIn.nd rfl rfl (sw_true rfl rfl rfl (by decide +kernel)) (pi_tup (pe_ix ix_tup (pv 0) pe_int (fun _ _ => rfl))) (blkOk_by (own := [("transition", 2)]) (N := nNb) (sc := defScope sNbIn) (by decide +kernel))
        (fun _ _ _ _ _ => pg_name (i := 2) scNbIn.nd rfl (.inl rfl)) (fun _ _ _ _ _ => pts_nil) (fun _ _ _ _ _ => pe_ix (show IxR _ (rIxT K) from ix_tup) (pv 2) pe_int (fun _ _ => rfl)))
      (pss_one (ps_ret (pe_callTy call_tuple_of (by rfl) T.tuple (by decide +kernel) (pa_cons (pe_callB (cr_sortedT rfl hu) (by rfl) T.sorted (by decide +kernel)
        (pa_cons (pe_sx (txtK_ok _ _) (own := [("deed", 3)]) (g := gName 3) (tt := tB (tCall spIsEx [] E0 (tCons (tOp (rIxT K) (tVar 3) (tC (.int 0))) tNil))) (te := tOp (rIxT K) (tVar 3) (tC (.int 1))) rfl scNbIn.nd (pi_list (pv 1)) (blkOk_by (own := [("deed", 3)]) (N := nNb) (sc := defScope sNbIn) (by decide +kernel))
          (fun _ _ _ _ _ => pg_name (i := 3) scNbIn.nd rfl (.inl rfl))
          (fun _ _ _ _ _ => pts_one (pt_val (pe_call GX hr (by rfl) W.gX W.X.kp W.bX .nil pass0 (pa_cons (pe_ix (show IxR _ (rIxT K) from ix_tup) (pv 3) pe_int (fun _ _ => rfl)) pa_nil))))
          (fun _ _ _ _ _ => pe_ix (show IxR _ (rIxT K) from ix_tup) (pv 3) pe_int (fun _ _ => rfl))) pa_nil)) pa_nil)))), ?_⟩
    obtain ⟨M⟩ := mach_at hm
    have lx : M.xs.length = m.rows.length := by
      have z := kz_len M.all
      rw [List.length_map] at z
      exact z
    -- the deeds
    refine ⟨fun σ' H' => ∃ (D : Addr) (qs : List (Addr × Deed)), σ' = [some (.ref a), some (.ref D), none, none] ∧ Same H H' ∧ H' D = some (.lst (qs.map fun p => V.ref p.1)) ∧ qs.map (·.2) = m.rows.map (·.deed) ∧ (∀ p ∈ qs, H p.1 = some (.tup (p.2.signs.map V.str))), ?_, ?_⟩
    · refine ⟨_, rfl, a, _, 2, .ref M.t, rfl, rfl, SqT.of M.top, atI_nat (j := 2) rfl, M.t, rfl, ⟨_, SqT.of M.row⟩, fun D nD => ?_⟩
      have sD := same_upd (o := .lst []) nD
      refine lc_tup (xs := M.xs) (fun i H' => Same H H' ∧ ∃ qs : List (Addr × Deed), H' D = some (.lst (qs.map fun p => V.ref p.1)) ∧ qs.map (·.2) = (m.rows.take i).map (·.deed) ∧ (∀ p ∈ qs, H p.1 = some (.tup (p.2.signs.map V.str))))
        ⟨sD, [], upd_same, rfl, fun _ z => (nomatch z)⟩ (fun i H' _ z => SqT.of (z.1 _ _ M.row)) ?_ ?_
      · rintro i v H2 hv ⟨s2, qs, e2, eq, hq⟩
        obtain ⟨r, hr', ra, dv, rfl, er, kd⟩ := row_at M.all hv
        obtain ⟨qd, rfl, ed⟩ := deed_at kd
        have il : i < m.rows.length := (List.getElem?_eq_some_iff.mp hr').1
        refine ⟨rfl, tYes_ite ⟨_, rfl, ra, _, 1, .ref qd, rfl, rfl, SqT.of (s2 _ _ er), atI_nat (j := 1) rfl, _, e2, ?_, fun b' o' eb => ?_, qs ++ [(qd, r.deed)], ?_, ?_, fun p hp => ?_⟩⟩
        · have z := congrArg List.length eq
          rw [List.length_map, List.length_map, List.length_take] at z
          have z3 := ok.r3
          rw [List.length_map, sizeLine_eq]
          omega
        · rw [upd_ne (ne_of_none eb nD)]
          exact s2 _ _ eb
        · rw [upd_same, List.map_append]
          rfl
        · rw [List.map_append, eq, List.take_succ, hr', List.map_append]
          rfl
        · rcases List.mem_append.mp hp with z | z
          · exact hq p z
          · rw [List.mem_singleton.mp z]
            exact ed
      · rintro H2 ⟨s2, qs, e2, eq, hq⟩
        rw [lx, List.take_length] at eq
        exact ⟨D, qs, rfl, s2, e2, eq, hq⟩
    rintro σ1 H1 ⟨D, qs, rfl, s1, e1, eq, hq⟩
    have lq : qs.length = m.rows.length := by
      have z := congrArg List.length eq
      rw [List.length_map, List.length_map] at z
      exact z
    have l64 := ok.r3
    refine ⟨_, rfl, D, rfl, ⟨_, SqL.of e1⟩, fun D2 nD2 => ?_⟩
    have sD := same_upd (o := TSetO P w D2 []) nD2
    refine sx_it (k := txtK P w) (walk_list (xs := qs.map fun p => V.ref p.1)) (fun i H' => Same H1 H' ∧ ∃ ws : List Str, H' D2 = some (TSetO P w D2 ws) ∧ ws.Nodup ∧ (∀ x, x ∈ ws ↔ x ∈ ((m.rows.map (·.deed)).take i).filterMap dName) ∧ ws.length ≤ i)
      ⟨sD, [], upd_same, List.nodup_nil, fun _ => Iff.rfl, Nat.le_refl _⟩ (fun i H' _ z => SqL.of (z.1 _ _ e1)) ?_ ?_
    · rintro i v H2 H3 hi ⟨s2, ws, e2, once, mem, lw⟩ ⟨rfl, hv⟩
      obtain ⟨p, hp, rfl⟩ : ∃ p, qs[i]? = some p ∧ v = .ref p.1 := by
        rw [List.getElem?_map] at hv
        cases e : qs[i]? with
        | none => rw [e] at hv; exact nomatch hv
        | some p => rw [e] at hv; exact ⟨p, rfl, (Option.some.inj hv).symm⟩
      obtain ⟨pa, d⟩ := p
      have ep := s2 _ _ (s1 _ _ (hq _ (List.mem_of_getElem? hp)))
      have hd : (m.rows.map (·.deed))[i]? = some d := by rw [← eq, List.getElem?_map, hp]; rfl
      have nx := dNames_next hd
      rw [List.length_map] at hi
      cases d with
      | step =>
        refine ⟨rfl, _, rfl, pa, _, 0, .str "step", rfl, rfl, SqT.of ep, atI_nat (j := 0) rfl, .str "step", rfl, rfl, fun H4 s4 => ⟨_, rfl, ?_⟩⟩
        rw [ex_step]
        refine iteF ⟨s2.trans s4, ws, s4 _ _ e2, once, fun x => ?_, by omega⟩
        rw [nx, mem x]
        simp [dName]
      | ex b n l =>
        refine ⟨rfl, _, rfl, pa, _, 0, .str (wordOf b), rfl, rfl, SqT.of ep, atI_nat (j := 0) rfl, .str (wordOf b), rfl, rfl, fun H4 s4 => ⟨_, rfl, ?_⟩⟩
        rw [ex_word]
        refine iteT ⟨_, rfl, pa, _, 1, .str n, rfl, rfl, SqT.of (s4 _ _ ep), atI_nat (j := 1) rfl, n, ws, rfl, s4 _ _ e2, by unfold scanBound; omega, fun ws1 once1 c1 c2 => ⟨fun b' o' eb => ?_, ws1, upd_same, once1, fun x => ?_, ?_⟩⟩
        · rw [upd_ne (ne_of_none eb nD2)]
          exact s4 _ _ (s2 _ _ eb)
        · rw [nx, List.mem_append, ← mem x]
          have mn : x ∈ (dName (Deed.ex b n l)).toList ↔ x = n := by simp [dName]
          rw [mn]
          by_cases c : n ∈ ws
          · rw [c1 c]
            exact ⟨Or.inl, fun z => z.elim id fun z => by rw [z]; exact c⟩
          · rw [(c2 c).mem_iff, List.mem_cons]
            exact Or.comm
        · by_cases c : n ∈ ws
          · rw [c1 c]
            omega
          · rw [(c2 c).length_eq, List.length_cons]
            omega
    · rintro H2 ⟨s2, ws, e2, once, mem, lw⟩
      have et : (m.rows.map (·.deed)).take (qs.map fun p => V.ref p.1).length = m.rows.map (·.deed) := by
        rw [List.length_map, List.take_of_length_le]
        rw [List.length_map, lq]
        exact Nat.le_refl _
      rw [et, ← exNames_deeds] at mem
      rw [List.length_map, lq] at lw
      refine ⟨D2, ws, rfl, e2, by omega, fun ys p4 pm pw n4 => ?_⟩
      have s4 := same_upd (o := .lst (ys.map V.str)) n4
      refine ⟨p4, _, rfl, .inl ⟨SqL.of upd_same, fun p5 n5 => ?_⟩⟩
      have s5 := same_upd (o := .tup (ys.map V.str)) n5
      have ss := s1.trans (s2.trans s4)
      exact q _ p5 ys (ss.trans s5) (ss.free n5) upd_same ⟨fun x => (pm.mem_iff.trans (mem x)).trans mem_exNames, pw, pm.nodup_iff.mpr once⟩ (by rw [pm.length_eq]; omega)
end
end K02
/-! Own errors over any built-in error, each with an __init__ of its own that keeps one value: made as values. -/
namespace GL
open PySem PySem.W PySem.Calls PyProof.Rows PySem.HandSPX
section
variable {M : Model} {A : Around} {E : Value → Shared → Prop} {h : Heap} {g : Array GenState} {d : Drawn} {t : Nat} {os : OsState} {prog : Program} {w : World} {R : Result → Shared → Prop}
variable {nm q : Str} {C N : Addr} {bs bm bmB : List Value} {hdct : Bool} {sn : List Str} {sub : List Value} {ab : Bool} {col : Option Bool} {dd : Option Addr} {k0 k1 k2 k3 k5 : Option Value} {B newId initId : String}
/-- what of the built-in's chain the maker asks -/
structure Over (B : String) (bm : List Value) : Prop where
  b : bm.contains (.type B) = true
  a : bm.contains (.type "AttributeError") = false
  n : bm.contains (.type "NameError") = false
theorem Over.with {c : Value} (o : Over B bm) (hc : ∀ X : String, (Value.type X == c) = false) : Over B (c :: bm) :=
  ⟨by rw [List.contains_cons, o.b, Bool.or_true], by rw [List.contains_cons, o.a, hc]; rfl, by rw [List.contains_cons, o.n, hc]; rfl⟩
theorem over_ref (o : Over B bm) : Over B (.ref C :: bm) := o.with fun _ => rfl
theorem mkCheck (F : ExcBaseFacts B newId initId bmB) (o : Over B bm) {rest : List Value} {Q : Unit → Shared → Prop} (hC : h.get? C = some (excClassObj nm q C N bs bm hdct sn sub ab col dd k0 k1 k2 k3 k5 newId)) (done : Q () ⟨h, g, d, t, os⟩) :
    wpAny M A (checkBuiltinCall newId ⟨.ref C :: rest, []⟩) Q E ⟨h, g, d, t, os⟩ := by
  have inB := (over_ref (C := C) o).b
  have notStar := F.noStar
  simp only [checkBuiltinCall, F.newKind, F.newSplit, F.newRow]
  repeat (first
    | refine wpAny_loadPart_at hC ?_
    | (refine wpAny_isSubtype_exc hC ?_; rw [inB])
    | refine wpAny_staticBase_exc hC ?_
    | refine wpAny_madeBy_exc hC ?_
    | simp only [bne_self_eq_false, Bool.false_eq_true, if_false]
    | wp_step)
  exact done
theorem mkNew (F : ExcBaseFacts B newId initId bmB) (o : Over B bm) {rest : List Value} (hC : h.get? C = some (excClassObj nm q C N bs bm hdct sn sub ab col dd k0 k1 k2 k3 k5 newId)) (small : rest.length ≤ sizeLine)
    (done : R (.ok (.ret (.ref (h.objs.size + 1)))) ⟨(h.push (kdv_tup rest)).push (excO C h.objs.size), g, d, t, os⟩) : codeAny (model prog w) A (.builtin newId ⟨.ref C :: rest, []⟩) R ⟨h, g, d, t, os⟩ := by
  have o' := over_ref (C := C) o
  have inB := o'.b
  have inA := o'.a
  have inN := o'.n
  have ends := F.ends
  refine codeAny_builtinAt F.entry ?_
  unfold Builtin.«BaseException.__new__»
  refine PySem.wpAt_bind ?_
  show PySem.wpAt _ _ _ (stack >>= _) _ _ _
  refine PySem.wpAt_bind (PySem.wpAt_stack fun p below => PySem.wpAt_of_wpAny ?_)
  wp_walk
  refine PySem.wpAt_of_wpAny ?_
  rw [F.owner]
  repeat (first
    | with_reducible refine wpAny_madeHere_exc F.canon hC ?_
    | with_reducible refine wpAny_loadPart_at hC ?_
    | (with_reducible refine wpAny_isSubtype_exc hC ?_; first | rw [inB] | rw [inA] | rw [inN])
    | wp_step)
  show R _ _
  rw [Heap.size_push]
  exact done
theorem mkType (F : ExcBaseFacts B newId initId bmB) (o : Over B bm) {rest : List Value} {fI : Addr} {Q : Fin → Shared → Prop} (hC : h.get? C = some (excClassObj nm q C N bs bm hdct sn sub ab col dd k0 k1 k2 k3 k5 newId))
    (hi : Looks (model prog w) h (typeLookup (.ref C) "__init__") (some (.ref fI))) (hb : ∀ self, Looks (model prog w) h (bindSpecial (.ref fI) self) (.ref fI, [self])) (small : rest.length ≤ sizeLine)
    (run : codeAny (model prog w) A (.call (.ref fI) ⟨.ref (h.objs.size + 1) :: rest, []⟩)
      (fun r s' => match r with | .ok (.ret v) => v = .none ∧ Q (.done (.ret (.ref (h.objs.size + 1)))) s' | .ok _ => False | .error e => E e s') ⟨(h.push (kdv_tup rest)).push (excO C h.objs.size), g, d, t, os⟩) :
    wpAny (model prog w) A (Builtin.«type.__call__» ⟨.ref C :: rest, []⟩) Q E ⟨h, g, d, t, os⟩ := by
  repeat (first
    | with_reducible refine wpAny_loadPart_at hC ?_
    | with_reducible refine wpAny_madeBy_exc hC ?_
    | wp_step)
  refine codeAny_call_builtin_code (Code.quiet_builtin _ F.quiet) (mkCheck F o hC (mkNew F o hC small (?_ : wpAny _ _ _ _ _ _)))
  have keep : ∀ b u, h.get? b = some u → ((h.push (kdv_tup rest)).push (excO C h.objs.size)).get? b = some u := fun b u e => Heap.get?_push_of_some _ (Heap.get?_push_of_some _ e)
  have cls := keep _ _ hC
  have new : ((h.push (kdv_tup rest)).push (excO C h.objs.size)).get? (h.objs.size + 1) = some (excO C h.objs.size) := by heap_get
  have self : (Value.ref C :: bm).contains (.ref C) = true := by simp
  unfold isInstance
  repeat (first
    | with_reducible refine wpAny_loadPart_at new ?_
    | (with_reducible refine wpAny_isSubtype_exc cls ?_; rw [self])
    | wp_step)
  refine (hi.keeps keep).at (?_ : wpAny _ _ _ _ _ _)
  refine wpAny_holding (wpAny_bind (((hb (.ref (h.objs.size + 1))).keeps keep).at ?_))
  refine wpAny_bind (wpAny_call (codeAny_mono run fun r s' z => ?_))
  match r, z with
  | .error e, z => exact z
  | .ok (.ret v), z =>
    obtain ⟨rfl, z⟩ := z
    first
      | exact wpAny_pure (wpAny_pure z)
      | (wp_walk; exact z)
/-- C(..): the object, then the class's own __init__ at fI -/
theorem mkOwn (F : ExcBaseFacts B newId initId bmB) (o : Over B bm) {rest : List Value} {fI : Addr} (hC : h.get? C = some (excClassObj nm q C N bs bm hdct sn sub ab col dd k0 k1 k2 k3 k5 newId))
    (hi : Looks (model prog w) h (typeLookup (.ref C) "__init__") (some (.ref fI))) (hb : ∀ self, Looks (model prog w) h (bindSpecial (.ref fI) self) (.ref fI, [self])) (small : rest.length ≤ sizeLine)
    (run : codeAny (model prog w) (A.under (.builtin "type.__call__" ⟨.ref C :: rest, []⟩)) (.call (.ref fI) ⟨.ref (h.objs.size + 1) :: rest, []⟩) (InitBack (h.objs.size + 1) R) ⟨(h.push (kdv_tup rest)).push (excO C h.objs.size), g, d, t, os⟩) :
    codeAny (model prog w) A (.call (.ref C) ⟨rest, []⟩) R ⟨h, g, d, t, os⟩ := by
  have look := tc_lookup
  have bind := tc_bind (.ref C)
  have isType : (⟨h, g, d, t, os⟩ : Shared).TypeIs (.ref C) "type" := ⟨_, hC, rfl⟩
  refine codeAny_of_tree (?_ : wpAny _ _ (callAny (.ref C) _) _ _ _)
  repeat (any_goals (first
    | assumption
    | with_reducible refine wpAny_loadPart_at hC ?_
    | wp_step))
  refine ⟨rfl, codeAny_call_builtin_at (Code.quiet_builtin _ (by decide +kernel)) entry_typeCall (wpAny_check_type_call_sub hC (mkType F o hC hi hb small (codeAny_mono run fun r s' z => ?_)))⟩
  match r, z with
  | .error e, z => exact z
  | .ok (.ret v), z => exact z
end
end GL
/-! KeyError as the base of own errors. -/
namespace GL
open PySem PySem.F
theorem keyStore : StoreFacts "KeyError" [.type "KeyError", .type "LookupError", .type "Exception", .type "BaseException", .type "object"] "object.__setattr__" "object" := by
  refine { mro := ?_, slot := ?_, entry := F.store_LookupError.entry, kind := F.store_LookupError.kind, split := F.store_LookupError.split, hasOwner := ?_, args := F.store_LookupError.args, passes := ?_ }
  · kernel_rfl
  · refine .of (owner := "object") (n := "__setattr__") ?_ ?_ ?_ ?_ ?_ ?_
    · rw [typeLookup_type, builtinLookup_eq_fast]; kernel_rfl
    · decide +kernel
    · decide +kernel
    · decide +kernel
    · first | exact .inl (by decide +kernel) | exact .inr (by decide +kernel)
    · rw [isSubtype_type]; kernel_rfl
  · decide +kernel
  · intro self; kernel_rfl
end GL
/-! Own errors as values over the layer: made, their field read, isinstance, str. -/
namespace GL
open PySem PySem.Spec PyProof.Rows L2
/-- an error object at a: its class at C, its dict, its args -/
def exT (a C : Addr) (d : Option Addr) (t : Addr) : HO := .ext fun h => h.get? a = some ({ cls := .ref C, dict := d, data := .fields #[.ref t, .none, .none, .none, .bool false, .none] } : Obj)
theorem exT_ok {P : Program} {w : World} {H : Hp} {h : Heap} {a C t : Addr} {d : Option Addr} (e : h.get? a = some ({ cls := .ref C, dict := d, data := .fields #[.ref t, .none, .none, .none, .bool false, .none] } : Obj)) : ObjOk P w H h a (exT a C d t) :=
  ⟨e, ⟨_, e⟩, fun _ _ z k => k _ z⟩
theorem exT_at {P : Program} {w : World} {H : Hp} {h : Heap} {a C t : Addr} {d : Option Addr} (ok : HOk P w H h) (e : H a = some (exT a C d t)) : h.get? a = some ({ cls := .ref C, dict := d, data := .fields #[.ref t, .none, .none, .none, .bool false, .none] } : Obj) :=
  (show ObjOk P w H h a (.ext _) from ok a _ e).1
theorem exT_no {a C t b : Addr} {d : Option Addr} {H : Hp} {u : HO} (e : H a = some (exT a C d t)) (hb : H b = some u) (n : ∀ φ, u ≠ .ext φ) : b ≠ a := fun z => by
  subst z
  rw [e] at hb
  exact n _ (Option.some.inj hb).symm
/-- what the top has written of an own error's class -/
structure ErrC (K : PySem.W.Frag) (C : Addr) (bmB : List Value) (newId : String) : Prop where
  mi : PySem.W.excInitIn K C bmB newId = true
  kC : PySem.W.keepIn K (.ref C) = true
  ga : PySem.W.findIn K (.ref C) "__getattribute__" = some (some (.builtin "BaseException.__getattribute__"))
  gg : PySem.W.findIn K (.ref C) "__getattr__" = some none
  sb : PySem.W.subIn K (.ref C) (.type "BaseException") = some true
  hd : PySem.W.hasDictIn K C = true
  cc : PySem.W.findIn K (.ref C) "__class__" = some (some (.builtin "object.__class__"))
  mo : PySem.W.mroIn K C (.type "object") = some true
/-- one whose __init__ keeps one value as f -/
structure ErrF (K : PySem.W.Frag) (C : Addr) (bmB : List Value) (f : Str) : Prop where
  ov : PySem.W.excOver K C bmB = true
  tk : PySem.W.takerIn K C f = some none
  sa : PySem.W.findIn K (.ref C) "__setattr__" = some (some (.builtin "object.__setattr__"))
  no : PySem.W.findIn K (.ref C) f = some none
/-- two new objects -/
theorem un_two {fs : List Addr} {H : Hp} {h h' : Heap} {a d : Addr} {O D : HO} (k : ∀ b u, h.get? b = some u → h'.get? b = some u) (ha : h.get? a = none) (hd : h.get? d = none) (na : H a = none) (nd : H d = none) : Un fs [] H (upd (upd H d D) a O) h h' := by
  have apart : ∀ {b : Addr} {u : Obj}, h.get? b = some u → b ≠ a ∧ b ≠ d := fun {b u} q => ⟨fun z => (by subst z; rw [ha] at q; cases q), fun z => (by subst z; rw [hd] at q; cases q)⟩
  have old : ∀ {b : Addr} {u : HO}, H b = some u → upd (upd H d D) a O b = some u := fun {b u} q => by rw [upd_ne (ne_of_none q na), upd_ne (ne_of_none q nd)]; exact q
  refine ⟨fun b u q _ _ _ => k b u q, fun b u q _ _ _ => ⟨u.slots, k b u q⟩, fun b u q n _ => ?_, fun b u q _ => ⟨u, k b u q⟩, fun b xs q => old q, fun b u xs q => old q, fun b ps q => ⟨#[], ?_⟩⟩
  · rw [upd_ne (apart q).1, upd_ne (apart q).2]
    exact n
  · rw [old q]
    simp
section
variable {X : Cx} {pins : List (Addr × Obj)} {σ : L2.St} {H : Hp} {s : Shared} {a C t : Addr} {f : Str} {y : V} {u : Value} {Q : Unit → Shared → Prop} {E : Value → Shared → Prop} {A : Around} {B : String} {bmB : List Value}
/-- self.f = y, on an error without a dict -/
theorem est_new (SF : StoreFacts B bmB "object.__setattr__" "object") (T : ErrF X.K C bmB f) (hd : PySem.W.hasDictIn X.K C = true) (I : Inv X pins σ H s) (e : H a = some (exT a C none t)) (ry : RelV y u)
    (h : ∀ dx s', H dx = none → dx ≠ a → Inv X pins σ (upd (upd H dx (.xd [(f, y)])) a (exT a C (some dx) t)) s' → Q () s') : wpAny (model X.prog X.w) A (setAttr (.ref a) f u) Q E s := by
  have ho := exT_at I.hok e
  obtain ⟨cd, hcd, hdd⟩ := PySem.W.any_some hd
  obtain ⟨hp, g, d, tk, os⟩ := s
  refine PySem.W.set_plain I.kIn (od := none) ⟨ho, rfl, rfl, trivial⟩ T.sa ?_
  refine PySem.W.osa_openX SF I.kIn (od := none) ⟨ho, rfl, rfl, trivial⟩ T.ov T.tk fun b => ?_
  have hcls : PySem.W.Looks (model X.prog X.w) hp (classData C) cd := PySem.W.looks_clsIn I.kIn hcd
  obtain ⟨nm, bs, mro, ns, qn, hd', sn, sb, ab, col, del⟩ := cd
  dsimp only at hdd
  subst hdd
  show wpAny _ _ (Builtin.ObjectAttr.storeInOwnDict (.ref a) (.ref C) (.str f tk) f u b) _ _ _
  unfold Builtin.ObjectAttr.storeInOwnDict Builtin.ObjectAttr.ownDictForStores
  have xs : a ≠ hp.objs.size := Nat.ne_of_lt (Heap.lt_size ho)
  repeat (first
    | with_reducible refine PySem.HandSPX.store_in_new ?_ ?_
    | with_reducible refine wpAny_loadPart_at ho ?_
    | with_reducible refine hcls.at ?_
    | wp_step)
  · exact ⟨_, #[], _, (Heap.get?_update_ne _ _ _ _ xs.symm).trans (Heap.get?_push_at rfl rfl), rfl, fun z hz => absurd hz (by simp), fun _ => rfl⟩
  · intro h' tk' hn' hs
    have new : H hp.objs.size = none := I.hok.fresh (Nat.le_refl _)
    have keep : ∀ b o, b ≠ a → hp.get? b = some o → h'.get? b = some o := fun b o hb q =>
      (hs.2 b (Nat.ne_of_lt (Heap.lt_size q))).trans ((Heap.get?_update_ne _ _ _ _ hb).trans (Heap.get?_push_of_some _ q))
    have self : h'.get? a = some ({ cls := .ref C, dict := some hp.objs.size, data := .fields #[.ref t, .none, .none, .none, .bool false, .none] } : Obj) :=
      (hs.2 a xs).trans (Heap.get?_update_self _ (Heap.get?_push_of_some _ ho) rfl)
    have notA : ∀ {b : Addr}, H b = none → b ≠ a := fun {b} n z => by subst z; rw [e] at n; cases n
    have notD : ∀ {b : Addr} {o : Obj}, hp.get? b = some o → b ≠ hp.objs.size := fun {b o} q => Nat.ne_of_lt (Heap.lt_size q)
    have U : Un X.fs [] H (upd (upd H hp.objs.size (.xd [(f, y)])) a (exT a C (some hp.objs.size) t)) hp h' := by
      refine ⟨fun b o q n _ _ => keep b o (notA n) q, fun b o q n _ _ => ⟨o.slots, keep b o (notA n) q⟩, fun b o q n _ => ?_, fun b o q _ => ?_, fun b xs q => ?_, fun b o v q => ?_, fun b ps q => ⟨#[], ?_⟩⟩
      · rw [upd_ne (notA n), upd_ne (notD q)]; exact n
      · by_cases hb : b = a
        · exact ⟨_, by rw [hb]; exact self⟩
        · exact ⟨o, keep b o hb q⟩
      · rw [upd_ne (exT_no e q fun _ z => nomatch z), upd_ne (ne_of_none q new)]; exact q
      · rw [upd_ne (exT_no e q fun _ z => nomatch z), upd_ne (ne_of_none q new)]; exact q
      · rw [upd_ne (exT_no e q fun _ z => nomatch z), upd_ne (ne_of_none q new), q]; simp
    refine h hp.objs.size _ new xs.symm (I.un (t' := tk') U fun b o q => ?_)
    by_cases hb : b = a
    · subst hb
      rw [upd_same] at q
      cases q
      exact exT_ok self
    · rw [upd_ne hb] at q
      by_cases hx : b = hp.objs.size
      · subst hx
        rw [upd_same] at q
        cases q
        refine ⟨_, hn', fun g => ?_⟩
        have z := relO_put (f := f) (fs := []) (mA := fun _ => none) ry (fun _ => True.intro) g
        exact z
      · rw [upd_ne hx] at q
        refine (I.hok b o q).stay (fun c v hc z => keep c v ?_ z) (fun c hc => ?_) fun c xs hc => ?_
        · rcases hc with hc | hc
          · rw [hc]; exact hb
          · exact exT_no e hc fun _ z => nomatch z
        · rw [upd_ne (exT_no e hc fun _ z => nomatch z), upd_ne (ne_of_none hc new)]; exact hc
        · rw [upd_ne (exT_no e hc fun _ z => nomatch z), upd_ne (ne_of_none hc new)]; exact hc
end
section
variable {X : Cx} {o e : Expr} {es : List Expr} {to te : TE} {ta : TA} {f x : Str} {p p' p1 p2 pos : Pos} {B : String} {bmB : List Value}
/-- self.f = e in such an __init__ -/
def tEst (K : PySem.W.Frag) (bmB : List Value) (f : Str) (to te : TE) : TS := fun D σ H => te σ H fun y H1 => to σ H1 fun x H2 => ∃ a C t : Addr, x = .ref a ∧ H2 a = some (exT a C none t) ∧ ErrF K C bmB f ∧ PySem.W.hasDictIn K C = true ∧
  ∀ dx, H2 dx = none → dx ≠ a → D.nx σ (upd (upd H2 dx (.xd [(f, y)])) a (exT a C (some dx) t))
theorem ps_est (SF : StoreFacts B bmB "object.__setattr__" "object") (ho : PE X o to) (he : PE X e te) (hs : swapsWith e (some (.Attribute o f p')) pos.line X.env = pure false := by rfl) : PS X (.Assign [.Attribute o f p'] e pos) (tEst X.K bmB f to te) := by
  constructor
  intro pins s σ H D I h
  refine plainObj_wpAny_Assign_Attribute (thn (he.run pins s σ H _ I h) ?_) hs
  rintro v s1 ⟨y, H1, I1, r1, q1⟩
  refine thn (ho.run pins s1 σ H1 _ I1 q1) ?_
  rintro u s2 ⟨x, H2, I2, r2, a, C, t, rfl, ea, T, hd, q⟩
  cases r2
  exact est_new SF T hd I2 ea r1 fun dx s' n ne J => ⟨σ, _, J, q dx n ne⟩
/-- the promise of such an __init__ -/
def spEinit (K : PySem.W.Frag) (bmB : List Value) (f : Str) : Sp := fun vs H Q _ => ∃ (a C t : Addr) (y : V), vs = [.ref a, y] ∧ H a = some (exT a C none t) ∧ ErrF K C bmB f ∧ PySem.W.hasDictIn K C = true ∧
  ∀ dx, H dx = none → dx ≠ a → Q .non (upd (upd H dx (.xd [(f, y)])) a (exT a C (some dx) t))
/-- C(e) with such an __init__, as a value -/
def tMkE (C : Addr) (f : Str) (te : TE) : TE := fun σ H Q => te σ H fun y H1 => ∀ a t dx, H1 a = none → H1 dx = none → dx ≠ a → Q (.ref a) (upd (upd H1 dx (.xd [(f, y)])) a (exT a C (some dx) t))
def wishE (C : Addr) (f : Str) (Q : VK) : List V → Hp → Prop
  | [y], H1 => ∀ a t dx, H1 a = none → H1 dx = none → dx ≠ a → Q (.ref a) (upd (upd H1 dx (.xd [(f, y)])) a (exT a C (some dx) t))
  | _, _ => False
theorem wishE_one {C : Addr} {f : Str} {Q : VK} : ∀ {vs : List V} {H1 : Hp}, wishE C f Q vs H1 → ∃ y, vs = [y] ∧ ∀ a t dx, H1 a = none → H1 dx = none → dx ≠ a → Q (.ref a) (upd (upd H1 dx (.xd [(f, y)])) a (exT a C (some dx) t))
  | [], _, q => q.elim
  | [y], _, q => ⟨y, rfl, q⟩
  | _ :: _ :: _, _, q => q.elim
theorem pe_mkE {B' newId initId : String} {bmB' ps' : List Value} {ps : List Str} {C fI : Addr} {fd : FuncData} {k : Nat} (F : ExcBaseFacts B' newId initId bmB') (T : ErrC X.K C bmB newId) (TF : ErrF X.K C bmB f) (ov : Over B' bmB)
    (iC : PySem.W.findIn X.K (.ref C) "__init__" = some (some (.ref fI))) (tI : PySem.W.typeIn X.K (.ref fI) = some (.type "function")) (G : FnOk X.prog X.w X.K X.mg X.base CX0 k fI fd ps (spEinit X.K bmB f)) (hr : Room (k + 1) X.A)
    (hb : Binds X.K fd ps []) (hg : Gl X x) (hm : X.mg x = some (.ref C)) (he : PE X e te) (hdb : (x == ("__debug__" : Str)) = false := by decide)
    (hs : starEach [e] X.env = (false, eval e X.env) :: starEach [] X.env := by rfl) (hpl : (backTo pos (starEach [] X.env)).any (·.1) = false := by rfl) : PE X (.Call (.Name x p) [e] [] pos) (tMkE C f te) := by
  constructor
  intro pins s σ H Q I h
  have ha : PA X [e] (tCons te tNil) := pa_cons he pa_nil hs
  refine wpAny_Call_Name_kw (ld_glob I hg hm (PySem.W.callWith_K (h₀ := X.base) I.ok.mod.kin T.kC (thn (ha.run pos pins s σ H (wishE C f Q) I h) ?_) hs hpl) hdb)
  · rintro us s1 ⟨vs, H1, J, r, q⟩
    refine ⟨J.kIn, ?_⟩
    obtain ⟨y, rfl, q⟩ := wishE_one q
    obtain ⟨nm, N, qn, bs, bm, hdct, sn, sub, ab, col, dd, k0, k1, k2, k3, k5, hC, hT⟩ := PySem.W.excInit_of J.kIn T.mi
    show wpAny _ _ (call (.ref C) us) _ _ _
    obtain ⟨hp, g, dr, tk, os⟩ := s1
    have old : ∀ b o, hp.get? b = some o → ((hp.push (PySem.W.kdv_tup us)).push (PySem.HandSPX.excO C hp.objs.size)).get? b = some o := fun b o z => Heap.get?_push_of_some _ (Heap.get?_push_of_some _ z)
    have new : ((hp.push (PySem.W.kdv_tup us)).push (PySem.HandSPX.excO C hp.objs.size)).get? (hp.objs.size + 1) = some (PySem.HandSPX.excO C hp.objs.size) := by heap_get
    have le : hp.objs.size ≤ hp.objs.size + 1 := Nat.le_succ _
    have free : H1 (hp.objs.size + 1) = none := J.hok.fresh le
    have J2 : Inv X pins σ (upd H1 (hp.objs.size + 1) (exT (hp.objs.size + 1) C none hp.objs.size)) ⟨(hp.push (PySem.W.kdv_tup us)).push (PySem.HandSPX.excO C hp.objs.size), g, dr, tk, os⟩ :=
      J.laid (t' := tk) (a := hp.objs.size + 1) (h' := (hp.push (PySem.W.kdv_tup us)).push (PySem.HandSPX.excO C hp.objs.size)) old le (exT_ok new)
    have want : spEinit X.K bmB f [.ref (hp.objs.size + 1), y] (upd H1 (hp.objs.size + 1) (exT (hp.objs.size + 1) C none hp.objs.size)) (fun v H2 => v = .non ∧ Q (.ref (hp.objs.size + 1)) H2) (fun _ _ _ => False) := by
      refine ⟨_, C, _, y, rfl, upd_same, TF, T.hd, fun dx nd ne => ⟨rfl, ?_⟩⟩
      have nd' : H1 dx = none := by rw [upd_ne ne] at nd; exact nd
      have e : upd (upd (upd H1 (hp.objs.size + 1) (exT (hp.objs.size + 1) C none hp.objs.size)) dx (.xd [(f, y)])) (hp.objs.size + 1) (exT (hp.objs.size + 1) C (some dx) hp.objs.size) =
          upd (upd H1 dx (.xd [(f, y)])) (hp.objs.size + 1) (exT (hp.objs.size + 1) C (some dx) hp.objs.size) := by
        funext b
        by_cases b1 : b = hp.objs.size + 1
        · rw [b1, upd_same, upd_same]
        · rw [upd_ne b1, upd_ne b1]
          by_cases b2 : b = dx
          · rw [b2, upd_same, upd_same]
          · rw [upd_ne b2, upd_ne b2, upd_ne b1]
      rw [e]
      exact q _ _ dx free nd' ne
    have vals : Vals [V.ref (hp.objs.size + 1), y] (Value.ref (hp.objs.size + 1) :: us) := .cons rfl r
    have n : (Value.ref (hp.objs.size + 1) :: us ++ []).length = ps.length := by
      rw [List.append_nil, ← vals.length]
      exact G.len _ _ _ _ want
    have bind := hb _ (Value.ref (hp.objs.size + 1) :: us) J2.kIn n
    rw [List.append_nil] at bind
    have small : us.length ≤ sizeLine := by
      rw [← r.length, sizeLine_eq]
      exact (by decide : 1 ≤ 16777216)
    have oBm : Over B' bm := ⟨(hT _).trans ov.b, (hT _).trans ov.a, (hT _).trans ov.n⟩
    refine wpAny_call (mkOwn F oBm hC (PySem.W.looks_findIn J.kIn iC) (fun self => PySem.W.bind_fn J.kIn self tI) small
      (codeAny_mono (G.run _ X.stack _ _ ⟨Value.ref (hp.objs.size + 1) :: us, []⟩ _ _ _ _ (hr.make C us []) (J2.env0.make C us []) bind vals want) ?_))
    intro res s' z
    match res, z with
    | .error e, z => exact z.elim
    | .ok (.ret u), z =>
      obtain ⟨v, H', J3, rv, ev, q3⟩ := J2.after z
      subst ev
      exact ⟨rv, V.ref (hp.objs.size + 1), H', J3, rfl, q3⟩
end
section
variable {X : Cx} {o e : Expr} {to te : TE} {f x : Str} {p pos : Pos} {bmB : List Value} {newId : String}
/-- e.f of such an error -/
def tFldE (K : PySem.W.Frag) (bmB : List Value) (newId : String) (f : Str) (te : TE) : TE := fun σ H Q => te σ H fun x H1 => ∃ (a C d t : Addr) (fs : List (Str × V)) (v : V), x = .ref a ∧ H1 a = some (exT a C (some d) t) ∧ H1 d = some (.xd fs) ∧ ErrC K C bmB newId ∧
  PySem.W.findIn K (.ref C) f = some none ∧ fs.lookup f = some v ∧ Q v H1
theorem pe_fldE (he : PE X e te) (hb : attributeBase e f X.env (eval e X.env) = eval e X.env := by rfl) : PE X (.Attribute e f pos) (tFldE X.K bmB newId f te) := by
  constructor
  intro pins s σ H Q I h
  refine attr_of hb (thn (he.run pins s σ H _ I h) ?_)
  rintro u s1 ⟨x, H1, J, rx, a, C, d, t, fs, v, rfl, ea, ed, T, no, lk, q⟩
  cases rx
  have ho := exT_at J.hok ea
  obtain ⟨mA, hns, rel⟩ := (show ObjOk X.prog X.w H1 s1.heap d (.xd fs) from J.hok d _ ed)
  obtain ⟨od, hd, hl⟩ := lookIn_ns hns
  obtain ⟨u, hu, ru⟩ := RelO.some_of (v := v) (o := mA f) (lk ▸ rel f)
  exact HandSPX.exc_get J.kIn (od := some od) ⟨ho, rfl, rfl, hd⟩ T.ga T.gg T.sb (PySem.W.findObj_own T.hd no rfl (by rw [hl, hu])) (handed_of ru) ⟨v, H1, J.tok _, ru, q⟩
/-- what isinstance asks of the written part at large -/
structure IsK (K : PySem.W.Frag) : Prop where
  gn : PySem.W.specialIn K (.builtin "object.__class__") "__get__" = some (some (.builtin "getset_descriptor.__get__"))
  gt : PySem.W.takesIn K (.builtin "object.__class__") = some true
/-- isinstance(e, c) of an own error: with a dict, or without one -/
def rIsX (K : PySem.W.Frag) : List V → Hp → VK → Prop := fun xs H Q => ∃ (a C t : Addr) (d : Option Addr) (c : V) (cv : Value) (b : Bool) (bmB : List Value) (newId : String), xs = [.ref a, c] ∧ H a = some (exT a C d t) ∧ (∀ dx, d = some dx → ∃ fs, H dx = some (.xd fs)) ∧
  ErrC K C bmB newId ∧ ClsV c cv ∧ PySem.W.kitOne K (.ref C) cv = some b ∧ Q (.bl b) H
theorem call_isX (Z : IsK X.K) : CallR X (.builtin "isinstance") (rIsX X.K) := by
  intro pins s σ H xs us Q I r h
  obtain ⟨a, C, t, d, c, cv, b, bmB, newId, rfl, ea, hd, T, hc, e, q⟩ := h
  obtain ⟨u1, u2, rfl, r1, r2⟩ := vals2 r
  cases r1
  have e2 := hc.eq r2
  subst e2
  have ho := exT_at I.hok ea
  have hcl : (PySem.W.clsIn X.K C).isSome = true := by
    obtain ⟨cd, hcd, _⟩ := PySem.W.any_some T.hd
    rw [hcd]; rfl
  have fin : ∀ od, PySem.W.InstAt s.heap a ({ cls := .ref C, dict := d, data := .fields #[.ref t, .none, .none, .none, .bool false, .none] } : Obj) C od → wpAny (model X.prog X.w) X.A (call (.builtin "isinstance") [.ref a, u2]) (EP X pins σ Q) X.xe s := fun od J =>
    PySem.W.kia_one (PySem.W.kitx_exc hcl T.ga T.gg T.sb T.cc Z.gn Z.gt T.mo) I.kIn J e (fun z => nomatch z) fun tk => ⟨.bl b, H, I.kept (t' := tk) fun _ _ z => z, rfl, q⟩
  cases d with
  | none => exact fin none ⟨ho, rfl, rfl, trivial⟩
  | some dx =>
    obtain ⟨fs, ed⟩ := hd dx rfl
    obtain ⟨mA, ⟨od, es, ep, hod, _⟩, _⟩ := (show ObjOk X.prog X.w H s.heap dx (.xd fs) from I.hok dx _ ed)
    exact fin (some od) ⟨ho, rfl, rfl, hod⟩
/-- C(m) of an error class without an __init__ of its own -/
def tMkA (C : Addr) (te : TE) : TE := fun σ H Q => te σ H fun y H1 => ∀ a t, H1 a = none → H1 t = none → t ≠ a → Q (.ref a) (upd (upd H1 t (.tup [y])) a (exT a C none t))
theorem pe_mkA {B initId : String} {C : Addr} (F : ExcBaseFacts B newId initId bmB) (T : ErrC X.K C bmB newId) (iC : PySem.W.findIn X.K (.ref C) "__init__" = some (some (.builtin initId))) (hg : Gl X x) (hm : X.mg x = some (.ref C)) (he : PE X e te)
    (hdb : (x == ("__debug__" : Str)) = false := by decide) (hs : starEach [e] X.env = (false, eval e X.env) :: starEach [] X.env := by rfl) : PE X (.Call (.Name x p) [e] [] pos) (tMkA C te) := by
  constructor
  intro pins s σ H Q I h
  refine wpAny_Call_Name_kw (ld_glob I hg hm (PySem.W.callWith_K (h₀ := X.base) I.ok.mod.kin T.kC ?_ hs (by rfl)) hdb)
  rw [hs]
  show wpAny _ _ (spliced ((false, eval e X.env) :: backTo pos (starEach [] X.env))) _ _ s
  refine Calls.spliced_cons (thn (he.run pins s σ H _ I h) ?_)
  rintro u s1 ⟨y, H1, J, r1, q⟩
  refine Calls.spliced_nil ⟨J.kIn, ?_⟩
  show wpAny _ _ (call (.ref C) [u]) _ _ _
  obtain ⟨nm, N, qn, bs, bm, hdct, sn, sub, ab, col, dd, k0, k1, k2, k3, k5, hC, hT⟩ := PySem.W.excInit_of J.kIn T.mi
  obtain ⟨hp, g, dr, tk, os⟩ := s1
  have free : ∀ n, hp.get? (hp.objs.size + n) = none := fun n => Heap.get?_none_of_le (Nat.le_add_right _ _)
  have fr : ∀ n, H1 (hp.objs.size + n) = none := fun n => J.hok.fresh (Nat.le_add_right _ _)
  refine PySem.W.call_B F hT hC (PySem.W.looks_findIn J.kIn iC) (by rw [sizeLine_eq]; exact (by decide : 1 ≤ 16777216)) fun h' keep e1 e2 => ?_
  have ne : hp.objs.size + 2 ≠ hp.objs.size + 1 := by omega
  refine ⟨.ref (hp.objs.size + 1), _, J.un (t' := tk) (un_two (a := hp.objs.size + 1) (d := hp.objs.size + 2) (O := exT (hp.objs.size + 1) C none (hp.objs.size + 2)) (D := .tup [y]) keep (free 1) (free 2) (fr 1) (fr 2)) fun b o z => ?_, rfl, q _ _ (fr 1) (fr 2) ne⟩
  by_cases b1 : b = hp.objs.size + 1
  · subst b1
    rw [upd_same] at z
    cases z
    exact exT_ok e1
  · rw [upd_ne b1] at z
    by_cases b2 : b = hp.objs.size + 2
    · subst b2
      rw [upd_same] at z
      cases z
      exact ⟨by rw [sizeLine_eq]; exact (by decide : 1 ≤ 16777216), [u], .cons r1 .nil, _, e2, rfl, 0, rfl⟩
    · rw [upd_ne b2] at z
      exact (J.hok b o z).stay (fun c v _ k => keep c v k) (fun c hc => by rw [upd_ne (ne_of_none hc (fr 1)), upd_ne (ne_of_none hc (fr 2))]; exact hc) fun c xs hc => by rw [upd_ne (ne_of_none hc (fr 1)), upd_ne (ne_of_none hc (fr 2))]; exact hc
/-- str(e) of an error made with one text -/
def rStrX (K : PySem.W.Frag) : List V → Hp → VK → Prop := fun xs H Q => ∃ (a C t : Addr) (m : Str), xs = [.ref a] ∧ H a = some (exT a C none t) ∧ H t = some (.tup [.str m]) ∧ PySem.W.findIn K (.ref C) "__str__" = some (some (.builtin "BaseException.__str__")) ∧
  PySem.W.subIn K (.ref C) (.type "BaseException") = some true ∧ Q (.str m) H
theorem call_strX (hu : X.A.units + 2 < cLine) : CallR X (.type "str") (rStrX X.K) := by
  intro pins s σ H xs us Q I r h
  obtain ⟨a, C, t, m, rfl, ea, et, hs, hB, q⟩ := h
  cases r with
  | cons r1 r2 =>
    cases r2
    cases r1
    have ho := exT_at I.hok ea
    obtain ⟨_, its, rv, ot, hot, hcls, n, hdat⟩ := (show ObjOk X.prog X.w H s.heap t (.tup [.str m]) from I.hok t _ et)
    cases rv with
    | cons rm rn =>
      cases rn
      obtain ⟨tk, rfl⟩ := rm
      exact PySem.P.str_of_C_one hu ⟨I.kIn, _, _, ho, rfl, rfl, rfl⟩ ⟨ot, n, hot, hcls, hdat⟩ hs hB ⟨.str m, H, I, ⟨tk, rfl⟩, q⟩
end
end GL
/-! Own errors of any base, raised: what ErrLay makes becomes what the hand layer raises and catches. -/
namespace GL
open PySem PySem.Spec PyProof.Rows L2
theorem delH_two {H : Hp} {a d : Addr} {o u : HO} (na : H a = none) (ne : d ≠ a) : delH (upd (upd H d u) a o) a = upd H d u := delH_new (by rw [upd_ne ne.symm]; exact na)
section
variable {X : Cx} {e : Expr} {te : TE}
/-- an expression that gives an own error back, new in this def, makes an exception -/
theorem pmk_X (hx : X.ex = []) (he : PE X e te) :
    PMk X e (fun σ H Q => te σ H fun x H1 => ∃ (a C t : Addr) (d : Option Addr), x = .ref a ∧ H1 a = some (exT a C d t) ∧ Fr0 X.H_0 a ∧ Raises X (.ref C) ∧ Q (.ref C) d (delH H1 a)) := by
  intro pins s σ H Q I h
  refine wpAny_mono (he.run pins s σ H _ I h) (fun u s1 z => ?_) fun _ _ z => z
  obtain ⟨v, H1, J, rv, a, C, t, d, rfl, ea, f0, rs, q⟩ := z
  cases rv
  have ho := exT_at J.hok ea
  obtain ⟨G, gs, ga, J2⟩ := J.untrack ea f0 hx
  exact ⟨a, _, _, { s1 with heap := G }, delH H1 a, .ref C, d, rfl, J2, gs, ga, ho, ⟨rfl, rfl⟩, rfl, rfl, delH_same, rfl, J.bare, rs, q⟩
theorem raises_X {C : Addr} {bmB : List Value} {newId : String} (T : ErrC X.K C bmB newId) (ty : PySem.W.typeIn X.K (.ref C) = some (.type "type")) : Raises X (.ref C) := raises_own T.sb ty
end
end GL
namespace K02
open PySem PySem.Spec PyProof.Rows L2 WD NS MC GL
open C8 (pss_cut tCut)
abbrev sIsWh : Stmt := topS 8
abbrev sIsWF : Stmt := topS 9
abbrev sChkS : Stmt := topS 21
/-- a value that is no whole number: of such a type, or a truth value -/
def NotInt (K : PySem.W.Frag) (H : Hp) (x : V) : Prop := ∃ ty ∈ ["NoneType", "bool", "str", "list", "tuple", "dict"], TyX K H x (.type ty)
def spWhole (K : PySem.W.Frag) : Sp := fun vs H Q _ => ∃ x : V, vs = [x] ∧ ((∃ i, x = .int i ∧ Q (.bl true) H) ∨ (NotInt K H x ∧ Q (.bl false) H))
def spWhF (K : PySem.W.Frag) : Sp := fun vs H Q _ => ∃ (x : V) (lo hi : Int), vs = [x, .int lo, .int hi] ∧ ((∃ i, x = .int i ∧ Q (.bl (decide (lo ≤ i ∧ i ≤ hi))) H) ∨ (NotInt K H x ∧ Q (.bl false) H))
structure TxtI (K : PySem.W.Frag) (mg : Str → Option Value) (fW fF : Addr) (dW dF : FuncData) : Prop where
  isi : mg "isinstance" = none
  int : mg "int" = none
  bool : mg "bool" = none
  W : Fun K "is_whole" "is_whole" sIsWh fW dW
  bW : L2.Binds K dW ["value"] []
  gW : mg "is_whole" = some (.ref fW)
  F : Fun K "is_whole_from" "is_whole_from" sIsWF fF dF
  bF : L2.Binds K dF ["value", "least", "most"] []
  gF : mg "is_whole_from" = some (.ref fF)
theorem scIsWh : FnScope ["value"] ["value"] (defScope sIsWh) := ⟨rfl, rfl, rfl, by decide +kernel, rfl, by decide +kernel, by decide +kernel⟩
theorem scIsWF : FnScope ["value", "least", "most"] ["value", "least", "most"] (defScope sIsWF) := ⟨rfl, rfl, rfl, by decide +kernel, rfl, by decide +kernel, by decide +kernel⟩
section
variable {P : Program} {w : World} {K : PySem.W.Frag} {mg : Str → Option Value} {base : Heap} {fW fF : Addr} {dW dF : FuncData}
theorem ok_IsWh {f : Addr} {fd : FuncData} {k : Nat} (F : Fun K "is_whole" "is_whole" sIsWh f fd) (T : TxtI K mg fW fF dW dF) : FnOk P w K mg base CX0 (k + 1) f fd ["value"] (spWhole K) := by
  refine F.ok scIsWh (fun vs H Q E h => ?_) (fun cdv A outer s H vs Q E hr h => ?_)
  · obtain ⟨x, rfl, _⟩ := h
    rfl
  · obtain ⟨x, rfl, h⟩ := h
    refine ⟨_, pss_one (ps_ret (pe_and (pe_callB call_isi (by rfl) T.isi (by decide +kernel) (pa_cons (pv 0) (pa_cons (pe_bltn (by rfl) T.int (by decide +kernel) (v := .ty "int") rfl) pa_nil)))
      (pe_one (pe_not (pe_callB call_isi (by rfl) T.isi (by decide +kernel) (pa_cons (pv 0) (pa_cons (pe_bltn (by rfl) T.bool (by decide +kernel) (v := .ty "bool") rfl) pa_nil))))))), ?_⟩
    rcases h with ⟨i, rfl, q⟩ | ⟨⟨ty, mt, tx⟩, q⟩
    · refine ⟨_, rfl, _, _, _, .type "int", true, rfl, .ty _, .base (.int i), kit_ty (by decide +kernel), _, rfl, iteT ?_⟩
      exact ⟨_, rfl, _, _, _, .type "bool", false, rfl, .ty _, .base (.int i), kit_ty (by decide +kernel), _, rfl, q⟩
    · by_cases b : ty = "bool"
      · subst b
        refine ⟨_, rfl, _, _, _, .type "int", true, rfl, .ty _, tx, kit_ty (by decide +kernel), _, rfl, iteT ?_⟩
        exact ⟨_, rfl, _, _, _, .type "bool", true, rfl, .ty _, tx, kit_ty (by decide +kernel), _, rfl, q⟩
      · have e : kitB ty "int" = some false := by
          simp only [List.mem_cons, List.not_mem_nil, or_false] at mt
          rcases mt with rfl | rfl | rfl | rfl | rfl | rfl
          · decide +kernel
          · exact absurd rfl b
          · decide +kernel
          · decide +kernel
          · decide +kernel
          · decide +kernel
        exact ⟨_, rfl, _, _, _, .type "int", false, rfl, .ty _, tx, kit_ty e, _, rfl, iteF q⟩
theorem ok_IsWF {f : Addr} {fd : FuncData} {k : Nat} (F : Fun K "is_whole_from" "is_whole_from" sIsWF f fd) (T : TxtI K mg fW fF dW dF) : FnOk P w K mg base CX0 (k + 2) f fd ["value", "least", "most"] (spWhF K) := by
  have GW : FnOk P w K mg base CX0 (k + 1) fW dW ["value"] (spWhole K) := ok_IsWh T.W T
  refine F.ok scIsWF (fun vs H Q E h => ?_) (fun cdv A outer s H vs Q E hr h => ?_)
  · obtain ⟨x, lo, hi, rfl, _⟩ := h
    rfl
  · obtain ⟨x, lo, hi, rfl, h⟩ := h
    refine ⟨_, pss_one (ps_ret (pe_and (pe_call GW hr (by rfl) T.gW T.W.kp T.bW .nil pass0 (pa_cons (pv 0) pa_nil)) (pe_one (pe_chain op_le op_le (pv 1) (pv 0) (pv 2))))), ?_⟩
    rcases h with ⟨i, rfl, q⟩ | ⟨n, q⟩
    · refine ⟨_, rfl, _, rfl, .inl ⟨i, rfl, _, rfl, iteT ?_⟩⟩
      refine ⟨_, rfl, _, rfl, _, _, rfl, rfl, _, rfl, ?_⟩
      by_cases c : lo ≤ i
      · rw [decide_eq_true c]
        refine iteT ⟨_, rfl, _, _, rfl, rfl, ?_⟩
        have e : decide (lo ≤ i ∧ i ≤ hi) = decide (i ≤ hi) := by simp [c]
        rw [e] at q
        exact q
      · rw [decide_eq_false c]
        have e : decide (lo ≤ i ∧ i ≤ hi) = false := by simp [c]
        rw [e] at q
        exact iteF q
    · exact ⟨_, rfl, _, rfl, .inr ⟨n, _, rfl, iteF q⟩⟩
end
end K02
namespace K02
open PySem PySem.Spec PyProof.Rows L2 WD NS MC GL
open C8 (pss_cut tCut)

abbrev chIndexError : List Value := [.type "IndexError", .type "LookupError", .type "Exception", .type "BaseException", .type "object"]
abbrev sInitN : Stmt := inClass (topS 5) 0
theorem scInitN : FnScope ["self", "value"] ["self", "value"] (defScope sInitN) := ⟨rfl, rfl, rfl, by decide +kernel, rfl, by decide +kernel, by decide +kernel⟩
/-- what the top has written of InvalidNumber -/
structure TxtN (K : PySem.W.Frag) (mg : Str → Option Value) (cN iN : Addr) (dN : FuncData) : Prop where
  c : ErrC K cN chIndexError "IndexError.__new__"
  e : ErrF K cN chIndexError "value"
  iC : PySem.W.findIn K (.ref cN) "__init__" = some (some (.ref iN))
  tI : PySem.W.typeIn K (.ref iN) = some (.type "function")
  ty : PySem.W.typeIn K (.ref cN) = some (.type "type")
  F : Fun K "__init__" "InvalidNumber.__init__" sInitN iN dN
  b : L2.Binds K dN ["self", "value"] []
  g : mg "InvalidNumber" = some (.ref cN)
/-- a state of the machine, or InvalidNumber -/
def spChkS (K : PySem.W.Frag) (cN : Addr) : Sp := fun vs H Q E => ∃ (a : Addr) (m : MachM) (x : V), vs = [.ref a, x] ∧ Kz H (.ref a) m.key ∧
  ((∃ i, x = .int i ∧ 0 ≤ i ∧ i < m.size ∧ Q .non H) ∨ ((NotInt K H x ∨ ∃ i, x = .int i ∧ ¬ (0 ≤ i ∧ i < m.size)) ∧ ∀ H' dx, Same H H' → H' dx = some (.xd [("value", x)]) → E (.ref cN) (some dx) H'))
section
variable {P : Program} {w : World} {K : PySem.W.Frag} {mg : Str → Option Value} {base : Heap} {fW fF cN iN : Addr} {dW dF dN : FuncData}
theorem ok_InitN {f : Addr} {fd : FuncData} (F : Fun K "__init__" "InvalidNumber.__init__" sInitN f fd) : FnOk P w K mg base CX0 1 f fd ["self", "value"] (spEinit K chIndexError "value") := by
  refine F.ok scInitN (fun vs H Q E h => ?_) (fun cdv A outer s H vs Q E hr h => ?_)
  · obtain ⟨a, C, t, y, rfl, _⟩ := h
    rfl
  · obtain ⟨a, C, t, y, rfl, ea, T, hd, q⟩ := h
    exact ⟨_, pss_one (ps_est PySem.F.store_IndexError (pv 0) (pv 1)), _, rfl, _, rfl, a, C, t, rfl, ea, T, hd, q⟩
theorem scChkS : FnScope ["machine", "state"] ["machine", "state"] (defScope sChkS) := ⟨rfl, rfl, rfl, by decide +kernel, rfl, by decide +kernel, by decide +kernel⟩
theorem ok_ChkS {f : Addr} {fd : FuncData} (F : Fun K "check_state" "check_state" sChkS f fd) (T : TxtI K mg fW fF dW dF) (N : TxtN K mg cN iN dN) : FnOk P w K mg base (L2.CX P w) 3 f fd ["machine", "state"] (spChkS K cN) := by
  have GF : FnOk P w K mg base CX0 2 fF dF ["value", "least", "most"] (spWhF K) := ok_IsWF T.F T
  have GI : FnOk P w K mg base CX0 1 iN dN ["self", "value"] (spEinit K chIndexError "value") := ok_InitN N.F
  refine F.okX scChkS (fun vs H Q E h => ?_) (fun cdv A outer s H vs Q E hr h => ?_)
  · obtain ⟨a, m, x, rfl, _⟩ := h
    rfl
  · obtain ⟨a, m, x, rfl, hm, h⟩ := h
    have hr1 : Room 1 _ := hr.mono (by decide)
    refine ⟨_, pss_one (ps_if (pt_not (pt_val (pe_call GF hr (by rfl) T.gF T.F.kp T.bF .nil pass0 (pa_cons (pv 1) (pa_cons pe_int (pa_cons (pe_op op_sub (pe_ix ix_tup (pv 0) pe_int (fun _ _ => rfl)) pe_int) pa_nil))))))
      (pss_one (ps_raise rfl (takes_of rfl rfl rfl rfl) (pmk_X rfl (pe_mkE (ps' := []) PySem.F.excBase_IndexError N.c N.e ⟨by decide, by decide, by decide⟩ N.iC N.tI GI hr N.b (by rfl) N.g (pv 1))))) pss_nil), ?_⟩
    obtain ⟨M⟩ := mach_at hm
    refine ⟨_, rfl, _, rfl, a, _, 0, .int m.size, rfl, rfl, SqT.of M.top, atI_nat (j := 0) rfl, _, _, rfl, rfl, x, 0, _, rfl, ?_⟩
    -- InvalidNumber(state)
    have go : (∀ H' dx, Same H H' → H' dx = some (.xd [("value", x)]) → E (.ref cN) (some dx) H') → tMkE cN "value" (tVar 1) (L2.start ["machine", "state"] [.ref a, x]) H (fun y H1 => ∃ (b C t : Addr) (d : Option Addr), y = .ref b ∧ H1 b = some (exT b C d t) ∧ Fr0 H b ∧
        Raises (cxOf (L2.CX P w) P w K mg base ["machine", "state"] "check_state" (defScope sChkS) f cdv A outer s H E) (.ref C) ∧ E (.ref C) d (delH H1 b)) := fun q => by
      refine ⟨x, rfl, fun b t dx nb nd ne => ⟨b, cN, t, some dx, rfl, upd_same, fr0_none nb, raises_X N.c N.ty, ?_⟩⟩
      rw [delH_two nb ne]
      exact q _ dx (same_upd nd) upd_same
    rcases h with ⟨i, rfl, i0, i1, q⟩ | ⟨bad, q⟩
    · refine .inl ⟨i, rfl, _, rfl, ?_⟩
      have e : decide (0 ≤ i ∧ i ≤ (m.size : Int) - 1) = true := decide_eq_true ⟨i0, by omega⟩
      rw [e]
      exact q
    · rcases bad with n | ⟨i, rfl, n⟩
      · exact .inr ⟨n, _, rfl, go q⟩
      · refine .inl ⟨i, rfl, _, rfl, ?_⟩
        have e : decide (0 ≤ i ∧ i ≤ (m.size : Int) - 1) = false := decide_eq_false fun z => n ⟨z.1, by omega⟩
        rw [e]
        exact go q
end
end K02
/-! x in a tuple of texts, x of any kind. -/
namespace IT
open PySem PySem.Spec PyProof.Rows L2 SeqAt
section
variable {A : Around} {s : Shared}
theorem str_declines_dict (b : Str) (u : Tok) (l : Addr) (es : Array DictEntry) (ep : Nat) (dd : Option Addr) (sl : Array (Option Value)) :
    Meets (Builtin.«str.__eq__» ⟨[.str b u, .ref l], []⟩) (fun _ R s => s.heap.get? l = some { cls := .type "dict", dict := dd, data := .dict es ep, slots := sl } ∧ R (.ok (.ret .notImplemented)) s) :=
  .of_wp fun prog w A R s h => by
    obtain ⟨hp, g, d, tk, os⟩ := s
    obtain ⟨hl, h⟩ := h
    wp_walk using wpAny_loadPart' hl, wpAny_load hl
    exact ⟨_, rfl, h⟩
theorem dict_declines_str (b : Str) (u : Tok) (l : Addr) (es : Array DictEntry) (ep : Nat) (dd : Option Addr) (sl : Array (Option Value)) :
    Meets (Builtin.«dict.__eq__» ⟨[.ref l, .str b u], []⟩) (fun _ R s => s.heap.get? l = some { cls := .type "dict", dict := dd, data := .dict es ep, slots := sl } ∧ R (.ok (.ret .notImplemented)) s) :=
  .of_wp fun prog w A R s h => by
    obtain ⟨hp, g, d, tk, os⟩ := s
    obtain ⟨hl, h⟩ := h
    wp_walk using wpAny_loadPart' hl, wpAny_load hl
    refine wpAny_of_eq F.sub_str_dict ?_
    wp_walk using wpAny_loadPart' hl, wpAny_load hl
    exact ⟨_, rfl, h⟩
theorem rc_str_dict {l : Addr} {es : Array DictEntry} {ep : Nat} (b : Str) (u : Tok) (hl : ∃ o, s.heap.get? l = some o ∧ o.cls = .type "dict" ∧ o.data = .dict es ep) (hu : A.units < cLine) : RcAt A s (.str b u) (.ref l) false := fun prog w E Q h => by
  obtain ⟨⟨cls, dd, data, sl⟩, ho, hc, hd⟩ := id hl
  simp only at hc hd
  subst hc hd
  exact rc_eq_decline_or (k := false) (typeIs_str s b u) ⟨_, ho, rfl⟩ (by decide) F.sub_dict_str F.slot_str_eq F.slot_dict_eq_refl
    (fun _ hq => call_meets F.slot_str_eq (typeIs_str s b u) F.entry_str_eq (F.args_str_eq_2 _ _) (str_declines_dict b u l es ep dd sl) ⟨ho, hq⟩)
    (fun _ hq => call_meets F.slot_dict_eq_refl ⟨_, ho, rfl⟩ F.entry_dict_eq (F.args_dict_eq_2 _ _) (dict_declines_str b u l es ep dd sl) ⟨ho, hq⟩)
    (fun _ hq => wpAny_of_eq (rfl : isSame (.str b u) (.ref l) = pure false) hq) (.inr hu) h
theorem eq_str_dict {l : Addr} {es : Array DictEntry} {ep : Nat} (b : Str) (u : Tok) (hl : ∃ o, s.heap.get? l = some o ∧ o.cls = .type "dict" ∧ o.data = .dict es ep) (hu : A.units < cLine) : EqAt A s (.str b u) (.ref l) false := fun prog w E Q h => by
  unfold eqBool
  exact wpAny_holding (wpAny_ite_split (fun hab => absurd (eq_of_beq hab) nofun) fun _ => wpAny_bind (rc_str_dict b u hl hu prog w E _ (wpAny_truthy_bool h)))
end
/-- a value that is no text -/
inductive NotStr (K : PySem.W.Frag) (H : Hp) : V → Prop
  | non : NotStr K H .non
  | bl (b : Bool) : NotStr K H (.bl b)
  | int (i : Int) : NotStr K H (.int i)
  | lst {a : Addr} {xs : List V} : SqL K H a xs → NotStr K H (.ref a)
  | tup {a : Addr} {xs : List V} : SqT K H a xs → NotStr K H (.ref a)
  | emp {a : Addr} {kvs : List (Key × V)} : H a = some (.dK kvs) → NotStr K H (.ref a)
section
variable {X : Cx} {pins : List (Addr × Obj)} {σ : L2.St} {H : Hp} {s : Shared}
theorem NotStr.eq {A : Around} (I : Inv X pins σ H s) {x : V} {v : Value} (n : NotStr X.K H x) (r : RelV x v) (y : Str) (u : Tok) (hu : A.units < cLine) : EqAt A s (.str y u) v false := by
  cases n with
  | non => cases r; exact EqAt.str_none y u
  | bl b => cases r; exact EqAt.str_bool y u b
  | int i => obtain ⟨t, rfl⟩ := r; exact EqAt.str_int y u i t
  | lst h => cases r; obtain ⟨its, _, pl, _⟩ := I.list h; exact EqAt.str_list y u pl.isList hu
  | tup h => cases r; obtain ⟨its, _, pt, _⟩ := I.tuple h; exact EqAt.str_tuple y u pt hu
  | @emp a kvs e =>
    cases r
    obtain ⟨_, ns, vs, kv, o, es, ep, ho, hx, hd, _⟩ := (show ObjOk X.prog X.w H s.heap _ (.dK kvs) from I.hok _ _ e)
    exact eq_str_dict y u ⟨o, ho, hx.1, hd⟩ hu
/-- x in ws, a tuple of texts -/
def rInS (K : PySem.W.Frag) (neg : Bool) : R2 := fun x y H Q => ∃ (p : Addr) (ws : List Str), y = .ref p ∧ SqT K H p (ws.map V.str) ∧ ((∃ z, x = .str z ∧ Q (.bl (if neg = true then !decide (z ∈ ws) else decide (z ∈ ws))) H) ∨ (NotStr K H x ∧ Q (.bl neg) H))
theorem strs_vals : ∀ {ws : List Str} {us : List Value}, Vals (ws.map V.str) us → ∀ u ∈ us, ∃ y t, u = Value.str y t
  | [], _, .nil, u, h => (nomatch h)
  | y :: ws, _, .cons ⟨t, e⟩ r, u, h => (List.mem_cons.mp h).elim (fun z => ⟨y, t, z.trans e⟩) (strs_vals r u)
def isT (z : Str) (v : Value) : Bool := match v with
  | .str y _ => y == z
  | _ => false
theorem any_isT {z : Str} : ∀ {ws : List Str} {us : List Value}, Vals (ws.map V.str) us → us.any (isT z) = decide (z ∈ ws)
  | [], _, .nil => by simp
  | y :: ws, _, .cons ⟨t, e⟩ r => by
    subst e
    rw [List.any_cons, any_isT r]
    show ((y == z) || decide (z ∈ ws)) = decide (z ∈ y :: ws)
    by_cases h : y = z
    · simp [h]
    · have h' : ¬ z = y := fun e => h e.symm
      simp [h, h']
theorem op_inS (hu : X.A.units + 64 < cLine) : OpR X (compareOp .In) (rInS X.K false) := by
  intro pins s σ H x y v u Q I rx ry h
  obtain ⟨p, ws, rfl, hq, h⟩ := h
  cases ry
  obtain ⟨its, r, pt, _⟩ := I.tuple hq
  have u1 : X.A.in1.units < cLine := by rw [Around.in1_units]; omega
  rcases h with ⟨z, rfl, q⟩ | ⟨n, q⟩
  · obtain ⟨tk, rfl⟩ := rx
    refine in_tupleAt (isT z) pt (fun w hw => ?_) ⟨.bl _, H, I, rfl, ?_⟩
    · obtain ⟨y, t, rfl⟩ := strs_vals r w (by simpa using hw)
      exact EqAt.str_str y t z tk
    · rw [show its.toArray.any (isT z) = its.any (isT z) by simp, any_isT r]
      exact q
  · refine in_tupleAt (fun _ => false) pt (fun w hw => ?_) ⟨.bl _, H, I, rfl, ?_⟩
    · obtain ⟨y, t, rfl⟩ := strs_vals r w (by simpa using hw)
      exact n.eq I rx y t u1
    · rw [show its.toArray.any (fun _ => false) = false by simp]
      exact q
theorem op_notInS (hu : X.A.units + 64 < cLine) : OpR X (compareOp .NotIn) (rInS X.K true) := by
  intro pins s σ H x y v u Q I rx ry h
  obtain ⟨p, ws, rfl, hq, h⟩ := h
  cases ry
  obtain ⟨its, r, pt, _⟩ := I.tuple hq
  have u1 : X.A.in1.units < cLine := by rw [Around.in1_units]; omega
  rcases h with ⟨z, rfl, q⟩ | ⟨n, q⟩
  · obtain ⟨tk, rfl⟩ := rx
    refine notIn_tupleAt (isT z) pt (fun w hw => ?_) ⟨.bl _, H, I, rfl, ?_⟩
    · obtain ⟨y, t, rfl⟩ := strs_vals r w (by simpa using hw)
      exact EqAt.str_str y t z tk
    · rw [show its.toArray.any (isT z) = its.any (isT z) by simp, any_isT r]
      exact q
  · refine notIn_tupleAt (fun _ => false) pt (fun w hw => ?_) ⟨.bl _, H, I, rfl, ?_⟩
    · obtain ⟨y, t, rfl⟩ := strs_vals r w (by simpa using hw)
      exact n.eq I rx y t u1
    · rw [show its.toArray.any (fun _ => false) = false by simp]
      exact q
end
end IT
/-! enumerate(t), t a tuple. -/
namespace ET
open PySem PySem.Spec PyProof.Rows L2
open AutoSeq1 (wpAny_loadPart')
theorem new_tuple (l : Addr) (items : Array Value) (n : Nat) (dct : Option Addr) (sl : Array (Option Value)) :
    Meets (Builtin.«enumerate.__new__» ⟨[.type "enumerate", .ref l], []⟩) (fun _ R s => s.heap.get? l = some { cls := .type "tuple", dict := dct, data := .seq items n, slots := sl } ∧
      R (.ok (.ret (.ref (s.heap.push { cls := .type "tuple_iterator", data := .fields #[.ref l, .int 0 0] }).objs.size)))
        { s with heap := (s.heap.push { cls := .type "tuple_iterator", data := .fields #[.ref l, .int 0 0] }).push { cls := .type "enumerate", data := .fields #[.none, .bool false, .ref s.heap.objs.size, rawInt 0, .none, .none] } }) :=
  .of_wp fun prog w A R s h => by
    obtain ⟨hp, g, d, tk, os⟩ := s
    obtain ⟨hl, h⟩ := h
    have sub := sub_enumerate
    have tup : Heap.IsTuple (Shared.heap ⟨hp, g, d, tk, os⟩) l items := ⟨_, hl, rfl, n, rfl⟩
    wp_walk using wpAny_loadPart' hl
    refine wpAny_stack_any fun st => wpAny_pure ?_
    split
    · rename_i c _ _ _ _ _
      cases (c == Value.type "enumerate") <;> (wp_walk using wpAny_loadPart' hl, wpAny_pyIter_tuple tup) <;> exact ⟨_, rfl, h⟩
    · wp_walk using wpAny_loadPart' hl, wpAny_pyIter_tuple tup
      exact ⟨_, rfl, h⟩
section
variable {P : Program} {w : World} {A : Around} {E : Value → Shared → Prop} {s : Shared}
theorem call_enumT {l : Addr} {items : Array Value} {Q : Value → Shared → Prop} (hL : s.heap.IsTuple l items)
    (q : ∀ h1, IsEnum h1 (s.heap.objs.size + 1) s.heap.objs.size 0 .none → h1.IsTupleIter s.heap.objs.size l 0 → (∀ b o, s.heap.get? b = some o → h1.get? b = some o) → Q (.ref (s.heap.objs.size + 1)) { s with heap := h1 }) :
    wpAny (model P w) A (call (.type "enumerate") [.ref l]) Q E s := by
  obtain ⟨⟨c, dct, dt, sl⟩, hl, hc, n, hd⟩ := hL
  simp only at hc hd
  subst hc hd
  have sz : (s.heap.push { cls := .type "tuple_iterator", data := .fields #[.ref l, .int 0 0] }).objs.size = s.heap.objs.size + 1 := Heap.size_push ..
  refine callType_new F.called_enumerate (by decide) (F.typeCall_enumerate_1 _) (F.newCall_enumerate_1 _) (fun obj => F.args_object_init_2 obj _) F.entry_enumerate_new (new_tuple l items n dct sl) ⟨hl, ?_⟩
  refine (show _ ∧ _ from ?_)
  rw [sz]
  have en : IsEnum ((s.heap.push { cls := .type "tuple_iterator", data := .fields #[.ref l, .int 0 0] }).push { cls := .type "enumerate", data := .fields #[.none, .bool false, .ref s.heap.objs.size, rawInt 0, .none, .none] }) (s.heap.objs.size + 1) s.heap.objs.size 0 .none := by
    have z := Heap.get?_push_size (s.heap.push { cls := .type "tuple_iterator", data := .fields #[.ref l, .int 0 0] }) (o := { cls := .type "enumerate", data := .fields #[.none, .bool false, .ref s.heap.objs.size, rawInt 0, .none, .none] }) rfl
    rw [sz] at z
    exact z
  exact ⟨⟨_, en, rfl⟩, q _ en ⟨_, Heap.get?_push_of_some _ (Heap.get?_push_size _ rfl), rfl, rfl⟩ fun b o x => Heap.get?_push_of_some _ (Heap.get?_push_of_some _ x)⟩
end
/-- the tuple at a, each item in a new pair -/
def IteT (K : PySem.W.Frag) (a : Addr) : It :=
  ⟨fun i H => ∃ (xs : List V) (x : V), SqT K H a xs ∧ xs[i]? = some x, fun i H v H' => ∃ T x, v = .ref T ∧ H T = none ∧ H' = upd H T (.tup [.int (i : Nat), x]) ∧ ∀ xs, SqT K H a xs → xs[i]? = some x, fun i H => ∃ xs : List V, SqT K H a xs ∧ xs.length = i⟩
theorem apart {h : Heap} {a b : Addr} {o u : Obj} (ha : h.get? a = some o) (hb : h.get? b = some u) (n : o.cls ≠ u.cls) : a ≠ b := fun z => by
  subst z
  rw [ha] at hb
  cases hb
  exact n rfl
theorem tup_inj {X : Cx} {pins : List (Addr × Obj)} {σ : L2.St} {H : Hp} {s : Shared} {a : Addr} {xs ys : List V} (I : Inv X pins σ H s) (hx : SqT X.K H a xs) (hy : SqT X.K H a ys) : xs = ys := I.tuple_inj hx hy
theorem turn_enumT {P : Program} {w : World} {K : PySem.W.Frag} {elts : List Expr} {kk : Nat} {tpos : Pos} (a e it : Addr) :
    Turn P w K (.Tuple elts kk tpos) (IteT K a) [e, it] e (fun i h => (∃ old, IsEnum h e it ((i : Nat) : Int) old) ∧ h.IsTupleIter it a i ∧ e ≠ it) where
  mem := by simp
  obj := fun i h st b hb => by
    obtain ⟨⟨old, he⟩, ⟨o, ho, hc, hd⟩, _⟩ := st
    rcases List.mem_cons.mp hb with z | z
    · rw [z]; exact ⟨_, he, fun v q => (nomatch q)⟩
    · rw [List.mem_singleton.mp z]; exact ⟨o, ho, fun v q => by rw [hd] at q; cases q⟩
  keep := fun i h h' st k => ⟨st.1.imp fun _ he => k e (by simp) _ he, st.2.1.at fun o q => k it (by simp) o q, st.2.2⟩
  item := by
    intro X hP hw hK hc i pins s σ H E I hf st hg
    subst hP hw hK
    obtain ⟨⟨old, he⟩, hit, hne⟩ := st
    obtain ⟨xs, x, hq, hx⟩ := hg
    obtain ⟨its, rv, p, hz⟩ := I.tuple hq
    obtain ⟨u, hu, ru⟩ := rv.get hx
    have hu' : its.toArray[i]? = some u := by simpa using hu
    have hlt : i < its.toArray.size := (Array.getElem?_eq_some_iff.mp hu').1
    obtain ⟨oa, hoa, hca, na, hda⟩ := id p
    obtain ⟨oi, hoi, hci, hdi⟩ := id hit
    have ai : a ≠ it := apart hoa hoi (by rw [hca, hci]; decide)
    have ea : e ≠ a := apart he hoa (by rw [hca]; exact fun z => absurd (Value.type.inj (show Value.type "enumerate" = Value.type "tuple" from z)) (by decide))
    have hel : e < s.heap.objs.size := Heap.lt_size he
    have hil : it < s.heap.objs.size := Heap.lt_size hoi
    refine wpAny_pyNext_enum_itemD (Draws.tuple (A := X.A.in1) (by rw [Around.in1_handled]; exact I.ok.hd hc) it a ai its.toArray) he ⟨hit, p⟩ hlt hne (by simp [hne, ea]) fun y h1 tk py ho hit1 hT hsz hk => ?_
    have ey : y = u := Option.some.inj (py.symm.trans hu')
    subst ey
    refine ⟨_, rfl, wpAny_letOwnedTupleGo_enum (s := { s with heap := h1, toks := tk + 1 }) ho fun h2 he2 sb => ?_⟩
    have T2 : h2.get? s.heap.objs.size = some { cls := .type "tuple", data := .seq #[.int i tk, y] } := (sb.2 _ (Nat.ne_of_gt hel)).trans hT
    have new : ObjOk X.prog X.w (upd H s.heap.objs.size (.tup [.int (i : Nat), x])) h2 s.heap.objs.size (.tup [.int (i : Nat), x]) :=
      ⟨by show 2 ≤ sizeLine; decide, [.int i tk, y], .cons ⟨_, rfl⟩ (.cons ru .nil), ⟨_, T2, rfl, _, rfl⟩⟩
    have J : Inv X pins σ (upd H s.heap.objs.size (.tup [.int (i : Nat), x])) { s with heap := h2, toks := tk + 1 } :=
      I.turnedNew (ch := [e, it]) (fun b ob hb q => (sb.2 b (fun z => hb (by simp [z]))).trans (hk b ob (fun z => hb (by simp [z])) (fun z => hb (by simp [z])) q)) hf (Nat.le_refl _) new
    refine ⟨.ref s.heap.objs.size, _, J, rfl, ⟨_, x, rfl, I.hok.fresh (Nat.le_refl _), rfl, fun ys hy => by rw [tup_inj I hy hq]; exact hx⟩, ⟨⟨y, ?_⟩, hit1.1.at fun o q => (sb.2 it (Ne.symm hne)).trans q, hne⟩, fun b hb => ?_⟩
    · rw [show ((i + 1 : Nat) : Int) = (i : Int) + 1 by omega]
      exact he2
    · have lt : b < s.heap.objs.size := (List.mem_cons.mp hb).elim (fun z => z ▸ hel) fun z => List.mem_singleton.mp z ▸ hil
      rw [upd_ne (Nat.ne_of_lt lt)]
      exact (hf b hb).1
  done := by
    intro X hP hw hK hc i pins s σ H E I hf st hg
    subst hP hw hK
    obtain ⟨⟨old, he⟩, hit, hne⟩ := st
    obtain ⟨xs, hq, hx⟩ := hg
    obtain ⟨its, rv, p, hz⟩ := I.tuple hq
    obtain ⟨oa, hoa, hca, na, hda⟩ := id p
    obtain ⟨oi, hoi, hci, hdi⟩ := id hit
    have ai : a ≠ it := apart hoa hoi (by rw [hca, hci]; decide)
    obtain ⟨f0, f1, f2, f3, f4, f5⟩ := hf it (by simp)
    have n0 : i = its.toArray.size := by
      rw [← hx, List.size_toArray]
      exact rv.length
    rw [n0] at hit
    exact wpAny_pyNext_enum_endD (Draws.tuple (A := X.A.in1) (by rw [Around.in1_handled]; exact I.ok.hd hc) it a ai its.toArray) he ⟨hit, p⟩ fun h1 eb => ⟨rfl, I.turned (t' := s.toks) (fun b o hb q => eb b o hb q) f0 f1 f3 f4 f5⟩
  self := fun A i s Q E st h => let ⟨⟨_, he⟩, _⟩ := st; wpAny_pyIter_enum he h
def iEnumT (K : PySem.W.Frag) (ta : TA) : TI := fun σ H R => ta σ H fun vs H1 => ∃ a xs, vs = [.ref a] ∧ SqT K H1 a xs ∧ R (IteT K a) H1
theorem pi_enumT {X : Cx} {e : Expr} {ta : TA} {p pos tpos : Pos} {elts : List Expr} {kk : Nat} (hg : Gl X "enumerate") (hm : X.mg "enumerate" = none) (ha : PA X [e] ta) (hs : starEach [e] X.env = [(false, eval e X.env)] := by rfl) :
    PI X (.Tuple elts kk tpos) (.Call (.Name "enumerate" p) [e] [] pos) (iEnumT X.K ta) := by
  constructor
  intro pins s σ H R I h
  refine Call_ (ld_blt I hg hm boot_enumerate (PyProof.Rows.callWith_type1 (thn (ha.run pos pins s σ H _ I h) fun us s1 z => ?_) hs rfl))
  obtain ⟨vs, H1, J, r1, a, xs, rfl, hq, q⟩ := z
  cases r1 with
  | cons r rr =>
    cases rr
    cases r
    obtain ⟨its, rv, pt, hz⟩ := J.tuple hq
    refine call_enumT pt fun h1 he hit hk => wpAny_pyIter_enum he ?_
    have le : ∀ b ∈ [s1.heap.objs.size + 1, s1.heap.objs.size], s1.heap.objs.size ≤ b := fun b hb => (List.mem_cons.mp hb).elim (fun z => z ▸ Nat.le_succ _) fun z => List.mem_singleton.mp z ▸ Nat.le_refl _
    exact ⟨s1.heap.objs.size + 1, [s1.heap.objs.size + 1, s1.heap.objs.size], _, _, H1, rfl, J.kept (t' := s1.toks) hk, turn_enumT a (s1.heap.objs.size + 1) s1.heap.objs.size, ⟨⟨.none, he⟩, hit, Nat.succ_ne_self _⟩, fun b hb => J.fpOk (le b hb) (J.hok.fresh (le b hb)), q⟩
theorem walk_enumT {K : PySem.W.Frag} {a : Addr} {xs : List V} : Walk (IteT K a) xs.length (fun H => SqT K H a xs) (YPair (fun i => some (.int (i : Nat))) fun i => xs[i]?) :=
  ⟨fun i _ hi q => ⟨xs, xs[i], q, by simp [hi]⟩, fun _ q => ⟨xs, q, rfl⟩, fun i _ _ _ _ q ⟨T, x, e1, e2, e3, e4⟩ => ⟨T, .int (i : Nat), x, e1, e2, e3, rfl, e4 xs q⟩⟩
end ET
namespace K02
open PySem PySem.Spec PyProof.Rows L2 WD NS MC GL
open C8 (pss_cut tCut)
abbrev sTrans : Stmt := topS 25
theorem tyOf_same {K : PySem.W.Frag} {H H' : Hp} {x : V} {t : Value} (s : Same H H') (h : TyOf K H x t) : TyOf K H' x t := by
  cases h with
  | non => exact .non
  | bl b => exact .bl b
  | int i => exact .int i
  | str x => exact .str x
  | flt x => exact .flt x
  | lst e => exact .lst (s _ _ e)
  | frz e => exact .frz (s _ _ e)
  | tup e => exact .tup (s _ _ e)
  | dK e => exact .dK (s _ _ e)
  | dT e => exact .dT (s _ _ e)
  | ins e c1 c2 c3 c4 c5 => exact .ins (s _ _ e) c1 c2 c3 c4 c5
theorem tyX_same {K : PySem.W.Frag} {H H' : Hp} {x : V} {t : Value} (s : Same H H') (h : TyX K H x t) : TyX K H' x t := by
  cases h with
  | base h => exact .base (tyOf_same s h)
  | byt b => exact .byt b
  | set e => exact .set (s _ _ e)
  | kList e c => exact .kList e c
  | kTuple e c => exact .kTuple e c
  | kDict e c => exact .kDict e c
  | fTuple e => exact .fTuple (s _ _ e)
  | fDict e => exact .fDict (s _ _ e)
theorem NotInt.same {K : PySem.W.Frag} {H H' : Hp} {x : V} (s : Same H H') (h : NotInt K H x) : NotInt K H' x := let ⟨ty, m, t⟩ := h; ⟨ty, m, tyX_same s t⟩
/-- a machine, or InvalidMachine -/
def spChkM (K : PySem.W.Frag) (Bad : Hp → V → Prop) (cM : Addr) : Sp := fun vs H Q E => ∃ v : V, vs = [v] ∧ ((∃ (a : Addr) (m : MachM), v = .ref a ∧ Kz H (.ref a) m.key ∧ m.Ok ∧ ∀ H', Same H H' → Q .non H') ∨ (Bad H v ∧ ∀ H', Same H H' → E (.ref cM) none H'))
/-- the indices of a state's rows, from n on -/
def idxs (st : Int) : Nat → List RowM → List Int
  | _, [] => []
  | n, r :: rs => if r.before = st then (n : Int) :: idxs st (n + 1) rs else idxs st (n + 1) rs
theorem idxs_snoc (st : Int) (r : RowM) : ∀ (rs : List RowM) (n : Nat), idxs st n (rs ++ [r]) = idxs st n rs ++ (if r.before = st then [((n + rs.length : Nat) : Int)] else [])
  | [], n => by
    show (if r.before = st then [(n : Int)] else []) = _
    simp [idxs]
  | q :: rs, n => by
    have e : n + 1 + rs.length = n + (rs.length + 1) := by omega
    rw [List.cons_append, idxs, idxs, idxs_snoc st r rs (n + 1), List.length_cons, e]
    by_cases h : q.before = st
    · rw [if_pos h, if_pos h, List.cons_append]
    · rw [if_neg h, if_neg h]
theorem idxs_len (st : Int) : ∀ (rs : List RowM) (n : Nat), (idxs st n rs).length ≤ rs.length
  | [], _ => Nat.le_refl _
  | q :: rs, n => by
    rw [idxs]
    have z := idxs_len st rs (n + 1)
    split
    · rw [List.length_cons, List.length_cons]; omega
    · rw [List.length_cons]; omega
def spTrans (K : PySem.W.Frag) (Bad : Hp → V → Prop) (cM cN : Addr) : Sp := fun vs H Q E => ∃ v x : V, vs = [v, x] ∧
  ((Bad H v ∧ ∀ H', Same H H' → E (.ref cM) none H') ∨ ∃ (a : Addr) (m : MachM), v = .ref a ∧ Kz H (.ref a) m.key ∧ m.Ok ∧
    ((∃ i, x = .int i ∧ 0 ≤ i ∧ i < m.size ∧ ∀ H' p, Same H H' → H p = none → H' p = some (.tup ((idxs i 0 m.rows).map V.int)) → Q (.ref p) H') ∨
     ((NotInt K H x ∨ ∃ i, x = .int i ∧ ¬ (0 ≤ i ∧ i < m.size)) ∧ ∀ H' dx, Same H H' → H' dx = some (.xd [("value", x)]) → E (.ref cN) (some dx) H')))
structure TxtC (K : PySem.W.Frag) (mg : Str → Option Value) (fM fS : Addr) (dM dS : FuncData) : Prop where
  kM : PySem.W.keepIn K (.ref fM) = true
  bM : L2.Binds K dM ["machine"] []
  gM : mg "check_machine" = some (.ref fM)
  S : Fun K "check_state" "check_state" sChkS fS dS
  bS : L2.Binds K dS ["machine", "state"] []
  gS : mg "check_state" = some (.ref fS)
abbrev nTr : List Str := ["machine", "state", "index", "transition"]
theorem scTrans : FnScope nTr ["machine", "state"] (defScope sTrans) := ⟨rfl, rfl, rfl, by decide +kernel, rfl, by decide +kernel, by decide +kernel⟩
section
variable {P : Program} {w : World} {K : PySem.W.Frag} {mg : Str → Option Value} {base : Heap} {fW fF cM cN iN fM fS : Addr} {dW dF dN dM dS : FuncData} {Bad : Hp → V → Prop} {k : Nat}
theorem ok_Trans {f : Addr} {fd : FuncData} (F : Fun K "transitions_at" "transitions_at" sTrans f fd) (T : TxtI K mg fW fF dW dF) (N : TxtN K mg cN iN dN) (C : TxtC K mg fM fS dM dS) (TD : TxtD mg) (TS : TxtS mg) (hk : 3 ≤ k)
    (GM : FnOk P w K mg base (L2.CX P w) k fM dM ["machine"] (spChkM K Bad cM)) : FnOk P w K mg base (L2.CX P w) (k + 1) f fd ["machine", "state"] (spTrans K Bad cM cN) := by
  have GS : FnOk P w K mg base (L2.CX P w) 3 fS dS ["machine", "state"] (spChkS K cN) := ok_ChkS C.S T N
  refine F.okX scTrans (fun vs H Q E h => ?_) (fun cdv A outer s H vs Q E hr h => ?_)
  · obtain ⟨v, x, rfl, _⟩ := h
    rfl
  · obtain ⟨v, x, rfl, h⟩ := h
    have hr3 : Room 3 _ := hr.mono hk
    refine ⟨_, pss_cut (ps_expr (pe_callS GM hr (by rfl) C.gM C.kM C.bM (passAt (takes_of rfl rfl rfl rfl)) (pa_cons (pv 0) pa_nil)))
      (pss_cut (ps_expr (pe_callS GS hr3 (by rfl) C.gS C.S.kp C.bS (passAt (takes_of rfl rfl rfl rfl)) (pa_cons (pv 0) (pa_cons (pv 1) pa_nil))))
      (pss_one (ps_ret (pe_callTy call_tuple_of (by rfl) TS.tuple (by decide +kernel) (pa_cons (pe_lc (own := [("index", 2), ("transition", 3)]) (g := gTup K 2 (gCons (gName 2) (gCons (gName 3) gNil))) (tt := tTest (tOp rEq (tOp (rIxT K) (tVar 3) (tC (.int 0))) (tVar 1))) (te := tVar 2) rfl scTrans.nd
        (ET.pi_enumT (by rfl) TD.enumerate (pa_cons (pe_ix ix_tup (pv 0) pe_int (fun _ _ => rfl)) pa_nil)) (blkOk_by (own := [("index", 2), ("transition", 3)]) (N := nTr) (sc := defScope sTrans) (by decide +kernel))
        (fun _ _ _ _ _ => pg_tup rfl (pgs_cons (pg_name (i := 2) scTrans.nd rfl (.inl rfl)) (pgs_cons (pg_name (i := 3) scTrans.nd rfl (.inl rfl)) pgs_nil)))
        (fun _ _ _ _ _ => pts_one (pt_cmpR op_eq (pe_ix (show IxR _ (rIxT K) from ix_tup) (pv 3) pe_int (fun _ _ => rfl)) (pv 1) (nomark _)))
        (fun _ _ _ _ _ => pv 2)) pa_nil))))), ?_⟩
    rcases h with ⟨bad, q⟩ | ⟨a, m, rfl, hm, ok, h⟩
    · refine ⟨fun _ _ => False, ⟨_, rfl, v, rfl, .inr ⟨bad, q⟩⟩, fun _ _ z => z.elim⟩
    refine ⟨fun σ' H' => σ' = [some (.ref a), some x, none, none] ∧ Same H H', ⟨_, rfl, _, rfl, .inl ⟨a, m, rfl, hm, ok, fun H' s' => ⟨rfl, s'⟩⟩⟩, ?_⟩
    rintro σ1 H1 ⟨rfl, s1⟩
    have hm1 := Kz.same s1 _ _ hm
    rcases h with ⟨i, rfl, i0, i1, q⟩ | ⟨bad, q⟩
    · refine ⟨fun σ' H' => σ' = [some (.ref a), some (.int i), none, none] ∧ H' = H1, ⟨_, rfl, _, rfl, a, m, .int i, rfl, hm1, .inl ⟨i, rfl, i0, i1, rfl, rfl⟩⟩, ?_⟩
      rintro σ2 H2 ⟨rfl, rfl⟩
      obtain ⟨M⟩ := mach_at hm1
      have lx : M.xs.length = m.rows.length := by
        have z := kz_len M.all
        rw [List.length_map] at z
        exact z
      refine ⟨_, rfl, a, _, 2, .ref M.t, rfl, rfl, SqT.of M.top, atI_nat (j := 2) rfl, M.t, M.xs, rfl, SqT.of M.row, fun D nD => ?_⟩
      have sD := same_upd (o := .lst []) nD
      refine lc_it (ET.walk_enumT (xs := M.xs)) (fun j H' => Same H2 H' ∧ H' D = some (.lst ((idxs i 0 (m.rows.take j)).map V.int))) ⟨sD, upd_same⟩ (fun j H' _ z => SqT.of (z.1 _ _ M.row)) ?_ ?_
      · rintro j v H3 H4 hj ⟨s3, e3⟩ ⟨T0, v1, v2, rfl, nT, rfl, z1, z2⟩
        cases z1
        obtain ⟨r, hr', ra, dv, rfl, er, kd⟩ := row_at M.all z2
        have kT := same_upd (o := .tup [.int (j : Nat), .ref ra]) nT
        have s4 := s3.trans kT
        rw [lx] at hj
        have lt : (m.rows.take j).length = j := by rw [List.length_take]; omega
        have nx : m.rows.take (j + 1) = m.rows.take j ++ [r] := by rw [List.take_succ, hr']; rfl
        refine ⟨T0, _, rfl, SqT.of upd_same, rfl, _, _, rfl, _, _, rfl, rfl, rfl, ?_⟩
        refine ⟨_, rfl, ra, _, 0, .int r.before, rfl, rfl, SqT.of (s4 _ _ er), atI_nat (j := 0) rfl, _, rfl, rfl, _, rfl, ifB (fun hb => ?_) fun hb => ?_⟩
        · have eb : r.before = i := by simpa using hb
          refine ⟨_, rfl, _, kT _ _ e3, ?_, fun b' o' eb' => ?_, ?_⟩
          · have z := idxs_len i (m.rows.take j) 0
            have z3 := ok.r3
            rw [List.length_map, sizeLine_eq]
            omega
          · rw [upd_ne (ne_of_none eb' nD)]
            exact s4 _ _ eb'
          · rw [upd_same, nx, idxs_snoc, if_pos eb, lt, List.map_append, Nat.zero_add]
            rfl
        · have nb : ¬ r.before = i := by simpa using hb
          refine ⟨s4, ?_⟩
          rw [kT _ _ e3, nx, idxs_snoc, if_neg nb, List.append_nil]
      · rintro H3 ⟨s3, e3⟩
        rw [lx, List.take_length] at e3
        refine ⟨D, _, rfl, .inl ⟨SqL.of e3, fun p np => ?_⟩⟩
        have k := same_upd (o := .tup ((idxs i 0 m.rows).map V.int)) np
        have ss := s1.trans s3
        exact q _ p (ss.trans k) (ss.free np) upd_same
    · refine ⟨fun _ _ => False, ⟨_, rfl, _, rfl, a, m, x, rfl, hm1, .inr ⟨bad.imp (NotInt.same s1) id, fun H' dx s' e => q H' dx (s1.trans s') e⟩⟩, fun _ _ z => z.elim⟩
end
end K02
namespace K02
open PySem PySem.Spec PyProof.Rows L2 WD NS MC GL
open C8 (pss_cut tCut)
abbrev sLet : Stmt := topS 26
abbrev exS : List Str := ["send", "take"]
/-- word in ('send', 'take') for any value -/
def spIsExA (K : PySem.W.Frag) : Sp := fun vs H Q _ => ∃ x : V, vs = [x] ∧ ((∃ z, x = .str z ∧ ∀ H', Same H H' → Q (.bl (decide (z ∈ exS))) H') ∨ (IT.NotStr K H x ∧ ∀ H', Same H H' → Q (.bl false) H'))
theorem sqT_same {K : PySem.W.Frag} {H H' : Hp} {a : Addr} {xs : List V} (s : Same H H') (h : SqT K H a xs) : SqT K H' a xs := by
  rcases h with (h | ⟨ob, h⟩) | h
  · exact Or.inl (Or.inl (s _ _ h))
  · exact Or.inl (Or.inr ⟨ob, s _ _ h⟩)
  · exact Or.inr h
theorem NotStr.same {K : PySem.W.Frag} {H H' : Hp} {x : V} (s : Same H H') (h : IT.NotStr K H x) : IT.NotStr K H' x := by
  cases h with
  | non => exact .non
  | bl b => exact .bl b
  | int i => exact .int i
  | lst h => exact .lst (s.seq h)
  | tup h => exact .tup (sqT_same s h)
  | emp e => exact .emp (s _ _ e)
section
variable {P : Program} {w : World} {K : PySem.W.Frag} {mg : Str → Option Value} {base : Heap}
theorem ok_IsExA {f : Addr} {fd : FuncData} {k : Nat} (F : Fun K "is_exchange" "is_exchange" sIsEx f fd) (TE : ∃ tE, TxtE K mg tE) : FnOk P w K mg base CX0 (k + 1) f fd ["word"] (spIsExA K) := by
  obtain ⟨tE, gE, sE⟩ := TE
  refine F.ok scIsEx (fun vs H Q E h => ?_) (fun cdv A outer s H vs Q E hr h => ?_)
  · obtain ⟨x, rfl, _⟩ := h
    rfl
  · obtain ⟨x, rfl, h⟩ := h
    have hu := hr.units
    refine ⟨_, pss_one (ps_ret (pe_cmpR (show OpR _ (compareOp .In) (IT.rInS K false) from IT.op_inS hu) (pv 0) (pe_glob (v := .ref tE) rfl gE rfl) (by rfl))), ?_⟩
    refine ⟨_, rfl, tE, exS, rfl, Or.inr sE, ?_⟩
    have k : Same H H := fun _ _ e => e
    rcases h with ⟨z, rfl, q⟩ | ⟨n, q⟩
    · exact .inl ⟨z, rfl, q _ k⟩
    · exact .inr ⟨n, q _ k⟩
end
abbrev chKeyError : List Value := [.type "KeyError", .type "LookupError", .type "Exception", .type "BaseException", .type "object"]
abbrev veC : List Value := [.type "ValueError", .type "Exception", .type "BaseException", .type "object"]
abbrev sInitU : Stmt := inClass (topS 4) 0
theorem scInitU : FnScope ["self", "name"] ["self", "name"] (defScope sInitU) := ⟨rfl, rfl, rfl, by decide +kernel, rfl, by decide +kernel, by decide +kernel⟩
/-- what the top has written of UnknownName, InvalidOperation -/
structure TxtUO (K : PySem.W.Frag) (mg : Str → Option Value) (cU iU cO fX fN : Addr) (dU dX dN : FuncData) : Prop where
  c : ErrC K cU chKeyError "LookupError.__new__"
  e : ErrF K cU chKeyError "name"
  iC : PySem.W.findIn K (.ref cU) "__init__" = some (some (.ref iU))
  tI : PySem.W.typeIn K (.ref iU) = some (.type "function")
  ty : PySem.W.typeIn K (.ref cU) = some (.type "type")
  F : Fun K "__init__" "UnknownName.__init__" sInitU iU dU
  b : L2.Binds K dU ["self", "name"] []
  g : mg "UnknownName" = some (.ref cU)
  oc : ErrC K cO veC "ValueError.__new__"
  oi : PySem.W.findIn K (.ref cO) "__init__" = some (some (.builtin "ValueError.__init__"))
  oty : PySem.W.typeIn K (.ref cO) = some (.type "type")
  og : mg "InvalidOperation" = some (.ref cO)
  E : ∃ tE, TxtE K mg tE
  X : Fun K "is_exchange" "is_exchange" sIsEx fX dX
  bX : L2.Binds K dX ["word"] []
  gX : mg "is_exchange" = some (.ref fX)
  N : Fun K "neighbours_in" "neighbours_in" sNbIn fN dN
  bN : L2.Binds K dN ["machine"] []
  gN : mg "neighbours_in" = some (.ref fN)
/-- the letters of a deed, or the error that is due -/
def spLet (K : PySem.W.Frag) (Bad : Hp → V → Prop) (cM cN cU cO : Addr) : Sp := fun vs H Q E => ∃ v x y o : V, vs = [v, x, y, o] ∧
  ((Bad H v ∧ ∀ H', Same H H' → E (.ref cM) none H') ∨ ∃ (a : Addr) (m : MachM), v = .ref a ∧ Kz H (.ref a) m.key ∧ m.Ok ∧
    (((NotInt K H x ∨ ∃ i, x = .int i ∧ ¬ (0 ≤ i ∧ i < m.size)) ∧ ∀ H' dx, Same H H' → H' dx = some (.xd [("value", x)]) → E (.ref cN) (some dx) H') ∨
     ∃ i, x = .int i ∧ 0 ≤ i ∧ i < m.size ∧
      (((IT.NotStr K H y ∨ ∃ z, y = .str z ∧ z ∉ exS) ∧ ∀ H', Same H H' → E (.ref cO) none H') ∨
       ∃ wd, y = .str (wordOf wd) ∧
        (((IT.NotStr K H o ∨ ∃ z, o = .str z ∧ ¬ ∃ r ∈ m.rows, ∃ b l, r.deed = .ex b z l) ∧ ∀ H' dx, Same H H' → H' dx = some (.xd [("name", o)]) → E (.ref cU) (some dx) H') ∨
         ∃ z, o = .str z ∧ (∃ r ∈ m.rows, ∃ b l, r.deed = .ex b z l) ∧ ∀ H' p (ys : List Str), Same H H' → H p = none → H' p = some (.tup (ys.map V.str)) → ToldOf m i wd z ys → ys.length < 64 → Q (.ref p) H'))))
def stDeed (st : Int) (r : RowM) : Option Deed := if r.before = st then some r.deed else none
def stDeeds (st : Int) (rs : List RowM) : List Deed := rs.filterMap (stDeed st)
theorem stDeeds_next {st : Int} {rs : List RowM} {i : Nat} {r : RowM} (h : rs[i]? = some r) : stDeeds st (rs.take (i + 1)) = stDeeds st (rs.take i) ++ (stDeed st r).toList := by
  rw [List.take_succ, h, stDeeds, stDeeds, List.filterMap_append]
  cases e : stDeed st r with
  | none => simp [e]
  | some x => simp [e]
theorem mem_stDeeds {st : Int} {rs : List RowM} {d : Deed} : d ∈ stDeeds st rs ↔ ∃ r ∈ rs, r.before = st ∧ r.deed = d := by
  rw [stDeeds, List.mem_filterMap]
  constructor
  · rintro ⟨r, hr, e⟩
    unfold stDeed at e
    by_cases h : r.before = st
    · rw [if_pos h] at e
      exact ⟨r, hr, h, Option.some.inj e⟩
    · rw [if_neg h] at e
      exact nomatch e
  · rintro ⟨r, hr, e1, e2⟩
    exact ⟨r, hr, by rw [stDeed, if_pos e1, e2]⟩
def lDeed (wd : Bool) (o : Str) : Deed → Option Str
  | .step => none
  | .ex b n l => if b = wd ∧ n = o then some l else none
theorem lDeeds_next {wd : Bool} {o : Str} {ds : List Deed} {i : Nat} {d : Deed} (h : ds[i]? = some d) : (ds.take (i + 1)).filterMap (lDeed wd o) = (ds.take i).filterMap (lDeed wd o) ++ (lDeed wd o d).toList := by
  rw [List.take_succ, h, List.filterMap_append]
  cases e : lDeed wd o d with
  | none => simp [e]
  | some x => simp [e]
theorem mem_lDeeds {wd : Bool} {o : Str} {ds : List Deed} {x : Str} : x ∈ ds.filterMap (lDeed wd o) ↔ Deed.ex wd o x ∈ ds := by
  rw [List.mem_filterMap]
  constructor
  · rintro ⟨d, hd, e⟩
    cases d with
    | step => exact nomatch e
    | ex b n l =>
      rw [lDeed] at e
      by_cases h : b = wd ∧ n = o
      · rw [if_pos h] at e
        cases e
        rw [← h.1, ← h.2]
        exact hd
      · rw [if_neg h] at e
        exact nomatch e
  · intro hd
    exact ⟨_, hd, by rw [lDeed, if_pos ⟨rfl, rfl⟩]⟩
theorem low_step : Low "step" := by
  have e : ∀ c ∈ ("step" : Str).cps.toList, 97 ≤ c ∧ c ≤ 122 := by decide +kernel
  exact e
theorem shaped_one {x : Str} (hx : Low x) : SeqAt.shaped (.tuple [.str x]) = true := by
  rw [SeqAt.shaped, PyData.canLay0, PyData.canLayAll0, PyData.canLayAll0, low_ok hx]
  rfl
theorem eqv_one {a c d : Str} : PyData.eqv (.tuple [.str a]) (.tuple [.str c, .str d]) = false := by
  rw [PyData.eqv, PyData.eqvAll, PyData.eqvAll, Bool.and_false]
theorem word_ex (b : Bool) : wordOf b ∈ exS := by cases b <;> decide +kernel
abbrev nLt : List Str := ["machine", "state", "word", "other", "deeds", "before", "deed", "_"]
theorem scLet : FnScope nLt ["machine", "state", "word", "other"] (defScope sLet) := ⟨rfl, rfl, rfl, by decide +kernel, rfl, by decide +kernel, by decide +kernel⟩
section
variable {P : Program} {w : World} {K : PySem.W.Frag} {mg : Str → Option Value} {base : Heap} {fW fF cM cN iN fM fS cU iU cO fX fN : Addr} {dW dF dN dM dS dU dX dNb : FuncData} {Bad : Hp → V → Prop} {k : Nat}
theorem ok_InitU {f : Addr} {fd : FuncData} (F : Fun K "__init__" "UnknownName.__init__" sInitU f fd) : FnOk P w K mg base CX0 1 f fd ["self", "name"] (spEinit K chKeyError "name") := by
  refine F.ok scInitU (fun vs H Q E h => ?_) (fun cdv A outer s H vs Q E hr h => ?_)
  · obtain ⟨a, C, t, y, rfl, _⟩ := h
    rfl
  · obtain ⟨a, C, t, y, rfl, ea, T, hd, q⟩ := h
    exact ⟨_, pss_one (ps_est keyStore (pv 0) (pv 1)), _, rfl, _, rfl, a, C, t, rfl, ea, T, hd, q⟩
theorem ok_Let {f : Addr} {fd : FuncData} (F : Fun K "letters_at" "letters_at" sLet f fd) (T : TxtI K mg fW fF dW dF) (N : TxtN K mg cN iN dN) (C : TxtC K mg fM fS dM dS) (U : TxtUO K mg cU iU cO fX fN dU dX dNb) (TS : TxtS mg) (hk : 3 ≤ k)
    (GM : FnOk P w K mg base (L2.CX P w) k fM dM ["machine"] (spChkM K Bad cM)) : FnOk P w K mg base (L2.CX P w) (k + 1) f fd ["machine", "state", "word", "other"] (spLet K Bad cM cN cU cO) := by
  have GS : FnOk P w K mg base (L2.CX P w) 3 fS dS ["machine", "state"] (spChkS K cN) := ok_ChkS C.S T N
  have GX : FnOk P w K mg base CX0 1 fX dX ["word"] (spIsExA K) := ok_IsExA U.X U.E
  have GN : FnOk P w K mg base CX0 2 fN dNb ["machine"] spNear := ok_NbIn U.N TS ⟨U.E, U.X, U.bX, U.gX⟩
  have GU : FnOk P w K mg base CX0 1 iU dU ["self", "name"] (spEinit K chKeyError "name") := ok_InitU U.F
  refine F.okX scLet (fun vs H Q E h => ?_) (fun cdv A outer s H vs Q E hr h => ?_)
  · obtain ⟨v, x, y, o, rfl, _⟩ := h
    rfl
  · obtain ⟨v, x, y, o, rfl, h⟩ := h
    have hu := hr.units
    have hr3 : Room 3 _ := hr.mono hk
    have hr2 : Room 2 _ := hr3.mono (by decide)
    have hr1 : Room 1 _ := hr3.mono (by decide)
    refine ⟨_, pss_cut (ps_expr (pe_callS GM hr (by rfl) C.gM C.kM C.bM (passAt (takes_of rfl rfl rfl rfl)) (pa_cons (pv 0) pa_nil)))
      (pss_cut (ps_expr (pe_callS GS hr3 (by rfl) C.gS C.S.kp C.bS (passAt (takes_of rfl rfl rfl rfl)) (pa_cons (pv 0) (pa_cons (pv 1) pa_nil))))
      (pss_cut (ps_if (pt_not (pt_val (pe_call GX hr1 (by rfl) U.gX U.X.kp U.bX .nil pass0 (pa_cons (pv 2) pa_nil)))) (pss_one (ps_raise rfl (takes_of rfl rfl rfl rfl) (pmk_X rfl (pe_mkA PySem.F.excBase_ValueError U.oc U.oi (by rfl) U.og pe_str)))) pss_nil)
      (pss_cut (ps_if (pt_cmpR (show OpR _ (compareOp .NotIn) (IT.rInS K true) from IT.op_notInS hu) (pv 3) (pe_call GN hr2 (by rfl) U.gN U.N.kp U.bN .nil pass0 (pa_cons (pv 0) pa_nil)) (by rfl)) (pss_one (ps_raise rfl (takes_of rfl rfl rfl rfl) (pmk_X rfl (pe_mkE (ps' := []) PySem.F.excBase_LookupError U.c U.e ⟨by decide, by decide, by decide⟩ U.iC U.tI GU hr2 U.b (by rfl) U.g (pv 3))))) pss_nil)
      (pss_cut (ps_setLc (i := 4) (own := [("before", 5), ("deed", 6), ("_", 7)]) (g := gTup K 3 (gCons (gName 5) (gCons (gName 6) (gCons (gName 7) gNil)))) (tt := tTest (tOp rEq (tVar 5) (tVar 1))) (te := tVar 6)
        rfl scLet.nd rfl rfl (sw_true rfl rfl rfl (by decide +kernel)) (pi_tup (pe_ix ix_tup (pv 0) pe_int (fun _ _ => rfl))) (blkOk_by (own := [("before", 5), ("deed", 6), ("_", 7)]) (N := nLt) (sc := defScope sLet) (by decide +kernel))
        (fun _ _ _ _ _ => pg_tup rfl (pgs_cons (pg_name (i := 5) scLet.nd rfl (.inl rfl)) (pgs_cons (pg_name (i := 6) scLet.nd rfl (.inl rfl)) (pgs_cons (pg_name (i := 7) scLet.nd rfl (.inl rfl)) pgs_nil))))
        (fun _ _ _ _ _ => pts_one (pt_cmpR op_eq (pv 5) (pv 1) (nomark _))) (fun _ _ _ _ _ => pv 6))
      (pss_one (ps_ret (pe_callTy call_tuple_of (by rfl) TS.tuple (by decide +kernel) (pa_cons (pe_callB (cr_sortedT rfl hu) (by rfl) TS.sorted (by decide +kernel)
        (pa_cons (pe_sx (txtK_ok _ _) (own := [("deed", 6)]) (g := gName 6) (tt := tTest (tOp (rEqD K) (tSl (rSlA K) (tVar 6) tNoPart (tPart (tC (.int 2)))) (tTup (tCons (tVar 2) (tCons (tVar 3) tNil))))) (te := tOp (rIxT K) (tVar 6) (tC (.int 2))) rfl scLet.nd (pi_list (pv 4)) (blkOk_by (own := [("deed", 6)]) (N := nLt) (sc := defScope sLet) (by decide +kernel))
          (fun _ _ _ _ _ => pg_name (i := 6) scLet.nd rfl (.inl rfl))
          (fun _ _ _ _ _ => pts_one (pt_cmpR (show OpR _ (compareOp .Eq) (rEqD K) from op_eqD hu) (pe_slice (show SlR _ (rSlA K) from sl_tupA) (pv 6) po_none (po_some pe_int)) (pe_tup (pa_cons (pv 2) (pa_cons (pv 3) pa_nil))) (nomark _)))
          (fun _ _ _ _ _ => pe_ix (show IxR _ (rIxT K) from ix_tup) (pv 6) pe_int (fun _ _ => rfl))) pa_nil)) pa_nil)))))))), ?_⟩
    rcases h with ⟨bad, q⟩ | ⟨a, m, rfl, hm, ok, h⟩
    · exact ⟨fun _ _ => False, ⟨_, rfl, v, rfl, .inr ⟨bad, q⟩⟩, fun _ _ z => z.elim⟩
    refine ⟨fun σ' H' => σ' = [some (.ref a), some x, some y, some o, none, none, none, none] ∧ Same H H', ⟨_, rfl, _, rfl, .inl ⟨a, m, rfl, hm, ok, fun H' s' => ⟨rfl, s'⟩⟩⟩, ?_⟩
    rintro σ1 H1 ⟨rfl, s1⟩
    have hm1 := Kz.same s1 _ _ hm
    rcases h with ⟨bad, q⟩ | ⟨i, rfl, i0, i1, h⟩
    · exact ⟨fun _ _ => False, ⟨_, rfl, _, rfl, a, m, x, rfl, hm1, .inr ⟨bad.imp (NotInt.same s1) id, fun H' dx s' e => q H' dx (s1.trans s') e⟩⟩, fun _ _ z => z.elim⟩
    refine ⟨fun σ' H' => σ' = [some (.ref a), some (.int i), some y, some o, none, none, none, none] ∧ H' = H1, ⟨_, rfl, _, rfl, a, m, .int i, rfl, hm1, .inl ⟨i, rfl, i0, i1, rfl, rfl⟩⟩, ?_⟩
    rintro σ2 H2 ⟨rfl, rfl⟩
    -- the word
    rcases h with ⟨bad, q⟩ | ⟨wd, rfl, h⟩
    · refine ⟨fun _ _ => False, ⟨_, rfl, y, rfl, ?_⟩, fun _ _ z => z.elim⟩
      rcases bad with n | ⟨z, rfl, n⟩
      · refine .inr ⟨NotStr.same s1 n, fun H3 s3 => ⟨_, rfl, ifT rfl fun b t nb nt ne => ⟨b, cO, t, none, rfl, upd_same, fr0_none ((s1.trans s3).free nb), raises_X U.oc U.oty, ?_⟩⟩⟩
        show E (.ref cO) none (delH _ b)
        rw [delH_two nb ne]
        exact q _ ((s1.trans s3).trans (same_upd nt))
      · refine .inl ⟨z, rfl, fun H3 s3 => ⟨_, rfl, ifT (by rw [decide_eq_false n]; rfl) fun b t nb nt ne => ⟨b, cO, t, none, rfl, upd_same, fr0_none ((s1.trans s3).free nb), raises_X U.oc U.oty, ?_⟩⟩⟩
        show E (.ref cO) none (delH _ b)
        rw [delH_two nb ne]
        exact q _ ((s1.trans s3).trans (same_upd nt))
    refine ⟨fun σ' H' => σ' = [some (.ref a), some (.int i), some (.str (wordOf wd)), some o, none, none, none, none] ∧ Same H H', ⟨_, rfl, _, rfl, .inl ⟨_, rfl, fun H3 s3 => ⟨_, rfl, ifF (by rw [decide_eq_true (word_ex wd)]; rfl) ⟨rfl, s1.trans s3⟩⟩⟩⟩, ?_⟩
    rintro σ3 H3 ⟨rfl, s3⟩
    have hm3 := Kz.same s3 _ _ hm
    -- the neighbour
    rcases h with ⟨bad, q⟩ | ⟨z, rfl, hz, q⟩
    · refine ⟨fun _ _ => False, ⟨_, rfl, _, rfl, a, m, rfl, hm3, ok, fun H4 p ys s4 np e4 near l64 => ⟨p, ys, rfl, SqT.of e4, ?_⟩⟩, fun _ _ z => z.elim⟩
      rcases bad with n | ⟨z, rfl, n⟩
      · refine .inr ⟨NotStr.same (s3.trans s4) n, _, rfl, ifT rfl ⟨_, rfl, fun b t dx nb nd ne => ⟨b, cU, t, some dx, rfl, upd_same, fr0_none ((s3.trans s4).free nb), raises_X U.c U.ty, ?_⟩⟩⟩
        show E (.ref cU) (some dx) (delH _ b)
        rw [delH_two nb ne]
        exact q _ dx ((s3.trans s4).trans (same_upd nd)) upd_same
      · have nz : z ∉ ys := fun h => n ((near.mem z).mp h)
        refine .inl ⟨z, rfl, _, rfl, ifT (by rw [if_pos rfl, decide_eq_false nz]; rfl) ⟨_, rfl, fun b t dx nb nd ne => ⟨b, cU, t, some dx, rfl, upd_same, fr0_none ((s3.trans s4).free nb), raises_X U.c U.ty, ?_⟩⟩⟩
        show E (.ref cU) (some dx) (delH _ b)
        rw [delH_two nb ne]
        exact q _ dx ((s3.trans s4).trans (same_upd nd)) upd_same
    refine ⟨fun σ' H' => σ' = [some (.ref a), some (.int i), some (.str (wordOf wd)), some (.str z), none, none, none, none] ∧ Same H H', ⟨_, rfl, _, rfl, a, m, rfl, hm3, ok, fun H4 p ys s4 np e4 near l64 => ⟨p, ys, rfl, SqT.of e4, .inl ⟨z, rfl, _, rfl, ifF (by rw [if_pos rfl, decide_eq_true ((near.mem z).mpr hz)]; rfl) ⟨rfl, s3.trans s4⟩⟩⟩⟩, ?_⟩
    rintro σ4 H4 ⟨rfl, s4⟩
    have lz : Low z := by
      obtain ⟨r, hr', b, l, e⟩ := hz
      have d := (ok.r1 r hr').dd
      rw [e] at d
      exact d.1.low
    obtain ⟨M⟩ := mach_at (Kz.same s4 _ _ hm)
    have lx : M.xs.length = m.rows.length := by
      have z := kz_len M.all
      rw [List.length_map] at z
      exact z
    have l64 := ok.r3
    -- the deeds of the state
    refine ⟨fun σ' H' => ∃ (D : Addr) (qs : List (Addr × Deed)), σ' = [some (.ref a), some (.int i), some (.str (wordOf wd)), some (.str z), some (.ref D), none, none, none] ∧ Same H4 H' ∧ H' D = some (.lst (qs.map fun p => V.ref p.1)) ∧ qs.map (·.2) = stDeeds i m.rows ∧ (∀ p ∈ qs, H4 p.1 = some (.tup (p.2.signs.map V.str))), ?_, ?_⟩
    · refine ⟨_, rfl, a, _, 2, .ref M.t, rfl, rfl, SqT.of M.top, atI_nat (j := 2) rfl, M.t, rfl, ⟨_, SqT.of M.row⟩, fun D nD => ?_⟩
      have sD := same_upd (o := .lst []) nD
      refine lc_tup (xs := M.xs) (fun j H' => Same H4 H' ∧ ∃ qs : List (Addr × Deed), H' D = some (.lst (qs.map fun p => V.ref p.1)) ∧ qs.map (·.2) = stDeeds i (m.rows.take j) ∧ (∀ p ∈ qs, H4 p.1 = some (.tup (p.2.signs.map V.str))))
        ⟨sD, [], upd_same, rfl, fun _ z => (nomatch z)⟩ (fun j H' _ z => SqT.of (z.1 _ _ M.row)) ?_ ?_
      · rintro j v H5 hv ⟨s5, qs, e5, eq, hq⟩
        obtain ⟨r, hr', ra, dv, rfl, er, kd⟩ := row_at M.all hv
        obtain ⟨qd, rfl, ed⟩ := deed_at kd
        have nx := stDeeds_next (st := i) hr'
        have il : j < m.rows.length := (List.getElem?_eq_some_iff.mp hr').1
        refine ⟨ra, _, rfl, SqT.of (s5 _ _ er), rfl, _, _, rfl, _, _, rfl, _, _, rfl, rfl, rfl, ?_⟩
        refine ⟨_, rfl, _, rfl, rfl, _, rfl, ifB (fun hb => ?_) fun hb => ?_⟩
        · have eb : r.before = i := by simpa using hb
          refine ⟨_, rfl, _, e5, ?_, fun b' o' eb' => ?_, qs ++ [(qd, r.deed)], ?_, ?_, fun p hp => ?_⟩
          · have z := congrArg List.length eq
            rw [List.length_map] at z
            have z2 : (stDeeds i (m.rows.take j)).length ≤ (m.rows.take j).length := List.length_filterMap_le _ _
            rw [List.length_take] at z2
            rw [List.length_map, sizeLine_eq]
            omega
          · rw [upd_ne (ne_of_none eb' nD)]
            exact s5 _ _ eb'
          · rw [upd_same, List.map_append]
            rfl
          · rw [List.map_append, eq, nx, stDeed, if_pos eb]
            rfl
          · rcases List.mem_append.mp hp with z | z
            · exact hq p z
            · rw [List.mem_singleton.mp z]
              exact ed
        · have nb : ¬ r.before = i := by simpa using hb
          exact ⟨s5, qs, e5, by rw [nx, stDeed, if_neg nb, eq]; simp, hq⟩
      · rintro H5 ⟨s5, qs, e5, eq, hq⟩
        rw [lx, List.take_length] at eq
        exact ⟨D, qs, rfl, s5, e5, eq, hq⟩
    rintro σ5 H5 ⟨D, qs, rfl, s5, e5, eq, hq⟩
    have lq : qs.length = (stDeeds i m.rows).length := by
      have z := congrArg List.length eq
      rw [List.length_map] at z
      exact z
    have lq2 : (stDeeds i m.rows).length ≤ m.rows.length := List.length_filterMap_le _ _
    refine ⟨_, rfl, D, rfl, ⟨_, SqL.of e5⟩, fun D2 nD2 => ?_⟩
    have sD := same_upd (o := TSetO P w D2 []) nD2
    refine sx_it (k := txtK P w) (walk_list (xs := qs.map fun p => V.ref p.1)) (fun j H' => Same H5 H' ∧ ∃ ws : List Str, H' D2 = some (TSetO P w D2 ws) ∧ ws.Nodup ∧ (∀ x, x ∈ ws ↔ x ∈ ((stDeeds i m.rows).take j).filterMap (lDeed wd z)) ∧ ws.length ≤ j)
      ⟨sD, [], upd_same, List.nodup_nil, fun _ => Iff.rfl, Nat.le_refl _⟩ (fun j H' _ z => SqL.of (z.1 _ _ e5)) ?_ ?_
    · rintro j v H6 H7 hj ⟨s6, ws, e6, once, mem, lw⟩ ⟨rfl, hv⟩
      obtain ⟨p, hp, rfl⟩ : ∃ p, qs[j]? = some p ∧ v = .ref p.1 := by
        rw [List.getElem?_map] at hv
        cases e : qs[j]? with
        | none => rw [e] at hv; exact nomatch hv
        | some p => rw [e] at hv; exact ⟨p, rfl, (Option.some.inj hv).symm⟩
      obtain ⟨pa, d⟩ := p
      have ep := s6 _ _ (s5 _ _ (hq _ (List.mem_of_getElem? hp)))
      have hd : (stDeeds i m.rows)[j]? = some d := by rw [← eq, List.getElem?_map, hp]; rfl
      have nx := lDeeds_next (wd := wd) (o := z) hd
      have okd : d.Ok := by
        obtain ⟨r, hr', _, e⟩ := mem_stDeeds.mp (List.mem_of_getElem? hd)
        rw [← e]
        exact (ok.r1 r hr').dd
      rw [List.length_map] at hj
      cases d with
      | step =>
        refine ⟨rfl, _, rfl, 2, rfl, pa, _, rfl, SqT.of ep, fun _ => ?_, fun n => absurd (show 0 = 0 ∧ 1 = 1 from ⟨rfl, rfl⟩) n⟩
        refine ⟨_, rfl, _, rfl, (by show 2 ≤ sizeLine; decide), fun c2 n2 => ?_⟩
        have k2 := same_upd (o := .tup [.str (wordOf wd), .str z]) n2
        refine ⟨.tuple [.str "step"], .tuple [.str (wordOf wd), .str z], .tup (SqT.of (xs := [.str "step"]) (k2 _ _ ep)) (.cons (.str _) .nil), .tup (SqT.of upd_same) (.cons (.str _) (.cons (.str _) .nil)), shaped_one low_step, shaped_two (low_word wd) lz, _, rfl, ?_⟩
        rw [eqv_one]
        refine iteF ⟨s6.trans k2, ws, k2 _ _ e6, once, fun x => ?_, by omega⟩
        rw [nx, mem x]
        simp [lDeed]
      | ex b n l =>
        refine ⟨rfl, _, rfl, 2, rfl, pa, _, rfl, SqT.of ep, fun n => absurd (show 2 = 3 from n.2) (by decide), fun _ c1 n1 => ?_⟩
        refine ⟨_, rfl, _, rfl, (by show 2 ≤ sizeLine; decide), fun c2 n2 => ?_⟩
        have k1 := same_upd (o := .tup (cutV ((Deed.ex b n l).signs.map V.str) none (some 2))) n1
        have k2 := same_upd (o := .tup [.str (wordOf wd), .str z]) n2
        have k12 := k1.trans k2
        refine ⟨.tuple [.str (wordOf b), .str n], .tuple [.str (wordOf wd), .str z], .tup (SqT.of (xs := [.str (wordOf b), .str n]) (k2 _ _ upd_same)) (.cons (.str _) (.cons (.str _) .nil)), .tup (SqT.of upd_same) (.cons (.str _) (.cons (.str _) .nil)), shaped_two (low_word b) okd.1.low, shaped_two (low_word wd) lz, _, rfl, ?_⟩
        rw [eqv_two]
        have iff' : (wordOf b = wordOf wd ∧ n = z) ↔ (b = wd ∧ n = z) := ⟨fun z => ⟨word_inj z.1, z.2⟩, fun z => ⟨by rw [z.1], z.2⟩⟩
        by_cases c : b = wd ∧ n = z
        · rw [decide_eq_true (iff'.mpr c)]
          refine iteT ⟨_, rfl, pa, _, 2, .str l, rfl, rfl, SqT.of (k12 _ _ ep), atI_nat (j := 2) rfl, l, ws, rfl, k12 _ _ e6, by unfold scanBound; omega, fun ws1 once1 c1 c2 => ⟨fun b' o' eb => ?_, ws1, upd_same, once1, fun x => ?_, ?_⟩⟩
          · rw [upd_ne (ne_of_none eb nD2)]
            exact k12 _ _ (s6 _ _ eb)
          · rw [nx, List.mem_append, ← mem x, lDeed, if_pos c]
            have mn : x ∈ (some l).toList ↔ x = l := by simp
            rw [mn]
            by_cases cl : l ∈ ws
            · rw [c1 cl]
              exact ⟨Or.inl, fun z => z.elim id fun z => by rw [z]; exact cl⟩
            · rw [(c2 cl).mem_iff, List.mem_cons]
              exact Or.comm
          · by_cases cl : l ∈ ws
            · rw [c1 cl]
              omega
            · rw [(c2 cl).length_eq, List.length_cons]
              omega
        · rw [decide_eq_false fun z => c (iff'.mp z)]
          refine iteF ⟨s6.trans k12, ws, k12 _ _ e6, once, fun x => ?_, by omega⟩
          rw [nx, mem x, lDeed, if_neg c]
          simp
    · rintro H6 ⟨s6, ws, e6, once, mem, lw⟩
      have et : (stDeeds i m.rows).take (qs.map fun p => V.ref p.1).length = stDeeds i m.rows := by
        rw [List.length_map, lq, List.take_length]
      rw [et] at mem
      rw [List.length_map, lq] at lw
      refine ⟨D2, ws, rfl, e6, by omega, fun ys p7 pm pw n7 => ?_⟩
      have s7 := same_upd (o := .lst (ys.map V.str)) n7
      refine ⟨p7, _, rfl, .inl ⟨SqL.of upd_same, fun p8 n8 => ?_⟩⟩
      have s8 := same_upd (o := .tup (ys.map V.str)) n8
      have ss := s4.trans (s5.trans (s6.trans s7))
      refine q _ p8 ys (ss.trans s8) (ss.free n8) upd_same ⟨fun x => ?_, pw, pm.nodup_iff.mpr once⟩ (by rw [pm.length_eq]; omega)
      rw [pm.mem_iff, mem x, mem_lDeeds, mem_stDeeds]
end
end K02
namespace K02
open PySem PySem.Spec PyProof.Rows L2 WD NS MC GL
open C8 (pss_cut tCut)
abbrev sName : Stmt := topS 10
abbrev sAreSt : Stmt := topS 17
/-! names -/
structure TxtNm (K : PySem.W.Frag) (mg : Str → Option Value) : Prop where
  isi : mg "isinstance" = none
  str : mg "str" = none
  len : mg "len" = none
  tuple : mg "tuple" = none
  ln : ∃ t, mg "LONGEST_NAME" = some (.int 8 t)
theorem low_all {x : Str} {p : Nat → Bool} (h : Low x) (q : ∀ i < 26, p (97 + i) = true) : x.cps.all p = true := by
  rw [← Array.all_toList, List.all_eq_true]
  intro c m
  have z := h c m
  have e : c = 97 + (c - 97) := by omega
  rw [e]
  exact q _ (by omega)
theorem asc26 : ∀ i < 26, decide (97 + i < 128) = true := by decide +kernel
theorem alp26 : ∀ i < 26, Unicode.isAlpha (97 + i) = true := by decide +kernel
theorem low26 : ∀ i < 26, Unicode.isLower (97 + i) = true := by decide +kernel
theorem upp26 : ∀ i < 26, (!(Unicode.isUpper (97 + i) || Unicode.isTitle (97 + i))) = true := by decide +kernel
theorem wd_ascii {x : Str} (h : Low x) : Txt.isascii x = true := low_all h asc26
theorem wd_alpha {x : Str} (h : Wd x) : Txt.isalpha x = true := by
  show (decide (x.length > 0) && x.cps.all Unicode.isAlpha) = true
  rw [low_all h.low alp26, decide_eq_true h.pos]
  rfl
theorem wd_lower {x : Str} (h : Wd x) : Txt.islower x = true := by
  show (x.cps.any Unicode.isLower && !x.cps.any fun c => Unicode.isUpper c || Unicode.isTitle c) = true
  obtain ⟨c, m, _⟩ := at_first h
  have e2 : (x.cps.any fun c => Unicode.isUpper c || Unicode.isTitle c) = false := by
    rw [← Array.any_toList, List.any_eq_false]
    intro d md
    have z := h.low d md
    have e : d = 97 + (d - 97) := by omega
    have y := upp26 (d - 97) (by omega)
    rw [← e] at y
    simpa using y
  have e1 : x.cps.any Unicode.isLower = true := by
    rw [← Array.any_toList, List.any_eq_true]
    have p := h.pos
    rw [← WD.len_list] at p
    obtain ⟨d, l, e⟩ : ∃ d l, x.cps.toList = d :: l := by
      cases z : x.cps.toList with
      | nil => rw [z] at p; exact absurd p (by decide)
      | cons d l => exact ⟨d, l, rfl⟩
    have md : d ∈ x.cps.toList := by rw [e]; exact List.mem_cons_self
    have z := h.low d md
    have e : d = 97 + (d - 97) := by omega
    have y := low26 (d - 97) (by omega)
    rw [← e] at y
    exact ⟨d, md, y⟩
  rw [e1, e2]
  rfl
theorem scName : FnScope ["value"] ["value"] (defScope sName) := ⟨rfl, rfl, rfl, by decide +kernel, rfl, by decide +kernel, by decide +kernel⟩
def spName : Sp := fun vs H Q _ => ∃ x : Str, vs = [.str x] ∧ Wd x ∧ Q (.bl true) H
section
variable {P : Program} {w : World} {K : PySem.W.Frag} {mg : Str → Option Value} {base : Heap}
theorem ok_Name {f : Addr} {fd : FuncData} {k : Nat} (F : Fun K "is_name" "is_name" sName f fd) (T : TxtNm K mg) : FnOk P w K mg base CX0 (k + 1) f fd ["value"] spName := by
  obtain ⟨t8, g8⟩ := T.ln
  refine F.ok scName (fun vs H Q E h => ?_) (fun cdv A outer s H vs Q E hr h => ?_)
  · obtain ⟨x, rfl, _⟩ := h
    rfl
  · obtain ⟨x, rfl, wd, q⟩ := h
    refine ⟨_, pss_one (ps_ret (pe_and (pe_callB call_isi (by rfl) T.isi (by decide +kernel) (pa_cons (pv 0) (pa_cons (pe_bltn (by rfl) T.str (by decide +kernel) (v := .ty "str") rfl) pa_nil)))
      (pe_and (pe_cmpR op_le (pe_callB call_len_str (by rfl) T.len PySem.boot_len (pa_cons (pv 0) pa_nil)) (pe_glob (v := .int 8) rfl g8 ⟨_, rfl⟩) (nomark _))
      (pe_and (pe_bm0 PySem.F.plainAttrs_str PySem.F.slot_str_isascii PySem.F.type_str_isascii mt_isascii (pv 0))
      (pe_and (pe_bm0 PySem.F.plainAttrs_str PySem.F.slot_str_isalpha PySem.F.type_str_isalpha mt_isalpha (pv 0))
      (pe_one (pe_bm0 PySem.F.plainAttrs_str PySem.F.slot_str_islower PySem.F.type_str_islower mt_islower (pv 0)))))))), ?_⟩
    refine ⟨_, rfl, _, _, _, .type "str", true, rfl, .ty _, .base (.str x), kit_ty (by decide +kernel), _, rfl, iteT ?_⟩
    refine ⟨_, rfl, _, rfl, (by have z := wd.le; rw [sizeLine_eq]; omega), _, _, rfl, rfl, _, rfl, ?_⟩
    rw [decide_eq_true (show ((x.length : Nat) : Int) ≤ 8 by have z := wd.le; omega)]
    refine iteT ⟨_, rfl, rfl, _, rfl, rfl, trivial, _, rfl, ?_⟩
    rw [wd_ascii wd.low]
    refine iteT ⟨_, rfl, rfl, _, rfl, rfl, trivial, _, rfl, ?_⟩
    rw [wd_alpha wd]
    refine iteT ⟨_, rfl, rfl, _, rfl, rfl, trivial, ?_⟩
    rw [wd_lower wd]
    exact q
end
/-! states -/
abbrev nAs : List Str := ["value", "size", "last", "state"]
theorem scAreSt : FnScope nAs ["value", "size"] (defScope sAreSt) := ⟨rfl, rfl, rfl, by decide +kernel, rfl, by decide +kernel, by decide +kernel⟩
def spAreSt : Sp := fun vs H Q _ => ∃ (a : Addr) (ns : List Int) (size : Int), vs = [.ref a, .int size] ∧ H a = some (.tup (ns.map V.int)) ∧ ns.Pairwise (· < ·) ∧ (∀ k ∈ ns, 0 ≤ k ∧ k < size) ∧ Q (.bl true) H
section
variable {P : Program} {w : World} {K : PySem.W.Frag} {mg : Str → Option Value} {base : Heap} {fW fF : Addr} {dW dF : FuncData}
theorem ok_AreSt {f : Addr} {fd : FuncData} {k : Nat} (F : Fun K "are_states" "are_states" sAreSt f fd) (T : TxtI K mg fW fF dW dF) (TN : TxtNm K mg) : FnOk P w K mg base CX0 (k + 2) f fd ["value", "size"] spAreSt := by
  have GW : FnOk P w K mg base CX0 (k + 1) fW dW ["value"] (spWhole K) := ok_IsWh T.W T
  refine F.ok scAreSt (fun vs H Q E h => ?_) (fun cdv A outer s H vs Q E hr h => ?_)
  · obtain ⟨a, ns, size, rfl, _⟩ := h
    rfl
  · obtain ⟨a, ns, size, rfl, ha, asc, all, q⟩ := h
    refine ⟨_, pss_cons (ps_if (pt_not (pt_val (pe_callB call_isi (by rfl) T.isi (by decide +kernel) (pa_cons (pv 0) (pa_cons (pe_bltn (by rfl) TN.tuple (by decide +kernel) (v := .ty "tuple") rfl) pa_nil))))) (pss_one (ps_ret pe_bl)) pss_nil)
      (pss_cons (ps_set (i := 2) scAreSt.nd rfl (.inl rfl) (pe_un un_neg pe_int))
      (pss_cons (ps_for PassesOwn.never rfl (pi_tup (pv 0)) (pg_name (i := 3) scAreSt.nd rfl (.inl rfl))
        (pss_cons (ps_if (PW.pt (pw_or (pt_not (pt_val (pe_call GW hr (by rfl) T.gW T.W.kp T.bW .nil pass0 (pa_cons (pv 3) pa_nil)))) (pw_or1 (pt_not (pt_chain op_lt op_lt (pv 2) (pv 3) (pv 1)))))) (pss_one (ps_ret pe_bl)) pss_nil)
        (pss_one (ps_set (i := 2) scAreSt.nd rfl (.inl rfl) (pv 3)))))
      (pss_one (ps_ret pe_bl)))), ?_⟩
    refine ⟨_, rfl, _, _, _, .type "tuple", true, rfl, .ty _, .base (.tup ha), kit_ty (by decide +kernel), _, rfl, iteF ?_⟩
    refine ⟨_, rfl, ?_⟩
    refine ⟨_, rfl, a, rfl, ⟨_, SqT.of ha⟩, for_tup (xs := ns.map V.int) (fun i σ' H' => H' = H ∧ ∃ (l : Int) (st : Option V), σ' = [some (.ref a), some (.int size), some (.int l), st] ∧ ∀ k ∈ ns.drop i, l < k) ?_ ?_ ?_ ?_⟩
    · exact ⟨rfl, -1, none, rfl, fun k hk => by have z := (all k (List.mem_of_mem_drop hk)).1; omega⟩
    · rintro i σ' H' _ ⟨rfl, _⟩
      exact SqT.of ha
    · rintro i x σ' H' hx ⟨rfl, l, st, rfl, lt⟩
      obtain ⟨n, hn, rfl⟩ : ∃ n, ns[i]? = some n ∧ x = .int n := by
        rw [List.getElem?_map] at hx
        cases e : ns[i]? with
        | none => rw [e] at hx; exact nomatch hx
        | some n => rw [e] at hx; exact ⟨n, rfl, (Option.some.inj hx).symm⟩
      have il : i < ns.length := (List.getElem?_eq_some_iff.mp hn).1
      have en : ns[i] = n := (List.getElem?_eq_some_iff.mp hn).2
      have dr : ns.drop i = n :: ns.drop (i + 1) := by rw [List.drop_eq_getElem_cons il, en]
      have lo := lt n (by rw [dr]; exact List.mem_cons_self)
      have hi := (all n (List.mem_of_getElem? hn)).2
      refine ⟨_, rfl, _, rfl, .inl ⟨n, rfl, _, rfl, iteF ?_⟩⟩
      refine ⟨_, rfl, _, rfl, _, _, rfl, rfl, _, rfl, ?_⟩
      rw [decide_eq_true lo]
      refine iteT ⟨_, rfl, _, _, rfl, rfl, _, rfl, ?_⟩
      rw [decide_eq_true hi]
      refine iteF ⟨_, rfl, rfl, n, some (.int n), rfl, fun k hk => ?_⟩
      have pw : (ns.drop i).Pairwise (· < ·) := asc.drop
      rw [dr] at pw
      exact (List.pairwise_cons.mp pw).1 k hk
    · rintro σ' H' ⟨rfl, _⟩
      exact q
end
end K02
namespace K02
open PySem PySem.Spec PyProof.Rows L2 WD NS MC GL
open C8 (pss_cut tCut)
abbrev sAreTr : Stmt := topS 18
abbrev nAt : List Str := ["value", "size", "near", "last", "transition", "before", "deed", "behind", "word", "other", "letter"]
theorem scAreTr : FnScope nAt ["value", "size", "near"] (defScope sAreTr) := ⟨rfl, rfl, rfl, by decide +kernel, rfl, by decide +kernel, by decide +kernel⟩
/-- None, or a list in which all neighbours are -/
def NearOk (K : PySem.W.Frag) (H : Hp) (nr : V) (rows : List RowM) : Prop := nr = .non ∨ ∃ (l : Addr) (ws : List Str), nr = .ref l ∧ SqL K H l (ws.map V.str) ∧ ∀ r ∈ rows, ∀ b n x, r.deed = .ex b n x → n ∈ ws
def spAreTr (K : PySem.W.Frag) : Sp := fun vs H Q _ => ∃ (a : Addr) (rows : List RowM) (xs : List V) (size : Nat) (nr : V), vs = [.ref a, .int size, nr] ∧ H a = some (.tup xs) ∧ KzAll H xs (rows.map RowM.key) ∧ (∀ r ∈ rows, r.Ok size) ∧ rows.Pairwise rowLt ∧ NearOk K H nr rows ∧
  ∀ H', Same H H' → Q (.bl true) H'
structure TxtT (K : PySem.W.Frag) (mg : Str → Option Value) (fN : Addr) (dN : FuncData) : Prop where
  type : mg "type" = none
  E : ∃ tE, TxtE K mg tE
  N : Fun K "is_name" "is_name" sName fN dN
  bN : L2.Binds K dN ["value"] []
  gN : mg "is_name" = some (.ref fN)
theorem inV_strs {n : Str} {ws : List Str} (h : n ∈ ws) : inV (.str n) (ws.map V.str) = true := by
  rw [inV, List.any_eq_true]
  exact ⟨.str n, List.mem_map.mpr ⟨n, h, rfl⟩, by simp [eqV]⟩
theorem lt_empty (r : RowM) : PySem.W.dataLt (NestedKey.tup []).data r.key.data = true := by
  show PyProof.Rows.lexLt PyProof.Rows.itemOrd (PySem.W.keyToks (.tuple [])) (PySem.W.keyToks (.tuple [.int r.before, r.deed.key.data, .int r.after])) = true
  rw [PySem.W.keyToks, PySem.W.keyToksAll, PySem.W.keyToks, PySem.W.keyToksAll]
  rw [PySem.W.lex_atom (by decide)]
  decide +kernel
/-- what last holds ahead of turn i -/
structure LastOk (H : Hp) (rows : List RowM) (i : Nat) (lv : V) : Prop where
  ex : ∃ pk : NestedKey, Kz H lv pk ∧ pk ≠ .none ∧ pk.depth ≤ 8 ∧ ∀ r ∈ rows.drop i, PySem.W.alike pk.data r.key.data = true ∧ PySem.W.dataLt pk.data r.key.data = true
section
variable {X : Cx} {c a b : Expr} {tc tA tB' : TT} {pos : Pos}
def tIfT (tc ta tb : TT) : TT := fun σ H Q => tc σ H fun k H1 => if k = true then ta σ H1 Q else tb σ H1 Q
theorem pt_ifExp (hc : PT X c tc) (ha : PT X a tA) (hb : PT X b tB') : PT X (.IfExp c a b pos) (tIfT tc tA tB') := by
  refine ⟨fun pins s σ H Q I h => ?_⟩
  refine isTrue_IfExp (thn (hc.run pins s σ H _ I h) fun k s1 ⟨H1, I1, q1⟩ => ?_)
  cases k with
  | true => exact ha.run pins s1 σ H1 Q I1 q1
  | false => exact hb.run pins s1 σ H1 Q I1 q1
end
section
variable {P : Program} {w : World} {K : PySem.W.Frag} {mg : Str → Option Value} {base : Heap} {fW fF fN : Addr} {dW dF dN : FuncData}
theorem ok_AreTr {f : Addr} {fd : FuncData} {k : Nat} (F : Fun K "are_transitions" "are_transitions" sAreTr f fd) (T : TxtI K mg fW fF dW dF) (TN : TxtNm K mg) (TT : TxtT K mg fN dN) : FnOk P w K mg base CX0 (k + 2) f fd ["value", "size", "near"] (spAreTr K) := by
  have GW : FnOk P w K mg base CX0 (k + 1) fW dW ["value"] (spWhole K) := ok_IsWh T.W T
  have GN : FnOk P w K mg base CX0 (k + 1) fN dN ["value"] spName := ok_Name TT.N TN
  obtain ⟨tE, gE, sE⟩ := TT.E
  refine F.ok scAreTr (fun vs H Q E h => ?_) (fun cdv A outer s H vs Q E hr h => ?_)
  · obtain ⟨a, rows, xs, size, nr, rfl, _⟩ := h
    rfl
  · obtain ⟨a, rows, xs, size, nr, rfl, ha, all, oks, asc, near, q⟩ := h
    have hu := hr.units
    refine ⟨_, pss_cons (ps_if (pt_not (pt_val (pe_callB call_isi (by rfl) T.isi (by decide +kernel) (pa_cons (pv 0) (pa_cons (pe_bltn (by rfl) TN.tuple (by decide +kernel) (v := .ty "tuple") rfl) pa_nil))))) (pss_one (ps_ret pe_bl)) pss_nil)
      (pss_cons (ps_set (i := 3) scAreTr.nd rfl (.inl rfl) (pe_tup pa_nil))
      (pss_cons (ps_for PassesOwn.never rfl (pi_tup (pv 0)) (pg_name (i := 4) scAreTr.nd rfl (.inl rfl))
        (pss_cons (ps_if (PW.pt (pw_or (pt_not (pt_val (pe_callB call_isi (by rfl) T.isi (by decide +kernel) (pa_cons (pv 4) (pa_cons (pe_bltn (by rfl) TN.tuple (by decide +kernel) (v := .ty "tuple") rfl) pa_nil)))))
            (pw_or1 (pt_cmpR op_ne (pe_callB call_len_seq (by rfl) TN.len PySem.boot_len (pa_cons (pv 4) pa_nil)) pe_int (nomark _))))) (pss_one (ps_ret pe_bl)) pss_nil)
        (pss_cons (ps_asg (pv 4) (pg_tup rfl (pgs_cons (pg_name (i := 5) scAreTr.nd rfl (.inl rfl)) (pgs_cons (pg_name (i := 6) scAreTr.nd rfl (.inl rfl)) (pgs_cons (pg_name (i := 7) scAreTr.nd rfl (.inl rfl)) pgs_nil)))))
        (pss_cons (ps_if (PW.pt (pw_or (pt_not (PW.pt (pw_or (pt_cmpR op_isTy (pe_typeOf (by rfl) TT.type (pv 5)) (pe_bltn (by rfl) T.int (by decide +kernel) (v := .ty "int") rfl) (nomark _)) (pw_or1 (pt_val (pe_call GW hr (by rfl) T.gW T.W.kp T.bW .nil pass0 (pa_cons (pv 5) pa_nil)))))))
            (pw_or1 (pt_not (PW.pt (pw_or (pt_cmpR op_isTy (pe_typeOf (by rfl) TT.type (pv 7)) (pe_bltn (by rfl) T.int (by decide +kernel) (v := .ty "int") rfl) (nomark _)) (pw_or1 (pt_val (pe_call GW hr (by rfl) T.gW T.W.kp T.bW .nil pass0 (pa_cons (pv 7) pa_nil)))))))))) (pss_one (ps_ret pe_bl)) pss_nil)
        (pss_cons (ps_if (pt_not (PW.pt (pw_and (pt_chain op_le op_lt pe_int (pv 5) (pv 1)) (pw_and (pt_chain op_le op_lt pe_int (pv 7) (pv 1)) (pw_and1 (pt_val (pe_callB call_isi (by rfl) T.isi (by decide +kernel) (pa_cons (pv 6) (pa_cons (pe_bltn (by rfl) TN.tuple (by decide +kernel) (v := .ty "tuple") rfl) pa_nil))))))))) (pss_one (ps_ret pe_bl)) pss_nil)
        (pss_cons (ps_if (pt_cmpR op_eq (pe_callB call_len_seq (by rfl) TN.len PySem.boot_len (pa_cons (pv 6) pa_nil)) pe_int (nomark _))
            (pss_cons (ps_asg (pv 6) (pg_tup rfl (pgs_cons (pg_name (i := 8) scAreTr.nd rfl (.inl rfl)) (pgs_cons (pg_name (i := 9) scAreTr.nd rfl (.inl rfl)) (pgs_cons (pg_name (i := 10) scAreTr.nd rfl (.inl rfl)) pgs_nil)))))
            (pss_cons (ps_if (PW.pt (pw_or (pt_cmpR (show OpR _ (compareOp .NotIn) (rIn K true) from op_notIn_seq) (pv 8) (pe_glob (v := .ref tE) rfl gE rfl) (by rfl)) (pw_or1 (pt_not (pt_val (pe_call GN hr (by rfl) TT.gN TT.N.kp TT.bN .nil pass0 (pa_cons (pv 10) pa_nil))))))) (pss_one (ps_ret pe_bl)) pss_nil)
            (pss_one (ps_if (pt_not (pt_ifExp (pt_cmpR op_isN (pv 2) pe_non (nomark _)) (pt_val (pe_call GN hr (by rfl) TT.gN TT.N.kp TT.bN .nil pass0 (pa_cons (pv 9) pa_nil))) (pt_cmpR (show OpR _ (compareOp .In) (rIn K false) from op_in_seq) (pv 9) (pv 2) (by rfl)))) (pss_one (ps_ret pe_bl)) pss_nil))))
            (pss_one (ps_if (PW.pt (pw_or (pt_cmpR op_ne (pe_callB call_len_seq (by rfl) TN.len PySem.boot_len (pa_cons (pv 6) pa_nil)) pe_int (nomark _)) (pw_or1 (pt_cmpR op_ne (pe_ix (show IxR _ (rIxT K) from ix_tup) (pv 6) pe_int (fun _ _ => rfl)) pe_str (nomark _))))) (pss_one (ps_ret pe_bl)) pss_nil)))
        (pss_cons (ps_if (pt_not (pt_cmpR (op_ltK hu) (pv 3) (pv 4) (nomark _))) (pss_one (ps_ret pe_bl)) pss_nil)
        (pss_one (ps_set (i := 3) scAreTr.nd rfl (.inl rfl) (pv 4))))))))))
      (pss_one (ps_ret pe_bl)))), ?_⟩
    refine ⟨_, rfl, _, _, _, .type "tuple", true, rfl, .ty _, .base (.tup ha), kit_ty (by decide +kernel), _, rfl, iteF ?_⟩
    refine ⟨Nat.zero_le _, fun p np => ?_⟩
    have s0 := same_upd (o := .tup []) np
    have lx : xs.length = rows.length := by
      have z := kz_len all
      rw [List.length_map] at z
      exact z
    refine ⟨_, rfl, a, rfl, ⟨_, SqT.of (s0 _ _ ha)⟩, for_tup (xs := xs) (fun i σ' H' => Same H H' ∧ ∃ (lv : V) (u4 u5 u6 u7 u8 u9 u10 : Option V), σ' = [some (.ref a), some (.int size), some nr, some lv, u4, u5, u6, u7, u8, u9, u10] ∧ LastOk H' rows i lv) ?_ ?_ ?_ ?_⟩
    · refine ⟨s0, _, none, none, none, none, none, none, none, rfl, ⟨.tup [], .tup upd_same .nil, (fun z => nomatch z), (by decide), fun r _ => ⟨rfl, lt_empty r⟩⟩⟩
    · rintro i σ' H' _ ⟨s1, _⟩
      exact SqT.of (s1 _ _ ha)
    · rintro i x σ' H' hx ⟨s1, lv, u4, u5, u6, u7, u8, u9, u10, rfl, ⟨pk, kl, nn, dp, lt⟩⟩
      obtain ⟨r, hr', ra, dv, rfl, er, kd⟩ := row_at all hx
      obtain ⟨qd, rfl, ed⟩ := deed_at kd
      have okr := oks r (List.mem_of_getElem? hr')
      have il : i < rows.length := (List.getElem?_eq_some_iff.mp hr').1
      have er' : rows[i] = r := (List.getElem?_eq_some_iff.mp hr').2
      have dr : rows.drop i = r :: rows.drop (i + 1) := by rw [List.drop_eq_getElem_cons il, er']
      have er1 := s1 _ _ er
      have ed1 := s1 _ _ ed
      have kr : Kz H' (.ref ra) r.key := by
        obtain ⟨k', hk', z⟩ := kz_get all i _ hx
        rw [List.getElem?_map, hr'] at hk'
        cases hk'
        exact Kz.same s1 _ _ z
      have two := lt r (by rw [dr]; exact List.mem_cons_self)
      refine ⟨_, rfl, _, _, _, .type "tuple", true, rfl, .ty _, .base (.tup er1), kit_ty (by decide +kernel), _, rfl, iteF ?_⟩
      refine ⟨_, rfl, ra, _, rfl, .inr (SqT.of er1), rfl, _, rfl, iteF ?_⟩
      refine ⟨_, rfl, ra, _, rfl, SqT.of er1, rfl, _, _, rfl, _, _, rfl, _, _, rfl, rfl, ?_⟩
      refine ⟨_, rfl, "int", rfl, _, _, rfl, rfl, _, rfl, ifT (by decide) (ifF rfl ?_)⟩
      refine ⟨_, rfl, "int", rfl, _, _, rfl, rfl, _, rfl, ifT (by decide) (ifF rfl ?_)⟩
      -- 0 <= before < size and 0 <= behind < size and isinstance(deed, tuple)
      have b0 := okr.b0
      have b1 := okr.b1
      have a0 := okr.a0
      have a1 := okr.a1
      refine ⟨_, rfl, _, _, rfl, rfl, _, rfl, ifT (decide_eq_true b0) ⟨_, rfl, _, _, rfl, rfl, _, rfl, ifT (decide_eq_true b1) ?_⟩⟩
      refine ⟨_, rfl, _, _, rfl, rfl, _, rfl, ifT (decide_eq_true a0) ⟨_, rfl, _, _, rfl, rfl, _, rfl, ifT (decide_eq_true a1) ?_⟩⟩
      refine ⟨_, rfl, _, _, _, .type "tuple", true, rfl, .ty _, .base (.tup ed1), kit_ty (by decide +kernel), _, rfl, ifF rfl ?_⟩
      -- last < transition; last = transition
      have next : LastOk H' rows (i + 1) (.ref ra) := by
        refine ⟨r.key, kr, (fun z => nomatch z), by rw [row_depth]; decide, fun r2 hr2 => ⟨row_alike r r2, ?_⟩⟩
        have pw : (rows.drop i).Pairwise rowLt := asc.drop
        rw [dr] at pw
        exact (List.pairwise_cons.mp pw).1 r2 hr2
      cases hd : r.deed with
      | step =>
        rw [hd] at ed1
        refine ⟨_, rfl, qd, _, rfl, .inr (SqT.of ed1), rfl, _, rfl, ifF (by decide) ?_⟩
        refine ⟨_, rfl, qd, _, rfl, .inr (SqT.of ed1), rfl, _, rfl, ifF (by decide) ?_⟩
        refine ⟨_, rfl, qd, _, 0, .str "step", rfl, rfl, SqT.of ed1, atI_nat (j := 0) rfl, rfl, _, rfl, ifF (by decide) ?_⟩
        refine ⟨_, rfl, _, rfl, pk, r.key, kl, kr, two.1, nn, dp, _, rfl, ?_⟩
        rw [two.2]
        exact ifF rfl ⟨_, rfl, s1, _, _, _, _, _, _, _, _, rfl, next⟩
      | ex b n l =>
        rw [hd] at ed1
        have okd := okr.dd
        rw [hd] at okd
        refine ⟨_, rfl, qd, _, rfl, .inr (SqT.of ed1), rfl, _, rfl, ifT (decide_eq_true rfl) ?_⟩
        refine ⟨_, rfl, qd, _, rfl, SqT.of ed1, rfl, _, _, rfl, _, _, rfl, _, _, rfl, rfl, ?_⟩
        refine ⟨_, rfl, tE, exV, rfl, .inr (Or.inr sE), rfl, rfl, _, rfl, ifF (by rw [if_pos rfl, ex_word]; rfl) ?_⟩
        refine ⟨_, rfl, l, rfl, okd.2, _, rfl, ifF rfl ?_⟩
        have rr : r ∈ rows := List.mem_of_getElem? hr'
        rcases near with rfl | ⟨l', ws, rfl, hl, inW⟩
        · refine ⟨_, rfl, rfl, _, rfl, ifT (decide_eq_true rfl) ⟨_, rfl, n, rfl, okd.1, _, rfl, ifF rfl ?_⟩⟩
          refine ⟨_, rfl, _, rfl, pk, r.key, kl, kr, two.1, nn, dp, _, rfl, ?_⟩
          rw [two.2]
          exact ifF rfl ⟨_, rfl, s1, _, _, _, _, _, _, _, _, rfl, next⟩
        · refine ⟨_, rfl, rfl, _, rfl, ifF (decide_eq_false fun z => nomatch z) ⟨_, rfl, _, rfl, l', ws.map V.str, rfl, .inl (s1.seq hl), rfl, flat_strs ws, _, rfl, ifF (by rw [if_neg (by decide), inV_strs (inW r rr b n l hd)]; rfl) ?_⟩⟩
          refine ⟨_, rfl, _, rfl, pk, r.key, kl, kr, two.1, nn, dp, _, rfl, ?_⟩
          rw [two.2]
          exact ifF rfl ⟨_, rfl, s1, _, _, _, _, _, _, _, _, rfl, next⟩
    · rintro σ' H' ⟨s1, _⟩
      exact q _ s1
end
end K02
namespace K02
open PySem PySem.Spec PyProof.Rows L2 WD NS MC GL
open C8 (pss_cut tCut)
abbrev sNearM : Stmt := topS 16
abbrev sIsM : Stmt := topS 15
abbrev sChkM : Stmt := topS 20
abbrev sNbOf : Stmt := topS 22
abbrev sSing : Stmt := topS 24
/-- no machine -/
inductive BadM (K : PySem.W.Frag) (H : Hp) : V → Prop
  | ty {v : V} (ty : String) (m : ty ∈ ["NoneType", "bool", "int", "str", "list", "dict"]) (t : TyX K H v (.type ty)) : BadM K H v
  | len {a : Addr} {xs : List V} (e : H a = some (.tup xs)) (n : xs.length ≠ 3) : BadM K H (.ref a)
  | size {a : Addr} {x y z : V} (e : H a = some (.tup [x, y, z])) (n : NotInt K H x ∨ ∃ i, x = .int i ∧ ¬ (1 ≤ i ∧ i ≤ 30)) : BadM K H (.ref a)
theorem BadM.same {K : PySem.W.Frag} {H H' : Hp} {v : V} (s : Same H H') (h : BadM K H v) : BadM K H' v := by
  cases h with
  | ty ty m t => exact .ty ty m (tyX_same s t)
  | len e n => exact .len (s _ _ e) n
  | size e n => exact .size (s _ _ e) (n.imp (NotInt.same s) id)
def spNearM (K : PySem.W.Frag) : Sp := fun vs H Q _ => ∃ v nr : V, vs = [v, nr] ∧ ((∃ (a : Addr) (m : MachM), v = .ref a ∧ Kz H (.ref a) m.key ∧ m.Ok ∧ NearOk K H nr m.rows ∧ ∀ H', Same H H' → Q (.bl true) H') ∨ (BadM K H v ∧ Q (.bl false) H))
def spIsM (K : PySem.W.Frag) : Sp := fun vs H Q _ => ∃ v : V, vs = [v] ∧ ((∃ (a : Addr) (m : MachM), v = .ref a ∧ Kz H (.ref a) m.key ∧ m.Ok ∧ ∀ H', Same H H' → Q (.bl true) H') ∨ (BadM K H v ∧ Q (.bl false) H))
structure TxtM (K : PySem.W.Frag) (mg : Str → Option Value) (fS fT fR fI fC cM : Addr) (dS dT dR dI dC : FuncData) : Prop where
  ms : ∃ t, mg "MAX_STATES" = some (.int 30 t)
  mt : ∃ t, mg "MAX_TRANSITIONS" = some (.int 90 t)
  S : Fun K "are_states" "are_states" sAreSt fS dS
  bS : L2.Binds K dS ["value", "size"] []
  gS : mg "are_states" = some (.ref fS)
  T : Fun K "are_transitions" "are_transitions" sAreTr fT dT
  bT : L2.Binds K dT ["value", "size", "near"] []
  gT : mg "are_transitions" = some (.ref fT)
  R : Fun K "is_machine_near" "is_machine_near" sNearM fR dR
  bR : L2.Binds K dR ["value", "near"] []
  gR : mg "is_machine_near" = some (.ref fR)
  I : Fun K "is_machine" "is_machine" sIsM fI dI
  bI : L2.Binds K dI ["value"] []
  gI : mg "is_machine" = some (.ref fI)
  C : Fun K "check_machine" "check_machine" sChkM fC dC
  bC : L2.Binds K dC ["machine"] []
  gC : mg "check_machine" = some (.ref fC)
  oc : ErrC K cM veC "ValueError.__new__"
  oi : PySem.W.findIn K (.ref cM) "__init__" = some (some (.builtin "ValueError.__init__"))
  oty : PySem.W.typeIn K (.ref cM) = some (.type "type")
  og : mg "InvalidMachine" = some (.ref cM)
abbrev nNm : List Str := ["value", "near", "size", "finals", "transitions"]
theorem scNearM : FnScope nNm ["value", "near"] (defScope sNearM) := ⟨rfl, rfl, rfl, by decide +kernel, rfl, by decide +kernel, by decide +kernel⟩
theorem scIsM : FnScope ["value"] ["value"] (defScope sIsM) := ⟨rfl, rfl, rfl, by decide +kernel, rfl, by decide +kernel, by decide +kernel⟩
theorem scChkM : FnScope ["machine"] ["machine"] (defScope sChkM) := ⟨rfl, rfl, rfl, by decide +kernel, rfl, by decide +kernel, by decide +kernel⟩
theorem scNbOf : FnScope ["machine"] ["machine"] (defScope sNbOf) := ⟨rfl, rfl, rfl, by decide +kernel, rfl, by decide +kernel, by decide +kernel⟩
theorem scSing : FnScope ["value"] ["value"] (defScope sSing) := ⟨rfl, rfl, rfl, by decide +kernel, rfl, by decide +kernel, by decide +kernel⟩
theorem tup_kitB {ty : String} (m : ty ∈ ["NoneType", "bool", "int", "str", "list", "dict"]) : kitB ty "tuple" = some false := by
  simp only [List.mem_cons, List.not_mem_nil, or_false] at m
  rcases m with rfl | rfl | rfl | rfl | rfl | rfl <;> decide +kernel
section
variable {P : Program} {w : World} {K : PySem.W.Frag} {mg : Str → Option Value} {base : Heap} {fW fF fN fS fT fR fI fC cM : Addr} {dW dF dN dS dT dR dI dC : FuncData}
theorem ok_NearM {f : Addr} {fd : FuncData} {k : Nat} (F : Fun K "is_machine_near" "is_machine_near" sNearM f fd) (T : TxtI K mg fW fF dW dF) (TN : TxtNm K mg) (TT : TxtT K mg fN dN) (M : TxtM K mg fS fT fR fI fC cM dS dT dR dI dC) : FnOk P w K mg base CX0 (k + 3) f fd ["value", "near"] (spNearM K) := by
  have GW : FnOk P w K mg base CX0 (k + 1) fW dW ["value"] (spWhole K) := ok_IsWh T.W T
  have GS : FnOk P w K mg base CX0 (k + 2) fS dS ["value", "size"] spAreSt := ok_AreSt M.S T TN
  have GT : FnOk P w K mg base CX0 (k + 2) fT dT ["value", "size", "near"] (spAreTr K) := ok_AreTr M.T T TN TT
  obtain ⟨t30, g30⟩ := M.ms
  obtain ⟨t90, g90⟩ := M.mt
  refine F.ok scNearM (fun vs H Q E h => ?_) (fun cdv A outer s H vs Q E hr h => ?_)
  · obtain ⟨v, nr, rfl, _⟩ := h
    rfl
  · obtain ⟨v, nr, rfl, h⟩ := h
    have hr1 : Room (k + 1) _ := hr.mono (by omega)
    refine ⟨_, pss_cons (ps_if (PW.pt (pw_or (pt_not (pt_val (pe_callB call_isi (by rfl) T.isi (by decide +kernel) (pa_cons (pv 0) (pa_cons (pe_bltn (by rfl) TN.tuple (by decide +kernel) (v := .ty "tuple") rfl) pa_nil)))))
            (pw_or1 (pt_cmpR op_ne (pe_callB call_len_seq (by rfl) TN.len PySem.boot_len (pa_cons (pv 0) pa_nil)) pe_int (nomark _))))) (pss_one (ps_ret pe_bl)) pss_nil)
      (pss_cons (ps_asg (pv 0) (pg_tup rfl (pgs_cons (pg_name (i := 2) scNearM.nd rfl (.inl rfl)) (pgs_cons (pg_name (i := 3) scNearM.nd rfl (.inl rfl)) (pgs_cons (pg_name (i := 4) scNearM.nd rfl (.inl rfl)) pgs_nil)))))
      (pss_one (ps_ret (pe_and (pe_call GW hr1 (by rfl) T.gW T.W.kp T.bW .nil pass0 (pa_cons (pv 2) pa_nil))
        (pe_and (pe_chain op_le op_le pe_int (pv 2) (pe_glob (v := .int 30) rfl g30 ⟨_, rfl⟩))
        (pe_and (pe_call GS hr (by rfl) M.gS M.S.kp M.bS .nil pass0 (pa_cons (pv 3) (pa_cons (pv 2) pa_nil)))
        (pe_and (pe_call GT hr (by rfl) M.gT M.T.kp M.bT .nil pass0 (pa_cons (pv 4) (pa_cons (pv 2) (pa_cons (pv 1) pa_nil))))
        (pe_one (pe_cmpR op_le (pe_callB call_len_seq (by rfl) TN.len PySem.boot_len (pa_cons (pv 4) pa_nil)) (pe_glob (v := .int 90) rfl g90 ⟨_, rfl⟩) (nomark _)))))))))), ?_⟩
    rcases h with ⟨a, m, rfl, hm, ok, near, q⟩ | ⟨bad, q⟩
    · obtain ⟨M'⟩ := mach_at hm
      refine ⟨_, rfl, _, _, _, .type "tuple", true, rfl, .ty _, .base (.tup M'.top), kit_ty (by decide +kernel), _, rfl, iteF ?_⟩
      refine ⟨_, rfl, a, _, rfl, .inr (SqT.of M'.top), rfl, _, rfl, iteF ?_⟩
      refine ⟨_, rfl, a, _, rfl, SqT.of M'.top, rfl, _, _, rfl, _, _, rfl, _, _, rfl, rfl, ?_⟩
      refine ⟨_, rfl, _, rfl, .inl ⟨_, rfl, _, rfl, iteT ?_⟩⟩
      have c0 := ok.s0
      have c1 := ok.s1
      refine ⟨_, rfl, _, _, rfl, rfl, _, rfl, ifT (decide_eq_true (show (1 : Int) ≤ m.size by omega)) ⟨_, _, rfl, rfl, _, rfl, ifT (decide_eq_true (show (m.size : Int) ≤ 30 by omega)) ?_⟩⟩
      refine ⟨_, rfl, _, rfl, M'.f, m.finals, m.size, rfl, M'.fin, ok.f2, ok.f1, _, rfl, iteT ?_⟩
      refine ⟨_, rfl, _, rfl, _, rfl, M'.t, m.rows, M'.xs, m.size, nr, rfl, M'.row, M'.all, ok.r1, ok.r2, near, fun H' s' => ⟨_, rfl, iteT ?_⟩⟩
      have lx : M'.xs.length = m.rows.length := by
        have z := kz_len M'.all
        rw [List.length_map] at z
        exact z
      have c3 := ok.r3
      have e90 : decide (((M'.xs.length : Nat) : Int) ≤ 90) = true := decide_eq_true (by omega)
      refine ⟨_, rfl, M'.t, _, rfl, .inr (SqT.of (s' _ _ M'.row)), _, _, rfl, rfl, ?_⟩
      show Q (.bl (decide (((M'.xs.length : Nat) : Int) ≤ 90))) H'
      rw [e90]
      exact q _ s'
    · cases bad with
      | ty ty mt t =>
        exact ⟨_, rfl, _, _, _, .type "tuple", false, rfl, .ty _, t, kit_ty (tup_kitB mt), _, rfl, iteT q⟩
      | @len a xs e n =>
        refine ⟨_, rfl, _, _, _, .type "tuple", true, rfl, .ty _, .base (.tup e), kit_ty (by decide +kernel), _, rfl, iteF ?_⟩
        refine ⟨_, rfl, a, _, rfl, .inr (SqT.of e), rfl, _, rfl, ?_⟩
        have e2 : (!decide (V.int ((xs.length : Nat) : Int) = V.int 3)) = true := by
          rw [decide_eq_false]
          · rfl
          · intro z
            have z2 := V.int.inj z
            omega
        rw [e2]
        exact iteT q
      | @size a x y z e n =>
        refine ⟨_, rfl, _, _, _, .type "tuple", true, rfl, .ty _, .base (.tup e), kit_ty (by decide +kernel), _, rfl, iteF ?_⟩
        refine ⟨_, rfl, a, _, rfl, .inr (SqT.of e), rfl, _, rfl, iteF ?_⟩
        refine ⟨_, rfl, a, _, rfl, SqT.of e, rfl, _, _, rfl, _, _, rfl, _, _, rfl, rfl, ?_⟩
        rcases n with n | ⟨i, rfl, n⟩
        · exact ⟨_, rfl, _, rfl, .inr ⟨n, _, rfl, iteF q⟩⟩
        · refine ⟨_, rfl, _, rfl, .inl ⟨_, rfl, _, rfl, iteT ?_⟩⟩
          refine ⟨_, rfl, _, _, rfl, rfl, _, rfl, ?_⟩
          by_cases c : (1 : Int) ≤ i
          · exact ifT (decide_eq_true c) ⟨_, _, rfl, rfl, _, rfl, ifF (decide_eq_false fun z => n ⟨c, z⟩) q⟩
          · exact ifF (decide_eq_false c) ⟨_, rfl, iteF q⟩
theorem ok_IsM {f : Addr} {fd : FuncData} {k : Nat} (F : Fun K "is_machine" "is_machine" sIsM f fd) (T : TxtI K mg fW fF dW dF) (TN : TxtNm K mg) (TT : TxtT K mg fN dN) (M : TxtM K mg fS fT fR fI fC cM dS dT dR dI dC) : FnOk P w K mg base CX0 (k + 4) f fd ["value"] (spIsM K) := by
  have GR : FnOk P w K mg base CX0 (k + 3) fR dR ["value", "near"] (spNearM K) := ok_NearM M.R T TN TT M
  refine F.ok scIsM (fun vs H Q E h => ?_) (fun cdv A outer s H vs Q E hr h => ?_)
  · obtain ⟨v, rfl, _⟩ := h
    rfl
  · obtain ⟨v, rfl, h⟩ := h
    refine ⟨_, pss_one (ps_ret (pe_call GR hr (by rfl) M.gR M.R.kp M.bR .nil pass0 (pa_cons (pv 0) (pa_cons pe_non pa_nil)))), ?_⟩
    refine ⟨_, rfl, v, .non, rfl, ?_⟩
    rcases h with ⟨a, m, rfl, hm, ok, q⟩ | ⟨bad, q⟩
    · exact .inl ⟨a, m, rfl, hm, ok, .inl rfl, q⟩
    · exact .inr ⟨bad, q⟩
theorem ok_ChkM {f : Addr} {fd : FuncData} {k : Nat} (F : Fun K "check_machine" "check_machine" sChkM f fd) (T : TxtI K mg fW fF dW dF) (TN : TxtNm K mg) (TT : TxtT K mg fN dN) (M : TxtM K mg fS fT fR fI fC cM dS dT dR dI dC) : FnOk P w K mg base (L2.CX P w) (k + 5) f fd ["machine"] (spChkM K (BadM K) cM) := by
  have GI : FnOk P w K mg base CX0 (k + 4) fI dI ["value"] (spIsM K) := ok_IsM M.I T TN TT M
  refine F.okX scChkM (fun vs H Q E h => ?_) (fun cdv A outer s H vs Q E hr h => ?_)
  · obtain ⟨v, rfl, _⟩ := h
    rfl
  · obtain ⟨v, rfl, h⟩ := h
    refine ⟨_, pss_one (ps_if (pt_not (pt_val (pe_call GI hr (by rfl) M.gI M.I.kp M.bI .nil pass0 (pa_cons (pv 0) pa_nil)))) (pss_one (ps_raise rfl (takes_of rfl rfl rfl rfl) (pmk_X rfl (pe_mkA PySem.F.excBase_ValueError M.oc M.oi (by rfl) M.og pe_str)))) pss_nil), ?_⟩
    refine ⟨_, rfl, v, rfl, ?_⟩
    rcases h with ⟨a, m, rfl, hm, ok, q⟩ | ⟨bad, q⟩
    · exact .inl ⟨a, m, rfl, hm, ok, fun H' s' => ⟨_, rfl, iteF (q _ s')⟩⟩
    · refine .inr ⟨bad, _, rfl, ifT rfl fun b t nb nt ne => ⟨b, cM, t, none, rfl, upd_same, fr0_none nb, raises_X M.oc M.oty, ?_⟩⟩
      show E (.ref cM) none (delH _ b)
      rw [delH_two nb ne]
      exact q _ (same_upd nt)
end
end K02
namespace K02
open PySem PySem.Spec PyProof.Rows L2 WD NS MC GL
open C8 (pss_cut tCut)
/-- the neighbours, or InvalidMachine -/
def spNbOf (K : PySem.W.Frag) (cM : Addr) : Sp := fun vs H Q E => ∃ v : V, vs = [v] ∧ ((BadM K H v ∧ ∀ H', Same H H' → E (.ref cM) none H') ∨ ∃ (a : Addr) (m : MachM), v = .ref a ∧ Kz H (.ref a) m.key ∧ m.Ok ∧
  ∀ H' p (ys : List Str), Same H H' → H p = none → H' p = some (.tup (ys.map V.str)) → NearOf m ys → ys.length < 64 → Q (.ref p) H')
def spSing (K : PySem.W.Frag) : Sp := fun vs H Q _ => ∃ v : V, vs = [v] ∧ ((BadM K H v ∧ Q (.bl false) H) ∨ ∃ (a : Addr) (m : MachM), v = .ref a ∧ Kz H (.ref a) m.key ∧ m.Ok ∧
  ∀ H' (ys : List Str), Same H H' → NearOf m ys → ys.length < 64 → Q (.bl (decide (ys.length ≤ 1))) H')
section
variable {P : Program} {w : World} {K : PySem.W.Frag} {mg : Str → Option Value} {base : Heap} {fW fF fN fS fT fR fI fC cM fX fB : Addr} {dW dF dN dS dT dR dI dC dX dB : FuncData}
/-- where neighbours_in stands -/
structure TxtB (K : PySem.W.Frag) (mg : Str → Option Value) (fX fB : Addr) (dX dB : FuncData) : Prop where
  X : TxtX K mg fX dX
  B : Fun K "neighbours_in" "neighbours_in" sNbIn fB dB
  bB : L2.Binds K dB ["machine"] []
  gB : mg "neighbours_in" = some (.ref fB)
theorem ok_NbOf {f : Addr} {fd : FuncData} {k : Nat} (F : Fun K "neighbours_of" "neighbours_of" sNbOf f fd) (T : TxtI K mg fW fF dW dF) (TN : TxtNm K mg) (TT : TxtT K mg fN dN) (M : TxtM K mg fS fT fR fI fC cM dS dT dR dI dC) (TS : TxtS mg) (B : TxtB K mg fX fB dX dB) :
    FnOk P w K mg base (L2.CX P w) (k + 6) f fd ["machine"] (spNbOf K cM) := by
  have GC : FnOk P w K mg base (L2.CX P w) (k + 5) fC dC ["machine"] (spChkM K (BadM K) cM) := ok_ChkM M.C T TN TT M
  have GN : FnOk P w K mg base CX0 (k + 2) fB dB ["machine"] spNear := ok_NbIn B.B TS B.X
  refine F.okX scNbOf (fun vs H Q E h => ?_) (fun cdv A outer s H vs Q E hr h => ?_)
  · obtain ⟨v, rfl, _⟩ := h
    rfl
  · obtain ⟨v, rfl, h⟩ := h
    have hr2 : Room (k + 2) _ := hr.mono (by omega)
    refine ⟨_, pss_cons (ps_expr (pe_callS GC hr (by rfl) M.gC M.C.kp M.bC (passAt (takes_of rfl rfl rfl rfl)) (pa_cons (pv 0) pa_nil)))
      (pss_one (ps_ret (pe_call GN hr2 (by rfl) B.gB B.B.kp B.bB .nil pass0 (pa_cons (pv 0) pa_nil)))), ?_⟩
    rcases h with ⟨bad, q⟩ | ⟨a, m, rfl, hm, ok, q⟩
    · exact ⟨_, rfl, v, rfl, .inr ⟨bad, q⟩⟩
    · refine ⟨_, rfl, _, rfl, .inl ⟨a, m, rfl, hm, ok, fun H1 s1 => ?_⟩⟩
      exact ⟨_, rfl, a, m, rfl, Kz.same s1 _ _ hm, ok, fun H' p ys s' np e near few => q H' p ys (s1.trans s') (s1.free np) e near few⟩
theorem ok_Sing {f : Addr} {fd : FuncData} {k : Nat} (F : Fun K "is_single" "is_single" sSing f fd) (T : TxtI K mg fW fF dW dF) (TN : TxtNm K mg) (TT : TxtT K mg fN dN) (M : TxtM K mg fS fT fR fI fC cM dS dT dR dI dC) (TS : TxtS mg) (B : TxtB K mg fX fB dX dB) :
    FnOk P w K mg base CX0 (k + 5) f fd ["value"] (spSing K) := by
  have GI : FnOk P w K mg base CX0 (k + 4) fI dI ["value"] (spIsM K) := ok_IsM M.I T TN TT M
  have GN : FnOk P w K mg base CX0 (k + 2) fB dB ["machine"] spNear := ok_NbIn B.B TS B.X
  refine F.ok scSing (fun vs H Q E h => ?_) (fun cdv A outer s H vs Q E hr h => ?_)
  · obtain ⟨v, rfl, _⟩ := h
    rfl
  · obtain ⟨v, rfl, h⟩ := h
    have hr2 : Room (k + 2) _ := hr.mono (by omega)
    refine ⟨_, pss_one (ps_ret (pe_and (pe_call GI hr (by rfl) M.gI M.I.kp M.bI .nil pass0 (pa_cons (pv 0) pa_nil))
      (pe_one (pe_cmpR op_le (pe_callB call_len_seq (by rfl) TN.len PySem.boot_len (pa_cons (pe_call GN hr2 (by rfl) B.gB B.B.kp B.bB .nil pass0 (pa_cons (pv 0) pa_nil)) pa_nil)) pe_int (nomark _))))), ?_⟩
    rcases h with ⟨bad, q⟩ | ⟨a, m, rfl, hm, ok, q⟩
    · exact ⟨_, rfl, v, rfl, .inr ⟨bad, _, rfl, iteF q⟩⟩
    · refine ⟨_, rfl, _, rfl, .inl ⟨a, m, rfl, hm, ok, fun H1 s1 => ⟨_, rfl, iteT ?_⟩⟩⟩
      refine ⟨_, rfl, a, m, rfl, Kz.same s1 _ _ hm, ok, fun H' p ys s' np e near few => ?_⟩
      refine ⟨p, _, rfl, .inr (SqT.of e), _, _, rfl, rfl, ?_⟩
      show Q (.bl (decide ((((ys.map V.str).length : Nat) : Int) ≤ 1))) H'
      have ed : decide ((((ys.map V.str).length : Nat) : Int) ≤ 1) = decide (ys.length ≤ 1) := by
        rw [List.length_map]
        by_cases c : ys.length ≤ 1
        · rw [decide_eq_true c, decide_eq_true (by omega)]
        · rw [decide_eq_false c, decide_eq_false (by omega)]
      rw [ed]
      exact q H' ys (s1.trans s') near few
end
end K02
/-! repr of a truth value. -/
namespace GL
open PySem PySem.Spec PyProof.Rows L2
section
variable {X : Cx}
def rReprB : List V → Hp → VK → Prop := fun xs H Q => ∃ b, xs = [.bl b] ∧ Q (.str (if b = true then "True" else "False")) H
theorem call_repr_bl : CallR X (.builtin "repr") rReprB := by
  intro pins s σ H xs us Q I r h
  obtain ⟨b, rfl, q⟩ := h
  cases r with
  | cons r1 r2 =>
    cases r2
    cases r1
    exact PySem.P.repr_of_bool ⟨.str _, H, I.tok _, ⟨_, rfl⟩, q⟩
end
end GL
namespace K02
open PySem PySem.Spec PyProof.Rows L2 WD NS MC GL
open C8 (pss_cut tCut)
abbrev sRight : Stmt := topS 37
/-- a def of the text: where it stands, how it is called -/
structure Df (K : PySem.W.Frag) (mg : Str → Option Value) (name : Str) (st : Stmt) (ps : List Str) (f : Addr) (fd : FuncData) : Prop where
  F : Fun K name name st f fd
  b : L2.Binds K fd ps []
  g : mg name = some (.ref f)
theorem passE0 {X : Cx} {P : Program} {w : World} (hP : X.prog = P) (hw : X.w = w) : L2.Passes (L2.CX P w) X C8.E0 := by
  subst hP hw
  exact L2.passes_call WD.takes_none fun _ _ _ _ z => z
theorem sorted_ext {α : Type} {r : α → α → Prop} (ir : ∀ a, ¬ r a a) (as : ∀ a b, r a b → ¬ r b a) : ∀ l l' : List α, l.Pairwise r → l'.Pairwise r → (∀ x, x ∈ l ↔ x ∈ l') → l = l'
  | [], [], _, _, _ => rfl
  | [], b :: t, _, _, h => absurd ((h b).mpr List.mem_cons_self) List.not_mem_nil
  | a :: t, [], _, _, h => absurd ((h a).mp List.mem_cons_self) List.not_mem_nil
  | a :: t, b :: t', h1, h2, h => by
    obtain ⟨a1, a2⟩ := List.pairwise_cons.mp h1
    obtain ⟨b1, b2⟩ := List.pairwise_cons.mp h2
    have e : a = b := by
      rcases List.mem_cons.mp ((h a).mp List.mem_cons_self) with z | z
      · exact z
      · rcases List.mem_cons.mp ((h b).mpr List.mem_cons_self) with y | y
        · exact y.symm
        · exact absurd (b1 a z) (as a b (a1 b y))
    subst e
    congr 1
    refine sorted_ext ir as t t' a2 b2 fun x => ⟨fun m => ?_, fun m => ?_⟩
    · rcases List.mem_cons.mp ((h x).mp (List.mem_cons_of_mem _ m)) with z | z
      · rw [z] at m; exact absurd (a1 a m) (ir a)
      · exact z
    · rcases List.mem_cons.mp ((h x).mpr (List.mem_cons_of_mem _ m)) with z | z
      · rw [z] at m; exact absurd (b1 a m) (ir a)
      · exact z
theorem strs_ext {l l' : List Str} (a : l.Pairwise (fun x y => x.cps.toList ≤ y.cps.toList)) (n : l.Nodup) (a' : l'.Pairwise (fun x y => x.cps.toList ≤ y.cps.toList)) (n' : l'.Nodup) (h : ∀ x, x ∈ l ↔ x ∈ l') : l = l' := by
  refine sorted_ext (r := fun x y : Str => x.cps.toList ≤ y.cps.toList ∧ x ≠ y) (fun a z => z.2 rfl) (fun a b z y => z.2 (PySem.W.str_of_cps (List.le_antisymm z.1 y.1))) l l' (a.and n) (a'.and n') h
theorem near_ext {m : MachM} {ys zs : List Str} (a : NearOf m ys) (b : NearOf m zs) : ys = zs := strs_ext a.asc a.once b.asc b.once fun x => (a.mem x).trans (b.mem x).symm
theorem told_ext {m : MachM} {st : Int} {wd : Bool} {o : Str} {ys zs : List Str} (a : ToldOf m st wd o ys) (b : ToldOf m st wd o zs) : ys = zs := strs_ext a.asc a.once b.asc b.once fun x => (a.mem x).trans (b.mem x).symm
theorem near_wd {m : MachM} (ok : m.Ok) {ys : List Str} (a : NearOf m ys) : ∀ x ∈ ys, Wd x := fun x hx => by
  obtain ⟨r, hr, b, l, e⟩ := (a.mem x).mp hx
  have d := (ok.r1 r hr).dd
  rw [e] at d
  exact d.1
theorem told_wd {m : MachM} (ok : m.Ok) {st : Int} {wd : Bool} {o : Str} {ys : List Str} (a : ToldOf m st wd o ys) : ∀ x ∈ ys, Wd x := fun x hx => by
  obtain ⟨r, hr, _, e⟩ := (a.mem x).mp hx
  have d := (ok.r1 r hr).dd
  rw [e] at d
  exact d.2
theorem shaped_strsT (ws : List Str) (h : ∀ x ∈ ws, Wd x) : SeqAt.shaped (.tuple (ws.map PyData.str)) = true := by
  rw [SeqAt.shaped, PyData.canLay0, can_strs ws h, PyData.depth, depth_strs]
  rfl
theorem dp_ints {K : PySem.W.Frag} {H : Hp} : ∀ ns : List Int, DpAll K H (ns.map V.int) (ns.map PyData.int)
  | [] => .nil
  | x :: ns => .cons (.int x) (dp_ints ns)
theorem can_ints : ∀ ns : List Int, PyData.canLayAll0 (ns.map PyData.int) = true
  | [] => rfl
  | x :: ns => by rw [List.map_cons, PyData.canLayAll0, can_ints ns]; rfl
theorem depth_ints : ∀ ns : List Int, PyData.depthAll (ns.map PyData.int) = 0
  | [] => rfl
  | x :: ns => by rw [List.map_cons, PyData.depthAll, depth_ints ns]; rfl
theorem shaped_intsT (ns : List Int) : SeqAt.shaped (.tuple (ns.map PyData.int)) = true := by
  rw [SeqAt.shaped, PyData.canLay0, can_ints ns, PyData.depth, depth_ints]
  rfl
theorem shaped_can {d : PyData} (h : SeqAt.shaped d = true) : d.canLay0 = true := by
  rw [SeqAt.shaped, Bool.and_eq_true] at h
  exact h.1
theorem eqv_self {d : PyData} (h : SeqAt.shaped d = true) : PyData.eqv d d = true := SeqAt.eqv_refl d (shaped_can h)
/-- two tuples of the same texts are told equal -/
theorem ne_strs {K : PySem.W.Frag} {H : Hp} {p q : Addr} {ys : List Str} {Q : V → Hp → Prop} (hp : SqT K H p (ys.map V.str)) (hq : SqT K H q (ys.map V.str)) (h : ∀ x ∈ ys, Wd x) (k : Q (.bl false) H) : rNeD K (.ref p) (.ref q) H Q := by
  refine ⟨_, _, .tup hp (dp_strs ys), .tup hq (dp_strs ys), shaped_strsT ys h, shaped_strsT ys h, ?_⟩
  rw [eqv_self (shaped_strsT ys h)]
  exact k
theorem ne_ints {K : PySem.W.Frag} {H : Hp} {p q : Addr} {ns : List Int} {Q : V → Hp → Prop} (hp : SqT K H p (ns.map V.int)) (hq : SqT K H q (ns.map V.int)) (k : Q (.bl false) H) : rNeD K (.ref p) (.ref q) H Q := by
  refine ⟨_, _, .tup hp (dp_ints ns), .tup hq (dp_ints ns), shaped_intsT ns, shaped_intsT ns, ?_⟩
  rw [eqv_self (shaped_intsT ns)]
  exact k
end K02
namespace K02
open PySem PySem.Spec PyProof.Rows L2 WD NS MC GL
open C8 (pss_cut tCut)
abbrev nRi : List Str := ["_law_dice_here", "_law_machine", "_law_near_here", "_law_state", "_law_every", "_law_other", "_law_word", "_law_due", "_law_at", "_law_row_here"]
theorem scRight : FnScope nRi ["_law_dice_here", "_law_machine"] (defScope sRight) := ⟨rfl, rfl, rfl, by decide +kernel, rfl, by decide +kernel, by decide +kernel⟩
/-- all is as it should be -/
def spRight (K : PySem.W.Frag) : Sp := fun vs H Q _ => ∃ (d : V) (a : Addr) (m : MachM), vs = [d, .ref a] ∧ Kz H (.ref a) m.key ∧ m.Ok ∧ ∀ H', Same H H' → Q (.bl true) H'
abbrev psTr : List Str := ["machine", "state"]
abbrev psLe : List Str := ["machine", "state", "word", "other"]
abbrev psTd : List Str := ["_law_machine", "_law_state", "_law_word", "_law_other"]
/-- where the defs stand that _law_right calls -/
structure TxtRt (K : PySem.W.Frag) (mg : Str → Option Value) (f1 f2 f3 f4 f5 f6 : Addr) (d1 d2 d3 d4 d5 d6 : FuncData) : Prop where
  near : Df K mg "_law_near" sNear ["_law_machine"] f1 d1
  nbof : Df K mg "neighbours_of" sNbOf ["machine"] f2 d2
  sing : Df K mg "is_single" sSing ["value"] f3 d3
  trans : Df K mg "transitions_at" sTrans psTr f4 d4
  letr : Df K mg "letters_at" sLet psLe f5 d5
  told : Df K mg "_law_told" sTold psTd f6 d6
  repr : mg "repr" = none
  range : mg "range" = none
section
variable {P : Program} {w : World} {K : PySem.W.Frag} {mg : Str → Option Value} {base : Heap} {f1 f2 f3 f4 f5 f6 cM cN cU cO : Addr} {d1 d2 d3 d4 d5 d6 : FuncData} {k : Nat}
theorem ok_Right {f : Addr} {fd : FuncData} (F : Fun K "_law_right" "_law_right" sRight f fd) (T : TxtRt K mg f1 f2 f3 f4 f5 f6 d1 d2 d3 d4 d5 d6) (TD : TxtD mg) (TS : TxtS mg)
    (G1 : FnOk P w K mg base CX0 k f1 d1 ["_law_machine"] spNear) (G2 : FnOk P w K mg base (L2.CX P w) k f2 d2 ["machine"] (spNbOf K cM)) (G3 : FnOk P w K mg base CX0 k f3 d3 ["value"] (spSing K))
    (G4 : FnOk P w K mg base (L2.CX P w) k f4 d4 psTr (spTrans K (BadM K) cM cN)) (G5 : FnOk P w K mg base (L2.CX P w) k f5 d5 psLe (spLet K (BadM K) cM cN cU cO)) (G6 : FnOk P w K mg base CX0 k f6 d6 psTd spTold) :
    FnOk P w K mg base CX0 (k + 1) f fd ["_law_dice_here", "_law_machine"] (spRight K) := by
  refine F.ok scRight (fun vs H Q E h => ?_) (fun cdv A outer s H vs Q E hr h => ?_)
  · obtain ⟨d, a, m, rfl, _⟩ := h
    rfl
  · obtain ⟨d, a, m, rfl, hm, ok, q⟩ := h
    have hu := hr.units
    refine ⟨_, pss_cut (ps_set (i := 2) scRight.nd rfl (.inl rfl) (pe_call G1 hr (by rfl) T.near.g T.near.F.kp T.near.b .nil pass0 (pa_cons (pv 1) pa_nil)))
      (pss_cut (ps_if (PW.pt (pw_or (pt_cmpR (show OpR _ (compareOp .NotEq) (rNeD K) from op_neD hu) (pe_call G2 hr (by rfl) T.nbof.g T.nbof.F.kp T.nbof.b .nil (passE0 rfl rfl) (pa_cons (pv 1) pa_nil)) (pv 2) (nomark _))
          (pw_or1 (pt_cmpR op_ne (pe_callB (show CallR _ (.builtin "repr") rReprB from call_repr_bl) (by rfl) T.repr (by decide +kernel) (pa_cons (pe_call G3 hr (by rfl) T.sing.g T.sing.F.kp T.sing.b .nil pass0 (pa_cons (pv 1) pa_nil)) pa_nil))
            (pe_callB (show CallR _ (.builtin "repr") rReprB from call_repr_bl) (by rfl) T.repr (by decide +kernel) (pa_cons (pe_cmpR op_lt (pe_callB call_len_seq (by rfl) TD.len PySem.boot_len (pa_cons (pv 2) pa_nil)) pe_int (nomark _)) pa_nil)) (nomark _))))) (pss_one (ps_ret pe_bl)) pss_nil)
      (pss_cut (ps_for PassesOwn.never rfl (pi_range1 rfl T.range (pa_cons (pe_ix (show IxR _ (rIxT K) from ix_tup) (pv 1) pe_int (fun _ _ => rfl)) pa_nil)) (pg_name (i := 3) scRight.nd rfl (.inr rfl))
        (pss_cut (ps_set (i := 4) scRight.nd rfl (.inl rfl) (pe_callTy call_tuple_of (by rfl) TS.tuple (by decide +kernel) (pa_cons (pe_lc (own := [("_law_at", 8), ("_law_row_here", 9)]) (g := gTup K 2 (gCons (gName 8) (gCons (gName 9) gNil))) (tt := tTest (tOp rEq (tOp (rIxT K) (tVar 9) (tC (.int 0))) (tVar 3))) (te := tVar 8) rfl scRight.nd
            (ET.pi_enumT (by rfl) TD.enumerate (pa_cons (pe_ix ix_tup (pv 1) pe_int (fun _ _ => rfl)) pa_nil)) (blkOk_by (own := [("_law_at", 8), ("_law_row_here", 9)]) (N := nRi) (sc := defScope sRight) (by decide +kernel))
            (fun _ _ _ _ _ => pg_tup rfl (pgs_cons (pg_name (i := 8) scRight.nd rfl (.inl rfl)) (pgs_cons (pg_name (i := 9) scRight.nd rfl (.inl rfl)) pgs_nil)))
            (fun _ _ _ _ _ => pts_one (pt_cmpR op_eq (pe_ix (show IxR _ (rIxT K) from ix_tup) (pv 9) pe_int (fun _ _ => rfl)) (pv 3) (nomark _)))
            (fun _ _ _ _ _ => pv 8)) pa_nil)))
        (pss_cut (ps_if (pt_cmpR (show OpR _ (compareOp .NotEq) (rNeD K) from op_neD hu) (pe_call G4 hr (by rfl) T.trans.g T.trans.F.kp T.trans.b .nil (passE0 rfl rfl) (pa_cons (pv 1) (pa_cons (pv 3) pa_nil))) (pv 4) (nomark _)) (pss_one (ps_ret pe_bl)) pss_nil)
        (pss_one (ps_for PassesOwn.never rfl (pi_tup (pv 2)) (pg_name (i := 5) scRight.nd rfl (.inl rfl))
          (pss_one (ps_for PassesOwn.never rfl (pi_tup (pe_tup (pa_cons pe_str (pa_cons pe_str pa_nil)))) (pg_name (i := 6) scRight.nd rfl (.inl rfl))
            (pss_cut (ps_set (i := 7) scRight.nd rfl (.inl rfl) (pe_call G6 hr (by rfl) T.told.g T.told.F.kp T.told.b .nil pass0 (pa_cons (pv 1) (pa_cons (pv 3) (pa_cons (pv 6) (pa_cons (pv 5) pa_nil))))))
            (pss_one (ps_if (PW.pt (pw_or (pt_cmpR (show OpR _ (compareOp .NotEq) (rNeD K) from op_neD hu) (pe_call G5 hr (by rfl) T.letr.g T.letr.F.kp T.letr.b .nil (passE0 rfl rfl) (pa_cons (pv 1) (pa_cons (pv 3) (pa_cons (pv 6) (pa_cons (pv 5) pa_nil))))) (pv 7) (nomark _))
              (pw_or1 (pt_cmpR (show OpR _ (compareOp .NotEq) (rNeD K) from op_neD hu) (pe_call G5 hr (by rfl) T.letr.g T.letr.F.kp T.letr.b .nil (passE0 rfl rfl) (pa_cons (pv 1) (pa_cons (pv 3) (pa_cons (pv 6) (pa_cons (pv 5) pa_nil))))) (pv 7) (nomark _))))) (pss_one (ps_ret pe_bl)) pss_nil))))))))))
      (pss_one (ps_ret pe_bl)))), ?_⟩
    have wp : ∀ {ys : List Str}, NearOf m ys → ∀ x ∈ ys, Wd x := fun n => near_wd ok n
    -- the neighbours
    refine ⟨fun σ' H' => ∃ (p : Addr) (ys : List Str), σ' = [some d, some (.ref a), some (.ref p), none, none, none, none, none, none, none] ∧ Same H H' ∧ H' p = some (.tup (ys.map V.str)) ∧ NearOf m ys ∧ ys.length < 64, ?_, ?_⟩
    · exact ⟨_, rfl, a, m, rfl, hm, ok, fun H' p ys s' np e near few => ⟨p, ys, rfl, s', e, near, few⟩⟩
    rintro σ1 H1 ⟨p, ys, rfl, s1, e1, near, few⟩
    have hm1 := Kz.same s1 _ _ hm
    refine ⟨fun σ' H' => σ' = [some d, some (.ref a), some (.ref p), none, none, none, none, none, none, none] ∧ Same H H' ∧ H' p = some (.tup (ys.map V.str)), ?_, ?_⟩
    · refine ⟨_, rfl, _, rfl, .inr ⟨a, m, rfl, hm1, ok, fun H2 p2 ys2 s2 np2 e2 near2 few2 => ?_⟩⟩
      cases near_ext near2 near
      refine ⟨_, rfl, ne_strs (SqT.of e2) (SqT.of (s2 _ _ e1)) (wp near) ⟨_, rfl, ifF rfl ?_⟩⟩
      have hm2 := Kz.same s2 _ _ hm1
      refine ⟨_, rfl, _, rfl, .inr ⟨a, m, rfl, hm2, ok, fun H3 ys3 s3 near3 few3 => ?_⟩⟩
      cases near_ext near3 near
      refine ⟨_, rfl, _, rfl, p, _, rfl, .inr (SqT.of (s3 _ _ (s2 _ _ e1))), _, _, rfl, rfl, _, rfl, ?_⟩
      have ed : decide ((((ys.map V.str).length : Nat) : Int) < 2) = decide (ys.length ≤ 1) := by
        rw [List.length_map]
        by_cases c : ys.length ≤ 1
        · rw [decide_eq_true c, decide_eq_true (by omega)]
        · rw [decide_eq_false c, decide_eq_false (by omega)]
      refine ⟨rfl, _, rfl, ifF ?_ ⟨rfl, s1.trans (s2.trans s3), s3 _ _ (s2 _ _ e1)⟩⟩
      show (!decide (V.str (if decide (ys.length ≤ 1) = true then "True" else "False") = V.str (if decide ((((ys.map V.str).length : Nat) : Int) < 2) = true then "True" else "False"))) = false
      rw [ed, decide_eq_true rfl]
      rfl
    rintro σ2 H2 ⟨rfl, s2, e2⟩
    obtain ⟨M⟩ := mach_at (Kz.same s2 _ _ hm)
    have lx : M.xs.length = m.rows.length := by
      have z := kz_len M.all
      rw [List.length_map] at z
      exact z
    have c0 := ok.s0
    have c1 := ok.s1
    -- the states
    refine ⟨fun σ' H' => Same H H', ?_, fun σ3 H3 s3 => q H3 s3⟩
    refine ⟨_, rfl, a, _, 0, .int m.size, rfl, rfl, SqT.of M.top, atI_nat (j := 0) rfl, (m.size : Int), rfl, by omega, by omega, ?_⟩
    rw [Int.toNat_natCast]
    refine for_range (lo := 0) (n := m.size) (fun i σ' H' => ∃ u3 u4 u5 u6 u7 : Option V, σ' = [some d, some (.ref a), some (.ref p), u3, u4, u5, u6, u7, none, none] ∧ Same H2 H') ⟨none, none, none, none, none, rfl, fun _ _ e => e⟩ ?_ (fun σ' H' ⟨_, _, _, _, _, _, s'⟩ => s2.trans s')
    rintro i σ3 H3 hi ⟨u3, u4, u5, u6, u7, rfl, s3⟩
    rw [Int.zero_add]
    -- every
    refine ⟨fun σ' H' => ∃ pe : Addr, σ' = [some d, some (.ref a), some (.ref p), some (.int i), some (.ref pe), u5, u6, u7, none, none] ∧ Same H2 H' ∧ H' pe = some (.tup ((idxs i 0 m.rows).map V.int)), ?_, ?_⟩
    · refine ⟨_, rfl, a, _, 2, .ref M.t, rfl, rfl, SqT.of (s3 _ _ M.top), atI_nat (j := 2) rfl, M.t, M.xs, rfl, SqT.of (s3 _ _ M.row), fun D nD => ?_⟩
      have sD := same_upd (o := .lst []) nD
      refine lc_it (ET.walk_enumT (xs := M.xs)) (fun j H' => Same H3 H' ∧ H' D = some (.lst ((idxs i 0 (m.rows.take j)).map V.int))) ⟨sD, upd_same⟩ (fun j H' _ z => SqT.of (z.1 _ _ (s3 _ _ M.row))) ?_ ?_
      · rintro j v H4 H5 hj ⟨s4, e4⟩ ⟨T0, v1, v2, rfl, nT, rfl, z1, z2⟩
        cases z1
        obtain ⟨r, hr', ra, dv, rfl, er, kd⟩ := row_at M.all z2
        have kT := same_upd (o := .tup [.int (j : Nat), .ref ra]) nT
        have s5 := s4.trans kT
        rw [lx] at hj
        have lt : (m.rows.take j).length = j := by rw [List.length_take]; omega
        have nx : m.rows.take (j + 1) = m.rows.take j ++ [r] := by rw [List.take_succ, hr']; rfl
        refine ⟨T0, _, rfl, SqT.of upd_same, rfl, _, _, rfl, _, _, rfl, rfl, rfl, ?_⟩
        refine ⟨_, rfl, ra, _, 0, .int r.before, rfl, rfl, SqT.of (s5 _ _ (s3 _ _ er)), atI_nat (j := 0) rfl, _, rfl, rfl, _, rfl, ifB (fun hb => ?_) fun hb => ?_⟩
        · have eb : r.before = (i : Int) := by simpa using hb
          refine ⟨_, rfl, _, kT _ _ e4, ?_, fun b' o' eb' => ?_, ?_⟩
          · have z := idxs_len (i : Int) (m.rows.take j) 0
            have z3 := ok.r3
            rw [List.length_map, sizeLine_eq]
            omega
          · rw [upd_ne (ne_of_none eb' nD)]
            exact s5 _ _ eb'
          · rw [upd_same, nx, idxs_snoc, if_pos eb, lt, List.map_append, Nat.zero_add]
            rfl
        · have nb : ¬ r.before = (i : Int) := by simpa using hb
          refine ⟨s5, ?_⟩
          rw [kT _ _ e4, nx, idxs_snoc, if_neg nb, List.append_nil]
      · rintro H4 ⟨s4, e4⟩
        rw [lx, List.take_length] at e4
        refine ⟨D, _, rfl, .inl ⟨SqL.of e4, fun p5 np5 => ?_⟩⟩
        have k5 := same_upd (o := .tup ((idxs i 0 m.rows).map V.int)) np5
        exact ⟨p5, rfl, s3.trans (s4.trans k5), upd_same⟩
    rintro σ4 H4 ⟨pe, rfl, s4, e4⟩
    have hm4 := Kz.same (s2.trans s4) _ _ hm
    have i0 : (0 : Int) ≤ i := by omega
    have i1 : (i : Int) < m.size := by omega
    -- transitions_at
    refine ⟨fun σ' H' => σ' = [some d, some (.ref a), some (.ref p), some (.int i), some (.ref pe), u5, u6, u7, none, none] ∧ Same H2 H', ?_, ?_⟩
    · refine ⟨_, rfl, _, rfl, _, _, rfl, .inr ⟨a, m, rfl, hm4, ok, .inl ⟨i, rfl, i0, i1, fun H5 p5 s5 np5 e5 => ?_⟩⟩⟩
      exact ⟨_, rfl, ne_ints (SqT.of e5) (SqT.of (s5 _ _ e4)) ⟨_, rfl, ifF rfl ⟨rfl, s4.trans s5⟩⟩⟩
    rintro σ5 H5 ⟨rfl, s5⟩
    -- the neighbours
    refine ⟨_, rfl, p, rfl, ⟨_, SqT.of (s5 _ _ e2)⟩, for_tup (xs := ys.map V.str) (fun j σ' H' => ∃ u5 u6 u7 : Option V, σ' = [some d, some (.ref a), some (.ref p), some (.int i), some (.ref pe), u5, u6, u7, none, none] ∧ Same H2 H') ⟨u5, u6, u7, rfl, s5⟩ (fun j σ' H' _ ⟨_, _, _, _, s'⟩ => SqT.of (s' _ _ e2)) ?_ (fun σ' H' ⟨u5, u6, u7, e, s'⟩ => ⟨_, _, u5, u6, u7, e, s'⟩)⟩
    rintro j v σ6 H6 hv ⟨v5, v6, v7, rfl, s6⟩
    obtain ⟨o, ho, rfl⟩ : ∃ o, o ∈ ys ∧ v = .str o := by
      obtain ⟨o, ho, e⟩ := List.mem_map.mp (List.mem_of_getElem? hv)
      exact ⟨o, ho, e.symm⟩
    have lo : Low o := (wp near o ho).low
    have ex := (near.mem o).mp ho
    -- both words
    refine ⟨(by show 2 ≤ sizeLine; decide), fun t nt => ⟨t, rfl, ⟨_, SqT.of upd_same⟩, ?_⟩⟩
    have kt := same_upd (o := .tup [.str "send", .str "take"]) nt
    refine for_tup (xs := [.str "send", .str "take"]) (fun j σ' H' => ∃ u6 u7 : Option V, σ' = [some d, some (.ref a), some (.ref p), some (.int i), some (.ref pe), some (.str o), u6, u7, none, none] ∧ Same H2 H' ∧ H' t = some (.tup [.str "send", .str "take"])) ⟨v6, v7, rfl, s6.trans kt, upd_same⟩
      (fun j σ' H' _ ⟨_, _, _, _, e⟩ => SqT.of e) ?_ (fun σ' H' ⟨u6, u7, e, s', _⟩ => ⟨_, u6, u7, e, s'⟩)
    rintro l v σ7 H7 hv ⟨w6, w7, rfl, s7, e7⟩
    obtain ⟨wd, rfl⟩ : ∃ wd, v = .str (wordOf wd) := by
      match l, hv with
      | 0, hv => exact ⟨true, (Option.some.inj hv).symm⟩
      | 1, hv => exact ⟨false, (Option.some.inj hv).symm⟩
      | l + 2, hv => exact nomatch hv
    have hm7 := Kz.same (s2.trans s7) _ _ hm
    -- due
    refine ⟨fun σ' H' => ∃ (pd : Addr) (zs : List Str), σ' = [some d, some (.ref a), some (.ref p), some (.int i), some (.ref pe), some (.str o), some (.str (wordOf wd)), some (.ref pd), none, none] ∧ Same H2 H' ∧ H' t = some (.tup [.str "send", .str "take"]) ∧ H' pd = some (.tup (zs.map V.str)) ∧ ToldOf m i wd o zs, ?_, ?_⟩
    · exact ⟨_, rfl, _, rfl, _, rfl, _, rfl, a, m, i, wd, o, rfl, hm7, ok, lo, fun H8 p8 zs s8 np8 e8 told _ => ⟨p8, zs, rfl, s7.trans s8, s8 _ _ e7, e8, told⟩⟩
    rintro σ8 H8 ⟨pd, zs, rfl, s8, et, ed, told⟩
    have hm8 := Kz.same (s2.trans s8) _ _ hm
    have wz := told_wd ok told
    refine ⟨_, rfl, _, rfl, _, rfl, _, rfl, _, _, _, _, rfl, .inr ⟨a, m, rfl, hm8, ok, .inr ⟨i, rfl, i0, i1, .inr ⟨wd, rfl, .inr ⟨o, rfl, ex, fun H9 p9 zs9 s9 np9 e9 told9 _ => ?_⟩⟩⟩⟩⟩
    cases told_ext told9 told
    refine ⟨_, rfl, ne_strs (SqT.of e9) (SqT.of (s9 _ _ ed)) wz ⟨_, rfl, ifF rfl ?_⟩⟩
    have hm9 := Kz.same s9 _ _ hm8
    refine ⟨_, rfl, _, rfl, _, rfl, _, rfl, _, _, _, _, rfl, .inr ⟨a, m, rfl, hm9, ok, .inr ⟨i, rfl, i0, i1, .inr ⟨wd, rfl, .inr ⟨o, rfl, ex, fun HA pA zsA sA npA eA toldA _ => ?_⟩⟩⟩⟩⟩
    cases told_ext toldA told
    exact ⟨_, rfl, ne_strs (SqT.of eA) (SqT.of (sA _ _ (s9 _ _ ed))) wz ⟨_, rfl, ifF rfl ⟨_, _, rfl, s8.trans (s9.trans sA), sA _ _ (s9 _ _ et)⟩⟩⟩
end
end K02
/-! try with several clauses, with and without a name: except A as e: .. except B: .. -/
namespace GL
open PySem PySem.Spec PyProof.Rows L2
/-- a clause: the class that it names, its suite's reading, the slot of its name -/
structure Clause where
  cls : Value
  ts : Addr → Value → Option Addr → TS
  at? : Option Nat
/-- the ends of a suite whose name goes -/
def gone (i : Nat) (D : Ends) : Ends := { nx := fun σ H => D.nx (σ.set i none) H, rt := D.rt, bk := fun σ H => D.bk (σ.set i none) H, ct := fun σ H => D.ct (σ.set i none) H }
/-- what the clause wishes of an error of this class and dict -/
def Clause.wish (l : Clause) (D : Ends) (a : Addr) (cls : Value) (d : Option Addr) (σ : L2.St) (H : Hp) : Prop :=
  match l.at? with
  | none => l.ts a cls d D σ H
  | some i => l.ts a cls d (gone i D) (σ.set i (some (.ref a))) H
def wMix (K : PySem.W.Frag) (n : Nat) (out : WX) (D : Ends) : List Clause → WX
  | [] => out
  | l :: r => fun cls d σ H => ∃ b, PySem.W.exmOne K cls l.cls = some b ∧ (b = true → σ.length = n → ∀ a, H a = none → l.wish D a cls d σ H) ∧ (b = false → wMix K n out D r cls d σ H)
inductive MixOk (X : Cx) : List ExceptHandler → List Clause → Prop
  | nil : MixOk X [] []
  | bare {x : Str} {c : Value} {ts : Addr → Value → Option Addr → TS} {b : Stmt} {suite : List Stmt} {p q : Pos} {hds : List ExceptHandler} {l : List Clause} (nc : Names X x c)
      (su : ∀ (a : Addr) (oe : Obj) (cls : Value) (d : Option Addr) (pn : List (Addr × Obj)), Zc cls d oe → (∃ vs, oe.data = .fields vs) → PSs (X.suite a ((a, oe) :: pn)) (b :: suite) (ts a cls d)) (r : MixOk X hds l) :
      MixOk X (.ExceptHandler (some (.Name x p)) none (b :: suite) q :: hds) (⟨c, ts, none⟩ :: l)
  | name {x n : Str} {i : Nat} {c : Value} {ts : Addr → Value → Option Addr → TS} {b : Stmt} {suite : List Stmt} {p q : Pos} {hds : List ExceptHandler} {l : List Clause} (hN : X.N.Nodup) (hi : X.N[i]? = some n) (hln : X.env.kindOf n = some .local) (nc : Names X x c)
      (su : ∀ (a : Addr) (oe : Obj) (cls : Value) (d : Option Addr) (pn : List (Addr × Obj)), Zc cls d oe → (∃ vs, oe.data = .fields vs) → PSs (X.suite a ((a, oe) :: pn)) (b :: suite) (ts a cls d)) (r : MixOk X hds l) :
      MixOk X (.ExceptHandler (some (.Name x p)) (some n) (b :: suite) q :: hds) (⟨c, ts, some i⟩ :: l)
section
variable {X : Cx} {pins : List (Addr × Obj)} {s1 sI : Shared} {h3 : Heap} {σ1 : L2.St} {H1 : Hp} {cls : Value} {d : Option Addr} {a : Addr} {B : Heap} {D : Ends} {out : WX}
/-- an error that has landed in the frame of the try -/
structure Landed (X : Cx) (pins : List (Addr × Obj)) (sI s1 : Shared) (h3 : Heap) (σ1 : L2.St) (H1 : Hp) (cls : Value) (d : Option Addr) (a : Addr) (B : Heap) : Prop where
  inv : Inv X pins σ1 H1 sI
  fly : HandSPX.FlyingZ B (X.env :: X.outer) a (Zc cls d) h3
  up : sI.heap.UpToSlots h3
  nb : ∀ b o, sI.heap.get? b = some o → b ∉ frs X.stack → B.get? b = some o
  os : s1.os = sI.os
  ag : AllBare s1.gens
  na : H1 a = none
  nL : a ≠ X.env.locals
  nF : a ∉ X.fs
theorem Landed.on (z : Landed X pins sI s1 h3 σ1 H1 cls d a B) : Inv X pins σ1 H1 { s1 with heap := h3 } := z.inv.landed z.nb z.fly.1 z.up z.os z.ag
theorem of_names {x : Str} {c : Value} {p : Pos} {pn : List (Addr × Obj)} {s : Shared} {σ : L2.St} {H : Hp} {Q : Value → Shared → Prop} {E : Value → Shared → Prop} (nc : Names X x c) (I : Inv (X.suite a pn) [] σ H s) (q : Q c s) :
    wpAny (model X.prog X.w) (X.A.mark (some (.ref a))) (eval (.Name x p) X.env) Q E s := by
  obtain ⟨g1, g2, g3 | ⟨g3, g4, g5⟩⟩ := nc
  · exact ld_glob (X := X.suite a pn) I g1 g3 q g2
  · exact ld_blt (X := X.suite a pn) I g1 g3 g4 q g5 g2
theorem mix_go (hf : X.env.frame = some X.env.locals) (hs : X.stack = X.env :: X.outer) (ok : X.Ok) (tk : Takes X out) (z : Landed X pins sI s1 h3 σ1 H1 cls d a B) {hds : List ExceptHandler} {l : List Clause} (m : MixOk X hds l) :
    wMix X.K X.N.length out D l cls d σ1 H1 → wpAny (model X.prog X.w) X.A (handleBy (.ref a) X.env hds) (SP X pins D) X.xe { s1 with heap := h3 } := by
  have hfr : X.A.frames = some (X.env :: X.outer) := by rw [ok.frames, hs]
  obtain ⟨oe, vs, he, hz, hd⟩ := z.fly.there
  have suite := z.on.suite he hd z.na z.nL z.nF
  have looks : PySem.W.Looks (model X.prog X.w) h3 (typeOf (.ref a)) cls := fun A Q E s k q => wpAny_typeOf_ref (k _ _ he) (by rw [hz.1]; exact q)
  induction m with
  | nil =>
    intro w
    refine wpAny_handleBy_nil ?_
    obtain ⟨k1, k2, k3, oe2, vs2, T, oT, t2, e1, e2, e3, e4, e5⟩ := id z.fly
    rw [PySem.passOn]
    refine wpAny_bind (wpAny_field e1 e3 e4 ?_)
    rw [if_neg (show ¬ ((Value.ref T == Value.none) = true) from by simp)]
    have last : wpAny (model X.prog X.w) X.A (setFlight (.ref a) X.env.frame) (fun _ s4 => wpAny (model X.prog X.w) X.A (throw (.ref a) : Sem Flow) (SP X pins D) X.xe s4) X.xe { s1 with heap := h3 } := by
      rw [hf]
      exact HandSPX.setFlight_upZ z.fly fun h4 fl4 up4 => wpAny_throw (tk _ _ ⟨a, B, sI, pins, σ1, H1, cls, d, rfl, z.inv, z.nb, z.up.trans up4, .inr (.inr (by rw [hs]; exact fl4)), z.na, z.os, z.ag, w⟩)
    first
      | exact wpAny_bind (wpAny_pure (wpAny_bind last))
      | exact wpAny_bind last
  | @bare x c ts b rest p q hds l nc su r ih =>
    rintro ⟨v, hv, yes, no⟩
    refine wpAny_handleBy_cons (codeAny_handlers_test (of_names nc suite ((PySem.W.exm_one (M := model X.prog X.w) z.on.kIn looks hv).here ?_))) (fun q => nomatch q)
    cases v with
    | false => exact (show wpAny _ X.A (handleBy (.ref a) X.env hds) _ _ _ from ih (no rfl))
    | true =>
      refine codeAny_handlers_suite (HandSPX.lands_againZ z.fly fun h4 fl4 up4 => ?_)
      obtain ⟨oe4, vs4, e4, z4, d4⟩ := fl4.there
      have on4 : Inv X pins σ1 H1 { s1 with heap := h4 } := z.inv.landed z.nb fl4.1 (z.up.trans up4) z.os z.ag
      refine wpAny_mono ((su a oe4 cls d (X.pn ++ pins) z4 ⟨_, d4⟩).run [] _ _ H1 _ (on4.suite e4 d4 z.na z.nL z.nF) (yes rfl z.inv.len a z.na)) (fun f s6 e => ?_) fun _ _ e => False.elim e
      cases f with
      | ret u => obtain ⟨v6, σ6, H6, S6, r6, q6⟩ := e; exact ⟨v6, σ6, H6, S6.unsuite ok, r6, q6⟩
      | next => obtain ⟨σ6, H6, S6, q6⟩ := e; exact ⟨σ6, H6, S6.unsuite ok, q6⟩
      | brk => obtain ⟨σ6, H6, S6, q6⟩ := e; exact ⟨σ6, H6, S6.unsuite ok, q6⟩
      | cont => obtain ⟨σ6, H6, S6, q6⟩ := e; exact ⟨σ6, H6, S6.unsuite ok, q6⟩
  | @name x n i c ts b rest p q hds l hN hi hln nc su r ih =>
    rintro ⟨v, hv, yes, no⟩
    refine wpAny_handleBy_cons (codeAny_handlers_test (of_names nc suite ((PySem.W.exm_one (M := model X.prog X.w) z.on.kIn looks hv).here ?_))) (fun q => nomatch q)
    cases v with
    | false => exact (show wpAny _ X.A (handleBy (.ref a) X.env hds) _ _ _ from ih (no rfl))
    | true =>
      refine codeAny_handlers_suite_as (HandSPX.lands_againZ z.fly fun h4 fl4 up4 => ?_)
      obtain ⟨oe4, vs4, e4, z4, d4⟩ := fl4.there
      have on4 : Inv X pins σ1 H1 { s1 with heap := h4 } := z.inv.landed z.nb fl4.1 (z.up.trans up4) z.os z.ag
      refine store_ok (X := X.suite a ((a, oe4) :: (X.pn ++ pins))) (v := .ref a) (on4.suite e4 d4 z.na z.nL z.nF) hN hi (.inl hln) rfl (fun s5 S5 => ?_) (.inr hln)
      refine wpAny_mono ((su a oe4 cls d (X.pn ++ pins) z4 ⟨_, d4⟩).run [] s5 _ H1 _ S5 (yes rfl z.inv.len a z.na)) (fun f s6 e => ?_) fun _ _ e => False.elim e
      have off : ∀ {σ6 : L2.St} {H6 : Hp} {G : Shared → Prop}, Inv (X.suite a ((a, oe4) :: (X.pn ++ pins))) [] σ6 H6 s6 → (∀ s7, Inv X pins (σ6.set i none) H6 s7 → G s7) → wpAny (model X.prog X.w) X.A (do bindName X.env n .none; unbindBehindTheSuite X.env n q) (fun _ s7 => G s7) X.xe s6 := fun S g => gone_ok (S.unsuite ok) hN hi hln g
      cases f with
      | ret u => obtain ⟨v6, σ6, H6, S6, r6, q6⟩ := e; exact off S6 fun s7 J7 => ⟨v6, _, H6, J7, r6, q6⟩
      | next => obtain ⟨σ6, H6, S6, q6⟩ := e; exact off S6 fun s7 J7 => ⟨_, H6, J7, q6⟩
      | brk => obtain ⟨σ6, H6, S6, q6⟩ := e; exact off S6 fun s7 J7 => ⟨_, H6, J7, q6⟩
      | cont => obtain ⟨σ6, H6, S6, q6⟩ := e; exact off S6 fun s7 J7 => ⟨_, H6, J7, q6⟩
end
section
variable {X : Cx} {body : List Stmt} {h0 : ExceptHandler} {hds : List ExceptHandler} {l : List Clause} {pos : Pos} {tb : WX → TS} {out : WX}
theorem ps_try_mix (hs : X.stack = X.env :: X.outer) (hf : X.env.frame = some X.env.locals) (tk : Takes X out)
    (hb : ∀ (W : WX) (pn : List (Addr × Obj)) (xe : Value → Shared → Prop), Takes (X.tr pn xe) W → PassesOwn (model X.prog X.w) X.A X.env xe → PSs (X.tr pn xe) body (tb W)) (m : MixOk X (h0 :: hds) l) :
    PS X (.Try body (h0 :: hds) [] [] pos) (fun D σ H => tb (wMix X.K X.N.length out D l) D σ H) := by
  constructor
  intro pins s σ H D I h
  have ok := I.ok
  have hfr : X.A.frames = some (X.env :: X.outer) := by rw [ok.frames, hs]
  refine wpAny_Try_except (wpAny_mono ((hb (wMix X.K X.N.length out D l) (X.pn ++ pins) (fun e s1 => wpAny (model X.prog X.w) X.A (noteFrame e X.env) (fun _ s2 => wpAny (model X.prog X.w) X.A (setFlight e none) (fun _ s3 =>
    wpAny (model X.prog X.w) X.A (handleBy e X.env (h0 :: hds)) (SP X pins D) X.xe s3) X.xe s2) X.xe s1) (fun u s1 e => ?_) PassesOwn.looking).run [] s σ H D (I.toTry _) h) (fun f s1 e => ?_) fun e s1 he => he)
  · obtain ⟨a, B, sI, pn, σ1, H1, cls, d, rfl, J1, nb, up, sky, na, os, ag, w⟩ := e
    have J : Inv X pins σ1 H1 sI := J1.ofTry ok
    rw [show (X.tr (X.pn ++ pins) _).stack = X.env :: X.outer from hs] at sky
    refine (show wpAny (model X.prog X.w) X.A (noteFrame (.ref a) X.env) _ _ _ from Sky.land Zc.steady hfr hf sky fun h3 fl3 up3 => ?_)
    obtain ⟨oe3, vs3, he3, hz3, hd3⟩ := fl3.there
    have nfr : a ∉ frs (X.env :: X.outer) := fun hm => by
      obtain ⟨_, o', e', hnf⟩ := fl3.2.2.1.mem hm
      rw [he3] at e'
      cases e'
      exact hnf _ hd3
    refine mix_go (sI := sI) (s1 := s1) hf hs ok tk ⟨J, fl3, up.trans up3, nb, os, ag, na, fun z => nfr (List.mem_filterMap.mpr ⟨X.env, List.mem_cons_self, by rw [hf, z]⟩), fun hm => ?_⟩ m w
    obtain ⟨e, he, q⟩ := List.mem_filterMap.mp hm
    exact nfr (List.mem_filterMap.mpr ⟨e, List.mem_cons_of_mem _ he, q⟩)
  · cases f with
    | ret u => obtain ⟨v, σ2, H2, J2, r, q⟩ := e; exact ⟨v, σ2, H2, J2.ofTry ok, r, q⟩
    | next => obtain ⟨σ2, H2, J2, q⟩ := e; exact wpAny_execs_nil ⟨σ2, H2, J2.ofTry ok, q⟩
    | brk => obtain ⟨σ2, H2, J2, q⟩ := e; exact ⟨σ2, H2, J2.ofTry ok, q⟩
    | cont => obtain ⟨σ2, H2, J2, q⟩ := e; exact ⟨σ2, H2, J2.ofTry ok, q⟩
end
end GL
namespace K02
open PySem PySem.Spec PyProof.Rows L2 GL
open LamX (GivesTo CodeO)
abbrev sMet : Stmt := topS 34
abbrev nMt : List Str := ["_law_call", "e"]
theorem scMet : FnScope nMt ["_law_call"] (defScope sMet) := ⟨rfl, rfl, rfl, by decide +kernel, rfl, by decide +kernel, by decide +kernel⟩
/-- what _law_met makes of an error: its kind, what it keeps -/
def metWish (K : PySem.W.Frag) (cN cU cM cO : Addr) (Q : VK) : XK := fun cls d H =>
  (cls = .ref cN ∧ ∃ dd y, d = some dd ∧ H dd = some (.xd [("value", y)]) ∧ ∀ p, H p = none → 4 ≤ p → Q (.ref p) (upd H p (.lst [.str "number", y]))) ∨
  (cls = .ref cU ∧ ∃ dd y, d = some dd ∧ H dd = some (.xd [("name", y)]) ∧ ∀ p, H p = none → 4 ≤ p → Q (.ref p) (upd H p (.lst [.str "name", y]))) ∨
  (cls = .ref cM ∧ ∀ p, H p = none → 4 ≤ p → Q (.ref p) (upd H p (.lst [.str "machine"]))) ∨
  (cls = .ref cO ∧ ∀ p, H p = none → 4 ≤ p → Q (.ref p) (upd H p (.lst [.str "operation"])))
def metTT (K : PySem.W.Frag) (cN cU cM cO : Addr) : (XK → Hp → VK → Prop) → Hp → VK → Prop := fun tl H Q =>
  tl (metWish K cN cU cM cO Q) H fun v H1 => 2 ≤ sizeLine ∧ ∀ p, H1 p = none → 4 ≤ p → Q (.ref p) (upd H1 p (.lst [.str "returned", v]))
theorem lk1 {f : Str} {v : V} : List.lookup f [(f, v)] = some v := by simp
structure TxtMet (K : PySem.W.Frag) (mg : Str → Option Value) (cN cU cM cO : Addr) : Prop where
  gN : mg "InvalidNumber" = some (.ref cN)
  gU : mg "UnknownName" = some (.ref cU)
  gM : mg "InvalidMachine" = some (.ref cM)
  gO : mg "InvalidOperation" = some (.ref cO)
  xN : XfC K cN
  xU : XfC K cU
  fN : PySem.W.findIn K (.ref cN) "value" = some none
  fU : PySem.W.findIn K (.ref cU) "name" = some none
  e : ∀ b ∈ [(cN, cN, true), (cU, cN, false), (cM, cN, false), (cO, cN, false), (cU, cU, true), (cM, cU, false), (cO, cU, false), (cM, cM, true), (cO, cM, false), (cO, cO, true)], PySem.W.exmOne K (.ref b.1) (.ref b.2.1) = some b.2.2
section
variable {X : Cx} {g cN cU cM cO : Addr} {cdg : Value} {q : Str}
theorem met_gives (T : TxtMet X.K X.mg cN cU cM cO) : GivesTo X nMt "_law_met" (defScope sMet) g cdg (defBody sMet) "_law_call" q (metTT X.K cN cU cM cO) := by
  intro f c' s H Q tl act hc h
  refine ⟨_, pss_one (ps_try_mix (X := (cxOf C8.CX0 X.prog X.w X.K X.mg X.base nMt "_law_met" (defScope sMet) g cdg X.A X.stack s H C8.E0).nox) (out := fun _ _ _ _ => False)
      (l := [⟨.ref cN, _, some 1⟩, ⟨.ref cU, _, some 1⟩, ⟨.ref cM, _, none⟩, ⟨.ref cO, _, none⟩])
      (tb := fun W D σ H => ∃ Ech : XK, (∀ cls d σ' H', Ech cls d H' → W cls d σ' H') ∧ σ[0]? = some (some (.ref f)) ∧ H c' = some (CodeO c' q) ∧ tl Ech H fun v H1 => 2 ≤ sizeLine ∧ ∀ p, H1 p = none → 4 ≤ p → D.rt (.ref p) (upd H1 p (.lst [.str "returned", v])))
      rfl rfl LamX.takes0 (fun W pn xe tk _ => ?_)
      (.name scMet.nd rfl rfl ⟨by rfl, by decide, .inl T.gN⟩ (fun a oe cls d pn hz hv => pss_one (ps_ret (pe_lst4 (pa_cons pe_str (pa_cons (pe_xf T.xN T.fN hz hv (pv 1)) pa_nil)))))
      (.name scMet.nd rfl rfl ⟨by rfl, by decide, .inl T.gU⟩ (fun a oe cls d pn hz hv => pss_one (ps_ret (pe_lst4 (pa_cons pe_str (pa_cons (pe_xf T.xU T.fU hz hv (pv 1)) pa_nil)))))
      (.bare ⟨by rfl, by decide, .inl T.gM⟩ (fun a oe cls d pn hz hv => pss_one (ps_ret (pe_lst4 (pa_cons pe_str pa_nil))))
      (.bare ⟨by rfl, by decide, .inl T.gO⟩ (fun a oe cls d pn hz hv => pss_one (ps_ret (pe_lst4 (pa_cons pe_str pa_nil)))) .nil))))), ?_⟩
  · constructor
    intro pins s' σ H' D I h'
    obtain ⟨Ech, hW, h1, h2, h3⟩ := h'
    have call := fun p1 p2 => act W pn xe Ech p1 p2 tk hW
    refine PSs.run (pss_one (ps_ret (pe_lst4 (pa_cons pe_str (pa_cons (call _ _) pa_nil))))) pins s' σ H' D I ?_
    exact ⟨h1, h2, h3⟩
  · have slot : ∀ {σ : L2.St} {a : Addr}, σ.length = 2 → (σ.set 1 (some (.ref a)))[1]? = some (some (.ref a)) := fun {σ a} e => List.getElem?_set_self (by omega)
    have ex := T.e
    simp only [List.forall_mem_cons, List.forall_mem_nil, and_true] at ex
    obtain ⟨e1, e2, e3, e4, e5, e6, e7, e8, e9, e10, _⟩ := ex
    refine ⟨metWish X.K cN cU cM cO Q, fun cls d σ' H' z => ?_, rfl, hc, h⟩
    rcases z with ⟨rfl, dd, y, rfl, ed, z⟩ | ⟨rfl, dd, y, rfl, ed, z⟩ | ⟨rfl, z⟩ | ⟨rfl, z⟩
    · refine ⟨true, e1, fun _ len a na => ?_, fun h => nomatch h⟩
      exact ⟨_, slot len, rfl, rfl, dd, _, y, rfl, ed, lk1, (by show 2 ≤ sizeLine; decide), z⟩
    · refine ⟨false, e2, fun h => (nomatch h), fun _ => ⟨true, e5, fun _ len a na => ?_, fun h => nomatch h⟩⟩
      exact ⟨_, slot len, rfl, rfl, dd, _, y, rfl, ed, lk1, (by show 2 ≤ sizeLine; decide), z⟩
    · refine ⟨false, e3, fun h => (nomatch h), fun _ => ⟨false, e6, fun h => (nomatch h), fun _ => ⟨true, e8, fun _ len a na => ?_, fun h => nomatch h⟩⟩⟩
      exact ⟨(by show 1 ≤ sizeLine; decide), z⟩
    · refine ⟨false, e4, fun h => (nomatch h), fun _ => ⟨false, e7, fun h => (nomatch h), fun _ => ⟨false, e9, fun h => (nomatch h), fun _ => ⟨true, e10, fun _ len a na => ?_, fun h => nomatch h⟩⟩⟩⟩
      exact ⟨(by show 1 ≤ sizeLine; decide), z⟩
end
end K02
/-! The heap without the dice and without tables of code objects: what no draw and no lambda changes. -/
namespace K02
open PySem PySem.Spec PyProof.Rows L2 WD NS MC GL
open LamX (Tabs TabS CodeO ExtN)
def notT : HO → Bool
  | .tbl _ => false
  | _ => true
def hid (d : Addr) (H : Hp) : Hp := fun b => if b = d then none else match H b with
  | some o => if notT o = true then some o else none
  | none => none
theorem hid_get {d b : Addr} {H : Hp} {o : HO} (h : H b = some o) (n : b ≠ d) (t : notT o = true) : hid d H b = some o := by
  unfold hid
  rw [if_neg n, h]
  exact if_pos t
theorem hid_inv {d b : Addr} {H : Hp} {o : HO} (h : hid d H b = some o) : b ≠ d ∧ H b = some o ∧ notT o = true := by
  unfold hid at h
  by_cases n : b = d
  · rw [if_pos n] at h; exact nomatch h
  · rw [if_neg n] at h
    cases e : H b with
    | none => rw [e] at h; exact nomatch h
    | some o' =>
      rw [e] at h
      by_cases t : notT o' = true
      · have z : some o' = some o := (if_pos t).symm.trans h
        cases z
        exact ⟨n, rfl, t⟩
      · have z : none = some o := (if_neg t).symm.trans h
        exact nomatch z
theorem hid_up {d : Addr} {H : Hp} : Same (hid d H) H := fun b o e => (hid_inv e).2.1
def Rel (d : Addr) (H H' : Hp) : Prop := Same (hid d H) (hid d H')
theorem Rel.refl {d : Addr} {H : Hp} : Rel d H H := fun _ _ e => e
theorem Rel.trans {d : Addr} {H H1 H2 : Hp} (a : Rel d H H1) (b : Rel d H1 H2) : Rel d H H2 := fun c o e => b c o (a c o e)
theorem rel_same {d : Addr} {H H' : Hp} (s : Same H H') : Rel d H H' := fun b o e => by
  obtain ⟨n, e, t⟩ := hid_inv e
  exact hid_get (s _ _ e) n t
theorem rel_ds {d : Addr} {H H' : Hp} (s : DS d H H') : Rel d H H' := fun b o e => by
  obtain ⟨n, e, t⟩ := hid_inv e
  exact hid_get (s _ _ n e) n t
theorem rel_dice {d : Addr} {H : Hp} {o : HO} : Rel d H (upd H d o) := rel_ds fun b u n e => by rw [upd_ne n]; exact e
theorem rel_ext {d : Addr} {H H' : Hp} (s : ExtN H H') : Rel d H H' := fun b o e => by
  obtain ⟨n, e, t⟩ := hid_inv e
  exact hid_get (s _ _ e fun ps z => by rw [z] at t; exact nomatch t) n t
theorem rel_new {d p : Addr} {H : Hp} {o : HO} (h : H p = none) : Rel d H (upd H p o) := rel_same (same_upd h)
theorem dice_none {d : Addr} {H : Hp} {n : Nat} (D : Dice H d n) : H d ≠ none := fun z => by
  obtain ⟨g, s, i, e, _⟩ := D
  rw [e] at z
  cases z
theorem ne_dice {d p : Addr} {H : Hp} {n : Nat} (D : Dice H d n) (h : H p = none) : p ≠ d := fun z => dice_none D (z ▸ h)
theorem dice_new {d p : Addr} {H : Hp} {n : Nat} {o : HO} (D : Dice H d n) (h : H p = none) : Dice (upd H p o) d n := D.same (upd_ne (ne_dice D h).symm)
theorem dice_same {d : Addr} {H H' : Hp} {n : Nat} (D : Dice H d n) (s : Same H H') : Dice H' d n := by
  obtain ⟨g, y, i, e, r⟩ := D
  exact ⟨g, y, i, s _ _ e, r⟩
theorem dice_ext {d : Addr} {H H' : Hp} {n : Nat} (D : Dice H d n) (s : ExtN H H') : Dice H' d n := by
  obtain ⟨g, y, i, e, r⟩ := D
  exact ⟨g, y, i, s _ _ e (fun _ z => nomatch z), r⟩
theorem tabs_dice {T : List (Addr × Str)} {d : Addr} {H : Hp} {n : Nat} {o : HO} (D : Dice H d n) (t : Tabs T H) : Tabs T (upd H d o) := fun p hp => by
  obtain ⟨g, y, i, e, r⟩ := D
  obtain ⟨ps, h1, h2, h3⟩ := t p hp
  refine ⟨ps, ?_, h2, fun pos cv hc => ?_⟩
  · rw [upd_ne (fun z => by rw [z, e] at h1; cases h1)]
    exact h1
  · obtain ⟨c, e1, e2⟩ := h3 pos cv hc
    refine ⟨c, e1, ?_⟩
    rw [upd_ne (fun z => by rw [z, e] at e2; cases e2)]
    exact e2
theorem kz_hid {d : Addr} {H : Hp} {n : Nat} (D : Dice H d n) (k : NestedKey) (v : V) (h : Kz H v k) : Kz (hid d H) v k := by
  refine kz_tups (fun b xs e => hid_get e (fun z => ?_) rfl) k v h
  obtain ⟨g, y, i, e2, _⟩ := D
  rw [z, e2] at e
  cases e
theorem tabs_lst {T : List (Addr × Str)} {D : Addr} {H : Hp} {xs : List V} {o : HO} (e : H D = some (.lst xs)) (t : Tabs T H) : Tabs T (upd H D o) := fun p hp => by
  obtain ⟨ps, h1, h2, h3⟩ := t p hp
  refine ⟨ps, ?_, h2, fun pos cv hc => ?_⟩
  · rw [upd_ne (fun z => by rw [z, e] at h1; cases h1)]
    exact h1
  · obtain ⟨c, e1, e2⟩ := h3 pos cv hc
    refine ⟨c, e1, ?_⟩
    rw [upd_ne (fun z => by rw [z, e] at e2; cases e2)]
    exact e2
/-- what a part of _law_refused has kept, after k draws -/
structure St0 (T : List (Addr × Str)) (H0 H : Hp) (d : Addr) (n : Nat) : Prop where
  rel : Rel d H0 H
  dice : Dice H d n
  tabs : Tabs T H
variable {T : List (Addr × Str)} {H0 H : Hp} {d : Addr} {n : Nat}
theorem St0.new {p : Addr} {o : HO} (S : St0 T H0 H d n) (h : H p = none) : St0 T H0 (upd H p o) d n := ⟨S.rel.trans (rel_new h), dice_new S.dice h, S.tabs.ext (same_upd h)⟩
theorem St0.same {H' : Hp} (S : St0 T H0 H d n) (h : Same H H') : St0 T H0 H' d n := ⟨S.rel.trans (rel_same h), dice_same S.dice h, S.tabs.ext h⟩
theorem St0.roll {o : HO} (S : St0 T H0 H d n) (D : Dice (upd H d o) d (n + 1)) : St0 T H0 (upd H d o) d (n + 1) := ⟨S.rel.trans rel_dice, D, tabs_dice S.dice S.tabs⟩
theorem St0.lam {H' : Hp} (S : St0 T H0 H d n) (h : ExtN H H') (t : Tabs T H') : St0 T H0 H' d n := ⟨S.rel.trans (rel_ext h), dice_ext S.dice h, t⟩
/-- a list of one's own is changed -/
theorem St0.put {D : Addr} {xs : List V} {o : HO} (S : St0 T H0 H d n) (n0 : hid d H0 D = none) (nd : D ≠ d) (e : H D = some (.lst xs)) : St0 T H0 (upd H D o) d n := by
  refine ⟨fun b u eb => ?_, S.dice.same (upd_ne nd.symm), tabs_lst e S.tabs⟩
  obtain ⟨nb, e1, t⟩ := hid_inv (S.rel b u eb)
  have ne : b ≠ D := fun z => by
    rw [z, n0] at eb
    exact nomatch eb
  exact hid_get (by rw [upd_ne ne]; exact e1) nb t
theorem rel_put {d D : Addr} {H H' : Hp} {o : HO} (r : Rel d H H') (n0 : hid d H D = none) : Rel d H (upd H' D o) := fun b u eb => by
  obtain ⟨nb, e1, t⟩ := hid_inv (r b u eb)
  have ne : b ≠ D := fun z => by
    rw [z, n0] at eb
    exact nomatch eb
  exact hid_get (by rw [upd_ne ne]; exact e1) nb t
theorem hid_back {d D : Addr} {H H' : Hp} (r : Rel d H H') (h : hid d H' D = none) : hid d H D = none := by
  cases e : hid d H D with
  | none => rfl
  | some u => exact (nomatch (r _ _ e).symm.trans h)
theorem hid_none {d D : Addr} {H : Hp} (h : H D = none) : hid d H D = none := by
  unfold hid
  by_cases n : D = d
  · rw [if_pos n]
  · rw [if_neg n, h]
theorem rel_none {d D : Addr} {H H' : Hp} (r : Rel d H H') (h : H' D = none) : hid d H D = none := by
  cases e : hid d H D with
  | none => rfl
  | some u =>
    have y := (hid_inv (r _ _ e)).2.1
    rw [h] at y
    exact nomatch y
theorem ite_tvar {b : Bool} {i j : Nat} {σ : L2.St} {H : Hp} {Q : VK} {x y : V} (hx : σ[i]? = some (some x)) (hy : σ[j]? = some (some y)) (h : Q (if b = true then x else y) H) : if b = true then tVar i σ H Q else tVar j σ H Q := by
  cases b
  · exact iteF ⟨y, hy, h⟩
  · exact iteT ⟨x, hx, h⟩
/-- what all parts of _law_refused know: the machine, its neighbours, the bits -/
structure Bas (T : List (Addr × Str)) (H0 H : Hp) (d a p B : Addr) (m : MachM) (ys : List Str) (b0 b1 b2 b3 : Bool) (n : Nat) : Prop where
  st : St0 T H0 H d n
  hm : Kz (hid d H) (.ref a) m.key
  ep : hid d H p = some (.tup (ys.map V.str))
  eB : hid d H B = some (.lst [.bl b0, .bl b1, .bl b2, .bl b3])
section
variable {a p B : Addr} {m : MachM} {ys : List Str} {b0 b1 b2 b3 : Bool}
theorem Bas.go {H' : Hp} {n' : Nat} (S : Bas T H0 H d a p B m ys b0 b1 b2 b3 n) (r : Rel d H H') (s : St0 T H0 H' d n') : Bas T H0 H' d a p B m ys b0 b1 b2 b3 n' := ⟨s, Kz.same r _ _ S.hm, r _ _ S.ep, r _ _ S.eB⟩
theorem Bas.new {q : Addr} {o : HO} (S : Bas T H0 H d a p B m ys b0 b1 b2 b3 n) (h : H q = none) : Bas T H0 (upd H q o) d a p B m ys b0 b1 b2 b3 n := S.go (rel_new h) (S.st.new h)
theorem Bas.roll {o : HO} (S : Bas T H0 H d a p B m ys b0 b1 b2 b3 n) (D : Dice (upd H d o) d (n + 1)) : Bas T H0 (upd H d o) d a p B m ys b0 b1 b2 b3 (n + 1) := S.go rel_dice (S.st.roll D)
theorem Bas.kz (S : Bas T H0 H d a p B m ys b0 b1 b2 b3 n) : Kz H (.ref a) m.key := Kz.same hid_up _ _ S.hm
theorem Bas.pp (S : Bas T H0 H d a p B m ys b0 b1 b2 b3 n) : H p = some (.tup (ys.map V.str)) := hid_up _ _ S.ep
theorem Bas.BB (S : Bas T H0 H d a p B m ys b0 b1 b2 b3 n) : H B = some (.lst [.bl b0, .bl b1, .bl b2, .bl b3]) := hid_up _ _ S.eB
end
/-- what stands at a new place -/
theorem St0.at {p : Addr} {o : HO} (S : St0 T H0 H d n) (h : H p = none) (t : notT o = true) : hid d (upd H p o) p = some o := hid_get upd_same (ne_dice S.dice h) t
end K02
/-! What is little enough to be shown. -/
namespace K02
open PySem PySem.Spec PyProof.Rows L2 WD NS MC GL
theorem small_of {d : PyData} (c : d.canLay0 = true) (i : d.intsShort 40 = true) (p : d.depth ≤ 60) (w : d.weight ≤ 300000) (s : d.showable = true) : small d = true := by
  have h := PyData.shown_le 40 (by decide) d (PyData.leavesShort_of_canLay0 40 d c i)
  have h2 : d.shown.length ≤ 16777216 := by omega
  unfold small
  rw [s, decide_eq_true p, decide_eq_true h2]
  rfl
theorem weight_strs : ∀ ws : List Str, (∀ x ∈ ws, Wd x) → PyData.weightAll (ws.map PyData.str) ≤ 9 * ws.length
  | [], _ => Nat.le_refl _
  | x :: ws, h => by
    rw [List.map_cons, PyData.weightAll, PyData.weight, List.length_cons]
    have z := weight_strs ws fun y hy => h y (List.mem_cons_of_mem _ hy)
    have y : x.cps.size ≤ 8 := (h x List.mem_cons_self).le
    omega
theorem show_strs : ∀ ws : List Str, PyData.showableAll (ws.map PyData.str) = true
  | [] => rfl
  | x :: ws => by rw [List.map_cons, PyData.showableAll, show_strs ws, PyData.showable]; rfl
theorem short_strs : ∀ ws : List Str, PyData.intsShortAll 40 (ws.map PyData.str) = true
  | [] => rfl
  | x :: ws => by rw [List.map_cons, PyData.intsShortAll, short_strs ws, PyData.intsShort]; rfl
theorem int64 : ∀ i < 64, (PyData.intsShort 40 (.int ((i : Nat) : Int)) && PyData.showable (.int ((i : Nat) : Int)) && decide (PyData.weight (.int ((i : Nat) : Int)) ≤ 8)) = true := by decide +kernel
theorem int_facts {i : Int} (h0 : 0 ≤ i) (h1 : i < 64) : PyData.intsShort 40 (.int i) = true ∧ PyData.showable (.int i) = true ∧ PyData.weight (.int i) ≤ 8 := by
  obtain ⟨k, rfl⟩ : ∃ k : Nat, i = k := ⟨i.toNat, by omega⟩
  have z := int64 k (by omega)
  rw [Bool.and_eq_true, Bool.and_eq_true, decide_eq_true_eq] at z
  exact ⟨z.1.1, z.1.2, z.2⟩
theorem weight_ints : ∀ ns : List Int, (∀ i ∈ ns, 0 ≤ i ∧ i < 64) → PyData.weightAll (ns.map PyData.int) ≤ 9 * ns.length
  | [], _ => Nat.le_refl _
  | x :: ns, h => by
    rw [List.map_cons, PyData.weightAll, List.length_cons]
    have z := weight_ints ns fun y hy => h y (List.mem_cons_of_mem _ hy)
    have y := (int_facts (h x List.mem_cons_self).1 (h x List.mem_cons_self).2).2.2
    omega
theorem show_ints : ∀ ns : List Int, (∀ i ∈ ns, 0 ≤ i ∧ i < 64) → PyData.showableAll (ns.map PyData.int) = true
  | [], _ => rfl
  | x :: ns, h => by rw [List.map_cons, PyData.showableAll, show_ints ns fun y hy => h y (List.mem_cons_of_mem _ hy), (int_facts (h x List.mem_cons_self).1 (h x List.mem_cons_self).2).2.1]; rfl
theorem short_ints : ∀ ns : List Int, (∀ i ∈ ns, 0 ≤ i ∧ i < 64) → PyData.intsShortAll 40 (ns.map PyData.int) = true
  | [], _ => rfl
  | x :: ns, h => by rw [List.map_cons, PyData.intsShortAll, short_ints ns fun y hy => h y (List.mem_cons_of_mem _ hy), (int_facts (h x List.mem_cons_self).1 (h x List.mem_cons_self).2).1]; rfl
/-- [word, tuple] -/
theorem small_told {ws : List Str} (h : ∀ x ∈ ws, Wd x) (few : ws.length < 64) : small (.list [.str "returned", .tuple (ws.map .str)]) = true := by
  have e : PyData.canLay0 (.str "returned") = true := by decide +kernel
  have w8 : PyData.weight (.str "returned") = 8 := by decide +kernel
  refine small_of ?_ ?_ ?_ ?_ ?_
  · rw [PyData.canLay0, PyData.canLayAll0, PyData.canLayAll0, PyData.canLayAll0, e, PyData.canLay0, can_strs ws h]
    rfl
  · rw [PyData.intsShort, PyData.intsShortAll, PyData.intsShortAll, PyData.intsShortAll, PyData.intsShort, PyData.intsShort, short_strs ws]
    rfl
  · rw [PyData.depth, PyData.depthAll, PyData.depthAll, PyData.depthAll, PyData.depth, PyData.depth, depth_strs ws]
    decide
  · rw [PyData.weight, PyData.weightAll, PyData.weightAll, PyData.weightAll, w8, PyData.weight]
    have z := weight_strs ws h
    omega
  · rw [PyData.showable, PyData.showableAll, PyData.showableAll, PyData.showableAll, PyData.showable, PyData.showable, show_strs ws]
    rfl
/-- [[word, tuple], [machine]] -/
theorem small_every {ns : List Int} (h : ∀ i ∈ ns, 0 ≤ i ∧ i < 64) (few : ns.length < 64) : small (.list [.list [.str "returned", .tuple (ns.map .int)], .list [.str "machine"]]) = true := by
  have e : PyData.canLay0 (.str "returned") = true := by decide +kernel
  have e2 : PyData.canLay0 (.list [.str "machine"]) = true := by decide +kernel
  have w8 : PyData.weight (.str "returned") = 8 := by decide +kernel
  have w9 : PyData.weight (.list [.str "machine"]) = 8 := by decide +kernel
  have s2 : PyData.intsShort 40 (.list [.str "machine"]) = true := by decide +kernel
  have h2 : PyData.showable (.list [.str "machine"]) = true := by decide +kernel
  have d2 : PyData.depth (.list [.str "machine"]) = 1 := by decide +kernel
  refine small_of ?_ ?_ ?_ ?_ ?_
  · rw [PyData.canLay0, PyData.canLayAll0, PyData.canLayAll0, e2, PyData.canLayAll0, PyData.canLay0, PyData.canLayAll0, PyData.canLayAll0, PyData.canLayAll0, e, PyData.canLay0, can_ints ns]
    rfl
  · rw [PyData.intsShort, PyData.intsShortAll, PyData.intsShortAll, s2, PyData.intsShortAll, PyData.intsShort, PyData.intsShortAll, PyData.intsShortAll, PyData.intsShortAll, PyData.intsShort, PyData.intsShort, short_ints ns h]
    rfl
  · rw [PyData.depth, PyData.depthAll, PyData.depthAll, d2, PyData.depthAll, PyData.depth, PyData.depthAll, PyData.depthAll, PyData.depthAll, PyData.depth, PyData.depth, depth_ints ns]
    decide
  · rw [PyData.weight, PyData.weightAll, PyData.weightAll, w9, PyData.weightAll, PyData.weight, PyData.weightAll, PyData.weightAll, PyData.weightAll, w8, PyData.weight]
    have z := weight_ints ns h
    omega
  · rw [PyData.showable, PyData.showableAll, PyData.showableAll, h2, PyData.showableAll, PyData.showable, PyData.showableAll, PyData.showableAll, PyData.showableAll, PyData.showable, PyData.showable, show_ints ns h]
    rfl
/-- [name, tuple of names] -/
theorem small_name {ws : List Str} (h : ∀ x ∈ ws, Wd x) (few : ws.length < 64) : small (.list [.str "name", .tuple (ws.map .str)]) = true := by
  have e : PyData.canLay0 (.str "name") = true := by decide +kernel
  have w8 : PyData.weight (.str "name") = 4 := by decide +kernel
  refine small_of ?_ ?_ ?_ ?_ ?_
  · rw [PyData.canLay0, PyData.canLayAll0, PyData.canLayAll0, PyData.canLayAll0, e, PyData.canLay0, can_strs ws h]
    rfl
  · rw [PyData.intsShort, PyData.intsShortAll, PyData.intsShortAll, PyData.intsShortAll, PyData.intsShort, PyData.intsShort, short_strs ws]
    rfl
  · rw [PyData.depth, PyData.depthAll, PyData.depthAll, PyData.depthAll, PyData.depth, PyData.depth, depth_strs ws]
    decide
  · rw [PyData.weight, PyData.weightAll, PyData.weightAll, PyData.weightAll, w8, PyData.weight]
    have z := weight_strs ws h
    omega
  · rw [PyData.showable, PyData.showableAll, PyData.showableAll, PyData.showableAll, PyData.showable, PyData.showable, show_strs ws]
    rfl
theorem small_size : ∀ s ≤ 30, (small (.list [.str "number", .int ((s : Nat) : Int)]) && small (.list [.list [.str "number", .int ((s : Nat) : Int)], .list [.str "machine"]])) = true := by decide +kernel
/-- a value that is no state -/
structure OddV (K : PySem.W.Frag) (h : Hp) (m : MachM) (x : V) (od : PyData) : Prop where
  dz : Dz h x od
  no : NotInt K h x ∨ ∃ i, x = .int i ∧ ¬ (0 ≤ i ∧ i < m.size)
  s1 : small (.list [.str "number", od]) = true
  s2 : small (.list [.list [.str "number", od], .list [.str "machine"]]) = true
theorem OddV.same {K : PySem.W.Frag} {h h' : Hp} {m : MachM} {x : V} {od : PyData} (s : Same h h') (o : OddV K h m x od) : OddV K h' m x od := ⟨Dz.same s _ _ o.dz, o.no.imp (NotInt.same s) id, o.s1, o.s2⟩
/-- a value that is neither send nor take -/
def WrongV (K : PySem.W.Frag) (h : Hp) (y : V) : Prop := IT.NotStr K h y ∨ ∃ z, y = .str z ∧ z ∉ exS
theorem WrongV.same {K : PySem.W.Frag} {h h' : Hp} {y : V} (s : Same h h') (o : WrongV K h y) : WrongV K h' y := o.imp (NotStr.same s) id
/-- a value that is no neighbour -/
structure FarV (K : PySem.W.Frag) (h : Hp) (m : MachM) (x : V) (fd : PyData) : Prop where
  dz : Dz h x fd
  no : IT.NotStr K h x ∨ ∃ z, x = .str z ∧ ¬ ∃ r ∈ m.rows, ∃ b l, r.deed = .ex b z l
  s1 : small (.list [.str "name", fd]) = true
  bad : BadM K h x
theorem FarV.same {K : PySem.W.Frag} {h h' : Hp} {m : MachM} {x : V} {fd : PyData} (s : Same h h') (o : FarV K h m x fd) : FarV K h' m x fd := ⟨Dz.same s _ _ o.dz, o.no.imp (NotStr.same s) id, o.s1, o.bad.same s⟩
theorem no_name {m : MachM} (ok : m.Ok) {z : Str} (n : ¬ Wd z) : ¬ ∃ r ∈ m.rows, ∃ b l, r.deed = .ex b z l := by
  rintro ⟨r, hr, b, l, e⟩
  have d := (ok.r1 r hr).dd
  rw [e] at d
  exact n d.1
theorem not_wd {z : Str} {c : Nat} (h : c ∈ z.cps.toList) (n : ¬ (97 ≤ c ∧ c ≤ 122)) : ¬ Wd z := fun w => n (w.low c h)
theorem not_wd0 {z : Str} (h : z.length = 0) : ¬ Wd z := fun w => by have := w.pos; omega
theorem dz_strs {h : Hp} : ∀ ws : List Str, DzAll h (ws.map V.str) (ws.map PyData.str)
  | [] => .nil
  | x :: ws => .cons (.str x) (dz_strs ws)
theorem dz_ints {h : Hp} : ∀ ns : List Int, DzAll h (ns.map V.int) (ns.map PyData.int)
  | [] => .nil
  | x :: ns => .cons (.int x) (dz_ints ns)
theorem bad_strs {K : PySem.W.Frag} {h : Hp} {p : Addr} : ∀ {ws : List Str}, h p = some (.tup (ws.map V.str)) → BadM K h (.ref p)
  | [], e => .len e (by decide)
  | [_], e => .len e (by simp)
  | [_, _], e => .len e (by simp)
  | [x, y, z], e => .size e (.inl ⟨"str", by decide, .base (.str x)⟩)
  | _ :: _ :: _ :: _ :: ws, e => .len e (by simp)
/-- int(..) of a truth value -/
abbrev rInt1 : List V → Hp → VK → Prop := fun xs H Q => (∃ i, xs = [.int i] ∧ Q (.int i) H) ∨ ∃ k, xs = [.bl k] ∧ Q (.int (if k then 1 else 0)) H
/-- [[..]] * int(bit) -/
theorem rd_rep {σ : L2.St} {H : Hp} {Q : VK} {ta : TA} {bi : TE} {b : Bool} {xs : List V} (few : xs.length ≤ sizeLine) (ht : ∀ R : List V → Hp → Prop, R xs H → ta σ H R) (hb : ∀ (H1 : Hp) (R : VK), Same H H1 → (∀ H', Same H1 H' → R (.bl b) H') → bi σ H1 R)
    (q : ∀ (H' : Hp) (r i : Addr), Same H H' → H r = none → H i = none → 4 ≤ i → H' r = some (.lst (if b = true then [.ref i] else [])) → H' i = some (.lst xs) → Q (.ref r) H') :
    tOp rRep (tLst4 (tCons (tLst4 ta) tNil)) (tCB rInt1 (tCons bi tNil)) σ H Q := by
  show ta σ H _
  refine ht _ ⟨few, fun i ni f4 => ?_⟩
  have k1 := same_upd (o := .lst xs) ni
  refine ⟨(by show 1 ≤ sizeLine; decide), fun o no _ => ?_⟩
  have k2 := same_upd (o := .lst [.ref i]) no
  refine hb _ _ (k1.trans k2) fun H3 s3 => ?_
  refine .inr ⟨b, rfl, o, _, _, rfl, rfl, s3 _ _ upd_same, ?_, ?_, ?_, fun r nr => ?_⟩
  · cases b <;> decide
  · cases b <;> decide
  · cases b
    · exact Nat.zero_le _
    · show 1 * 1 ≤ sizeLine
      decide
  · have k4 := same_upd (o := .lst (List.replicate (if b = true then (1 : Int) else 0).toNat [V.ref i]).flatten) nr
    have ss := (k1.trans k2).trans s3
    refine q _ r i (ss.trans k4) (ss.free nr) ni f4 ?_ (k4 _ _ (s3 _ _ (k2 _ _ upd_same)))
    rw [upd_same]
    cases b <;> rfl
theorem opt_len {b : Bool} {v : V} : (if b = true then [v] else []).length ≤ 1 := by cases b <;> simp
theorem fits4 {l : List V} (h : l.length ≤ 4) : l.length ≤ sizeLine := by rw [sizeLine_eq]; omega
/-- what _law_refused awaits of letters_at -/
inductive FirstIs (m : MachM) (i : Int) (wd : Bool) (ot : Str) (od nd : PyData) : Bool → Bool → Bool → Bool → PyData → Prop
  | mach (b1 b2 c : Bool) : FirstIs m i wd ot od nd true b1 b2 c (.list [.str "machine"])
  | num (b2 c : Bool) : FirstIs m i wd ot od nd false true b2 c (.list [.str "number", od])
  | op (c : Bool) : FirstIs m i wd ot od nd false false true c (.list [.str "operation"])
  | name : FirstIs m i wd ot od nd false false false true (.list [.str "name", nd])
  | told (zs : List Str) (t : ToldOf m i wd ot zs) (few : zs.length < 64) : FirstIs m i wd ot od nd false false false false (.list [.str "returned", .tuple (zs.map .str)])
/-- what _law_refused awaits of transitions_at -/
def everyD (b0 b1 : Bool) (od : PyData) (ns : List Int) : PyData := if b0 = true then .list [.str "machine"] else if b1 = true then .list [.str "number", od] else .list [.str "returned", .tuple (ns.map .int)]
theorem idxs_mem {st : Int} : ∀ {rs : List RowM} {n : Nat} {k : Int}, k ∈ idxs st n rs → (n : Int) ≤ k ∧ k < n + rs.length
  | [], _, _, h => absurd h List.not_mem_nil
  | r :: rs, n, k, h => by
    rw [List.length_cons]
    unfold idxs at h
    by_cases c : r.before = st
    · rw [if_pos c] at h
      rcases List.mem_cons.mp h with z | z
      · omega
      · have y := idxs_mem z
        omega
    · rw [if_neg c] at h
      have y := idxs_mem h
      omega
end K02
/-! A def whose code object is known by its place (for a def that makes lambdas), no repr under way. -/
namespace GL
open PySem PySem.Spec PyProof.Rows L2
structure FunC (K : PySem.W.Frag) (x qual : Str) (st : Stmt) (f c : Addr) (fd : FuncData) : Prop where
  ex : ∃ (oc : Value) (od : Option Addr) (kV doc pm : Value) (an : Option Addr) (ct : Value) (osl : Array (Option Value)),
    fd = PySem.W.fnOf x qual (defArgs st) (defBody st) (defScope st) .none kV doc pm an (.ref c) ct ∧ K.lookup f = some ⟨oc, od, .func fd, osl⟩ ∧ PySem.W.codeIn K (.ref c) qual = true
  kp : PySem.W.keepIn K (.ref f) = true
theorem FunC.fun {K : PySem.W.Frag} {x qual : Str} {st : Stmt} {f c : Addr} {fd : FuncData} (F : FunC K x qual st f c fd) : Fun K x qual st f fd := by
  obtain ⟨⟨oc, od, kV, doc, pm, an, ct, osl, e, l, cd⟩, kp⟩ := F
  exact ⟨⟨oc, od, kV, doc, pm, an, .ref c, ct, osl, e, l, cd⟩, kp⟩
theorem funC_mk {K : PySem.W.Frag} {x qual : Str} {st : Stmt} {f c : Addr} {oc : Value} {od an : Option Addr} {osl : Array (Option Value)} {kV doc pm ct : Value} (l : K.lookup f = some ⟨oc, od, .func (PySem.W.fnOf x qual (defArgs st) (defBody st) (defScope st) .none kV doc pm an (.ref c) ct), osl⟩)
    (h : PySem.W.codeIn K (.ref c) qual = true) (k : PySem.W.keepIn K (.ref f) = true) : FunC K x qual st f c (PySem.W.fnOf x qual (defArgs st) (defBody st) (defScope st) .none kV doc pm an (.ref c) ct) := ⟨⟨oc, od, kV, doc, pm, an, ct, osl, rfl, l, h⟩, k⟩
section
variable {P : Program} {w : World} {K : PySem.W.Frag} {mg : Str → Option Value} {base : Heap} {CX : CXT} {k : Nat} {f c : Addr} {fd : FuncData} {ps : List Str} {sp : Sp}
theorem fnGC_of {name qual : Str} {st : Stmt} {N : List Str} (F : FunC K name qual st f c fd) (S : FnScope N ps (defScope st)) (len : ∀ vs H Q E, sp vs H Q E → vs.length = ps.length)
    (hbody : ∀ (A : Around) (outer : List Env) (s : Shared) (H : Hp) (vs : List V) (Q : VK) (E : XK), (A.deeper (envOfC qual (defScope st) s.heap.objs.size f (.ref c))).guards = some [] →
      Room k (A.deeper (envOfC qual (defScope st) s.heap.objs.size f (.ref c))) → sp vs H Q E →
      ∃ t, PSs (cxOf CX P w K mg base N qual (defScope st) f (.ref c) A outer s H E) (defBody st) t ∧ t { nx := fun _ H' => Q .non H', rt := Q } (start N vs) H) : FnG P w K mg base CX (k + 1) f fd ps sp := by
  obtain ⟨oc, od, kV, doc, pm, an, ct, osl, rfl, lk, hcd⟩ := F.ex
  refine ⟨len, fun A outer s H args us vs Q E hgd hr e0 hb r hsp => ?_⟩
  have hvl : vs.length = ps.length := len _ _ _ _ hsp
  have inS : K.In s.heap := e0.mod.kin.keeps (fun b o e => And.left (e0.bs b o e))
  have noLim : s.heap.NoLimit := e0.mod.nolimit.keeps (fun b o e => And.left (e0.bs b o e))
  have kinds : ∀ y ∈ ps.zip us, (defScope st).names.lookup y.1 = some .local ∨
      ((defScope st).names.lookup y.1 = some .cell ∧ ((cellsFrom (s.heap.objs.size + 1) (defScope st).names []).lookup y.1).isSome = true) := by
    rintro ⟨n, v⟩ hy
    rcases S.par n (List.of_mem_zip hy).1 with q | q
    · exact Or.inl q
    · exact Or.inr (And.intro q (PySem.W.cellsFrom_some _ _ _ (Or.inl q)))
  obtain ⟨t, ht, hq⟩ := hbody A outer s H vs Q E hgd (hr.deeper _) hsp
  refine codeAny_call_function hr.depth (inS _ _ lk) rfl S.co S.gen rfl (PySem.W.codeRec_of inS hcd) (hb _ _ _ _ (wpAny_newFunctionEnv_cells S.kind kinds ?_))
  intro env he s1 x
  subst he
  have J := inv_start (CX := CX) (P := P) (mg := mg) (E := E) S hr.hd e0 hvl r x
  have out : ∀ {σ' : L2.St} {H' : Hp} {v : V} {u : Value} {s' : Shared}, Inv (cxOf CX P w K mg base N qual (defScope st) f (.ref c) A outer s H E) [] σ' H' s' → RelV v u → Q v H' → CE outer P w H s Q u s' := by
    intro σ' H' v u s' Z rv q
    exact ⟨v, H', Z.os, Z.bare, Z.base, Z.hok, rv, q⟩
  refine ⟨noLim.keeps x.toInCall.keep, codeAny_func (wpAny_mono (ht.run [] s1 _ H _ J hq) ?_ (fun e s' hs => hs))⟩
  intro fl s' hs
  cases fl with
  | ret u => obtain ⟨v, σ', H', Z, rv, q⟩ := hs; exact out Z rv q
  | next => obtain ⟨σ', H', Z, q⟩ := hs; exact out (v := V.non) (u := Value.none) Z rfl q
  | brk => obtain ⟨_, _, _, q⟩ := hs; exact q.elim
  | cont => obtain ⟨_, _, _, q⟩ := hs; exact q.elim
end
/-- no exception leaves the def -/
theorem fnGC_ok {P : Program} {w : World} {K : PySem.W.Frag} {mg : Str → Option Value} {base : Heap} {k : Nat} {f c : Addr} {fd : FuncData} {ps : List Str} {sp : Sp} {name qual : Str} {st : Stmt} {N : List Str} (F : FunC K name qual st f c fd) (S : FnScope N ps (defScope st))
    (len : ∀ vs H Q E, sp vs H Q E → vs.length = ps.length)
    (hbody : ∀ (A : Around) (outer : List Env) (s : Shared) (H : Hp) (vs : List V) (Q : VK) (E : XK), (A.deeper (envOfC qual (defScope st) s.heap.objs.size f (.ref c))).guards = some [] →
      Room k (A.deeper (envOfC qual (defScope st) s.heap.objs.size f (.ref c))) → sp vs H Q E →
      ∃ t, PSs (cxOf CX0 P w K mg base N qual (defScope st) f (.ref c) A outer s H E).nox (defBody st) t ∧ t { nx := fun _ H' => Q .non H', rt := Q } (start N vs) H) : FnG P w K mg base CX0 (k + 1) f fd ps sp :=
  fnGC_of F S len fun A outer s H vs Q E hg hr h => let ⟨t, p, q⟩ := hbody A outer s H vs Q E hg hr h; ⟨t, p.nox, q⟩
end GL
/-! xs != [] for any list, whatever is in it. -/
namespace NE
open PySem PySem.Spec PyProof.Rows L2
section
variable {X : Cx}
def rNeE (K : PySem.W.Frag) : R2 := fun x y H Q => ∃ (a b : Addr) (xs : List V), x = .ref a ∧ y = .ref b ∧ SqL K H a xs ∧ SqL K H b [] ∧ Q (.bl (!xs.isEmpty)) H
theorem op_neE (hu : X.A.units + 64 < cLine) : OpR X (compareOp .NotEq) (rNeE X.K) := by
  intro pins s σ H x y v u Q I rx ry h
  obtain ⟨a, b, xs, rfl, rfl, ha, hb, q⟩ := h
  obtain rfl : v = Value.ref a := rx
  obtain rfl : u = Value.ref b := ry
  obtain ⟨its, rv, ⟨o, n, ho, hc, hdn, hd⟩, _⟩ := I.list ha
  obtain ⟨its2, rv2, ⟨o2, n2, ho2, hc2, hdn2, hd2⟩, _⟩ := I.list hb
  have e2 : its2 = [] := by cases rv2; rfl
  subst e2
  have l1 : s.heap.IsList a its.toArray := ⟨o, ho, hc, n, hd⟩
  have l2 : s.heap.IsList b ([] : List Value).toArray := ⟨o2, ho2, hc2, n2, hd2⟩
  have hu' : X.A.units < cLine := by omega
  cases xs with
  | nil =>
    have e1 : its = [] := by cases rv; rfl
    subst e1
    exact SeqAt.RcNeAt.lists (e := fun _ => true) l1 l2 rfl hu' (fun j h1 _ => absurd h1 (by simp)) X.prog X.w _ _ ⟨.bl _, H, I, rfl, q⟩
  | cons x xs =>
    cases rv with
    | cons r1 r2 => exact SeqAt.RcNeAt.lists_lengths l1 l2 (by simp) hu' X.prog X.w _ _ ⟨.bl _, H, I, rfl, q⟩
end
end NE
namespace K02
open PySem PySem.Spec PyProof.Rows L2 WD NS MC GL
open C8 (pss_cut tCut)
open LamX (Tabs TabS CodeO ExtN tLam pe_lamcall TabB lamS_by)
abbrev sRef : Stmt := topS 38
abbrev nRf : List Str := ["_law_dice_here", "_law_machine", "_law_near_here", "_law_bits", "_law_odd", "_law_wrong", "_law_far", "_law_state", "_law_word", "_law_other", "_law_due", "_law_first", "_law_told_here", "_law_some", "_law_every", "_law_bad", "_law_held", "_law_turn", "_law_at", "_law_row_here"]
theorem scRef : FnScope nRf ["_law_dice_here", "_law_machine"] (defScope sRef) := ⟨rfl, rfl, rfl, by decide +kernel, rfl, by decide +kernel, by decide +kernel⟩
abbrev lamQ : Str := "_law_refused.<locals>.<lambda>"
theorem lamQ_eq : lamQ = ((("_law_refused" : Str) ++ (".<locals>." : Str)) ++ ("<lambda>" : Str)) := by decide +kernel
/-- no machine, odd states, wrong words, far names: all is refused as it should be -/
def spRef (K : PySem.W.Frag) (T : List (Addr × Str)) : Sp := fun vs H Q _ => ∃ (d a : Addr) (m : MachM) (n : Nat), vs = [.ref d, .ref a] ∧ Dice H d n ∧ n ≤ 1000000 ∧ Kz H (.ref a) m.key ∧ m.Ok ∧ Tabs T H ∧
  ∀ H', St0 T H H' d (n + 10) → Q (.bl true) H'
/-- where the defs stand that _law_refused calls, besides -/
structure TxtRf (K : PySem.W.Frag) (mg : Str → Option Value) (fR fO fM cN cU cM cO : Addr) (dR dO dM : FuncData) : Prop where
  R : TxtR K mg fR fO dR dO
  met : Df K mg "_law_met" sMet ["_law_call"] fM dM
  M : TxtMet K mg cN cU cM cO
  list : mg "list" = none
section
variable {P : Program} {w : World} {K : PySem.W.Frag} {mg : Str → Option Value} {base : Heap} {f1 f2 f3 f4 f5 f6 cM cN cU cO fR fO fM c Pt : Addr} {d1 d2 d3 d4 d5 d6 dR dO dM : FuncData} {k : Nat}
abbrev tHeld (K : PySem.W.Frag) (i : Int) : TE := tOp (rIxL K) (tVar 16) (tC (.int i))
theorem ok_Ref {f : Addr} {fd : FuncData} (F : FunC K "_law_refused" "_law_refused" sRef f c fd) (T : TxtRt K mg f1 f2 f3 f4 f5 f6 d1 d2 d3 d4 d5 d6) (W : TxtRf K mg fR fO fM cN cU cM cO dR dO dM) (TD : TxtD mg) (TS : TxtS mg) (TB : TabB base mg c Pt) (h2 : 3 ≤ k)
    (G1 : FnOk P w K mg base CX0 k f1 d1 ["_law_machine"] spNear) (G2 : FnOk P w K mg base (L2.CX P w) k f2 d2 ["machine"] (spNbOf K cM)) (G3 : FnOk P w K mg base CX0 k f3 d3 ["value"] (spSing K))
    (G4 : FnOk P w K mg base (L2.CX P w) k f4 d4 psTr (spTrans K (BadM K) cM cN)) (G5 : FnOk P w K mg base (L2.CX P w) k f5 d5 psLe (spLet K (BadM K) cM cN cU cO)) (G6 : FnOk P w K mg base CX0 k f6 d6 psTd spTold) :
    FnG P w K mg base CX0 (k + 3) f fd ["_law_dice_here", "_law_machine"] (spRef K [(Pt, lamQ)]) := by
  have GR : FnOk P w K mg base CX0 1 fR dR ["_law_dice_here", "_law_total"] spRoll := ok_roll W.R.R
  have GO : FnOk P w K mg base CX0 2 fO dO ["_law_dice_here", "_law_items"] spOneOf := ok_oneOf W.R.O W.R.R W.R.bR W.R.gR TD
  obtain ⟨mOc, mOd, mKV, mDoc, mPm, mAn, mCdv, mCt, mOsl, rfl, mLk, mHcd⟩ := W.met.F.ex
  refine fnGC_ok F scRef (fun vs H Q E h => ?_) (fun A outer s H vs Q E hgd hr h => ?_)
  · obtain ⟨d, a, m, n, rfl, _⟩ := h
    rfl
  · obtain ⟨d, a, m, n, rfl, D, hn, hm, ok, tabs, q⟩ := h
    have hu := hr.units
    have hrk : Room k _ := hr.mono (by omega)
    have hr1 : Room 1 _ := hrk.mono (by omega)
    have hr2 : Room 2 _ := hrk.mono (by omega)
    have one : ∀ {es : List Expr} {t : TA}, True := fun {es t} => True.intro
    refine ⟨_, pss_cut (ps_par (i := 2) (j := 3) (by rfl) scRef.nd rfl rfl (by decide) rfl rfl (pa_cons (pe_call G1 hrk (by rfl) T.near.g T.near.F.kp T.near.b .nil pass0 (pa_cons (pv 1) pa_nil))
        (pa_cons (pe_lc (own := [("_law_turn", 17)]) (g := gName 17) (tt := tYes) (te := tOp rEq (tCall spRoll [] C8.E0 (tCons (tVar 0) (tCons (tC (.int 3)) tNil))) (tC (.int 0))) rfl scRef.nd (pi_range1 rfl T.range (pa_cons pe_int pa_nil)) (blkOk_by (own := [("_law_turn", 17)]) (N := nRf) (sc := defScope sRef) (by decide +kernel))
          (fun _ _ _ _ _ => pg_name (i := 17) scRef.nd rfl (.inl rfl)) (fun _ _ _ _ _ => pts_nil) (fun _ _ _ _ _ => pe_cmpR op_eq (pe_call GR hr1 (by rfl) W.R.gR W.R.R.kp W.R.bR .nil pass0 (pa_cons (pv 0) (pa_cons pe_int pa_nil))) pe_int (nomark _))) pa_nil)) (by rfl))
      (pss_cut (ps_set (i := 15) scRef.nd rfl (.inr rfl) (pe_call GO hr2 (by rfl) W.R.gO W.R.O.kp W.R.bO .nil pass0 (pa_cons (pv 0) (pa_cons (pe_lst
          (pa_cons pe_non (pa_cons (pe_tup pa_nil) (pa_cons (pe_callTy call_list_of (by rfl) W.list (by decide +kernel) (pa_cons (pv 1) pa_nil)) (pa_cons (pe_slice (show SlR _ (rSlT K) from sl_tup) (pv 1) po_none (po_some pe_int)) (pa_cons (pe_tup (pa_cons pe_int (pa_cons (pe_tup pa_nil) (pa_cons (pe_tup pa_nil) pa_nil)))) (pa_cons pe_str (pa_cons (pe_op (show OpR _ (binaryOp .Add) (rCatT K) from op_catT) (pv 1) (pe_tup (pa_cons pe_int pa_nil))) pa_nil)))))))) pa_nil))))
      (pss_cut (ps_set (i := 4) scRef.nd rfl (.inl rfl) (pe_call GO hr2 (by rfl) W.R.gO W.R.O.kp W.R.bO .nil pass0 (pa_cons (pv 0) (pa_cons (pe_lst
          (pa_cons (pe_un un_neg pe_int) (pa_cons (pe_ix (show IxR _ (rIxT K) from ix_tup) (pv 1) pe_int (fun _ _ => rfl)) (pa_cons pe_non (pa_cons pe_bl (pa_cons pe_str (pa_cons (pe_tup (pa_cons pe_int pa_nil)) (pa_cons (pe_op op_pow pe_int pe_int) (pa_cons (pe_lst4 pa_nil) pa_nil))))))))) pa_nil))))
      (pss_cut (ps_set (i := 5) scRef.nd rfl (.inl rfl) (pe_call GO hr2 (by rfl) W.R.gO W.R.O.kp W.R.bO .nil pass0 (pa_cons (pv 0) (pa_cons (pe_lst
          (pa_cons pe_str (pa_cons pe_str (pa_cons pe_str (pa_cons pe_non (pa_cons pe_int (pa_cons (pe_tup (pa_cons pe_str pa_nil)) (pa_cons pe_bl (pa_cons (pe_lst pa_nil) (pa_cons pe_str pa_nil)))))))))) pa_nil))))
      (pss_cut (ps_set (i := 6) scRef.nd rfl (.inl rfl) (pe_call GO hr2 (by rfl) W.R.gO W.R.O.kp W.R.bO .nil pass0 (pa_cons (pv 0) (pa_cons (pe_lst
          (pa_cons pe_str (pa_cons pe_str (pa_cons pe_str (pa_cons pe_non (pa_cons pe_int (pa_cons (pv 2) (pa_cons (pe_lst4 pa_nil) (pa_cons (pe_tup (pa_cons pe_str pa_nil)) (pa_cons pe_dnewK pa_nil)))))))))) pa_nil))))
      (pss_cut (ps_asg (pe_tup (pa_cons (pe_call GR hr1 (by rfl) W.R.gR W.R.R.kp W.R.bR .nil pass0 (pa_cons (pv 0) (pa_cons (pe_ix (show IxR _ (rIxT K) from ix_tup) (pv 1) pe_int (fun _ _ => rfl)) pa_nil)))
          (pa_cons (pe_call GO hr2 (by rfl) W.R.gO W.R.O.kp W.R.bO .nil pass0 (pa_cons (pv 0) (pa_cons (pe_lst (pa_cons pe_str (pa_cons pe_str pa_nil))) pa_nil))) pa_nil)))
          (pg_tup rfl (pgs_cons (pg_name (i := 7) scRef.nd rfl (.inr rfl)) (pgs_cons (pg_name (i := 8) scRef.nd rfl (.inl rfl)) pgs_nil))))
      (pss_cut (ps_set (i := 9) scRef.nd rfl (.inl rfl) (pe_ifExp (pt_cmpR (show OpR _ (compareOp .NotEq) (rNeD K) from op_neD hu) (pv 2) (pe_tup pa_nil) (nomark _)) (pe_ix (show IxR _ (rIxT K) from ix_tup) (pv 2) pe_int (fun _ _ => rfl)) pe_str))
      (pss_cut (ps_set (i := 16) scRef.nd rfl (.inr rfl) (pe_lst (pa_cons (pe_ifExp (pt_val (pe_ix ix_list (pv 3) pe_int (fun _ _ => rfl))) (pv 15) (pv 1)) (pa_cons (pe_ifExp (pt_val (pe_ix ix_list (pv 3) pe_int (fun _ _ => rfl))) (pv 4) (pv 7)) pa_nil))))
      (pss_cut (ps_set (i := 16) scRef.nd rfl (.inr rfl) (pe_op op_cat (pv 16) (pe_lst (pa_cons (pe_ifExp (pt_val (pe_ix ix_list (pv 3) pe_int (fun _ _ => rfl))) (pv 5) (pv 8)) (pa_cons (pe_ifExp (pt_val (pe_ix ix_list (pv 3) pe_int (fun _ _ => rfl))) (pv 6) (pv 9)) pa_nil)))))
      (pss_cut (ps_set (i := 10) scRef.nd rfl (.inl rfl) (pe_op op_cat (pe_op op_cat
          (pe_op op_rep (pe_lst4 (pa_cons (pe_lst4 (pa_cons pe_str pa_nil)) pa_nil)) (pe_callTy call_int1 (by rfl) TD.int (by decide +kernel) (pa_cons (pe_ix ix_list (pv 3) pe_int (fun _ _ => rfl)) pa_nil)))
          (pe_op op_rep (pe_lst4 (pa_cons (pe_lst4 (pa_cons pe_str (pa_cons (pv 4) pa_nil))) pa_nil)) (pe_callTy call_int1 (by rfl) TD.int (by decide +kernel) (pa_cons (pe_ix ix_list (pv 3) pe_int (fun _ _ => rfl)) pa_nil))))
          (pe_op op_rep (pe_lst4 (pa_cons (pe_lst4 (pa_cons pe_str pa_nil)) pa_nil)) (pe_callTy call_int1 (by rfl) TD.int (by decide +kernel) (pa_cons (pe_ix ix_list (pv 3) pe_int (fun _ _ => rfl)) pa_nil)))))
      (pss_cut (ps_set (i := 10) scRef.nd rfl (.inl rfl) (pe_op op_cat (pv 10)
          (pe_op op_rep (pe_lst4 (pa_cons (pe_lst4 (pa_cons pe_str (pa_cons (pe_ix ix_list (pv 16) pe_int (fun _ _ => rfl)) pa_nil))) pa_nil)) (pe_callTy call_int1 (by rfl) TD.int (by decide +kernel) (pa_cons (pe_or (pe_ix ix_list (pv 3) pe_int (fun _ _ => rfl)) (pe_one (pe_cmpR (show OpR _ (compareOp .Eq) (rEqD K) from op_eqD hu) (pv 2) (pe_tup pa_nil) (nomark _)))) pa_nil)))))
      (pss_cut (ps_set (i := 11) scRef.nd rfl (.inl rfl) (pe_ifExp (pt_cmpR (show OpR _ (compareOp .NotEq) (NE.rNeE K) from NE.op_neE hu) (pv 10) (pe_lst pa_nil) (nomark _)) (pe_ix ix_list (pv 10) pe_int (fun _ _ => rfl))
          (pe_lst4 (pa_cons pe_str (pa_cons (pe_call G6 hrk (by rfl) T.told.g T.told.F.kp T.told.b .nil pass0 (pa_cons (pv 1) (pa_cons (pv 7) (pa_cons (pv 8) (pa_cons (pv 9) pa_nil))))) pa_nil)))))
      (pss_cut (ps_if (pt_cmpR op_ne (pe_callB (call_repr_z hgd hu) (by rfl) T.repr (by decide +kernel) (pa_cons
            (pe_lamcall (T := [(Pt, lamQ)]) (TT := metTT K cN cU cM cO) (k := k) (t := fun E => tCallS (spLet K (BadM K) cM cN cU cO) (fun _ => E) (tCons (tHeld K 0) (tCons (tHeld K 1) (tCons (tHeld K 2) (tCons (tHeld K 3) tNil))))) (by rfl) W.met.g W.met.F.kp mLk mHcd W.met.b scMet rfl (.inl rfl) (met_gives W.M) TB rfl List.mem_cons_self
              (fun p hp _ => by rw [List.mem_singleton.mp hp]; exact lamQ_eq) (hr.mono (by omega)) (show LamX.LamS (defScope sRef) _ from lamS_by (by decide +kernel)) rfl (fun _ _ _ _ _ => rfl)
              (fun A outer s H E f c' hrl => pe_callS G5 hrl (by rfl) T.letr.g T.letr.F.kp T.letr.b (passAt (takes_of rfl rfl rfl rfl)) (pa_cons (pe_ix ix_list (pv 16) pe_int (fun _ _ => rfl)) (pa_cons (pe_ix ix_list (pv 16) pe_int (fun _ _ => rfl)) (pa_cons (pe_ix ix_list (pv 16) pe_int (fun _ _ => rfl)) (pa_cons (pe_ix ix_list (pv 16) pe_int (fun _ _ => rfl)) pa_nil)))))) pa_nil))
            (pe_callB (call_repr_z hgd hu) (by rfl) T.repr (by decide +kernel) (pa_cons (pv 11) pa_nil)) (nomark _)) (pss_one (ps_ret pe_bl)) pss_nil)
      (pss_cut (ps_set (i := 12) scRef.nd rfl (.inl rfl) (pe_lst4 (pa_cons
            (pe_lamcall (T := [(Pt, lamQ)]) (TT := metTT K cN cU cM cO) (k := k) (t := fun E => tCallS (spTrans K (BadM K) cM cN) (fun _ => E) (tCons (tHeld K 0) (tCons (tHeld K 1) tNil))) (by rfl) W.met.g W.met.F.kp mLk mHcd W.met.b scMet rfl (.inl rfl) (met_gives W.M) TB rfl List.mem_cons_self
              (fun p hp _ => by rw [List.mem_singleton.mp hp]; exact lamQ_eq) (hr.mono (by omega)) (show LamX.LamS (defScope sRef) _ from lamS_by (by decide +kernel)) rfl (fun _ _ _ _ _ => rfl)
              (fun A outer s H E f c' hrl => pe_callS G4 hrl (by rfl) T.trans.g T.trans.F.kp T.trans.b (passAt (takes_of rfl rfl rfl rfl)) (pa_cons (pe_ix ix_list (pv 16) pe_int (fun _ _ => rfl)) (pa_cons (pe_ix ix_list (pv 16) pe_int (fun _ _ => rfl)) pa_nil)))) pa_nil)))
      (pss_cut (ps_expr (pe_bm PySem.F.plainAttrs_list PySem.F.slot_list_append PySem.F.type_list_append mt_append (pv 12) (pa_cons
            (pe_lamcall (T := [(Pt, lamQ)]) (TT := metTT K cN cU cM cO) (k := k) (t := fun E => tCallS (spNbOf K cM) (fun _ => E) (tCons (tVar 15) tNil)) (by rfl) W.met.g W.met.F.kp mLk mHcd W.met.b scMet rfl (.inl rfl) (met_gives W.M) TB rfl List.mem_cons_self
              (fun p hp _ => by rw [List.mem_singleton.mp hp]; exact lamQ_eq) (hr.mono (by omega)) (show LamX.LamS (defScope sRef) _ from lamS_by (by decide +kernel)) rfl (fun _ _ _ _ _ => rfl)
              (fun A outer s H E f c' hrl => pe_callS G2 hrl (by rfl) T.nbof.g T.nbof.F.kp T.nbof.b (passAt (takes_of rfl rfl rfl rfl)) (pa_cons (pv 15) pa_nil))) pa_nil)))
      (pss_cut (ps_set (i := 13) scRef.nd rfl (.inl rfl) (pe_op op_cat
          (pe_op op_rep (pe_lst4 (pa_cons (pe_lst4 (pa_cons pe_str pa_nil)) pa_nil)) (pe_callTy call_int1 (by rfl) TD.int (by decide +kernel) (pa_cons (pe_ix ix_list (pv 3) pe_int (fun _ _ => rfl)) pa_nil)))
          (pe_op op_rep (pe_lst4 (pa_cons (pe_lst4 (pa_cons pe_str (pa_cons (pv 4) pa_nil))) pa_nil)) (pe_callTy call_int1 (by rfl) TD.int (by decide +kernel) (pa_cons (pe_ix ix_list (pv 3) pe_int (fun _ _ => rfl)) pa_nil)))))
      (pss_cut (ps_set (i := 14) scRef.nd rfl (.inl rfl) (pe_callTy call_tuple_of (by rfl) TS.tuple (by decide +kernel) (pa_cons (pe_lc (own := [("_law_at", 18), ("_law_row_here", 19)]) (g := gTup K 2 (gCons (gName 18) (gCons (gName 19) gNil))) (tt := tTest (tOp rEq (tOp (rIxT K) (tVar 19) (tC (.int 0))) (tVar 7))) (te := tVar 18) rfl scRef.nd
            (ET.pi_enumT (by rfl) TD.enumerate (pa_cons (pe_ix ix_tup (pv 1) pe_int (fun _ _ => rfl)) pa_nil)) (blkOk_by (own := [("_law_at", 18), ("_law_row_here", 19)]) (N := nRf) (sc := defScope sRef) (by decide +kernel))
            (fun _ _ _ _ _ => pg_tup rfl (pgs_cons (pg_name (i := 18) scRef.nd rfl (.inl rfl)) (pgs_cons (pg_name (i := 19) scRef.nd rfl (.inl rfl)) pgs_nil)))
            (fun _ _ _ _ _ => pts_one (pt_cmpR op_eq (pe_ix (show IxR _ (rIxT K) from ix_tup) (pv 19) pe_int (fun _ _ => rfl)) (pv 7) (nomark _)))
            (fun _ _ _ _ _ => pv 18)) pa_nil)))
      (pss_cut (ps_if (pt_cmpR op_ne (pe_callB (call_repr_z hgd hu) (by rfl) T.repr (by decide +kernel) (pa_cons (pv 12) pa_nil)) (pe_callB (call_repr_z hgd hu) (by rfl) T.repr (by decide +kernel) (pa_cons
            (pe_lst4 (pa_cons (pe_ifExp (pt_cmpR (show OpR _ (compareOp .NotEq) (NE.rNeE K) from NE.op_neE hu) (pv 13) (pe_lst pa_nil) (nomark _)) (pe_ix ix_list (pv 13) pe_int (fun _ _ => rfl)) (pe_lst4 (pa_cons pe_str (pa_cons (pv 14) pa_nil)))) (pa_cons (pe_lst4 (pa_cons pe_str pa_nil)) pa_nil))) pa_nil)) (nomark _)) (pss_one (ps_ret pe_bl)) pss_nil)
      (pss_one (ps_ret (pe_and (pe_cmpR op_isBl (pe_call G3 hrk (by rfl) T.sing.g T.sing.F.kp T.sing.b .nil pass0 (pa_cons (pv 15) pa_nil)) pe_bl (nomark _)) (pe_one (pe_cmpR op_isBl (pe_call G3 hrk (by rfl) T.sing.g T.sing.F.kp T.sing.b .nil pass0 (pa_cons (pv 6) pa_nil)) pe_bl (nomark _))))))))))))))))))))))), ?_⟩
    have wp : ∀ {ys : List Str}, NearOf m ys → ∀ x ∈ ys, Wd x := fun n => near_wd ok n
    have d0 : H d ≠ none := dice_none D
    -- the neighbours, the bits
    refine ⟨fun σ' H' => ∃ (p B : Addr) (ys : List Str) (b0 b1 b2 b3 : Bool), σ' = [some (.ref d), some (.ref a), some (.ref p), some (.ref B), none, none, none, none, none, none, none, none, none, none, none, none, none, none, none, none] ∧
      Bas [(Pt, lamQ)] H H' d a p B m ys b0 b1 b2 b3 (n + 4) ∧ NearOf m ys ∧ ys.length < 64, ?_, ?_⟩
    · refine ⟨_, rfl, a, m, rfl, hm, ok, fun H1 p ys s1 np e1 near few => ?_⟩
      have S1 : St0 [(Pt, lamQ)] H H1 d n := ⟨rel_same s1, dice_same D s1, tabs.ext s1⟩
      have pd : p ≠ d := ne_dice D np
      refine ⟨4, rfl, by decide, by decide, fun L nL => ?_⟩
      have nL0 : H L = none := s1.free nL
      have ld : L ≠ d := ne_dice S1.dice nL
      have lp : p ≠ L := ne_of_none e1 nL
      refine lc_range (lo := 0) (n := 4) (fun j H' => St0 [(Pt, lamQ)] H H' d (n + j) ∧ H' p = some (.tup (ys.map V.str)) ∧ ∃ bs : List Bool, bs.length = j ∧ H' L = some (.lst (bs.map V.bl)))
        ⟨S1.new nL, by rw [upd_ne lp]; exact e1, [], rfl, upd_same⟩ (fun j H' hj z => ?_) (fun H6 z => ?_)
      · obtain ⟨S, ep, bs, lb, eL⟩ := z
        refine ⟨rfl, tYes_ite ⟨_, rfl, d, 3, n + j, rfl, S.dice, by omega, by decide, by decide, fun r o r0 r1 D4 => ?_⟩⟩
        have S4 := S.roll D4
        have eL4 : upd H' d o L = some (.lst (bs.map V.bl)) := by rw [upd_ne ld]; exact eL
        refine ⟨rfl, _, eL4, ?_, S4.put (hid_none nL0) ld eL4, ?_, bs ++ [decide (V.int r = V.int 0)], ?_, ?_⟩
        · rw [List.length_map, lb]
          exact small1000 (by omega)
        · rw [upd_ne lp, upd_ne pd]
          exact ep
        · rw [List.length_append, lb]
          rfl
        · rw [upd_same, List.map_append]
          rfl
      · obtain ⟨S, ep, bs, lb, eL⟩ := z
        match bs, lb, eL with
        | [b0, b1, b2, b3], _, eL =>
          refine ⟨_, _, rfl, p, L, ys, b0, b1, b2, b3, rfl, ⟨S, Kz.same S.rel _ _ (kz_hid D _ _ hm), hid_get ep pd rfl, hid_get eL ld rfl⟩, near, few⟩
    rintro σ1 H1 ⟨p, B, ys, b0, b1, b2, b3, rfl, S1, near, few⟩
    -- bad
    refine ⟨fun σ' H' => ∃ x : V, σ' = [some (.ref d), some (.ref a), some (.ref p), some (.ref B), none, none, none, none, none, none, none, none, none, none, none, some x, none, none, none, none] ∧
      Bas [(Pt, lamQ)] H H' d a p B m ys b0 b1 b2 b3 (n + 5) ∧ BadM K (hid d H') x, ?_, ?_⟩
    · refine ⟨_, rfl, Nat.zero_le _, fun t1 n1 => ?_⟩
      have Sa := S1.new (o := .tup []) n1
      have e1 := S1.st.at (o := .tup []) n1 rfl
      obtain ⟨Ma⟩ := mach_at Sa.kz
      refine ⟨_, rfl, a, _, rfl, .inr (SqT.of Ma.top), fun l1 nl1 => ?_⟩
      have Sb := Sa.new (o := .lst [.int m.size, .ref Ma.f, .ref Ma.t]) nl1
      have e2 := Sa.st.at (o := .lst [.int m.size, .ref Ma.f, .ref Ma.t]) nl1 rfl
      have ra := rel_new (d := d) (o := .lst [.int m.size, .ref Ma.f, .ref Ma.t]) nl1
      obtain ⟨Mb⟩ := mach_at Sb.kz
      refine ⟨_, rfl, 2, rfl, a, _, rfl, SqT.of Mb.top, (by show ¬ (0 = 0 ∧ 2 = 3); decide), fun c1 nc1 => ?_⟩
      have Sc := Sb.new (o := .tup (cutV [.int m.size, .ref Mb.f, .ref Mb.t] none (some 2))) nc1
      have e3 := Sb.st.at (o := .tup (cutV [.int m.size, .ref Mb.f, .ref Mb.t] none (some 2))) nc1 rfl
      have rb := rel_new (d := d) (o := .tup (cutV [.int m.size, .ref Mb.f, .ref Mb.t] none (some 2))) nc1
      refine ⟨Nat.zero_le _, fun t2 n2 => ⟨Nat.zero_le _, fun t3 n3 => ⟨(by show 3 ≤ sizeLine; decide), fun t4 n4 => ?_⟩⟩⟩
      have Sd := Sc.new (o := .tup []) n2
      have Se := Sd.new (o := .tup []) n3
      have Sf := Se.new (o := .tup [.int 0, .ref t2, .ref t3]) n4
      have e4 := Se.st.at (o := .tup [.int 0, .ref t2, .ref t3]) n4 rfl
      have rc := ((rel_new (d := d) (o := .tup []) n2).trans (rel_new (d := d) (o := .tup []) n3)).trans (rel_new (d := d) (o := .tup [.int 0, .ref t2, .ref t3]) n4)
      obtain ⟨Mf⟩ := mach_at Sf.kz
      refine ⟨_, rfl, (by show 1 ≤ sizeLine; decide), fun t5 n5 => ⟨a, t5, _, _, rfl, rfl, SqT.of ((same_upd n5) _ _ Mf.top), SqT.of upd_same, (fun z => nomatch z), (by show 3 + 1 ≤ sizeLine; decide), (fun z => nomatch z), fun _ t6 n6 => ?_⟩⟩
      have Sg := Sf.new (o := .tup [.int 0]) n5
      have Sh := Sg.new (o := .tup ([.int m.size, .ref Mf.f, .ref Mf.t] ++ [.int 0])) n6
      have e6 := Sg.st.at (o := .tup ([.int m.size, .ref Mf.f, .ref Mf.t] ++ [.int 0])) n6 rfl
      have rf := (rel_new (d := d) (o := .tup [.int 0]) n5).trans (rel_new (d := d) (o := .tup ([.int m.size, .ref Mf.f, .ref Mf.t] ++ [.int 0])) n6)
      refine ⟨(by show 7 ≤ sizeLine; decide), fun L nL => ?_⟩
      have Si := Sh.new (o := .lst [.non, .ref t1, .ref l1, .ref c1, .ref t4, .str "machine", .ref t6]) nL
      have rh := rel_new (d := d) (o := .lst [.non, .ref t1, .ref l1, .ref c1, .ref t4, .str "machine", .ref t6]) nL
      refine ⟨d, L, n + 4, _, rfl, Si.st.dice, by omega, upd_same, ne_dice Sh.st.dice nL, Nat.zero_lt_succ _, (by show 7 < 1000000; decide), fun x o hx D4 => ⟨x, rfl, Si.roll D4, ?_⟩⟩
      have ri := rh.trans (rel_dice (o := o))
      simp only [List.mem_cons, List.not_mem_nil, or_false] at hx
      rcases hx with rfl | rfl | rfl | rfl | rfl | rfl | rfl
      · exact .ty "NoneType" (by decide) (.base .non)
      · exact (BadM.len e1 (by decide)).same (ra.trans (rb.trans (rc.trans (rf.trans ri))))
      · exact (BadM.ty "list" (by decide) (.base (.lst e2))).same (rb.trans (rc.trans (rf.trans ri)))
      · exact (BadM.len e3 (by show ¬ 2 = 3; decide)).same (rc.trans (rf.trans ri))
      · exact (BadM.size e4 (.inr ⟨0, rfl, by decide⟩)).same (rf.trans ri)
      · exact .ty "str" (by decide) (.base (.str _))
      · exact (BadM.len e6 (by show ¬ 4 = 3; decide)).same ri
    rintro σ2 H2 ⟨bad, rfl, S2, hbad⟩
    -- odd
    refine ⟨fun σ' H' => ∃ (odd : V) (od : PyData), σ' = [some (.ref d), some (.ref a), some (.ref p), some (.ref B), some odd, none, none, none, none, none, none, none, none, none, none, some bad, none, none, none, none] ∧
      Bas [(Pt, lamQ)] H H' d a p B m ys b0 b1 b2 b3 (n + 6) ∧ BadM K (hid d H') bad ∧ OddV K (hid d H') m odd od, ?_, ?_⟩
    · obtain ⟨Ma⟩ := mach_at S2.kz
      refine ⟨_, rfl, _, rfl, _, rfl, a, _, 0, .int m.size, rfl, rfl, SqT.of Ma.top, atI_nat (j := 0) rfl, (by show 1 ≤ sizeLine; decide), fun t1 n1 => ?_⟩
      have Sa := S2.new (o := .tup [.int 0]) n1
      have e1 := S2.st.at (o := .tup [.int 0]) n1 rfl
      have r1 := rel_new (d := d) (o := .tup [.int 0]) n1
      refine ⟨_, _, rfl, rfl, ⟨by decide, by decide, by decide⟩, Nat.zero_le _, fun l1 nl1 four => ?_⟩
      have Sb := Sa.new (o := .lst []) nl1
      have e2 := Sa.st.at (o := .lst []) nl1 rfl
      have r2 := rel_new (d := d) (o := .lst []) nl1
      refine ⟨(by show 8 ≤ sizeLine; decide), fun L nL => ?_⟩
      have Sc := Sb.new (o := .lst [.int (-1), .int m.size, .non, .bl true, .str "0", .ref t1, .int (10 ^ (30 : Int).toNat), .ref l1]) nL
      have r3 := rel_new (d := d) (o := .lst [.int (-1), .int m.size, .non, .bl true, .str "0", .ref t1, .int (10 ^ (30 : Int).toNat), .ref l1]) nL
      refine ⟨d, L, n + 5, _, rfl, Sc.st.dice, by omega, upd_same, ne_dice Sb.st.dice nL, Nat.zero_lt_succ _, (by show 8 < 1000000; decide), fun x o hx D4 => ?_⟩
      have r4 := r3.trans (rel_dice (o := o))
      refine (fun (h : ∃ od, OddV K (hid d (upd (upd (upd (upd H2 t1 (.tup [.int 0])) l1 (.lst [])) L (.lst [.int (-1), .int m.size, .non, .bl true, .str "0", .ref t1, .int (10 ^ (30 : Int).toNat), .ref l1])) d o)) m x od) => let ⟨od, ov⟩ := h; ⟨x, od, rfl, Sc.roll D4, hbad.same (r1.trans (r2.trans r4)), ov⟩) ?_
      simp only [List.mem_cons, List.not_mem_nil, or_false] at hx
      rcases hx with rfl | rfl | rfl | rfl | rfl | rfl | rfl | rfl
      · exact ⟨_, .int _, .inr ⟨_, rfl, fun z => by omega⟩, by decide +kernel, by decide +kernel⟩
      · have z := small_size m.size ok.s1
        rw [Bool.and_eq_true] at z
        exact ⟨_, .int _, .inr ⟨_, rfl, fun z => by omega⟩, z.1, z.2⟩
      · exact ⟨_, .non, .inl ⟨"NoneType", by decide, .base .non⟩, by decide +kernel, by decide +kernel⟩
      · exact ⟨_, .bl true, .inl ⟨"bool", by decide, .base (.bl true)⟩, by decide +kernel, by decide +kernel⟩
      · exact ⟨_, .str "0", .inl ⟨"str", by decide, .base (.str _)⟩, by decide +kernel, by decide +kernel⟩
      · have e1' := (r2.trans r4) _ _ e1
        exact ⟨_, .tup e1' (.cons (.int 0) .nil), .inl ⟨"tuple", by decide, .base (.tup e1')⟩, by decide +kernel, by decide +kernel⟩
      · refine ⟨_, .int _, .inr ⟨_, rfl, fun z => ?_⟩, by decide +kernel, by decide +kernel⟩
        have z1 := z.2
        have c1 := ok.s1
        have big : (1000 : Int) < 10 ^ (30 : Int).toNat := by decide
        omega
      · have e2' := r4 _ _ e2
        exact ⟨_, .lst four e2' .nil, .inl ⟨"list", by decide, .base (.lst e2')⟩, by decide +kernel, by decide +kernel⟩
    rintro σ3 H3 ⟨odd, od, rfl, S3, hbad3, hodd⟩
    -- wrong
    refine ⟨fun σ' H' => ∃ wrong : V, σ' = [some (.ref d), some (.ref a), some (.ref p), some (.ref B), some odd, some wrong, none, none, none, none, none, none, none, none, none, some bad, none, none, none, none] ∧
      Bas [(Pt, lamQ)] H H' d a p B m ys b0 b1 b2 b3 (n + 7) ∧ BadM K (hid d H') bad ∧ OddV K (hid d H') m odd od ∧ WrongV K (hid d H') wrong, ?_, ?_⟩
    · refine ⟨_, rfl, (by show 1 ≤ sizeLine; decide), fun t1 n1 => ?_⟩
      have Sa := S3.new (o := .tup [.str "send"]) n1
      have e1 := S3.st.at (o := .tup [.str "send"]) n1 rfl
      have r1 := rel_new (d := d) (o := .tup [.str "send"]) n1
      refine ⟨Nat.zero_le _, fun l1 nl1 => ?_⟩
      have Sb := Sa.new (o := .lst []) nl1
      have e2 := Sa.st.at (o := .lst []) nl1 rfl
      have r2 := rel_new (d := d) (o := .lst []) nl1
      refine ⟨(by show 9 ≤ sizeLine; decide), fun L nL => ?_⟩
      have Sc := Sb.new (o := .lst [.str "step", .str "Send", .str "", .non, .int 0, .ref t1, .bl true, .ref l1, .str "takes"]) nL
      have r3 := rel_new (d := d) (o := .lst [.str "step", .str "Send", .str "", .non, .int 0, .ref t1, .bl true, .ref l1, .str "takes"]) nL
      refine ⟨d, L, n + 6, _, rfl, Sc.st.dice, by omega, upd_same, ne_dice Sb.st.dice nL, Nat.zero_lt_succ _, (by show 9 < 1000000; decide), fun x o hx D4 => ?_⟩
      have r4 := r3.trans (rel_dice (o := o))
      refine ⟨x, rfl, Sc.roll D4, hbad3.same (r1.trans (r2.trans r4)), hodd.same (r1.trans (r2.trans r4)), ?_⟩
      simp only [List.mem_cons, List.not_mem_nil, or_false] at hx
      rcases hx with rfl | rfl | rfl | rfl | rfl | rfl | rfl | rfl | rfl
      · exact .inr ⟨_, rfl, by decide +kernel⟩
      · exact .inr ⟨_, rfl, by decide +kernel⟩
      · exact .inr ⟨_, rfl, by decide +kernel⟩
      · exact .inl .non
      · exact .inl (.int 0)
      · exact .inl (.tup (SqT.of ((r2.trans r4) _ _ e1)))
      · exact .inl (.bl true)
      · exact .inl (.lst (SqL.of (r4 _ _ e2)))
      · exact .inr ⟨_, rfl, by decide +kernel⟩
    rintro σ4 H4 ⟨wrong, rfl, S4, hbad4, hodd4, hwr⟩
    -- far
    refine ⟨fun σ' H' => ∃ (far : V) (fdt : PyData), σ' = [some (.ref d), some (.ref a), some (.ref p), some (.ref B), some odd, some wrong, some far, none, none, none, none, none, none, none, none, some bad, none, none, none, none] ∧
      Bas [(Pt, lamQ)] H H' d a p B m ys b0 b1 b2 b3 (n + 8) ∧ BadM K (hid d H') bad ∧ OddV K (hid d H') m odd od ∧ WrongV K (hid d H') wrong ∧ FarV K (hid d H') m far fdt, ?_, ?_⟩
    · refine ⟨_, rfl, _, rfl, Nat.zero_le _, fun l1 nl1 four => ?_⟩
      have Sa := S4.new (o := .lst []) nl1
      have e1 := S4.st.at (o := .lst []) nl1 rfl
      have r1 := rel_new (d := d) (o := .lst []) nl1
      refine ⟨(by show 1 ≤ sizeLine; decide), fun t1 n1 => ?_⟩
      have Sb := Sa.new (o := .tup [.str "a"]) n1
      have e2 := Sa.st.at (o := .tup [.str "a"]) n1 rfl
      have r2 := rel_new (d := d) (o := .tup [.str "a"]) n1
      intro dx nd
      have Sc := Sb.new (o := .dK []) nd
      have e3 := Sb.st.at (o := .dK []) nd rfl
      have r3 := rel_new (d := d) (o := .dK []) nd
      refine ⟨(by show 9 ≤ sizeLine; decide), fun L nL => ?_⟩
      have Sd := Sc.new (o := .lst [.str "Zz", .str "", .str "A", .non, .int 0, .ref p, .ref l1, .ref t1, .ref dx]) nL
      have r4 := rel_new (d := d) (o := .lst [.str "Zz", .str "", .str "A", .non, .int 0, .ref p, .ref l1, .ref t1, .ref dx]) nL
      refine ⟨d, L, n + 7, _, rfl, Sd.st.dice, by omega, upd_same, ne_dice Sc.st.dice nL, Nat.zero_lt_succ _, (by show 9 < 1000000; decide), fun x o hx D4 => ?_⟩
      have r5 := r4.trans (rel_dice (o := o))
      have rr := r1.trans (r2.trans (r3.trans r5))
      have Se := Sd.roll D4
      refine (fun (h : ∃ fdt, FarV K (hid d (upd (upd (upd (upd (upd H4 l1 (.lst [])) t1 (.tup [.str "a"])) dx (.dK [])) L (.lst [.str "Zz", .str "", .str "A", .non, .int 0, .ref p, .ref l1, .ref t1, .ref dx])) d o)) m x fdt) => let ⟨fdt, fv⟩ := h; ⟨x, fdt, rfl, Se, hbad4.same rr, hodd4.same rr, hwr.same rr, fv⟩) ?_
      simp only [List.mem_cons, List.not_mem_nil, or_false] at hx
      rcases hx with rfl | rfl | rfl | rfl | rfl | rfl | rfl | rfl | rfl
      · exact ⟨_, .str _, .inr ⟨_, rfl, no_name ok (not_wd (c := 90) (by decide +kernel) (by decide))⟩, by decide +kernel, .ty "str" (by decide) (.base (.str _))⟩
      · exact ⟨_, .str _, .inr ⟨_, rfl, no_name ok (not_wd0 (by decide +kernel))⟩, by decide +kernel, .ty "str" (by decide) (.base (.str _))⟩
      · exact ⟨_, .str _, .inr ⟨_, rfl, no_name ok (not_wd (c := 65) (by decide +kernel) (by decide))⟩, by decide +kernel, .ty "str" (by decide) (.base (.str _))⟩
      · exact ⟨_, .non, .inl .non, by decide +kernel, .ty "NoneType" (by decide) (.base .non)⟩
      · exact ⟨_, .int 0, .inl (.int 0), by decide +kernel, .ty "int" (by decide) (.base (.int 0))⟩
      · exact ⟨_, .tup Se.ep (dz_strs ys), .inl (.tup (SqT.of Se.ep)), small_name (wp near) few, bad_strs Se.ep⟩
      · have e1' := (r2.trans (r3.trans r5)) _ _ e1
        exact ⟨_, .lst four e1' .nil, .inl (.lst (SqL.of e1')), by decide +kernel, .ty "list" (by decide) (.base (.lst e1'))⟩
      · have e2' := (r3.trans r5) _ _ e2
        exact ⟨_, .tup e2' (.cons (.str _) .nil), .inl (.tup (SqT.of e2')), by decide +kernel, .len e2' (by decide)⟩
      · have e3' := r5 _ _ e3
        exact ⟨_, .emp e3', .inl (.emp e3'), by decide +kernel, .ty "dict" (by decide) (.base (.dK e3'))⟩
    rintro σ5 H5 ⟨far, fdt, rfl, S5, hbad5, hodd5, hwr5, hfar⟩
    -- state, word
    refine ⟨fun σ' H' => ∃ (i : Int) (wd : Bool), σ' = [some (.ref d), some (.ref a), some (.ref p), some (.ref B), some odd, some wrong, some far, some (.int i), some (.str (wordOf wd)), none, none, none, none, none, none, some bad, none, none, none, none] ∧
      Bas [(Pt, lamQ)] H H' d a p B m ys b0 b1 b2 b3 (n + 10) ∧ Rel d H5 H' ∧ 0 ≤ i ∧ i < m.size, ?_, ?_⟩
    · obtain ⟨Ma⟩ := mach_at S5.kz
      have c0 := ok.s0
      have c1 := ok.s1
      refine ⟨_, rfl, _, rfl, a, _, 0, .int m.size, rfl, rfl, SqT.of Ma.top, atI_nat (j := 0) rfl, d, m.size, n + 8, rfl, S5.st.dice, by omega, by omega, by omega, fun r o r0 r1 D4 => ?_⟩
      have Sa := S5.roll D4
      refine ⟨_, rfl, (by show 2 ≤ sizeLine; decide), fun L nL => ?_⟩
      have Sb := Sa.new (o := .lst [.str "send", .str "take"]) nL
      refine ⟨d, L, n + 9, _, rfl, Sb.st.dice, by omega, upd_same, ne_dice Sa.st.dice nL, Nat.zero_lt_succ _, (by show 2 < 1000000; decide), fun x o2 hx D5 => ?_⟩
      have Sc := Sb.roll D5
      have rc := ((rel_dice (d := d) (H := H5) (o := o)).trans (rel_new (o := .lst [.str "send", .str "take"]) nL)).trans (rel_dice (o := o2))
      refine ⟨(by show 2 ≤ sizeLine; decide), fun t nt => ?_⟩
      obtain ⟨wd, rfl⟩ : ∃ wd, x = .str (wordOf wd) := by
        simp only [List.mem_cons, List.not_mem_nil, or_false] at hx
        rcases hx with rfl | rfl
        · exact ⟨true, rfl⟩
        · exact ⟨false, rfl⟩
      exact ⟨t, _, rfl, SqT.of upd_same, rfl, _, _, rfl, _, _, rfl, rfl, r, wd, rfl, Sc.new nt, rc.trans (rel_new nt), r0, r1⟩
    rintro σ6 H6 ⟨i, wd, rfl, S6, r56, i0, i1⟩
    -- other
    refine ⟨fun σ' H' => ∃ ot : Str, σ' = [some (.ref d), some (.ref a), some (.ref p), some (.ref B), some odd, some wrong, some far, some (.int i), some (.str (wordOf wd)), some (.str ot), none, none, none, none, none, some bad, none, none, none, none] ∧
      Bas [(Pt, lamQ)] H H' d a p B m ys b0 b1 b2 b3 (n + 10) ∧ Rel d H5 H' ∧ ((ys = [] ∧ ot = "nobody") ∨ ot ∈ ys), ?_, ?_⟩
    · refine ⟨_, rfl, Nat.zero_le _, fun t nt => ?_⟩
      have Sa := S6.new (o := .tup []) nt
      have ra := r56.trans (rel_new (o := .tup []) nt)
      refine ⟨_, _, .tup (SqT.of Sa.pp) (dp_strs ys), .tup (SqT.of upd_same) .nil, shaped_strsT ys (wp near), by decide +kernel, _, rfl, ?_⟩
      cases ys with
      | nil => exact ifF (by rw [List.map_nil, PyData.eqv, PyData.eqvAll]; rfl) ⟨"nobody", rfl, Sa, ra, .inl ⟨rfl, rfl⟩⟩
      | cons y ys => exact ifT (by rw [List.map_cons, PyData.eqv, PyData.eqvAll]; rfl) ⟨_, rfl, p, _, 0, .str y, rfl, rfl, SqT.of Sa.pp, atI_nat (j := 0) rfl, y, rfl, Sa, ra, .inr List.mem_cons_self⟩
    rintro σ7 H7 ⟨ot, rfl, S7, r57, hot⟩
    -- held
    refine ⟨fun σ' H' => ∃ he : Addr, σ' = [some (.ref d), some (.ref a), some (.ref p), some (.ref B), some odd, some wrong, some far, some (.int i), some (.str (wordOf wd)), some (.str ot), none, none, none, none, none, some bad, some (.ref he), none, none, none] ∧
      Bas [(Pt, lamQ)] H H' d a p B m ys b0 b1 b2 b3 (n + 10) ∧ Rel d H5 H' ∧ H' he = some (.lst [if b0 = true then bad else .ref a, if b1 = true then odd else .int i]), ?_, ?_⟩
    · refine ⟨_, rfl, B, _, 0, .bl b0, rfl, rfl, SqL.of S7.BB, atI_nat (j := 0) rfl, _, rfl, ite_tvar (i := 15) (j := 1) rfl rfl ?_⟩
      refine ⟨_, rfl, B, _, 1, .bl b1, rfl, rfl, SqL.of S7.BB, atI_nat (j := 1) rfl, _, rfl, ite_tvar (i := 4) (j := 7) rfl rfl ?_⟩
      exact ⟨(by show 2 ≤ sizeLine; decide), fun he nh => ⟨he, rfl, S7.new nh, r57.trans (rel_new nh), upd_same⟩⟩
    rintro σ8 H8 ⟨he0, rfl, S8, r58, eh0⟩
    refine ⟨fun σ' H' => ∃ he : Addr, σ' = [some (.ref d), some (.ref a), some (.ref p), some (.ref B), some odd, some wrong, some far, some (.int i), some (.str (wordOf wd)), some (.str ot), none, none, none, none, none, some bad, some (.ref he), none, none, none] ∧
      Bas [(Pt, lamQ)] H H' d a p B m ys b0 b1 b2 b3 (n + 10) ∧ Rel d H5 H' ∧ hid d H' he = some (.lst [if b0 = true then bad else .ref a, if b1 = true then odd else .int i, if b2 = true then wrong else .str (wordOf wd), if b3 = true then far else .str ot]), ?_, ?_⟩
    · refine ⟨_, rfl, _, rfl, B, _, 2, .bl b2, rfl, rfl, SqL.of S8.BB, atI_nat (j := 2) rfl, _, rfl, ite_tvar (i := 5) (j := 8) rfl rfl ?_⟩
      refine ⟨_, rfl, B, _, 3, .bl b3, rfl, rfl, SqL.of S8.BB, atI_nat (j := 3) rfl, _, rfl, ite_tvar (i := 6) (j := 9) rfl rfl ?_⟩
      refine ⟨(by show 2 ≤ sizeLine; decide), fun l nl => ?_⟩
      have Sa := S8.new (o := .lst [if b2 = true then wrong else .str (wordOf wd), if b3 = true then far else .str ot]) nl
      refine ⟨he0, l, _, _, rfl, rfl, (same_upd nl) _ _ eh0, upd_same, (by show 2 + 2 ≤ sizeLine; decide), fun he nh => ⟨he, rfl, Sa.new nh, (r58.trans (rel_new nl)).trans (rel_new nh), Sa.st.at nh rfl⟩⟩
    rintro σ9 H9 ⟨he, rfl, S9, r59, eh⟩
    have hb9 := hbad5.same r59
    -- due
    have bit : ∀ {H' : Hp} {nn : Nat} {j : Nat} {b : Bool} {u11 u12 u13 u14 u10 : Option V}, Bas [(Pt, lamQ)] H H' d a p B m ys b0 b1 b2 b3 nn → [V.bl b0, .bl b1, .bl b2, .bl b3][j]? = some (.bl b) → ∀ (H1 : Hp) (R : VK), Same H' H1 → (∀ H2, Same H1 H2 → R (.bl b) H2) →
        tOp (rIxL K) (tVar 3) (tC (.int (j : Nat))) [some (.ref d), some (.ref a), some (.ref p), some (.ref B), some odd, some wrong, some far, some (.int i), some (.str (wordOf wd)), some (.str ot), u10, u11, u12, u13, u14, some bad, some (.ref he), none, none, none] H1 R :=
      fun S hj H1 R s1 h => ⟨_, rfl, B, _, _, _, rfl, rfl, SqL.of (s1 _ _ S.BB), atI_nat hj, h _ fun _ _ e => e⟩
    refine ⟨fun σ' H' => ∃ du x1 x2 x3 : Addr, σ' = [some (.ref d), some (.ref a), some (.ref p), some (.ref B), some odd, some wrong, some far, some (.int i), some (.str (wordOf wd)), some (.str ot), some (.ref du), none, none, none, none, some bad, some (.ref he), none, none, none] ∧
      Bas [(Pt, lamQ)] H H' d a p B m ys b0 b1 b2 b3 (n + 10) ∧ Rel d H9 H' ∧ H' du = some (.lst ((if b0 = true then [.ref x1] else []) ++ (if b1 = true then [.ref x2] else []) ++ (if b2 = true then [.ref x3] else []))) ∧
      (4 ≤ x1 ∧ hid d H' x1 = some (.lst [.str "machine"])) ∧ (4 ≤ x2 ∧ hid d H' x2 = some (.lst [.str "number", odd])) ∧ (4 ≤ x3 ∧ hid d H' x3 = some (.lst [.str "operation"])), ?_, ?_⟩
    · refine rd_rep (xs := [.str "machine"]) (b := b0) (by show 1 ≤ sizeLine; decide) (fun R h => h) (bit (j := 0) S9 rfl) (fun Ha r1 x1 sa nr1 nx1 f1 er1 ex1 => ?_)
      have Sa := S9.go (rel_same sa) (S9.st.same sa)
      have dx1 := ne_dice S9.st.dice nx1
      refine rd_rep (xs := [.str "number", odd]) (b := b1) (by show 2 ≤ sizeLine; decide) (fun R h => ⟨_, rfl, h⟩) (bit (j := 1) Sa rfl) (fun Hb r2 x2 sb nr2 nx2 f2 er2 ex2 => ?_)
      have Sb := Sa.go (rel_same sb) (Sa.st.same sb)
      have dx2 := ne_dice Sa.st.dice nx2
      refine ⟨r1, r2, _, _, rfl, rfl, sb _ _ er1, er2, (by have := (opt_len (b := b0) (v := .ref x1)); have := (opt_len (b := b1) (v := .ref x2)); rw [sizeLine_eq]; omega), fun r3 nr3 => ?_⟩
      have Sc := Sb.new (o := .lst ((if b0 = true then [.ref x1] else []) ++ (if b1 = true then [.ref x2] else []))) nr3
      have sc := same_upd (o := .lst ((if b0 = true then [.ref x1] else []) ++ (if b1 = true then [.ref x2] else []))) nr3
      refine rd_rep (xs := [.str "operation"]) (b := b2) (by show 1 ≤ sizeLine; decide) (fun R h => h) (bit (j := 2) Sc rfl) (fun Hd r4 x3 sd nr4 nx3 f3 er4 ex3 => ?_)
      have Sd := Sc.go (rel_same sd) (Sc.st.same sd)
      have dx3 := ne_dice Sc.st.dice nx3
      refine ⟨r3, r4, _, _, rfl, rfl, sd _ _ upd_same, er4, (by have := (opt_len (b := b0) (v := .ref x1)); have := (opt_len (b := b1) (v := .ref x2)); have := (opt_len (b := b2) (v := .ref x3)); rw [sizeLine_eq, List.length_append]; omega), fun du ndu => ?_⟩
      have se := same_upd (o := .lst ((if b0 = true then [.ref x1] else []) ++ (if b1 = true then [.ref x2] else []) ++ (if b2 = true then [.ref x3] else []))) ndu
      have s2 := sc.trans (sd.trans se)
      exact ⟨du, x1, x2, x3, rfl, Sd.new ndu, rel_same (sa.trans (sb.trans s2)), upd_same, ⟨f1, hid_get (s2 _ _ (sb _ _ ex1)) dx1 rfl⟩, ⟨f2, hid_get (s2 _ _ ex2) dx2 rfl⟩, ⟨f3, hid_get (se _ _ ex3) dx3 rfl⟩⟩
    rintro σA HA ⟨du0, x1, x2, x3, rfl, SA, rA, edu0, ⟨f1, ex1⟩, ⟨f2, ex2⟩, ⟨f3, ex3⟩⟩
    have ehA := rA _ _ eh
    refine ⟨fun σ' H' => ∃ du x4 : Addr, σ' = [some (.ref d), some (.ref a), some (.ref p), some (.ref B), some odd, some wrong, some far, some (.int i), some (.str (wordOf wd)), some (.str ot), some (.ref du), none, none, none, none, some bad, some (.ref he), none, none, none] ∧
      Bas [(Pt, lamQ)] H H' d a p B m ys b0 b1 b2 b3 (n + 10) ∧ Rel d HA H' ∧ H' du = some (.lst (((if b0 = true then [.ref x1] else []) ++ (if b1 = true then [.ref x2] else []) ++ (if b2 = true then [.ref x3] else [])) ++ (if (b3 || ys.isEmpty) = true then [.ref x4] else []))) ∧
      (4 ≤ x4 ∧ hid d H' x4 = some (.lst [.str "name", if b3 = true then far else .str ot])), ?_, ?_⟩
    · refine ⟨_, rfl, rd_rep (xs := [.str "name", if b3 = true then far else .str ot]) (b := b3 || ys.isEmpty) (by show 2 ≤ sizeLine; decide) (fun R h => ⟨_, rfl, he, _, 3, _, rfl, rfl, SqL.of (hid_up _ _ ehA), atI_nat (j := 3) rfl, h⟩) (fun H1 R s1 h => ?_) (fun Hb r1 x4 sb nr1 nx4 f4 er1 ex4 => ?_)⟩
      · refine ⟨_, rfl, B, _, 3, .bl b3, rfl, rfl, SqL.of (s1 _ _ SA.BB), atI_nat (j := 3) rfl, _, rfl, ?_⟩
        cases b3 with
        | true => exact iteT (h _ fun _ _ e => e)
        | false =>
          refine iteF ⟨_, rfl, Nat.zero_le _, fun t nt => ?_⟩
          have kt := same_upd (o := .tup []) nt
          refine ⟨_, _, .tup (SqT.of (kt _ _ (s1 _ _ SA.pp))) (dp_strs ys), .tup (SqT.of upd_same) .nil, shaped_strsT ys (wp near), by decide +kernel, ?_⟩
          have e : PyData.eqv (.tuple (ys.map PyData.str)) (.tuple []) = (false || ys.isEmpty) := by
            cases ys with
            | nil => rw [List.map_nil, PyData.eqv, PyData.eqvAll]; rfl
            | cons y ys => rw [List.map_cons, PyData.eqv, PyData.eqvAll]; rfl
          rw [e]
          exact h _ kt
      · have Sb := SA.go (rel_same sb) (SA.st.same sb)
        refine ⟨du0, r1, _, _, rfl, rfl, sb _ _ edu0, er1, (by have := (opt_len (b := b0) (v := .ref x1)); have := (opt_len (b := b1) (v := .ref x2)); have := (opt_len (b := b2) (v := .ref x3)); have := (opt_len (b := b3 || ys.isEmpty) (v := .ref x4)); rw [sizeLine_eq, List.length_append, List.length_append]; omega), fun du ndu => ?_⟩
        have se := same_upd (o := .lst (((if b0 = true then [.ref x1] else []) ++ (if b1 = true then [.ref x2] else []) ++ (if b2 = true then [.ref x3] else [])) ++ (if (b3 || ys.isEmpty) = true then [.ref x4] else []))) ndu
        exact ⟨du, x4, rfl, Sb.new ndu, rel_same (sb.trans se), upd_same, f4, hid_get (se _ _ ex4) (ne_dice SA.st.dice nx4) rfl⟩
    rintro σB HB ⟨du, x4, rfl, SB, rB, edu, f4, ex4⟩
    -- first
    have exB1 := rB _ _ ex1
    have exB2 := rB _ _ ex2
    have exB3 := rB _ _ ex3
    have r5B := r59.trans (rA.trans rB)
    have oddB := hodd5.same r5B
    have farB := hfar.same r5B
    refine ⟨fun σ' H' => ∃ (fa : Addr) (fd1 : PyData), σ' = [some (.ref d), some (.ref a), some (.ref p), some (.ref B), some odd, some wrong, some far, some (.int i), some (.str (wordOf wd)), some (.str ot), some (.ref du), some (.ref fa), none, none, none, some bad, some (.ref he), none, none, none] ∧
      Bas [(Pt, lamQ)] H H' d a p B m ys b0 b1 b2 b3 (n + 10) ∧ Rel d HB H' ∧ Dz (hid d H') (.ref fa) fd1 ∧ small fd1 = true ∧ FirstIs m i wd ot od (if b3 = true then fdt else .str ot) b0 b1 b2 (b3 || ys.isEmpty) fd1, ?_, ?_⟩
    · generalize hc : (b3 || ys.isEmpty) = cc at edu ⊢
      refine ⟨_, rfl, Nat.zero_le _, fun l nl => ⟨du, l, _, rfl, rfl, SqL.of ((same_upd nl) _ _ edu), SqL.of upd_same, _, rfl, ?_⟩⟩
      have Sl := SB.new (o := .lst []) nl
      have rl := rel_new (d := d) (o := .lst []) nl
      have el := (same_upd (o := .lst []) nl) _ _ edu
      cases b0 with
      | true =>
        refine ifT rfl ⟨_, rfl, du, _, 0, .ref x1, rfl, rfl, SqL.of el, atI_nat (j := 0) rfl, x1, _, rfl, Sl, rl, .lst f1 (rl _ _ exB1) (.cons (.str _) .nil), ?_, .mach b1 b2 cc⟩
        decide +kernel
      | false =>
        cases b1 with
        | true => exact ifT rfl ⟨_, rfl, du, _, 0, .ref x2, rfl, rfl, SqL.of el, atI_nat (j := 0) rfl, x2, _, rfl, Sl, rl, .lst f2 (rl _ _ exB2) (.cons (.str _) (.cons (oddB.same rl).dz .nil)), oddB.s1, .num b2 cc⟩
        | false =>
          cases b2 with
          | true =>
            refine ifT rfl ⟨_, rfl, du, _, 0, .ref x3, rfl, rfl, SqL.of el, atI_nat (j := 0) rfl, x3, _, rfl, Sl, rl, .lst f3 (rl _ _ exB3) (.cons (.str _) .nil), ?_, .op cc⟩
            decide +kernel
          | false =>
            cases cc with
            | true =>
              refine ifT rfl ⟨_, rfl, du, _, 0, .ref x4, rfl, rfl, SqL.of el, atI_nat (j := 0) rfl, x4, _, rfl, Sl, rl, .lst f4 (rl _ _ ex4) (.cons (.str _) (.cons ?_ .nil)), ?_, .name⟩
              · cases b3 with
                | true => exact (farB.same rl).dz
                | false => exact .str ot
              · cases b3 with
                | true => exact farB.s1
                | false =>
                  have e : ot = "nobody" := by
                    rcases hot with z | z
                    · exact z.2
                    · cases ys with
                      | nil => exact absurd z List.not_mem_nil
                      | cons y ys => exact nomatch hc
                  rw [e]
                  show small (.list [.str "name", .str "nobody"]) = true
                  decide +kernel
            | false =>
              have hw : ot ∈ ys := by
                rcases hot with z | z
                · rw [z.1] at hc
                  cases b3 <;> exact nomatch hc
                · exact z
              refine ifF rfl ⟨_, rfl, _, rfl, _, rfl, _, rfl, a, m, i, wd, ot, rfl, Sl.kz, ok, (wp near ot hw).low, fun H' pz zs s' np ez told fewz => ⟨(by show 2 ≤ sizeLine; decide), fun fa nfa four => ?_⟩⟩
              have Sz := Sl.go (rel_same s') (Sl.st.same s')
              have ef := Sz.st.at (o := .lst [.str "returned", .ref pz]) nfa rfl
              have ez' := hid_get (d := d) ez (ne_dice Sl.st.dice np) rfl
              have rf := rel_new (d := d) (o := .lst [.str "returned", .ref pz]) nfa
              exact ⟨fa, _, rfl, Sz.new nfa, rl.trans ((rel_same s').trans rf), .lst four ef (.cons (.str _) (.cons (.tup (rf _ _ ez') (dz_strs zs)) .nil)), small_told (told_wd ok told) fewz, .told zs told fewz⟩
    rintro σC HC ⟨fa, fd1, rfl, SC, rC, dz1, sm1, fi⟩
    have ehC := rC _ _ (rB _ _ ehA)
    have badC := hb9.same (rA.trans (rB.trans rC))
    have oddC := oddB.same rC
    have wrC := hwr5.same (r5B.trans rC)
    have farC := farB.same rC
    -- letters_at(held ..), told
    have lam13 : ∀ R : VK, (∀ (H' : Hp) (q : Addr), Bas [(Pt, lamQ)] H H' d a p B m ys b0 b1 b2 b3 (n + 10) → Rel d HC H' → Dz H' (.ref q) fd1 → R (.ref q) H') →
        tLam [(Pt, lamQ)] (metTT K cN cU cM cO) (fun E => tCallS (spLet K (BadM K) cM cN cU cO) (fun _ => E) (tCons (tHeld K 0) (tCons (tHeld K 1) (tCons (tHeld K 2) (tCons (tHeld K 3) tNil)))))
          [some (.ref d), some (.ref a), some (.ref p), some (.ref B), some odd, some wrong, some far, some (.int i), some (.str (wordOf wd)), some (.str ot), some (.ref du), some (.ref fa), none, none, none, some bad, some (.ref he), none, none, none] HC R := by
      intro R h
      refine ⟨SC.st.tabs, fun H1 eN T1 => ?_⟩
      have rD := rel_ext (d := d) eN
      have SD := SC.go rD (SC.st.lam eN T1)
      have eh1 := hid_up _ _ (rD _ _ ehC)
      have kz1 := SD.kz
      refine ⟨_, rfl, he, _, 0, _, rfl, rfl, SqL.of eh1, atI_nat (j := 0) rfl, _, rfl, he, _, 1, _, rfl, rfl, SqL.of eh1, atI_nat (j := 1) rfl, _, rfl, he, _, 2, _, rfl, rfl, SqL.of eh1, atI_nat (j := 2) rfl, _, rfl, he, _, 3, _, rfl, rfl, SqL.of eh1, atI_nat (j := 3) rfl, _, _, _, _, rfl, ?_⟩
      have end' : ∀ (H' : Hp) (q : Addr) (xs : List V) (ds : List PyData), Same H1 H' → H' q = none → 4 ≤ q → DzAll (upd H' q (.lst xs)) xs ds → fd1 = .list ds → R (.ref q) (upd H' q (.lst xs)) := by
        intro H' q xs ds s' nq f4 dz e
        subst e
        have S' := SD.go (rel_same s') (SD.st.same s')
        exact h _ _ (S'.new nq) (rD.trans ((rel_same s').trans (rel_new nq))) (.lst f4 upd_same dz)
      have bad1 := (badC.same rD).same hid_up
      have odd1 := (oddC.same rD).same hid_up
      have wr1 := (wrC.same rD).same hid_up
      have far1 := (farC.same rD).same hid_up
      generalize hc : (b3 || ys.isEmpty) = cc at fi
      cases fi with
      | mach b1 b2 c => exact .inl ⟨bad1, fun H' s' => .inr (.inr (.inl ⟨rfl, fun q nq f4 => end' H' q _ _ s' nq f4 (.cons (.str _) .nil) rfl⟩))⟩
      | num b2 c =>
        refine .inr ⟨a, m, rfl, kz1, ok, .inl ⟨odd1.no, fun H' dx s' ex => .inl ⟨rfl, dx, odd, rfl, ex, fun q nq f4 => ?_⟩⟩⟩
        exact end' H' q _ _ s' nq f4 (.cons (.str _) (.cons (odd1.same (s'.trans (same_upd nq))).dz .nil)) rfl
      | op c => exact .inr ⟨a, m, rfl, kz1, ok, .inr ⟨i, rfl, i0, i1, .inl ⟨wr1, fun H' s' => .inr (.inr (.inr ⟨rfl, fun q nq f4 => end' H' q _ _ s' nq f4 (.cons (.str _) .nil) rfl⟩))⟩⟩⟩
      | name =>
        refine .inr ⟨a, m, rfl, kz1, ok, .inr ⟨i, rfl, i0, i1, .inr ⟨wd, rfl, .inl ⟨?_, fun H' dx s' ex => .inr (.inl ⟨rfl, dx, _, rfl, ex, fun q nq f4 => ?_⟩)⟩⟩⟩⟩
        · cases b3 with
          | true => exact far1.no
          | false =>
            refine .inr ⟨ot, rfl, fun z => ?_⟩
            have y := (near.mem ot).mpr z
            cases ys with
            | nil => exact absurd y List.not_mem_nil
            | cons y ys => exact nomatch hc
        · refine end' H' q _ _ s' nq f4 (.cons (.str _) (.cons ?_ .nil)) rfl
          cases b3 with
          | true => exact (far1.same (s'.trans (same_upd nq))).dz
          | false => exact .str ot
      | told zs t fewz =>
        have eb : b3 = false := by
          cases b3 with
          | true => exact nomatch hc
          | false => rfl
        subst eb
        have hw : ot ∈ ys := by
          rcases hot with z | z
          · rw [z.1] at hc
            exact nomatch hc
          · exact z
        refine .inr ⟨a, m, rfl, kz1, ok, .inr ⟨i, rfl, i0, i1, .inr ⟨wd, rfl, .inr ⟨ot, rfl, (near.mem ot).mp hw, fun H' q zs' s' nq eq told' _ => ⟨(by show 2 ≤ sizeLine; decide), fun q2 nq2 f4 => ?_⟩⟩⟩⟩⟩
        cases told_ext told' t
        exact end' H' q2 _ _ s' nq2 f4 (.cons (.str _) (.cons (.tup ((same_upd nq2) _ _ eq) (dz_strs zs)) .nil)) rfl
    refine ⟨fun σ' H' => σ' = [some (.ref d), some (.ref a), some (.ref p), some (.ref B), some odd, some wrong, some far, some (.int i), some (.str (wordOf wd)), some (.str ot), some (.ref du), some (.ref fa), none, none, none, some bad, some (.ref he), none, none, none] ∧
      Bas [(Pt, lamQ)] H H' d a p B m ys b0 b1 b2 b3 (n + 10) ∧ Rel d HC H', ?_, ?_⟩
    · refine lam13 _ fun H' q SD rD dz => ⟨q, fd1, rfl, dz, sm1, _, rfl, fa, fd1, rfl, Dz.same hid_up _ _ (Dz.same rD _ _ dz1), sm1, rfl, _, rfl, ifF ?_ ⟨rfl, SD, rD⟩⟩
      rw [decide_eq_true rfl]
      rfl
    rintro σD HD ⟨rfl, SD, rD⟩
    have ehD := rD _ _ ehC
    have badD := badC.same rD
    have oddD := oddC.same rD
    have farD := farC.same rD
    have l64 := ok.r3
    have nsOk : ∀ k ∈ idxs i 0 m.rows, 0 ≤ k ∧ k < 64 := fun k hk => by
      have z := idxs_mem hk
      omega
    have nsFew : (idxs i 0 m.rows).length < 64 := by
      have z := idxs_len i m.rows 0
      omega
    -- transitions_at(held ..), told
    have lam14 : ∀ R : VK, (∀ (H' : Hp) (q : Addr), Bas [(Pt, lamQ)] H H' d a p B m ys b0 b1 b2 b3 (n + 10) → Rel d HD H' → Dz (hid d H') (.ref q) (everyD b0 b1 od (idxs i 0 m.rows)) → R (.ref q) H') →
        tLam [(Pt, lamQ)] (metTT K cN cU cM cO) (fun E => tCallS (spTrans K (BadM K) cM cN) (fun _ => E) (tCons (tHeld K 0) (tCons (tHeld K 1) tNil)))
          [some (.ref d), some (.ref a), some (.ref p), some (.ref B), some odd, some wrong, some far, some (.int i), some (.str (wordOf wd)), some (.str ot), some (.ref du), some (.ref fa), none, none, none, some bad, some (.ref he), none, none, none] HD R := by
      intro R h
      refine ⟨SD.st.tabs, fun H1 eN T1 => ?_⟩
      have rE := rel_ext (d := d) eN
      have SE := SD.go rE (SD.st.lam eN T1)
      have eh1 := hid_up _ _ (rE _ _ ehD)
      have kz1 := SE.kz
      refine ⟨_, rfl, he, _, 0, _, rfl, rfl, SqL.of eh1, atI_nat (j := 0) rfl, _, rfl, he, _, 1, _, rfl, rfl, SqL.of eh1, atI_nat (j := 1) rfl, _, _, rfl, ?_⟩
      have end' : ∀ (H' : Hp) (q : Addr) (xs : List V) (ds : List PyData), Same H1 H' → H' q = none → 4 ≤ q → DzAll (hid d (upd H' q (.lst xs))) xs ds → everyD b0 b1 od (idxs i 0 m.rows) = .list ds → R (.ref q) (upd H' q (.lst xs)) := by
        intro H' q xs ds s' nq f4 dz e
        have S' := SE.go (rel_same s') (SE.st.same s')
        refine h _ _ (S'.new nq) (rE.trans ((rel_same s').trans (rel_new nq))) ?_
        rw [e]
        exact .lst f4 (S'.st.at nq rfl) dz
      have bad1 := (badD.same rE).same hid_up
      have odd1 := oddD.same rE
      cases b0 with
      | true => exact .inl ⟨bad1, fun H' s' => .inr (.inr (.inl ⟨rfl, fun q nq f4 => end' H' q _ _ s' nq f4 (.cons (.str _) .nil) rfl⟩))⟩
      | false =>
        cases b1 with
        | true =>
          refine .inr ⟨a, m, rfl, kz1, ok, .inr ⟨(odd1.same hid_up).no, fun H' dx s' ex => .inl ⟨rfl, dx, odd, rfl, ex, fun q nq f4 => ?_⟩⟩⟩
          exact end' H' q _ _ s' nq f4 (.cons (.str _) (.cons (odd1.same (rel_same (s'.trans (same_upd nq)))).dz .nil)) rfl
        | false =>
          refine .inr ⟨a, m, rfl, kz1, ok, .inl ⟨i, rfl, i0, i1, fun H' q s' nq eq => ⟨(by show 2 ≤ sizeLine; decide), fun q2 nq2 f4 => ?_⟩⟩⟩
          have S' := SE.go (rel_same s') (SE.st.same s')
          have eq' : hid d H' q = some (.tup ((idxs i 0 m.rows).map V.int)) := hid_get eq (ne_dice SE.st.dice nq) rfl
          exact end' H' q2 _ _ s' nq2 f4 (.cons (.str _) (.cons (.tup (rel_new nq2 _ _ eq') (dz_ints _)) .nil)) rfl
    refine ⟨fun σ' H' => ∃ (th q1 : Addr) (Hm : Hp), σ' = [some (.ref d), some (.ref a), some (.ref p), some (.ref B), some odd, some wrong, some far, some (.int i), some (.str (wordOf wd)), some (.str ot), some (.ref du), some (.ref fa), some (.ref th), none, none, some bad, some (.ref he), none, none, none] ∧
      Bas [(Pt, lamQ)] H H' d a p B m ys b0 b1 b2 b3 (n + 10) ∧ Rel d HD Hm ∧ hid d Hm th = none ∧ th ≠ d ∧ Rel d Hm H' ∧ Dz (hid d Hm) (.ref q1) (everyD b0 b1 od (idxs i 0 m.rows)) ∧ 4 ≤ th ∧ hid d H' th = some (.lst [.ref q1]), ?_, ?_⟩
    · refine lam14 _ fun H' q SE rE dz => ⟨(by show 1 ≤ sizeLine; decide), fun th nth f4 => ?_⟩
      exact ⟨th, q, H', rfl, SE.new nth, rE, hid_none nth, ne_dice SE.st.dice nth, rel_new nth, dz, f4, SE.st.at nth rfl⟩
    rintro σE HE ⟨th, q1, Hm, rfl, SE, rDm, nth, thd, rmE, dz14, fth, eth⟩
    -- neighbours_of(bad), told
    have badE := badD.same (rDm.trans rmE)
    have lam15 : ∀ R : VK, (∀ (H' : Hp) (q : Addr), Bas [(Pt, lamQ)] H H' d a p B m ys b0 b1 b2 b3 (n + 10) → Rel d HE H' → H' th = some (.lst [.ref q1]) → q ≠ th → Dz (hid d H') (.ref q) (.list [.str "machine"]) → R (.ref q) H') →
        tLam [(Pt, lamQ)] (metTT K cN cU cM cO) (fun E => tCallS (spNbOf K cM) (fun _ => E) (tCons (tVar 15) tNil))
          [some (.ref d), some (.ref a), some (.ref p), some (.ref B), some odd, some wrong, some far, some (.int i), some (.str (wordOf wd)), some (.str ot), some (.ref du), some (.ref fa), some (.ref th), none, none, some bad, some (.ref he), none, none, none] HE R := by
      intro R h
      refine ⟨SE.st.tabs, fun H1 eN T1 => ?_⟩
      have rF := rel_ext (d := d) eN
      have SF := SE.go rF (SE.st.lam eN T1)
      have bad1 := (badE.same rF).same hid_up
      refine ⟨_, rfl, bad, rfl, .inl ⟨bad1, fun H' s' => .inr (.inr (.inl ⟨rfl, fun q nq f4 => ?_⟩))⟩⟩
      have S' := SF.go (rel_same s') (SF.st.same s')
      have eth' := s' _ _ (hid_up _ _ (rF _ _ eth))
      have qth : q ≠ th := fun z => by
        rw [z, eth'] at nq
        exact nomatch nq
      exact h _ q (S'.new nq) (rF.trans ((rel_same s').trans (rel_new nq))) ((same_upd nq) _ _ eth') qth (.lst f4 (S'.st.at nq rfl) (.cons (.str _) .nil))
    refine ⟨fun σ' H' => ∃ q2 : Addr, σ' = [some (.ref d), some (.ref a), some (.ref p), some (.ref B), some odd, some wrong, some far, some (.int i), some (.str (wordOf wd)), some (.str ot), some (.ref du), some (.ref fa), some (.ref th), none, none, some bad, some (.ref he), none, none, none] ∧
      Bas [(Pt, lamQ)] H H' d a p B m ys b0 b1 b2 b3 (n + 10) ∧ Rel d HD H' ∧ hid d H' th = some (.lst [.ref q1, .ref q2]) ∧ Dz (hid d H') (.ref q1) (everyD b0 b1 od (idxs i 0 m.rows)) ∧ Dz (hid d H') (.ref q2) (.list [.str "machine"]), ?_, ?_⟩
    · refine ⟨_, rfl, .inl ⟨rfl, _, SqL.of (hid_up _ _ eth)⟩, lam15 _ fun H' q2 SF rF eth' qth dz => ?_⟩
      refine ⟨th, _, _, rfl, rfl, eth', (by show 1 < sizeLine; decide), ?_⟩
      have rm := rmE.trans rF
      have rput : Rel d Hm (upd H' th (.lst [.ref q1, .ref q2])) := rel_put rm nth
      have nH : hid d H th = none := hid_back SD.st.rel (hid_back rDm nth)
      refine ⟨q2, rfl, ?_, rDm.trans rput, hid_get upd_same thd rfl, Dz.same rput _ _ dz14, ?_⟩
      · exact ⟨SF.st.put nH thd eth', Kz.same (rDm.trans rput) _ _ SD.hm, (rDm.trans rput) _ _ SD.ep, (rDm.trans rput) _ _ SD.eB⟩
      · cases dz with
        | @lst _ xs _ f e all =>
          cases all with
          | @cons v vs _ _ h1 h2 =>
            cases h1
            cases h2
            obtain ⟨nd, e1, _⟩ := hid_inv e
            exact .lst f (hid_get (by rw [upd_ne qth]; exact e1) nd rfl) (.cons (.str _) .nil)
    rintro σF HF ⟨q2, rfl, SF, rDF, ethF, dz1F, dz2F⟩
    have oddF := oddD.same rDF
    have bitF : ∀ {H' : Hp} {nn : Nat} {j : Nat} {b : Bool} {u13 u14 : Option V}, Bas [(Pt, lamQ)] H H' d a p B m ys b0 b1 b2 b3 nn → [V.bl b0, .bl b1, .bl b2, .bl b3][j]? = some (.bl b) → ∀ (H1 : Hp) (R : VK), Same H' H1 → (∀ H2, Same H1 H2 → R (.bl b) H2) →
        tOp (rIxL K) (tVar 3) (tC (.int (j : Nat))) [some (.ref d), some (.ref a), some (.ref p), some (.ref B), some odd, some wrong, some far, some (.int i), some (.str (wordOf wd)), some (.str ot), some (.ref du), some (.ref fa), some (.ref th), u13, u14, some bad, some (.ref he), none, none, none] H1 R :=
      fun S hj H1 R s1 h => ⟨_, rfl, B, _, _, _, rfl, rfl, SqL.of (s1 _ _ S.BB), atI_nat hj, h _ fun _ _ e => e⟩
    -- some
    refine ⟨fun σ' H' => ∃ so y1 y2 : Addr, σ' = [some (.ref d), some (.ref a), some (.ref p), some (.ref B), some odd, some wrong, some far, some (.int i), some (.str (wordOf wd)), some (.str ot), some (.ref du), some (.ref fa), some (.ref th), some (.ref so), none, some bad, some (.ref he), none, none, none] ∧
      Bas [(Pt, lamQ)] H H' d a p B m ys b0 b1 b2 b3 (n + 10) ∧ Rel d HF H' ∧ hid d H' so = some (.lst ((if b0 = true then [.ref y1] else []) ++ (if b1 = true then [.ref y2] else []))) ∧
      (4 ≤ y1 ∧ hid d H' y1 = some (.lst [.str "machine"])) ∧ (4 ≤ y2 ∧ hid d H' y2 = some (.lst [.str "number", odd])), ?_, ?_⟩
    · refine rd_rep (xs := [.str "machine"]) (b := b0) (by show 1 ≤ sizeLine; decide) (fun R h => h) (bitF (j := 0) SF rfl) (fun Ha r1 y1 sa nr1 nx1 f1 er1 ex1 => ?_)
      have Sa := SF.go (rel_same sa) (SF.st.same sa)
      have dx1 := ne_dice SF.st.dice nx1
      refine rd_rep (xs := [.str "number", odd]) (b := b1) (by show 2 ≤ sizeLine; decide) (fun R h => ⟨_, rfl, h⟩) (bitF (j := 1) Sa rfl) (fun Hb r2 y2 sb nr2 nx2 f2 er2 ex2 => ?_)
      have Sb := Sa.go (rel_same sb) (Sa.st.same sb)
      have dx2 := ne_dice Sa.st.dice nx2
      refine ⟨r1, r2, _, _, rfl, rfl, sb _ _ er1, er2, (by have := (opt_len (b := b0) (v := .ref y1)); have := (opt_len (b := b1) (v := .ref y2)); rw [sizeLine_eq]; omega), fun so nso => ?_⟩
      have sc := same_upd (o := .lst ((if b0 = true then [.ref y1] else []) ++ (if b1 = true then [.ref y2] else []))) nso
      exact ⟨so, y1, y2, rfl, Sb.new nso, rel_same (sa.trans (sb.trans sc)), Sb.st.at nso rfl, ⟨f1, hid_get (sc _ _ (sb _ _ ex1)) dx1 rfl⟩, ⟨f2, hid_get (sc _ _ ex2) dx2 rfl⟩⟩
    rintro σG HG ⟨so, y1, y2, rfl, SG, rFG, eso, ⟨g1, ey1⟩, ⟨g2, ey2⟩⟩
    -- every
    refine ⟨fun σ' H' => ∃ pe : Addr, σ' = [some (.ref d), some (.ref a), some (.ref p), some (.ref B), some odd, some wrong, some far, some (.int i), some (.str (wordOf wd)), some (.str ot), some (.ref du), some (.ref fa), some (.ref th), some (.ref so), some (.ref pe), some bad, some (.ref he), none, none, none] ∧
      Bas [(Pt, lamQ)] H H' d a p B m ys b0 b1 b2 b3 (n + 10) ∧ Rel d HG H' ∧ hid d H' pe = some (.tup ((idxs i 0 m.rows).map V.int)), ?_, ?_⟩
    · obtain ⟨M⟩ := mach_at SG.kz
      have lx : M.xs.length = m.rows.length := by
        have z := kz_len M.all
        rw [List.length_map] at z
        exact z
      refine ⟨_, rfl, a, _, 2, .ref M.t, rfl, rfl, SqT.of M.top, atI_nat (j := 2) rfl, M.t, M.xs, rfl, SqT.of M.row, fun D nD => ?_⟩
      have sD := same_upd (o := .lst []) nD
      refine lc_it (ET.walk_enumT (xs := M.xs)) (fun j H' => Same HG H' ∧ H' D = some (.lst ((idxs i 0 (m.rows.take j)).map V.int))) ⟨sD, upd_same⟩ (fun j H' _ z => SqT.of (z.1 _ _ M.row)) ?_ ?_
      · rintro j v H4 H5' hj ⟨s4, e4⟩ ⟨T0, v1, v2, rfl, nT, rfl, z1, z2⟩
        cases z1
        obtain ⟨r, hr', ra, dv, rfl, er, kd⟩ := row_at M.all z2
        have kT := same_upd (o := .tup [.int (j : Nat), .ref ra]) nT
        have s5 := s4.trans kT
        rw [lx] at hj
        have lt : (m.rows.take j).length = j := by rw [List.length_take]; omega
        have nx : m.rows.take (j + 1) = m.rows.take j ++ [r] := by rw [List.take_succ, hr']; rfl
        refine ⟨T0, _, rfl, SqT.of upd_same, rfl, _, _, rfl, _, _, rfl, rfl, rfl, ?_⟩
        refine ⟨_, rfl, ra, _, 0, .int r.before, rfl, rfl, SqT.of (s5 _ _ er), atI_nat (j := 0) rfl, _, rfl, rfl, _, rfl, ifB (fun hb => ?_) fun hb => ?_⟩
        · have eb : r.before = i := by simpa using hb
          refine ⟨_, rfl, _, kT _ _ e4, ?_, fun b' o' eb' => ?_, ?_⟩
          · have z := idxs_len i (m.rows.take j) 0
            rw [List.length_map, sizeLine_eq]
            omega
          · rw [upd_ne (ne_of_none eb' nD)]
            exact s5 _ _ eb'
          · rw [upd_same, nx, idxs_snoc, if_pos eb, lt, List.map_append, Nat.zero_add]
            rfl
        · have nb : ¬ r.before = i := by simpa using hb
          refine ⟨s5, ?_⟩
          rw [kT _ _ e4, nx, idxs_snoc, if_neg nb, List.append_nil]
      · rintro H4 ⟨s4, e4⟩
        rw [lx, List.take_length] at e4
        refine ⟨D, _, rfl, .inl ⟨SqL.of e4, fun p5 np5 => ?_⟩⟩
        have S4 := SG.go (rel_same s4) (SG.st.same s4)
        exact ⟨p5, rfl, S4.new np5, (rel_same s4).trans (rel_new np5), S4.st.at np5 rfl⟩
    rintro σI HI ⟨pe, rfl, SI, rGI, epe⟩
    have rFI := rFG.trans rGI
    have ethI := rFI _ _ ethF
    have dz1I := Dz.same rFI _ _ dz1F
    have dz2I := Dz.same rFI _ _ dz2F
    have esoI := rGI _ _ eso
    have ey1I := rGI _ _ ey1
    have ey2I := rGI _ _ ey2
    have oddI := oddF.same rFI
    have smE : small (.list [everyD b0 b1 od (idxs i 0 m.rows), .list [.str "machine"]]) = true := by
      cases b0 with
      | true =>
        show small (.list [.list [.str "machine"], .list [.str "machine"]]) = true
        decide +kernel
      | false =>
        cases b1 with
        | true => exact oddI.s2
        | false => exact small_every nsOk nsFew
    -- both told
    refine ⟨fun σ' H' => σ' = [some (.ref d), some (.ref a), some (.ref p), some (.ref B), some odd, some wrong, some far, some (.int i), some (.str (wordOf wd)), some (.str ot), some (.ref du), some (.ref fa), some (.ref th), some (.ref so), some (.ref pe), some bad, some (.ref he), none, none, none] ∧
      Bas [(Pt, lamQ)] H H' d a p B m ys b0 b1 b2 b3 (n + 10) ∧ Rel d HI H', ?_, ?_⟩
    · refine ⟨_, rfl, th, _, rfl, Dz.same hid_up _ _ (.lst fth ethI (.cons dz1I (.cons dz2I .nil))), smE, ?_⟩
      refine ⟨_, rfl, Nat.zero_le _, fun l nl => ⟨so, l, _, rfl, rfl, SqL.of ((same_upd nl) _ _ (hid_up _ _ esoI)), SqL.of upd_same, _, rfl, ?_⟩⟩
      have Sl := SI.new (o := .lst []) nl
      have rl := rel_new (d := d) (o := .lst []) nl
      have el := hid_up _ _ (rl _ _ esoI)
      -- the other list
      have fin : ∀ (H' : Hp) (q : Addr), Bas [(Pt, lamQ)] H H' d a p B m ys b0 b1 b2 b3 (n + 10) → Rel d HI H' → Dz (hid d H') (.ref q) (everyD b0 b1 od (idxs i 0 m.rows)) → ∀ q3 q4 : Addr, H' q3 = none → 4 ≤ q3 → (upd H' q3 (.lst [.str "machine"])) q4 = none → 4 ≤ q4 →
          Bas [(Pt, lamQ)] H (upd (upd H' q3 (.lst [.str "machine"])) q4 (.lst [.ref q, .ref q3])) d a p B m ys b0 b1 b2 b3 (n + 10) ∧ Rel d HI (upd (upd H' q3 (.lst [.str "machine"])) q4 (.lst [.ref q, .ref q3])) ∧
          Dz (upd (upd H' q3 (.lst [.str "machine"])) q4 (.lst [.ref q, .ref q3])) (.ref q4) (.list [everyD b0 b1 od (idxs i 0 m.rows), .list [.str "machine"]]) := by
        intro H' q S' r' dz q3 q4 n3 f3 n4 f4
        have S3 := S'.new (o := .lst [.str "machine"]) n3
        have e3 := S'.st.at (o := .lst [.str "machine"]) n3 rfl
        have r3 := rel_new (d := d) (o := .lst [.str "machine"]) n3
        have r4 := rel_new (d := d) (o := .lst [.ref q, .ref q3]) n4
        exact ⟨S3.new n4, r'.trans (r3.trans r4), .lst f4 upd_same (.cons (Dz.same hid_up _ _ (Dz.same (r3.trans r4) _ _ dz)) (.cons (Dz.same hid_up _ _ (.lst f3 (r4 _ _ e3) (.cons (.str _) .nil))) .nil))⟩
      cases b0 with
      | true =>
        refine ifT rfl ⟨_, rfl, so, _, 0, .ref y1, rfl, rfl, SqL.of el, atI_nat (j := 0) rfl, (by show 1 ≤ sizeLine; decide), fun q3 n3 f3 => ⟨(by show 2 ≤ sizeLine; decide), fun q4 n4 f4 => ?_⟩⟩
        have z := fin _ y1 Sl rl (.lst g1 (rl _ _ ey1I) (.cons (.str _) .nil)) q3 q4 n3 f3 n4 f4
        refine ⟨q4, _, rfl, z.2.2, smE, rfl, _, rfl, ifF ?_ ⟨rfl, z.1, z.2.1⟩⟩
        rw [decide_eq_true rfl]
        rfl
      | false =>
        cases b1 with
        | true =>
          refine ifT rfl ⟨_, rfl, so, _, 0, .ref y2, rfl, rfl, SqL.of el, atI_nat (j := 0) rfl, (by show 1 ≤ sizeLine; decide), fun q3 n3 f3 => ⟨(by show 2 ≤ sizeLine; decide), fun q4 n4 f4 => ?_⟩⟩
          have z := fin _ y2 Sl rl (.lst g2 (rl _ _ ey2I) (.cons (.str _) (.cons (oddI.same rl).dz .nil))) q3 q4 n3 f3 n4 f4
          refine ⟨q4, _, rfl, z.2.2, smE, rfl, _, rfl, ifF ?_ ⟨rfl, z.1, z.2.1⟩⟩
          rw [decide_eq_true rfl]
          rfl
        | false =>
          refine ifF rfl ⟨_, rfl, (by show 2 ≤ sizeLine; decide), fun qa na fa4 => ⟨(by show 1 ≤ sizeLine; decide), fun q3 n3 f3 => ⟨(by show 2 ≤ sizeLine; decide), fun q4 n4 f4 => ?_⟩⟩⟩
          have Sq := Sl.new (o := .lst [.str "returned", .ref pe]) na
          have rq := rel_new (d := d) (o := .lst [.str "returned", .ref pe]) na
          have z := fin _ qa Sq (rl.trans rq) (.lst fa4 (Sl.st.at na rfl) (.cons (.str _) (.cons (.tup ((rl.trans rq) _ _ epe) (dz_ints _)) .nil))) q3 q4 n3 f3 n4 f4
          refine ⟨q4, _, rfl, z.2.2, smE, rfl, _, rfl, ifF ?_ ⟨rfl, z.1, z.2.1⟩⟩
          rw [decide_eq_true rfl]
          rfl
    rintro σJ HJ ⟨rfl, SJ, rIJ⟩
    have badJ := badD.same (rDF.trans (rFI.trans rIJ))
    have farJ := farD.same (rDF.trans (rFI.trans rIJ))
    refine ⟨_, rfl, bad, rfl, .inl ⟨badJ.same hid_up, false, false, rfl, rfl, _, rfl, ifT (decide_eq_true rfl) ?_⟩⟩
    refine ⟨_, rfl, far, rfl, .inl ⟨farJ.bad.same hid_up, false, false, rfl, rfl, ?_⟩⟩
    rw [decide_eq_true rfl]
    exact q _ SJ.st
end
end K02
namespace K02
open PySem PySem.Spec PyProof.Rows L2 WD NS MC GL
open C8 (pss_cut tCut)
open LamX (Tabs TabS CodeO ExtN TabB)
abbrev sLaw : Stmt := topS 39
abbrev nLw : List Str := ["_law_script", "_law_at", "_law_dice_here", "_law_names", "_law_size", "_law_turn", "_law_rows", "_law_machine", "_law_held", "_law_found", "_law_name"]
theorem scLaw : FnScope nLw ["_law_script"] (defScope sLaw) := ⟨rfl, rfl, rfl, by decide +kernel, rfl, by decide +kernel, by decide +kernel⟩
def spLaw (K : PySem.W.Frag) (T : List (Addr × Str)) : Sp := fun vs H Q _ => ∃ (a : Addr) (ns : List Int), vs = [.ref a] ∧ SqL K H a (ns.map V.int) ∧ ns.length ≤ 63 ∧ Tabs T H ∧ ∀ H', Q (.bl true) H'
theorem tabs_ds {T : List (Addr × Str)} {d : Addr} {H H' : Hp} {n : Nat} (D : Dice H d n) (s : DS d H H') (t : Tabs T H) : Tabs T H' := fun p hp => by
  obtain ⟨g, y, i, e, r⟩ := D
  obtain ⟨ps, h1, h2, h3⟩ := t p hp
  refine ⟨ps, s _ _ (fun z => by rw [z, e] at h1; cases h1) h1, h2, fun pos cv hc => ?_⟩
  obtain ⟨c, e1, e2⟩ := h3 pos cv hc
  exact ⟨c, e1, s _ _ (fun z => by rw [z, e] at e2; cases e2) e2⟩
theorem St0.ds {T : List (Addr × Str)} {H0 H H' : Hp} {d : Addr} {n n' : Nat} (S : St0 T H0 H d n) (s : DS d H H') (D : Dice H' d n') : St0 T H0 H' d n' := ⟨S.rel.trans (rel_ds s), D, tabs_ds S.dice s S.tabs⟩
theorem St0.mono {T : List (Addr × Str)} {H0 H : Hp} {d : Addr} {n n' : Nat} (S : St0 T H0 H d n) (h : n ≤ n') : St0 T H0 H d n' := ⟨S.rel, S.dice.mono h, S.tabs⟩
theorem sql_hid {K : PySem.W.Frag} {d a : Addr} {H0 H : Hp} {xs : List V} (nd : H0 d = none) (s : Same H0 H) (h : SqL K H0 a xs) : SqL K (hid d H) a xs := by
  have ne : ∀ {o : HO}, H0 a = some o → a ≠ d := fun e z => by
    rw [z, nd] at e
    cases e
  rcases h with (h | ⟨ob, h⟩) | h
  · exact Or.inl (Or.inl (hid_get (s _ _ h) (ne h) rfl))
  · exact Or.inl (Or.inr ⟨ob, hid_get (s _ _ h) (ne h) rfl⟩)
  · exact Or.inr h
theorem cut_strs {zs : List Str} {lo hi : Option Int} : ∃ ys : List Str, cutV (zs.map V.str) lo hi = ys.map V.str ∧ (∀ x ∈ ys, x ∈ zs) ∧ ys.length ≤ zs.length := by
  refine ⟨(zs.drop (HT.sIx (zs.map V.str).length 0 lo)).take (HT.sIx (zs.map V.str).length (zs.map V.str).length hi - HT.sIx (zs.map V.str).length 0 lo), ?_, fun x hx => List.mem_of_mem_drop (List.mem_of_mem_take hx), ?_⟩
  · rw [List.map_take, List.map_drop]
    rfl
  · rw [List.length_take, List.length_drop]
    omega
/-- the written machine -/
def mB : MachM := ⟨2, [], [⟨0, .ex true "b" "x", 0⟩, ⟨0, .ex true "b" "x", 1⟩, ⟨0, .step, 1⟩, ⟨1, .ex false "b" "x", 0⟩]⟩
theorem wd_b : Wd "b" := ⟨by show ∀ c ∈ ("b" : Str).cps.toList, 97 ≤ c ∧ c ≤ 122; decide +kernel, by decide +kernel, by decide +kernel⟩
theorem wd_x : Wd "x" := ⟨by show ∀ c ∈ ("x" : Str).cps.toList, 97 ≤ c ∧ c ≤ 122; decide +kernel, by decide +kernel, by decide +kernel⟩
theorem mB_ok : mB.Ok := by
  refine ⟨by decide, by decide, fun k h => absurd h List.not_mem_nil, .nil, by decide, fun r hr => ?_, ?_, by decide⟩
  · have z : r = ⟨0, .ex true "b" "x", 0⟩ ∨ r = ⟨0, .ex true "b" "x", 1⟩ ∨ r = ⟨0, .step, 1⟩ ∨ r = ⟨1, .ex false "b" "x", 0⟩ := by simpa [mB] using hr
    rcases z with rfl | rfl | rfl | rfl
    · exact ⟨by decide, by decide, ⟨wd_b, wd_x⟩, by decide, by decide⟩
    · exact ⟨by decide, by decide, ⟨wd_b, wd_x⟩, by decide, by decide⟩
    · exact ⟨by decide, by decide, True.intro, by decide, by decide⟩
    · exact ⟨by decide, by decide, ⟨wd_b, wd_x⟩, by decide, by decide⟩
  · show mB.rows.Pairwise fun r s => PySem.W.dataLt r.key.data s.key.data = true
    decide +kernel
def mN : MachM := ⟨1, [], []⟩
theorem mN_ok : mN.Ok := ⟨by decide, by decide, fun k h => absurd h List.not_mem_nil, .nil, by decide, fun k h => absurd h List.not_mem_nil, .nil, by decide⟩
theorem toldB : ToldOf mB 0 true "b" ["x"] := ⟨fun x => by simp [mB]; exact ⟨Eq.symm, Eq.symm⟩, List.pairwise_singleton _ _, by simp⟩
theorem toldB2 : ToldOf mB 0 false "b" [] := ⟨fun x => by simp [mB], .nil, .nil⟩
theorem nearB : NearOf mB ["b"] := by
  refine ⟨fun x => ?_, List.pairwise_singleton _ _, by simp⟩
  rw [List.mem_singleton]
  constructor
  · rintro rfl
    exact ⟨⟨0, .ex true "b" "x", 0⟩, by simp [mB], true, "x", rfl⟩
  · rintro ⟨r, hr, b, l, e⟩
    have z : r = ⟨0, .ex true "b" "x", 0⟩ ∨ r = ⟨0, .ex true "b" "x", 1⟩ ∨ r = ⟨0, .step, 1⟩ ∨ r = ⟨1, .ex false "b" "x", 0⟩ := by simpa [mB] using hr
    rcases z with rfl | rfl | rfl | rfl
    · cases e; rfl
    · cases e; rfl
    · cases e
    · cases e; rfl
theorem nearN : NearOf mN [] := ⟨fun x => by simp [mN], .nil, .nil⟩
structure TxtLw (K : PySem.W.Frag) (mg : Str → Option Value) (fD fW fP fE fI : Addr) (dD dW dP dE dI : FuncData) : Prop where
  dice : Df K mg "_law_dice" sDice ["_law_script", "_law_at"] fD dD
  words : Df K mg "_law_words" sWords ["_law_dice_here", "_law_total"] fW dW
  made : Df K mg "_law_made" sMade nMd fP dP
  row : Df K mg "_law_row" sRowL ["_law_dice_here", "_law_size", "_law_others"] fE dE
  right : Df K mg "_law_right" sRight ["_law_dice_here", "_law_machine"] fI dI
  max : mg "max" = none
  min : mg "min" = none
section
variable {P : Program} {w : World} {K : PySem.W.Frag} {mg : Str → Option Value} {base : Heap} {f1 f2 f3 f4 f5 f6 cM cN cU cO fR fO fM fD fW fP fE fI fJ Pt : Addr} {d1 d2 d3 d4 d5 d6 dR dO dM dD dW dP dE dI dJ : FuncData} {k : Nat}
theorem ok_Law {f : Addr} {fd : FuncData} (F : Fun K "law" "law" sLaw f fd) (T : TxtRt K mg f1 f2 f3 f4 f5 f6 d1 d2 d3 d4 d5 d6) (W : TxtRf K mg fR fO fM cN cU cM cO dR dO dM) (L : TxtLw K mg fD fW fP fE fI dD dW dP dE dI) (J : Df K mg "_law_refused" sRef ["_law_dice_here", "_law_machine"] fJ dJ)
    (TD : TxtD mg) (TS : TxtS mg) (hk : 3 ≤ k) (G2 : FnOk P w K mg base (L2.CX P w) k f2 d2 ["machine"] (spNbOf K cM)) (G4 : FnOk P w K mg base (L2.CX P w) k f4 d4 psTr (spTrans K (BadM K) cM cN)) (G5 : FnOk P w K mg base (L2.CX P w) k f5 d5 psLe (spLet K (BadM K) cM cN cU cO))
    (GI : FnOk P w K mg base CX0 (k + 1) fI dI ["_law_dice_here", "_law_machine"] (spRight K)) (GJ : FnG P w K mg base CX0 (k + 3) fJ dJ ["_law_dice_here", "_law_machine"] (spRef K [(Pt, lamQ)])) :
    FnG P w K mg base CX0 (k + 4) f fd ["_law_script"] (spLaw K [(Pt, lamQ)]) := by
  have GR : FnOk P w K mg base CX0 1 fR dR ["_law_dice_here", "_law_total"] spRoll := ok_roll W.R.R
  have GD : FnOk P w K mg base CX0 1 fD dD ["_law_script", "_law_at"] (spDice K) := ok_dice L.dice.F TD
  have GW : FnOk P w K mg base CX0 2 fW dW ["_law_dice_here", "_law_total"] spWords := ok_Words L.words.F ⟨W.R.R, W.R.bR, W.R.gR, T.range⟩
  have GP : FnOk P w K mg base CX0 1 fP dP nMd (spMade K) := ok_Made L.made.F TS
  have GE : FnOk P w K mg base CX0 3 fE dE ["_law_dice_here", "_law_size", "_law_others"] (spRowL K) := ok_RowL L.row.F W.R TD
  refine fnG_ok F scLaw (fun vs H Q E h => ?_) (fun cdv A outer s H vs Q E hgd hr h => ?_)
  · obtain ⟨a, ns, rfl, _⟩ := h
    rfl
  · obtain ⟨a, ns, rfl, hS, hlen, tabs, q⟩ := h
    have hu := hr.units
    have hrk : Room k _ := hr.mono (by omega)
    have hrk1 : Room (k + 1) _ := hr.mono (by omega)
    have hr1 : Room 1 _ := hrk.mono (by omega)
    have hr2 : Room 2 _ := hrk.mono (by omega)
    have hr3 : Room 3 _ := hrk.mono (by omega)
    refine ⟨_, pss_cut (ps_for PassesOwn.never rfl (pi_range1 rfl T.range (pa_cons (pe_callB (call_max2 rfl) (by rfl) L.max (by decide +kernel) (pa_cons pe_int (pa_cons (pe_callB (call_min2 rfl) (by rfl) L.min (by decide +kernel) (pa_cons pe_int (pa_cons (pe_callB call_len_seq (by rfl) TD.len PySem.boot_len (pa_cons (pv 0) pa_nil)) pa_nil))) pa_nil))) pa_nil)) (pg_name (i := 1) scLaw.nd rfl (.inl rfl))
        (pss_cut (ps_set (i := 2) scLaw.nd rfl (.inr rfl) (pe_call GD hr1 (by rfl) L.dice.g L.dice.F.kp L.dice.b .nil pass0 (pa_cons (pv 0) (pa_cons (pv 1) pa_nil))))
        (pss_cut (ps_asg (pe_tup (pa_cons (pe_call GW hr2 (by rfl) L.words.g L.words.F.kp L.words.b .nil pass0 (pa_cons (pv 2) (pa_cons pe_int pa_nil))) (pa_cons (pe_op op_add pe_int (pe_call GR hr1 (by rfl) W.R.gR W.R.R.kp W.R.bR .nil pass0 (pa_cons (pv 2) (pa_cons pe_int pa_nil)))) pa_nil)))
            (pg_tup rfl (pgs_cons (pg_name (i := 3) scLaw.nd rfl (.inr rfl)) (pgs_cons (pg_name (i := 4) scLaw.nd rfl (.inr rfl)) pgs_nil))))
        (pss_cut (ps_set (i := 3) scLaw.nd rfl (.inr rfl) (pe_slice sl_list (pe_lc (own := [("_law_name", 10)]) (g := gName 10) (tt := tTest (tOp rNe (tVar 10) (tC (.str "nobody")))) (te := tVar 10) rfl scLaw.nd (pi_list (pv 3)) (blkOk_by (own := [("_law_name", 10)]) (N := nLw) (sc := defScope sLaw) (by decide +kernel))
            (fun _ _ _ _ _ => pg_name (i := 10) scLaw.nd rfl (.inl rfl)) (fun _ _ _ _ _ => pts_one (pt_cmpR op_ne (pv 10) pe_str (nomark _))) (fun _ _ _ _ _ => pv 10)) po_none (po_some (pe_call GR hr1 (by rfl) W.R.gR W.R.R.kp W.R.bR .nil pass0 (pa_cons (pv 2) (pa_cons pe_int pa_nil))))))
        (pss_cut (ps_setLc (i := 6) (own := [("_law_turn", 5)]) (g := gName 5) (tt := tYes) (te := tCall (spRowL K) [] C8.E0 (tCons (tVar 2) (tCons (tVar 4) (tCons (tVar 3) tNil)))) rfl scLaw.nd rfl rfl (sw_true rfl rfl rfl (by decide +kernel)) (pi_range1 rfl T.range (pa_cons (pe_call GR hr1 (by rfl) W.R.gR W.R.R.kp W.R.bR .nil pass0 (pa_cons (pv 2) (pa_cons pe_int pa_nil))) pa_nil)) (blkOk_by (own := [("_law_turn", 5)]) (N := nLw) (sc := defScope sLaw) (by decide +kernel))
            (fun _ _ _ _ _ => pg_name (i := 5) scLaw.nd rfl (.inl rfl)) (fun _ _ _ _ _ => pts_nil) (fun _ _ _ _ _ => pe_call GE hr3 (by rfl) L.row.g L.row.F.kp L.row.b .nil pass0 (pa_cons (pv 2) (pa_cons (pv 4) (pa_cons (pv 3) pa_nil)))))
        (pss_cut (ps_set (i := 7) scLaw.nd rfl (.inl rfl) (pe_call GP hr1 (by rfl) L.made.g L.made.F.kp L.made.b .nil pass0 (pa_cons (pv 4) (pa_cons (pe_lst (pa_cons (pe_call GR hr1 (by rfl) W.R.gR W.R.R.kp W.R.bR .nil pass0 (pa_cons (pv 2) (pa_cons (pv 4) pa_nil))) pa_nil)) (pa_cons (pv 6) pa_nil)))))
        (pss_one (ps_for PassesOwn.never rfl (pi_range1 rfl T.range (pa_cons pe_int pa_nil)) (pg_name (i := 5) scLaw.nd rfl (.inl rfl))
          (pss_one (ps_if (PW.pt (pw_or (pt_not (pt_val (pe_call GI hrk1 (by rfl) L.right.g L.right.F.kp L.right.b .nil pass0 (pa_cons (pv 2) (pa_cons (pv 7) pa_nil))))) (pw_or1 (pt_not (pt_val (pe_callG GJ hgd hr (by rfl) J.g J.F.kp J.b .nil pass0 (pa_cons (pv 2) (pa_cons (pv 7) pa_nil)))))))) (pss_one (ps_ret pe_bl)) pss_nil))))))))))
      (pss_cut (ps_set (i := 6) scLaw.nd rfl (.inl rfl) (pe_tup (pa_cons (pe_tup (pa_cons pe_int (pa_cons (pe_tup (pa_cons pe_str (pa_cons pe_str (pa_cons pe_str pa_nil)))) (pa_cons pe_int pa_nil))))
          (pa_cons (pe_tup (pa_cons pe_int (pa_cons (pe_tup (pa_cons pe_str (pa_cons pe_str (pa_cons pe_str pa_nil)))) (pa_cons pe_int pa_nil))))
          (pa_cons (pe_tup (pa_cons pe_int (pa_cons (pe_tup (pa_cons pe_str pa_nil)) (pa_cons pe_int pa_nil))))
          (pa_cons (pe_tup (pa_cons pe_int (pa_cons (pe_tup (pa_cons pe_str (pa_cons pe_str (pa_cons pe_str pa_nil)))) (pa_cons pe_int pa_nil)))) pa_nil))))))
      (pss_cut (ps_set (i := 8) scLaw.nd rfl (.inl rfl) (pe_tup (pa_cons pe_int (pa_cons (pe_tup pa_nil) (pa_cons (pv 6) pa_nil)))))
      (pss_cut (ps_set (i := 9) scLaw.nd rfl (.inl rfl) (pe_lst (pa_cons (pe_call G5 hrk (by rfl) T.letr.g T.letr.F.kp T.letr.b .nil (passE0 rfl rfl) (pa_cons (pv 8) (pa_cons pe_int (pa_cons pe_str (pa_cons pe_str pa_nil)))))
          (pa_cons (pe_call G5 hrk (by rfl) T.letr.g T.letr.F.kp T.letr.b .nil (passE0 rfl rfl) (pa_cons (pv 8) (pa_cons pe_int (pa_cons pe_str (pa_cons pe_str pa_nil)))))
          (pa_cons (pe_call G4 hrk (by rfl) T.trans.g T.trans.F.kp T.trans.b .nil (passE0 rfl rfl) (pa_cons (pv 8) (pa_cons pe_int pa_nil))) pa_nil)))))
      (pss_one (ps_ret (pe_and (pe_cmpR (show OpR _ (compareOp .Eq) (rEqD K) from op_eqD hu) (pv 9) (pe_lst (pa_cons (pe_tup (pa_cons pe_str pa_nil)) (pa_cons (pe_tup pa_nil) (pa_cons (pe_tup (pa_cons pe_int (pa_cons pe_int (pa_cons pe_int pa_nil)))) pa_nil)))) (nomark _))
          (pe_and (pe_cmpR (show OpR _ (compareOp .Eq) (rEqD K) from op_eqD hu) (pe_call G2 hrk (by rfl) T.nbof.g T.nbof.F.kp T.nbof.b .nil (passE0 rfl rfl) (pa_cons (pv 8) pa_nil)) (pe_tup (pa_cons pe_str pa_nil)) (nomark _))
          (pe_one (pe_cmpR (show OpR _ (compareOp .Eq) (rEqD K) from op_eqD hu) (pe_call G2 hrk (by rfl) T.nbof.g T.nbof.F.kp T.nbof.b .nil (passE0 rfl rfl) (pa_cons (pe_tup (pa_cons pe_int (pa_cons (pe_tup pa_nil) (pa_cons (pe_tup pa_nil) pa_nil)))) pa_nil)) (pe_tup pa_nil) (nomark _)))))))))), ?_⟩
    have hlt : (ns.map V.int).length ≤ 63 := by rw [List.length_map]; exact hlen
    -- the drawn ones
    refine ⟨fun σ' H' => ∃ u1 u2 u3 u4 u5 u6 u7 : Option V, σ' = [some (.ref a), u1, u2, u3, u4, u5, u6, u7, none, none, none], ?_, ?_⟩
    · refine ⟨_, rfl, a, _, rfl, .inl hS, _, _, rfl, _, _, rfl, ?_⟩
      obtain ⟨n, hn, hn6⟩ : ∃ n : Nat, (let m : Int := (if ((ns.map V.int).length : Int) < 6 then ((ns.map V.int).length : Int) else 6); if m > 1 then m else 1) = (n : Int) ∧ n ≤ 6 := by
        dsimp only
        by_cases c : ((ns.map V.int).length : Int) < 6
        · rw [if_pos c]
          by_cases c2 : ((ns.map V.int).length : Int) > 1
          · rw [if_pos c2]; exact ⟨_, rfl, by omega⟩
          · rw [if_neg c2]; exact ⟨1, rfl, by omega⟩
        · rw [if_neg c]; exact ⟨6, rfl, by omega⟩
      refine ⟨(n : Int), congrArg (fun z => [V.int z]) hn, by omega, by omega, ?_⟩
      rw [Int.toNat_natCast]
      refine for_range (lo := 0) (n := n) (fun i σ' H' => (∃ u1 u2 u3 u4 u5 u6 u7 : Option V, σ' = [some (.ref a), u1, u2, u3, u4, u5, u6, u7, none, none, none]) ∧ Tabs [(Pt, lamQ)] H' ∧ SqL K H' a (ns.map V.int)) ⟨⟨none, none, none, none, none, none, none, rfl⟩, tabs, hS⟩ ?_ (fun _ _ z => z.1)
      rintro i σ0 H0 hi ⟨⟨u1, u2, u3, u4, u5, u6, u7, rfl⟩, T0, S0⟩
      rw [Int.zero_add]
      -- dice
      refine ⟨fun σ' H' => ∃ d : Addr, σ' = [some (.ref a), some (.int i), some (.ref d), u3, u4, u5, u6, u7, none, none, none] ∧ Dice H' d 0 ∧ Tabs [(Pt, lamQ)] H' ∧ SqL K (hid d H') a (ns.map V.int), ?_, ?_⟩
      · exact ⟨_, rfl, _, rfl, a, ns, i, rfl, S0, hlen, by omega, fun H1 d s1 hd D => ⟨d, rfl, D, T0.ext s1, sql_hid hd s1 S0⟩⟩
      rintro σ1 H1 ⟨d, rfl, D1, T1, hS1⟩
      have St1 : St0 [(Pt, lamQ)] H1 H1 d 0 := ⟨Rel.refl, D1, T1⟩
      -- names, size
      refine ⟨fun σ' H' => ∃ (p : Addr) (ws : List Str) (size : Nat), σ' = [some (.ref a), some (.int i), some (.ref d), some (.ref p), some (.int size), u5, u6, u7, none, none, none] ∧ St0 [(Pt, lamQ)] H1 H' d 37 ∧ H' p = some (.lst (ws.map V.str)) ∧ p ≠ d ∧ 0 < size ∧ size ≤ 5 ∧ ws.length = 3 ∧ ∀ x ∈ ws, Wd x, ?_, ?_⟩
      · refine ⟨_, rfl, d, 3, 0, rfl, D1, by decide, by decide, fun H2 p ws ds np D2 ep l3 wws => ?_⟩
        have St2 := St1.ds ds D2
        have pd := ne_dice D1 np
        refine ⟨_, rfl, d, 5, 36, rfl, D2, by decide, by decide, by decide, fun r o r0 r1 D3 => ?_⟩
        have St3 := St2.roll D3
        refine ⟨_, _, rfl, rfl, (by show 2 ≤ sizeLine; decide), fun t nt => ?_⟩
        obtain ⟨size, hs⟩ : ∃ size : Nat, 1 + r = (size : Int) := ⟨(1 + r).toNat, by omega⟩
        refine ⟨t, _, rfl, SqT.of upd_same, rfl, _, _, rfl, _, _, rfl, rfl, p, ws, size, ?_, St3.new nt, ?_, pd, by omega, by omega, l3, wws⟩
        · rw [← hs]
          rfl
        · refine (same_upd nt) _ _ ?_
          rw [upd_ne pd]
          exact ep
      rintro σ2 H2 ⟨p, ws, size, rfl, St2, ep, pd, z0, z5, l3, wws⟩
      -- fewer names
      refine ⟨fun σ' H' => ∃ (p2 : Addr) (ys : List Str), σ' = [some (.ref a), some (.int i), some (.ref d), some (.ref p2), some (.int size), u5, u6, u7, none, none, none] ∧ St0 [(Pt, lamQ)] H1 H' d 38 ∧ H' p2 = some (.lst (ys.map V.str)) ∧ p2 ≠ d ∧ ys.length ≤ 3 ∧ ∀ x ∈ ys, Wd x, ?_, ?_⟩
      · refine ⟨_, rfl, p, rfl, ⟨_, SqL.of ep⟩, fun D nD => ?_⟩
        have sD := same_upd (o := .lst []) nD
        refine lc_list (xs := ws.map V.str) (fun j H' => Same H2 H' ∧ ∃ zs : List Str, H' D = some (.lst (zs.map V.str)) ∧ (∀ x ∈ zs, x ∈ ws) ∧ zs.length ≤ j) ⟨sD, [], upd_same, fun _ z => (nomatch z), Nat.le_refl _⟩ (fun j H' _ z => SqL.of (z.1 _ _ ep)) ?_ ?_
        · rintro j v H3 hv ⟨s3, zs, e3, sub, lz⟩
          obtain ⟨y, hy, rfl⟩ : ∃ y, y ∈ ws ∧ v = .str y := by
            obtain ⟨y, hy, e⟩ := List.mem_map.mp (List.mem_of_getElem? hv)
            exact ⟨y, hy, e.symm⟩
          have jl : j < ws.length := by
            have z := (List.getElem?_eq_some_iff.mp hv).1
            rw [List.length_map] at z
            exact z
          refine ⟨rfl, _, rfl, rfl, _, rfl, ifB (fun _ => ?_) fun _ => ⟨s3, zs, e3, sub, by omega⟩⟩
          refine ⟨_, rfl, _, e3, ?_, fun b' o' eb' => ?_, zs ++ [y], ?_, fun x hx => ?_, ?_⟩
          · rw [List.length_map]
            exact small1000 (by omega)
          · rw [upd_ne (ne_of_none eb' nD)]
            exact s3 _ _ eb'
          · rw [upd_same, List.map_append]
            rfl
          · rcases List.mem_append.mp hx with z | z
            · exact sub x z
            · rw [List.mem_singleton.mp z]; exact hy
          · rw [List.length_append]
            show zs.length + 1 ≤ j + 1
            omega
        · rintro H3 ⟨s3, zs, e3, sub, lz⟩
          have St3 := St2.same s3
          have Dd := ne_dice St2.dice nD
          rw [List.length_map, l3] at lz
          refine ⟨_, rfl, d, 4, 37, rfl, St3.dice, by decide, by decide, by decide, fun r o r0 r1 D4 => ?_⟩
          have St4 := St3.roll D4
          have e4 : upd H3 d o D = some (.lst (zs.map V.str)) := by rw [upd_ne Dd]; exact e3
          obtain ⟨ys, ey, sy, ly⟩ := cut_strs (zs := zs) (lo := none) (hi := some r)
          refine ⟨_, rfl, D, _, rfl, SqL.of e4, fun p2 np2 => ?_⟩
          rw [ey]
          exact ⟨p2, ys, rfl, St4.new np2, upd_same, ne_dice St4.dice np2, by omega, fun x hx => wws x (sub x (sy x hx))⟩
      rintro σ3 H3 ⟨p2, ys, rfl, St3, ep2, p2d, ly, wys⟩
      -- rows
      refine ⟨fun σ' H' => ∃ (lr : Addr) (L : List NS.Row), σ' = [some (.ref a), some (.int i), some (.ref d), some (.ref p2), some (.int size), u5, some (.ref lr), u7, none, none, none] ∧ St0 [(Pt, lamQ)] H1 H' d 100 ∧ lr ≠ d ∧ H' lr = some (.lst (L.map fun p => V.ref p.1)) ∧ L.length < 64 ∧ ∀ p ∈ L, Kz H' (.ref p.1) p.2 ∧ ∃ r : RowM, r.Ok size ∧ p.2 = r.key, ?_, ?_⟩
      · refine ⟨_, rfl, d, 10, 38, rfl, St3.dice, by decide, by decide, by decide, fun r o r0 r1 D4 => ?_⟩
        have St4 := St3.roll D4
        obtain ⟨kk, rfl⟩ : ∃ kk : Nat, r = kk := ⟨r.toNat, by omega⟩
        refine ⟨(kk : Int), rfl, by omega, by omega, ?_⟩
        rw [Int.toNat_natCast]
        intro D nD
        have Dd := ne_dice St4.dice nD
        have p2D : p2 ≠ D := fun z => by
          have y : upd H3 d o p2 = some (.lst (ys.map V.str)) := by rw [upd_ne p2d]; exact ep2
          rw [z, nD] at y
          cases y
        have ep4 : upd H3 d o p2 = some (.lst (ys.map V.str)) := by rw [upd_ne p2d]; exact ep2
        refine lc_range (lo := 0) (n := kk) (fun j H' => St0 [(Pt, lamQ)] (upd H3 d o) H' d (39 + 3 * j) ∧ ∃ L : List NS.Row, L.length = j ∧ H' D = some (.lst (L.map fun p => V.ref p.1)) ∧ ∀ p ∈ L, Kz H' (.ref p.1) p.2 ∧ ∃ r : RowM, r.Ok size ∧ p.2 = r.key)
          ⟨(⟨Rel.refl, St4.dice, St4.tabs⟩ : St0 [(Pt, lamQ)] (upd H3 d o) (upd H3 d o) d 39).new nD, [], rfl, upd_same, fun _ z => (nomatch z)⟩ (fun j H' hj z => ?_) (fun H6 z => ?_)
        · obtain ⟨S, L, lL, eL, hL⟩ := z
          have e2' : H' p2 = some (.lst (ys.map V.str)) := hid_up _ _ (S.rel _ _ (hid_get ep4 p2d rfl))
          refine ⟨rfl, tYes_ite ⟨_, rfl, _, rfl, _, rfl, d, p2, size, 39 + 3 * j, ys, rfl, S.dice, by omega, z0, by omega, p2d, SqL.of e2', by omega, wys, fun H5 pr r5 ds npr tps D5 okr kzr => ?_⟩⟩
          have S5 := S.ds ds D5
          have eL5 := ds _ _ Dd eL
          refine ⟨_, eL5, ?_, S5.put (hid_none nD) Dd eL5, L ++ [(pr, r5.key)], ?_, ?_, fun q hq => ?_⟩
          · rw [List.length_map]
            exact small1000 (by omega)
          · rw [List.length_append, lL]
            rfl
          · rw [upd_same, List.map_append]
            rfl
          · rcases List.mem_append.mp hq with z | z
            · exact ⟨kz_tups (tps.trans (tups_list eL5)) _ _ (hL q z).1, (hL q z).2⟩
            · rw [List.mem_singleton.mp z]
              exact ⟨kz_tups (tups_list eL5) _ _ kzr, r5, okr, rfl⟩
        · obtain ⟨S, L, lL, eL, hL⟩ := z
          exact ⟨D, L, rfl, ⟨St4.rel.trans S.rel, S.dice.mono (by omega), S.tabs⟩, Dd, eL, by omega, hL⟩
      rintro σ4 H4 ⟨lr, L, rfl, St4, lrd, elr, lL, hL⟩
      -- machine
      refine ⟨fun σ' H' => ∃ (pm : Addr) (m : MachM), σ' = [some (.ref a), some (.int i), some (.ref d), some (.ref p2), some (.int size), u5, some (.ref lr), some (.ref pm), none, none, none] ∧ St0 [(Pt, lamQ)] H1 H' d 101 ∧ Kz (hid d H') (.ref pm) m.key ∧ m.Ok, ?_, ?_⟩
      · refine ⟨_, rfl, _, rfl, _, rfl, d, size, 100, rfl, St4.dice, by decide, by omega, by omega, fun r o r0 r1 D5 => ?_⟩
        have St5 := St4.roll D5
        refine ⟨(by show 1 ≤ sizeLine; decide), fun lf nlf => ?_⟩
        have St6 := St5.new (o := .lst [.int r]) nlf
        have tp := (tups_dice (o := o) St4.dice).trans (tups_same (same_upd (o := .lst [.int r]) nlf))
        have elr' : upd (upd H4 d o) lf (.lst [.int r]) lr = some (.lst (L.map fun p => V.ref p.1)) := (same_upd nlf) _ _ (by rw [upd_ne lrd]; exact elr)
        refine ⟨_, rfl, lf, lr, size, [r], L, rfl, z0, by omega, SqL.of upd_same, (by show 1 < 64; decide), fun k hk => ?_, SqL.of elr', lL, fun q hq => ⟨kz_tups tp _ _ (hL q hq).1, (hL q hq).2⟩, fun H' pm m s' npm em okm km => ?_⟩
        · rw [List.mem_singleton.mp hk]
          exact ⟨r0, r1⟩
        · have St7 := St6.same s'
          exact ⟨pm, m, rfl, St7, kz_hid St7.dice _ _ km, okm⟩
      rintro σ5 H5 ⟨pm, m, rfl, St5, km, okm⟩
      -- four times
      refine ⟨4, rfl, by decide, by decide, ?_⟩
      refine for_range (lo := 0) (n := 4) (fun j σ' H' => (∃ u5 : Option V, σ' = [some (.ref a), some (.int i), some (.ref d), some (.ref p2), some (.int size), u5, some (.ref lr), some (.ref pm), none, none, none]) ∧ St0 [(Pt, lamQ)] H1 H' d (101 + 10 * j) ∧ Kz (hid d H') (.ref pm) m.key) ⟨⟨u5, rfl⟩, St5, km⟩ ?_ ?_
      · rintro j σ6 H6 hj ⟨⟨v5, rfl⟩, St6, km6⟩
        refine ⟨_, rfl, _, rfl, .ref d, pm, m, rfl, Kz.same hid_up _ _ km6, okm, fun H7 s7 => ⟨_, rfl, ifF rfl ?_⟩⟩
        have St7 := St6.same s7
        have km7 := Kz.same (rel_same (d := d) s7) _ _ km6
        refine ⟨_, rfl, _, rfl, d, pm, m, 101 + 10 * j, rfl, St7.dice, by omega, Kz.same hid_up _ _ km7, okm, St7.tabs, fun H8 S8 => ⟨_, rfl, ifF rfl ?_⟩⟩
        exact ⟨⟨_, rfl⟩, ⟨St7.rel.trans S8.rel, S8.dice.mono (by omega), S8.tabs⟩, Kz.same S8.rel _ _ km7⟩
      · rintro σ6 H6 ⟨⟨v5, rfl⟩, St6, _⟩
        exact ⟨⟨_, _, _, _, _, _, _, rfl⟩, St6.tabs, Same.seq hid_up (Same.seq St6.rel hS1)⟩
    rintro σZ HZ ⟨u1, u2, u3, u4, u5, u6, u7, rfl⟩
    -- the written ones
    refine ⟨fun σ' H' => ∃ R : Addr, σ' = [some (.ref a), u1, u2, u3, u4, u5, some (.ref R), u7, none, none, none] ∧ Kz H' (.ref R) (.tup (mB.rows.map RowM.key)), ?_, ?_⟩
    · refine ⟨(by show 3 ≤ sizeLine; decide), fun t1 n1 => ⟨(by show 3 ≤ sizeLine; decide), fun w1 m1 => ⟨(by show 3 ≤ sizeLine; decide), fun t2 n2 => ⟨(by show 3 ≤ sizeLine; decide), fun w2 m2 => ⟨(by show 1 ≤ sizeLine; decide), fun t3 n3 => ⟨(by show 3 ≤ sizeLine; decide), fun w3 m3 =>
        ⟨(by show 3 ≤ sizeLine; decide), fun t4 n4 => ⟨(by show 3 ≤ sizeLine; decide), fun w4 m4 => ⟨(by show 4 ≤ sizeLine; decide), fun R nR => ⟨R, rfl, ?_⟩⟩⟩⟩⟩⟩⟩⟩⟩⟩
      have a1 := same_upd (o := .tup [.int 0, .ref t1, .int 0]) m1
      have b1 := same_upd (o := .tup [.str "send", .str "b", .str "x"]) n2
      have a2 := same_upd (o := .tup [.int 0, .ref t2, .int 1]) m2
      have b2 := same_upd (o := .tup [.str "step"]) n3
      have a3 := same_upd (o := .tup [.int 0, .ref t3, .int 1]) m3
      have b3 := same_upd (o := .tup [.str "take", .str "b", .str "x"]) n4
      have a4 := same_upd (o := .tup [.int 1, .ref t4, .int 0]) m4
      have c4 := same_upd (o := .tup [.ref w1, .ref w2, .ref w3, .ref w4]) nR
      have k3 := b3.trans (a4.trans c4)
      have k2 := b2.trans (a3.trans k3)
      have k1 := b1.trans (a2.trans k2)
      refine .tup upd_same (.cons (.tup (k1 _ _ upd_same) (.cons (.int 0) (.cons (.tup (k1 _ _ (a1 _ _ upd_same)) (.cons (.str _) (.cons (.str _) (.cons (.str _) .nil)))) (.cons (.int 0) .nil))))
        (.cons (.tup (k2 _ _ upd_same) (.cons (.int 0) (.cons (.tup (k2 _ _ (a2 _ _ upd_same)) (.cons (.str _) (.cons (.str _) (.cons (.str _) .nil)))) (.cons (.int 1) .nil))))
        (.cons (.tup (k3 _ _ upd_same) (.cons (.int 0) (.cons (.tup (k3 _ _ (a3 _ _ upd_same)) (.cons (.str _) .nil)) (.cons (.int 1) .nil))))
        (.cons (.tup (c4 _ _ upd_same) (.cons (.int 1) (.cons (.tup (c4 _ _ (a4 _ _ upd_same)) (.cons (.str _) (.cons (.str _) (.cons (.str _) .nil)))) (.cons (.int 0) .nil)))) .nil))))
    rintro σA HA ⟨R, rfl, kR⟩
    refine ⟨fun σ' H' => ∃ he : Addr, σ' = [some (.ref a), u1, u2, u3, u4, u5, some (.ref R), u7, some (.ref he), none, none] ∧ Kz H' (.ref he) mB.key, ?_, ?_⟩
    · refine ⟨Nat.zero_le _, fun t nt => ⟨_, rfl, (by show 3 ≤ sizeLine; decide), fun he nh => ⟨he, rfl, ?_⟩⟩⟩
      have k1 := same_upd (o := .tup []) nt
      have k2 := same_upd (o := .tup [.int 2, .ref t, .ref R]) nh
      exact .tup upd_same (.cons (.int 2) (.cons (.tup (k2 _ _ upd_same) .nil) (.cons (Kz.same (k1.trans k2) _ _ kR) .nil)))
    rintro σB HB ⟨he, rfl, kB⟩
    have exB : ∃ r ∈ mB.rows, ∃ b l, r.deed = .ex b "b" l := (nearB.mem "b").mp List.mem_cons_self
    refine ⟨fun σ' H' => ∃ fo p1 p2 p3 : Addr, σ' = [some (.ref a), u1, u2, u3, u4, u5, some (.ref R), u7, some (.ref he), some (.ref fo), none] ∧ H' fo = some (.lst [.ref p1, .ref p2, .ref p3]) ∧ H' p1 = some (.tup [.str "x"]) ∧ H' p2 = some (.tup []) ∧ H' p3 = some (.tup [.int 0, .int 1, .int 2]) ∧ Kz H' (.ref he) mB.key, ?_, ?_⟩
    · refine ⟨_, rfl, _, _, _, _, rfl, .inr ⟨he, mB, rfl, kB, mB_ok, .inr ⟨0, rfl, by decide, by decide, .inr ⟨true, rfl, .inr ⟨"b", rfl, exB, fun H1 p1 z1 s1 np1 e1 told1 _ => ?_⟩⟩⟩⟩⟩
      cases told_ext told1 toldB
      refine ⟨_, rfl, _, _, _, _, rfl, .inr ⟨he, mB, rfl, Kz.same s1 _ _ kB, mB_ok, .inr ⟨0, rfl, by decide, by decide, .inr ⟨false, rfl, .inr ⟨"b", rfl, exB, fun H2 p2 z2 s2 np2 e2 told2 _ => ?_⟩⟩⟩⟩⟩
      cases told_ext told2 toldB2
      refine ⟨_, rfl, _, _, rfl, .inr ⟨he, mB, rfl, Kz.same (s1.trans s2) _ _ kB, mB_ok, .inl ⟨0, rfl, by decide, by decide, fun H3 p3 s3 np3 e3 => ⟨(by show 3 ≤ sizeLine; decide), fun fo nf => ?_⟩⟩⟩⟩
      have s4 := same_upd (o := .lst [.ref p1, .ref p2, .ref p3]) nf
      exact ⟨fo, p1, p2, p3, rfl, upd_same, s4 _ _ (s3 _ _ (s2 _ _ e1)), s4 _ _ (s3 _ _ e2), s4 _ _ e3, Kz.same ((s1.trans s2).trans (s3.trans s4)) _ _ kB⟩
    rintro σC HC ⟨fo, p1, p2, p3, rfl, ef, e1, e2, e3, kC⟩
    refine ⟨_, rfl, (by show 1 ≤ sizeLine; decide), fun a1 na1 => ⟨Nat.zero_le _, fun a2 na2 => ⟨(by show 3 ≤ sizeLine; decide), fun a3 na3 => ⟨(by show 3 ≤ sizeLine; decide), fun l nl => ?_⟩⟩⟩⟩
    have k1 := same_upd (o := .tup [.str "x"]) na1
    have k2 := same_upd (o := .tup []) na2
    have k3 := same_upd (o := .tup [.int 0, .int 1, .int 2]) na3
    have k4 := same_upd (o := .lst [.ref a1, .ref a2, .ref a3]) nl
    have k34 := k3.trans k4
    have k24 := k2.trans k34
    have k14 := k1.trans k24
    have sh : SeqAt.shaped (.list [.tuple [.str "x"], .tuple [], .tuple [.int 0, .int 1, .int 2]]) = true := by decide +kernel
    refine ⟨.list [.tuple [.str "x"], .tuple [], .tuple [.int 0, .int 1, .int 2]], .list [.tuple [.str "x"], .tuple [], .tuple [.int 0, .int 1, .int 2]],
      .lst (SqL.of (k14 _ _ ef)) (.cons (.tup (SqT.of (k14 _ _ e1)) (.cons (.str _) .nil)) (.cons (.tup (SqT.of (k14 _ _ e2)) .nil) (.cons (.tup (SqT.of (k14 _ _ e3)) (.cons (.int _) (.cons (.int _) (.cons (.int _) .nil)))) .nil))),
      .lst (SqL.of upd_same) (.cons (.tup (SqT.of (k24 _ _ upd_same)) (.cons (.str _) .nil)) (.cons (.tup (SqT.of (k34 _ _ upd_same)) .nil) (.cons (.tup (SqT.of (k4 _ _ upd_same)) (.cons (.int _) (.cons (.int _) (.cons (.int _) .nil)))) .nil))), sh, sh, _, rfl, ifT (eqv_self sh) ?_⟩
    refine ⟨_, rfl, _, rfl, .inr ⟨he, mB, rfl, Kz.same k14 _ _ kC, mB_ok, fun H5 p5 y5 s5 np5 e5 near5 _ => ?_⟩⟩
    cases near_ext near5 nearB
    refine ⟨(by show 1 ≤ sizeLine; decide), fun b1 nb1 => ?_⟩
    have sh2 : SeqAt.shaped (.tuple [.str "b"]) = true := by decide +kernel
    refine ⟨.tuple [.str "b"], .tuple [.str "b"], .tup (SqT.of ((same_upd nb1) _ _ e5)) (.cons (.str _) .nil), .tup (SqT.of upd_same) (.cons (.str _) .nil), sh2, sh2, _, rfl, ifT (eqv_self sh2) ?_⟩
    refine ⟨Nat.zero_le _, fun c1 nc1 => ⟨Nat.zero_le _, fun c2 nc2 => ⟨(by show 3 ≤ sizeLine; decide), fun c3 nc3 => ?_⟩⟩⟩
    have m1 := same_upd (o := .tup []) nc2
    have m2 := same_upd (o := .tup [.int 1, .ref c1, .ref c2]) nc3
    refine ⟨_, rfl, .inr ⟨c3, mN, rfl, .tup upd_same (.cons (.int 1) (.cons (.tup (m2 _ _ (m1 _ _ upd_same)) .nil) (.cons (.tup (m2 _ _ upd_same) .nil) .nil))), mN_ok, fun H6 p6 y6 s6 np6 e6 near6 _ => ?_⟩⟩
    cases near_ext near6 nearN
    refine ⟨Nat.zero_le _, fun x1 nx1 => ?_⟩
    have sh3 : SeqAt.shaped (.tuple []) = true := by decide +kernel
    refine ⟨.tuple [], .tuple [], .tup (SqT.of ((same_upd nx1) _ _ e6)) .nil, .tup (SqT.of upd_same) .nil, sh3, sh3, ?_⟩
    rw [eqv_self sh3]
    exact q _
end
end K02
/-! The end of a law whose def keeps its promise where no repr is under way. -/
namespace GL
open PySem PySem.Spec PyProof.Rows L2
section
variable {P : Program} {w : World} {K : PySem.W.Frag} {mg mb : Str → Option Value} {k : Nat} {fa a : Addr} {fd : FuncData} {x : Str} {sp : Sp} {s₁ : Shared} {vs : List Value} {ns : List Int}
/-- the law's call from one abstract heap, in which nothing but the script may be tracked -/
theorem law_core (KX : K.In s₁.heap) (hns : s₁.heap.Ns mainGlobals mg) (hb : s₁.heap.Ns builtinsNs mb) (hbb : ∀ x : Str, x ≠ "__name__" → mb x = bootBuiltins x) (hlim : s₁.heap.NoLimit) (hg : s₁.gens = #[])
    (ha : s₁.heap.get? a = some { cls := .type "list", data := .seq vs.toArray }) (hr : Room k callerA) (F : ∀ base : Heap, K.In base → base.Ns mainGlobals mg → FnG P w K mg base CX0 k fa fd [x] sp)
    (hbind : ∀ (s : Shared) (u : Value), BindsTo s fd ⟨[u], []⟩ [(x, u)]) {H : Hp} (only : Only H) (want : sp [.ref a] H (fun v _ => v = .bl true) fun _ _ _ => False) (hok : HOk P w H s₁.heap) (hA : ∀ b, H b ≠ none → b = a) (hK : H a ≠ none → K.lookup a = none) :
    codeAny (model P w) callerA (.call (.ref fa) ⟨[.ref a], []⟩) (fun r s' => r = .ok (.ret (.bool true)) ∧ OldK s₁.heap s'.heap ∧ s'.os = s₁.os ∧ AllBare s'.gens) s₁ := by
  have lay : ∀ {b : Addr} {o : Obj}, s₁.heap.get? b = some o → H b = none → (hidT s₁.heap H).get? b = some o := fun e n => hidT_get e n
  have away : ∀ {b : Addr} {o : Obj}, s₁.heap.get? b = some o → (b = a → False) → H b = none := fun {b o} _ na => by
    cases q : H b with
    | none => rfl
    | some u => exact (na (hA b (by rw [q]; exact fun z => nomatch z))).elim
  have names : ∀ {b : Addr} {m : Str → Option Value}, s₁.heap.Ns b m → (hidT s₁.heap H).Ns b m := by
    rintro b m ⟨o, es, ep, e, d, r⟩
    refine ⟨o, es, ep, lay e (away e fun z => ?_), d, r⟩
    subst z
    rw [ha] at e
    cases e
    exact nomatch d
  have part : K.In (hidT s₁.heap H) := fun b o e => lay (KX b o e) (by
    cases q : H b with
    | none => rfl
    | some u =>
      have z := hA b (by rw [q]; exact fun z => nomatch z)
      subst z
      have y := hK (by rw [q]; exact fun z => nomatch z)
      rw [y] at e
      cases e)
  have M : Mod K mg (hidT s₁.heap H) := ⟨part, names hns, ⟨mb, names hb, hbb⟩, let ⟨mc, h1, h2⟩ := hlim; ⟨mc, names h1, h2⟩⟩
  have env : Env0 P w K mg (hidT s₁.heap H) callerA [] s₁ H := ⟨rfl, M, fun b o e => of_hidT e, Nat.le_of_eq (hidT_size _ _), True.intro, fun b z => absurd (show b ∈ ([] : List Addr) from z) List.not_mem_nil, hok, .of_eq hg⟩
  refine codeAny_mono ((F _ part (names hns)).run callerA [] s₁ H ⟨[.ref a], []⟩ [.ref a] [.ref a] _ _ rfl hr env (hbind s₁ (.ref a)) (.cons rfl .nil) want) ?_
  intro r s' h
  match r, h with
  | .error e, h => exact h.elim
  | .ok (.ret u), h =>
    obtain ⟨v, H', os, bare, un, hok', rv, q⟩ := h
    have q' : v = .bl true := q
    subst q'
    cases rv
    refine ⟨rfl, OldK.of_keep fun b o e => ?_, os, bare⟩
    cases q : H b with
    | none => exact un.keep b o e q (fun z => absurd (show b ∈ ([] : List Addr) from z) List.not_mem_nil) List.not_mem_nil
    | some u =>
      rcases only b with z | ⟨ob, xs, z⟩
      · rw [q] at z; exact nomatch z
      · have c1 := (show ObjOk P w H s₁.heap b (.frz ob (.lst xs)) from hok b _ z).1
        have c2 := (show ObjOk P w H' s'.heap b (.frz ob (.lst xs)) from hok' b _ (un.frzs b ob _ z)).1
        rw [e] at c1
        cases c1
        exact c2
theorem law_callG (KX : K.In s₁.heap) (hns : s₁.heap.Ns mainGlobals mg) (hb : s₁.heap.Ns builtinsNs mb) (hbb : ∀ x : Str, x ≠ "__name__" → mb x = bootBuiltins x) (hlim : s₁.heap.NoLimit) (hg : s₁.gens = #[])
    (ha : s₁.heap.get? a = some { cls := .type "list", data := .seq vs.toArray }) (hi : IntsAre vs ns) (hl : ns.length ≤ sizeLine) (hr : Room k callerA) (F : ∀ base : Heap, K.In base → base.Ns mainGlobals mg → FnG P w K mg base CX0 k fa fd [x] sp)
    (hbind : ∀ (s : Shared) (u : Value), BindsTo s fd ⟨[u], []⟩ [(x, u)]) (hsp : ∀ H : Hp, Only H → SqL K H a (ns.map V.int) → sp [.ref a] H (fun v _ => v = .bl true) fun _ _ _ => False) :
    codeAny (model P w) callerA (.call (.ref fa) ⟨[.ref a], []⟩) (fun r s' => r = .ok (.ret (.bool true)) ∧ OldK s₁.heap s'.heap ∧ s'.os = s₁.os ∧ AllBare s'.gens) s₁ := by
  have go := fun (H : Hp) (o : Only H) (q : SqL K H a (ns.map V.int)) => law_core KX hns hb hbb hlim hg ha hr F hbind o (hsp H o q)
  cases hk : K.lookup a with
  | some o =>
    have e := KX a o hk
    rw [ha] at e
    cases e
    have lenV : vs.toArray.size = ns.length := by rw [List.size_toArray]; exact hi.length
    refine go (fun _ => none) (fun _ => Or.inl rfl) (Or.inr ⟨_, vs.toArray, _, hk, rfl, rfl, rfl, lenV ▸ hl, by simpa using vals_ints hi⟩) (fun b u z => nomatch z) (fun b z => (z rfl).elim) fun z => (z rfl).elim
  | none =>
    let G : Hp := fun b => if b = a then some (.frz { cls := .type "list", data := .seq vs.toArray } (.lst (ns.map V.int))) else none
    have Ga : G a = some (.frz { cls := .type "list", data := .seq vs.toArray } (.lst (ns.map V.int))) := if_pos rfl
    have Gn : ∀ {b : Addr}, b ≠ a → G b = none := fun h => if_neg h
    refine go G (fun b => ?_) (Or.inl (Or.inr ⟨_, Ga⟩)) (fun b u z => ?_) (fun b z => ?_) fun _ => hk
    · by_cases h : b = a
      · subst h; exact Or.inr ⟨_, _, Ga⟩
      · exact Or.inl (Gn h)
    · by_cases h : b = a
      · subst h
        rw [Ga] at z
        cases z
        exact ⟨ha, by rw [List.length_map]; exact hl, vs, _, vals_ints hi, ha⟩
      · rw [Gn h] at z
        exact nomatch z
    · by_cases h : b = a
      · exact h
      · exact (z (Gn h)).elim
end
/-- the goal behind the head, from the law's promise -/
theorem walk_ofG {l : PySem.W.OpenLaw} {n k : Nat} {q : Program} {loose : List Str} {XP : (Str → Option Value) → Heap → Prop} {YP : World → Heap → Prop} {d : DefRec} {K : Params → PySem.W.Frag} {sp : PySem.W.Frag → Sp} {x : Str}
    (hn : l.most = some n) (hn2 : n ≤ sizeLine) (hdf : d.params.defaults = []) (hr : Room k callerA) (hY : ∀ (w : World) (h : Heap), YP w h → (K w.params).In h)
    (F : ∀ (w : World) (mg : Str → Option Value) (fa : Addr) (h : Heap), (K w.params).In h → h.Ns mainGlobals mg → mg d.name = some (.ref fa) → ∃ fd : FuncData, (∀ (s : Shared) (u : Value), BindsTo s fd ⟨[u], []⟩ [(x, u)]) ∧
      ∀ base : Heap, (K w.params).In base → base.Ns mainGlobals mg → FnG l.prog w (K w.params) mg base CX0 k fa fd [x] (sp (K w.params)))
    (hsp : ∀ (K : PySem.W.Frag) (H : Hp) (a : Addr) (ns : List Int), ns.length ≤ n → SqL K H a (ns.map V.int) → sp K [.ref a] H (fun v _ => v = .bl true) fun _ _ _ => False) :
    PySem.W.WalkO q loose XP YP l.row.toRowW d [] (fun f vs => PySem.call f vs) := by
  refine Att.attach_call hn hdf ?_
  intro w s₀ s₁ mg mb fa o pm cd doc a vs ns G Y ho hd hcd hmg hobj hints hlen hg
  obtain ⟨fd, hbind, hF⟩ := F w mg fa _ (hY w _ Y) G.T.g hmg
  exact law_callG (hY w _ Y) G.T.g G.T.b G.T.builtins G.T.nolimit hg hobj hints (Nat.le_trans hlen hn2) hr hF hbind fun H _ hS => hsp (K w.params) H a ns hlen hS
end GL
/-! The end of a law whose defs make lambdas (tables of code objects grow), no repr under way. -/
namespace GL
open PySem PySem.Spec PyProof.Rows L2
open LamX (TabB)
section
variable {P : Program} {w : World} {K : PySem.W.Frag} {mg mb : Str → Option Value} {k : Nat} {fa a : Addr} {fd : FuncData} {x : Str} {sp : Sp} {s₁ : Shared} {vs : List Value} {ns : List Int} {cs : List (Addr × Addr)}
abbrev emptyT : Obj := { cls := .none, data := .fields #[] }
/-- what may be tracked when the law begins: the script, frozen, and the tables -/
def OnlyT (T : List Addr) (H : Hp) : Prop := ∀ b, H b = none ∨ (b ∈ T ∧ H b = some (.tbl #[])) ∨ ∃ ob xs, H b = some (.frz ob (.lst xs))
theorem law_coreT (KX : K.In s₁.heap) (hns : s₁.heap.Ns mainGlobals mg) (hb : s₁.heap.Ns builtinsNs mb) (hbb : ∀ x : Str, x ≠ "__name__" → mb x = bootBuiltins x) (hlim : s₁.heap.NoLimit) (hg : s₁.gens = #[])
    (tabs : ∀ p ∈ cs, s₁.heap.get? p.2 = some emptyT) (notK : ∀ p ∈ cs, K.lookup p.2 = none) (codes : ∀ p ∈ cs, PySem.W.CodeHd s₁.heap p.1 p.2)
    (main : ∃ (bm : Addr) (ob : Obj), mg "__builtins__" = some (.ref bm) ∧ bm ≠ builtinsNs ∧ s₁.heap.get? bm = some ob ∧ ob.cls = .type "module" ∧ ob.dict = some builtinsNs ∧ ob.data = .plain)
    (ha : s₁.heap.get? a = some { cls := .type "list", data := .seq vs.toArray }) (hr : Room k callerA) (F : ∀ base : Heap, K.In base → base.Ns mainGlobals mg → (∀ p ∈ cs, TabB base mg p.1 p.2) → FnG P w K mg base CX0 k fa fd [x] sp)
    (hbind : ∀ (s : Shared) (u : Value), BindsTo s fd ⟨[u], []⟩ [(x, u)]) {H : Hp} (only : OnlyT (cs.map Prod.snd) H) (want : sp [.ref a] H (fun v _ => v = .bl true) fun _ _ _ => False) (hok : HOk P w H s₁.heap) (hA : ∀ b, H b ≠ none → b = a ∨ b ∈ cs.map Prod.snd)
    (hK : H a ≠ none → K.lookup a = none) (hT : ∀ b ∈ cs.map Prod.snd, H b = some (.tbl #[])) :
    codeAny (model P w) callerA (.call (.ref fa) ⟨[.ref a], []⟩) (fun r s' => r = .ok (.ret (.bool true)) ∧ OldK s₁.heap s'.heap ∧ s'.os = s₁.os ∧ AllBare s'.gens) s₁ := by
  have tab_at : ∀ b ∈ cs.map Prod.snd, s₁.heap.get? b = some emptyT := fun b mb => by
    obtain ⟨p, mp, rfl⟩ := List.mem_map.mp mb
    exact tabs p mp
  have lay : ∀ {b : Addr} {o : Obj}, s₁.heap.get? b = some o → H b = none → (hidT s₁.heap H).get? b = some o := fun e n => hidT_get e n
  have away : ∀ {b : Addr} {o : Obj}, s₁.heap.get? b = some o → (∀ xs n, o.data ≠ .seq xs n) → o.data ≠ .fields #[] → H b = none := fun {b o} e d1 d2 => by
    cases q : H b with
    | none => rfl
    | some u =>
      exfalso
      rcases hA b (by rw [q]; exact fun z => nomatch z) with z | z
      · rw [z, ha] at e
        cases e
        exact d1 _ _ rfl
      · rw [tab_at b z] at e
        cases e
        exact d2 rfl
  have names : ∀ {b : Addr} {m : Str → Option Value}, s₁.heap.Ns b m → (hidT s₁.heap H).Ns b m := by
    rintro b m ⟨o, es, ep, e, d, r⟩
    exact ⟨o, es, ep, lay e (away e (fun xs n z => by rw [d] at z; cases z) fun z => by rw [d] at z; cases z), d, r⟩
  have part : K.In (hidT s₁.heap H) := fun b o e => lay (KX b o e) (by
    cases q : H b with
    | none => rfl
    | some u =>
      exfalso
      rcases hA b (by rw [q]; exact fun z => nomatch z) with z | z
      · subst z
        rw [hK (by rw [q]; exact fun z => nomatch z)] at e
        cases e
      · obtain ⟨p, mp, rfl⟩ := List.mem_map.mp z
        rw [notK p mp] at e
        cases e)
  have M : Mod K mg (hidT s₁.heap H) := ⟨part, names hns, ⟨mb, names hb, hbb⟩, let ⟨mc, h1, h2⟩ := hlim; ⟨mc, names h1, h2⟩⟩
  have tb : ∀ p ∈ cs, TabB (hidT s₁.heap H) mg p.1 p.2 := fun p mp => by
    have at2 := tabs p mp
    constructor
    · obtain ⟨o, us, file, tf, flags, tg, inF, text, tt, e1, r1, r2, r3, r⟩ := codes p mp
      refine ⟨o, us, file, tf, flags, tg, inF, text, tt, lay e1 (away e1 (fun xs n z => by rw [r2] at z; cases z) fun z => ?_), r1, r2, r3, r⟩
      rw [r2] at z
      cases z
      exact nomatch r3
    · obtain ⟨bm, ob, b1, b2, b3, b4, b5, b6⟩ := main
      refine ⟨bm, ob, b1, b2, fun q => ?_, fun q => ?_, lay b3 (away b3 (fun xs n z => by rw [b6] at z; cases z) fun z => by rw [b6] at z; cases z), b4, b5, b6⟩
      · obtain ⟨o, es, ep, e, d, _⟩ := hns
        rw [q, e] at b3
        cases b3
        rw [d] at b6
        cases b6
      · rw [q, at2] at b3
        cases b3
        cases b6
    · intro z
      obtain ⟨o, es, ep, e, d, _⟩ := hns
      rw [z, at2] at e
      cases e
      cases d
  have env : Env0 P w K mg (hidT s₁.heap H) callerA [] s₁ H := ⟨rfl, M, fun b o e => of_hidT e, Nat.le_of_eq (hidT_size _ _), True.intro, fun b z => absurd (show b ∈ ([] : List Addr) from z) List.not_mem_nil, hok, .of_eq hg⟩
  refine codeAny_mono ((F _ part (names hns) tb).run callerA [] s₁ H ⟨[.ref a], []⟩ [.ref a] [.ref a] _ _ rfl hr env (hbind s₁ (.ref a)) (.cons rfl .nil) want) ?_
  intro r s' h
  match r, h with
  | .error e, h => exact h.elim
  | .ok (.ret u), h =>
    obtain ⟨v, H', os, bare, un, hok', rv, q⟩ := h
    have q' : v = .bl true := q
    subst q'
    cases rv
    have other : ∀ b o, b ∉ cs.map Prod.snd → s₁.heap.get? b = some o → s'.heap.get? b = some o := fun b o nb e => by
      cases q : H b with
      | none => exact un.keep b o e q (fun z => absurd (show b ∈ ([] : List Addr) from z) List.not_mem_nil) List.not_mem_nil
      | some u =>
        rcases only b with z | ⟨z, _⟩ | ⟨ob, xs, z⟩
        · rw [q] at z; exact nomatch z
        · exact absurd z nb
        · have c1 := (show ObjOk P w H s₁.heap b (.frz ob (.lst xs)) from hok b _ z).1
          have c2 := (show ObjOk P w H' s'.heap b (.frz ob (.lst xs)) from hok' b _ (un.frzs b ob _ z)).1
          rw [e] at c1
          cases c1
          exact c2
    have grew : ∀ b ∈ cs.map Prod.snd, ∃ more : Array Value, s'.heap.get? b = some { cls := .none, data := .fields more } := fun b mb => by
      obtain ⟨more, z⟩ := un.tbls b #[] (hT b mb)
      exact ⟨_, hok' b _ z⟩
    refine ⟨rfl, ⟨fun b o e => ?_, fun b o e => ?_⟩, os, bare⟩
    · by_cases mb : b ∈ cs.map Prod.snd
      · obtain ⟨more, hm⟩ := grew b mb
        obtain ⟨p, mp, rfl⟩ := List.mem_map.mp mb
        rw [tabs p mp] at e
        cases e
        exact .inr (.inl ⟨((codes p mp).tab (tabs p mp)).isCodeTable, rfl, #[], more, rfl, by rw [Array.empty_append]; exact hm⟩)
      · exact .inl (other b o mb e)
    · by_cases mb : b ∈ cs.map Prod.snd
      · obtain ⟨more, hm⟩ := grew b mb
        exact ⟨_, hm⟩
      · exact ⟨o, other b o mb e⟩
theorem law_callGT (KX : K.In s₁.heap) (hns : s₁.heap.Ns mainGlobals mg) (hb : s₁.heap.Ns builtinsNs mb) (hbb : ∀ x : Str, x ≠ "__name__" → mb x = bootBuiltins x) (hlim : s₁.heap.NoLimit) (hg : s₁.gens = #[])
    (tabs : ∀ p ∈ cs, s₁.heap.get? p.2 = some emptyT) (notK : ∀ p ∈ cs, K.lookup p.2 = none) (codes : ∀ p ∈ cs, PySem.W.CodeHd s₁.heap p.1 p.2)
    (main : ∃ (bm : Addr) (ob : Obj), mg "__builtins__" = some (.ref bm) ∧ bm ≠ builtinsNs ∧ s₁.heap.get? bm = some ob ∧ ob.cls = .type "module" ∧ ob.dict = some builtinsNs ∧ ob.data = .plain)
    (ha : s₁.heap.get? a = some { cls := .type "list", data := .seq vs.toArray }) (hi : IntsAre vs ns) (hl : ns.length ≤ sizeLine) (hr : Room k callerA) (F : ∀ base : Heap, K.In base → base.Ns mainGlobals mg → (∀ p ∈ cs, TabB base mg p.1 p.2) → FnG P w K mg base CX0 k fa fd [x] sp)
    (hbind : ∀ (s : Shared) (u : Value), BindsTo s fd ⟨[u], []⟩ [(x, u)]) (hsp : ∀ H : Hp, (∀ b ∈ cs.map Prod.snd, H b = some (.tbl #[])) → SqL K H a (ns.map V.int) → sp [.ref a] H (fun v _ => v = .bl true) fun _ _ _ => False) :
    codeAny (model P w) callerA (.call (.ref fa) ⟨[.ref a], []⟩) (fun r s' => r = .ok (.ret (.bool true)) ∧ OldK s₁.heap s'.heap ∧ s'.os = s₁.os ∧ AllBare s'.gens) s₁ := by
  have tab_at : ∀ b ∈ cs.map Prod.snd, s₁.heap.get? b = some emptyT := fun b mb => by
    obtain ⟨p, mp, rfl⟩ := List.mem_map.mp mb
    exact tabs p mp
  have aT : a ∉ cs.map Prod.snd := fun m => by
    have z := tab_at a m
    rw [ha] at z
    cases z
  cases hk : K.lookup a with
  | some o =>
    have e := KX a o hk
    rw [ha] at e
    cases e
    have lenV : vs.toArray.size = ns.length := by rw [List.size_toArray]; exact hi.length
    let G : Hp := fun b => if b ∈ cs.map Prod.snd then some (.tbl #[]) else none
    have Gt : ∀ b ∈ cs.map Prod.snd, G b = some (.tbl #[]) := fun b m => if_pos m
    have Gn : ∀ {b : Addr}, b ∉ cs.map Prod.snd → G b = none := fun m => if_neg m
    refine law_coreT KX hns hb hbb hlim hg tabs notK codes main ha hr F hbind (H := G) (fun b => ?_) (hsp G Gt (Or.inr ⟨_, vs.toArray, _, hk, rfl, rfl, rfl, lenV ▸ hl, by simpa using vals_ints hi⟩)) (fun b u z => ?_) (fun b z => ?_) (fun z => absurd (Gn aT) z) Gt
    · by_cases m : b ∈ cs.map Prod.snd
      · exact Or.inr (Or.inl ⟨m, Gt b m⟩)
      · exact Or.inl (Gn m)
    · by_cases m : b ∈ cs.map Prod.snd
      · rw [Gt b m] at z
        cases z
        exact tab_at b m
      · rw [Gn m] at z
        exact nomatch z
    · by_cases m : b ∈ cs.map Prod.snd
      · exact Or.inr m
      · exact absurd (Gn m) z
  | none =>
    let G : Hp := fun b => if b = a then some (.frz { cls := .type "list", data := .seq vs.toArray } (.lst (ns.map V.int))) else if b ∈ cs.map Prod.snd then some (.tbl #[]) else none
    have Ga : G a = some (.frz { cls := .type "list", data := .seq vs.toArray } (.lst (ns.map V.int))) := if_pos rfl
    have Gt : ∀ b ∈ cs.map Prod.snd, G b = some (.tbl #[]) := fun b m => (if_neg (show ¬ b = a from fun z => aT (z ▸ m))).trans (if_pos m)
    have Gn : ∀ {b : Addr}, b ≠ a → b ∉ cs.map Prod.snd → G b = none := fun h m => (if_neg h).trans (if_neg m)
    refine law_coreT KX hns hb hbb hlim hg tabs notK codes main ha hr F hbind (H := G) (fun b => ?_) (hsp G Gt (Or.inl (Or.inr ⟨_, Ga⟩))) (fun b u z => ?_) (fun b z => ?_) (fun _ => hk) Gt
    · by_cases h : b = a
      · subst h; exact Or.inr (Or.inr ⟨_, _, Ga⟩)
      · by_cases m : b ∈ cs.map Prod.snd
        · exact Or.inr (Or.inl ⟨m, Gt b m⟩)
        · exact Or.inl (Gn h m)
    · by_cases h : b = a
      · subst h
        rw [Ga] at z
        cases z
        exact ⟨ha, by rw [List.length_map]; exact hl, vs, _, vals_ints hi, ha⟩
      · by_cases m : b ∈ cs.map Prod.snd
        · rw [Gt b m] at z
          cases z
          exact tab_at b m
        · rw [Gn h m] at z
          exact nomatch z
    · by_cases h : b = a
      · exact Or.inl h
      · by_cases m : b ∈ cs.map Prod.snd
        · exact Or.inr m
        · exact absurd (Gn h m) z
end
/-- what is known of a law with lambdas where its head ends -/
def LawT (l : PySem.W.OpenLaw) (w : World) (K : PySem.W.Frag) (k n : Nat) (x : Str) (mg : Str → Option Value) (fa : Addr) (h : Heap) : Prop :=
  ∃ (fd : FuncData) (cs : List (Addr × Addr)) (sp : Sp), (∀ p ∈ cs, h.get? p.2 = some emptyT) ∧ (∀ p ∈ cs, K.lookup p.2 = none) ∧ (∀ p ∈ cs, PySem.W.CodeHd h p.1 p.2) ∧ (∀ (s : Shared) (u : Value), BindsTo s fd ⟨[u], []⟩ [(x, u)]) ∧
    (∀ (H : Hp) (a : Addr) (ns : List Int), ns.length ≤ n → (∀ b ∈ cs.map Prod.snd, H b = some (.tbl #[])) → SqL K H a (ns.map V.int) → sp [.ref a] H (fun v _ => v = .bl true) fun _ _ _ => False) ∧
    ∀ base : Heap, K.In base → base.Ns mainGlobals mg → (∀ p ∈ cs, TabB base mg p.1 p.2) → FnG l.prog w K mg base CX0 k fa fd [x] sp
/-- the goal behind the head, from such a law's promise -/
theorem walk_ofGT {l : PySem.W.OpenLaw} {n k : Nat} {q : Program} {loose : List Str} {XP : (Str → Option Value) → Heap → Prop} {YP : World → Heap → Prop} {d : DefRec} {K : Params → PySem.W.Frag} {x : Str}
    (hn : l.most = some n) (hn2 : n ≤ sizeLine) (hdf : d.params.defaults = []) (hr : Room k callerA) (hY : ∀ (w : World) (h : Heap), YP w h → (K w.params).In h)
    (F : ∀ (w : World) (mg : Str → Option Value) (fa : Addr) (h : Heap), YP w h → (K w.params).In h → h.Ns mainGlobals mg → mg d.name = some (.ref fa) → LawT l w (K w.params) k n x mg fa h) :
    PySem.W.WalkO q loose XP YP l.row.toRowW d [] (fun f vs => PySem.call f vs) := by
  refine Att.attach_callB hn hdf ?_
  intro w s₀ s₁ mg mb fa o pm cd doc a vs ns G Y ho hd hcd hmg hobj hints hlen hbits hg
  obtain ⟨fd, cs, sp, t1, t2, t3, bind, say, def'⟩ := F w mg fa _ Y (hY w _ Y) G.T.g hmg
  exact law_callGT (hY w _ Y) G.T.g G.T.b G.T.builtins G.T.nolimit hg t1 t2 t3 G.T.bmain hobj hints (Nat.le_trans hlen hn2) hr def' bind fun H hT hS => say H a ns hlen hT hS
end GL
namespace K02
open PySem PySem.Spec PyProof.Rows L2 WD NS MC GL
open LamX (TabB Tabs TabS)
theorem txtE_s {K : PySem.W.Frag} {tE : Addr} {od : Option Addr} {n : Nat} {osl : Array (Option Value)} {t1 t2 : Tok} (l : K.lookup tE = some ⟨.type "tuple", od, .seq #[.str "send" t1, .str "take" t2] n, osl⟩) :
    ∃ (o : Obj) (its : Array Value) (n : Nat), K.lookup tE = some o ∧ o.cls = .type "tuple" ∧ o.data = .seq its n ∧ its.size ≤ sizeLine ∧ Vals exV its.toList :=
  ⟨_, _, _, l, rfl, rfl, by show 2 ≤ sizeLine; decide, .cons ⟨_, rfl⟩ (.cons ⟨_, rfl⟩ .nil)⟩
theorem all_mk {l : PySem.W.OpenLaw} {w : World} {K : PySem.W.Frag} {h : Heap} {mg : Str → Option Value} {fa tE cR Pt fW fWF fNm fI fRn fS fT fX fC fCS fNO fB fSg fTr fLe fDi fRo fOo fWo fMa fRw fMe fNe fTo fRi fLa fRe cN cU cM cO iN iU : Addr} {dW dWF dNm dI dRn dS dT dX dC dCS dNO dB dSg dTr dLe dDi dRo dOo dWo dMa dRw dMe dNe dTo dRi dLa dRe eN eU : FuncData} {tLN tMS tMT : Tok} (X : K.In h) (G : h.Ns mainGlobals mg) (hfa : mg "law" = some (.ref fa))
    (tabs : h.get? Pt = some emptyT)
    (aW : PySem.W.nsIn K mainGlobals "is_whole" = some (some (.ref fW)))
    (aWF : PySem.W.nsIn K mainGlobals "is_whole_from" = some (some (.ref fWF)))
    (aNm : PySem.W.nsIn K mainGlobals "is_name" = some (some (.ref fNm)))
    (aI : PySem.W.nsIn K mainGlobals "is_machine" = some (some (.ref fI)))
    (aRn : PySem.W.nsIn K mainGlobals "is_machine_near" = some (some (.ref fRn)))
    (aS : PySem.W.nsIn K mainGlobals "are_states" = some (some (.ref fS)))
    (aT : PySem.W.nsIn K mainGlobals "are_transitions" = some (some (.ref fT)))
    (aX : PySem.W.nsIn K mainGlobals "is_exchange" = some (some (.ref fX)))
    (aC : PySem.W.nsIn K mainGlobals "check_machine" = some (some (.ref fC)))
    (aCS : PySem.W.nsIn K mainGlobals "check_state" = some (some (.ref fCS)))
    (aNO : PySem.W.nsIn K mainGlobals "neighbours_of" = some (some (.ref fNO)))
    (aB : PySem.W.nsIn K mainGlobals "neighbours_in" = some (some (.ref fB)))
    (aSg : PySem.W.nsIn K mainGlobals "is_single" = some (some (.ref fSg)))
    (aTr : PySem.W.nsIn K mainGlobals "transitions_at" = some (some (.ref fTr)))
    (aLe : PySem.W.nsIn K mainGlobals "letters_at" = some (some (.ref fLe)))
    (aDi : PySem.W.nsIn K mainGlobals "_law_dice" = some (some (.ref fDi)))
    (aRo : PySem.W.nsIn K mainGlobals "_law_roll" = some (some (.ref fRo)))
    (aOo : PySem.W.nsIn K mainGlobals "_law_one_of" = some (some (.ref fOo)))
    (aWo : PySem.W.nsIn K mainGlobals "_law_words" = some (some (.ref fWo)))
    (aMa : PySem.W.nsIn K mainGlobals "_law_made" = some (some (.ref fMa)))
    (aRw : PySem.W.nsIn K mainGlobals "_law_row" = some (some (.ref fRw)))
    (aMe : PySem.W.nsIn K mainGlobals "_law_met" = some (some (.ref fMe)))
    (aNe : PySem.W.nsIn K mainGlobals "_law_near" = some (some (.ref fNe)))
    (aTo : PySem.W.nsIn K mainGlobals "_law_told" = some (some (.ref fTo)))
    (aRi : PySem.W.nsIn K mainGlobals "_law_right" = some (some (.ref fRi)))
    (aLa : PySem.W.nsIn K mainGlobals "law" = some (some (.ref fLa)))
    (aRe : PySem.W.nsIn K mainGlobals "_law_refused" = some (some (.ref fRe)))
    (acN : PySem.W.nsIn K mainGlobals "InvalidNumber" = some (some (.ref cN)))
    (acU : PySem.W.nsIn K mainGlobals "UnknownName" = some (some (.ref cU)))
    (acM : PySem.W.nsIn K mainGlobals "InvalidMachine" = some (some (.ref cM)))
    (acO : PySem.W.nsIn K mainGlobals "InvalidOperation" = some (some (.ref cO)))
    (aE : PySem.W.nsIn K mainGlobals "EXCHANGES" = some (some (.ref tE)))
    (aLN : PySem.W.nsIn K mainGlobals "LONGEST_NAME" = some (some (.int 8 tLN)))
    (aMS : PySem.W.nsIn K mainGlobals "MAX_STATES" = some (some (.int 30 tMS)))
    (aMT : PySem.W.nsIn K mainGlobals "MAX_TRANSITIONS" = some (some (.int 90 tMT)))
    (zisinstance : PySem.W.nsIn K mainGlobals "isinstance" = some none)
    (zint : PySem.W.nsIn K mainGlobals "int" = some none)
    (zbool : PySem.W.nsIn K mainGlobals "bool" = some none)
    (zstr : PySem.W.nsIn K mainGlobals "str" = some none)
    (zlen : PySem.W.nsIn K mainGlobals "len" = some none)
    (ztuple : PySem.W.nsIn K mainGlobals "tuple" = some none)
    (ztype : PySem.W.nsIn K mainGlobals "type" = some none)
    (zset : PySem.W.nsIn K mainGlobals "set" = some none)
    (zsorted : PySem.W.nsIn K mainGlobals "sorted" = some none)
    (zabs : PySem.W.nsIn K mainGlobals "abs" = some none)
    (zenumerate : PySem.W.nsIn K mainGlobals "enumerate" = some none)
    (zrange : PySem.W.nsIn K mainGlobals "range" = some none)
    (zrepr : PySem.W.nsIn K mainGlobals "repr" = some none)
    (zlist : PySem.W.nsIn K mainGlobals "list" = some none)
    (zmax : PySem.W.nsIn K mainGlobals "max" = some none)
    (zmin : PySem.W.nsIn K mainGlobals "min" = some none)
    (FW : Fun K "is_whole" "is_whole" sIsWh fW dW)
    (FWF : Fun K "is_whole_from" "is_whole_from" sIsWF fWF dWF)
    (FNm : Fun K "is_name" "is_name" sName fNm dNm)
    (FI : Fun K "is_machine" "is_machine" sIsM fI dI)
    (FRn : Fun K "is_machine_near" "is_machine_near" sNearM fRn dRn)
    (FS : Fun K "are_states" "are_states" sAreSt fS dS)
    (FT : Fun K "are_transitions" "are_transitions" sAreTr fT dT)
    (FX : Fun K "is_exchange" "is_exchange" sIsEx fX dX)
    (FC : Fun K "check_machine" "check_machine" sChkM fC dC)
    (FCS : Fun K "check_state" "check_state" sChkS fCS dCS)
    (FNO : Fun K "neighbours_of" "neighbours_of" sNbOf fNO dNO)
    (FB : Fun K "neighbours_in" "neighbours_in" sNbIn fB dB)
    (FSg : Fun K "is_single" "is_single" sSing fSg dSg)
    (FTr : Fun K "transitions_at" "transitions_at" sTrans fTr dTr)
    (FLe : Fun K "letters_at" "letters_at" sLet fLe dLe)
    (FDi : Fun K "_law_dice" "_law_dice" sDice fDi dDi)
    (FRo : Fun K "_law_roll" "_law_roll" sRoll fRo dRo)
    (FOo : Fun K "_law_one_of" "_law_one_of" sOneOf fOo dOo)
    (FWo : Fun K "_law_words" "_law_words" sWords fWo dWo)
    (FMa : Fun K "_law_made" "_law_made" sMade fMa dMa)
    (FRw : Fun K "_law_row" "_law_row" sRowL fRw dRw)
    (FMe : Fun K "_law_met" "_law_met" sMet fMe dMe)
    (FNe : Fun K "_law_near" "_law_near" sNear fNe dNe)
    (FTo : Fun K "_law_told" "_law_told" sTold fTo dTo)
    (FRi : Fun K "_law_right" "_law_right" sRight fRi dRi)
    (FLa : Fun K "law" "law" sLaw fLa dLa)
    (FRe : FunC K "_law_refused" "_law_refused" sRef fRe cR dRe)
    (chd : PySem.W.codeHdIn K cR Pt = true)
    (nk : K.lookup Pt = none)
    (iiN : PySem.W.findIn K (.ref cN) "__init__" = some (some (.ref iN)))
    (itN : PySem.W.typeIn K (.ref iN) = some (.type "function"))
    (FiN : Fun K "__init__" "InvalidNumber.__init__" sInitN iN eN)
    (iiU : PySem.W.findIn K (.ref cU) "__init__" = some (some (.ref iU)))
    (itU : PySem.W.typeIn K (.ref iU) = some (.type "function"))
    (FiU : Fun K "__init__" "UnknownName.__init__" sInitU iU eU)
    (ckN : ErrC K cN chIndexError "IndexError.__new__")
    (ckU : ErrC K cU chKeyError "LookupError.__new__")
    (ckM : ErrC K cM veC "ValueError.__new__")
    (ckO : ErrC K cO veC "ValueError.__new__")
    (cfN : ErrF K cN chIndexError "value")
    (cfU : ErrF K cU chKeyError "name")
    (tyN : PySem.W.typeIn K (.ref cN) = some (.type "type"))
    (tyU : PySem.W.typeIn K (.ref cU) = some (.type "type"))
    (tyM : PySem.W.typeIn K (.ref cM) = some (.type "type"))
    (tyO : PySem.W.typeIn K (.ref cO) = some (.type "type"))
    (iniM : PySem.W.findIn K (.ref cM) "__init__" = some (some (.builtin "ValueError.__init__")))
    (iniO : PySem.W.findIn K (.ref cO) "__init__" = some (some (.builtin "ValueError.__init__")))
    (xN : XfC K cN)
    (xU : XfC K cU)
    (fvN : PySem.W.findIn K (.ref cN) "value" = some none)
    (fvU : PySem.W.findIn K (.ref cU) "name" = some none)
    (xNN : PySem.W.exmOne K (.ref cN) (.ref cN) = some true)
    (xUN : PySem.W.exmOne K (.ref cU) (.ref cN) = some false)
    (xMN : PySem.W.exmOne K (.ref cM) (.ref cN) = some false)
    (xON : PySem.W.exmOne K (.ref cO) (.ref cN) = some false)
    (xUU : PySem.W.exmOne K (.ref cU) (.ref cU) = some true)
    (xMU : PySem.W.exmOne K (.ref cM) (.ref cU) = some false)
    (xOU : PySem.W.exmOne K (.ref cO) (.ref cU) = some false)
    (xMM : PySem.W.exmOne K (.ref cM) (.ref cM) = some true)
    (xOM : PySem.W.exmOne K (.ref cO) (.ref cM) = some false)
    (xOO : PySem.W.exmOne K (.ref cO) (.ref cO) = some true)
    (eE : ∃ (o : Obj) (its : Array Value) (n : Nat), K.lookup tE = some o ∧ o.cls = .type "tuple" ∧ o.data = .seq its n ∧ its.size ≤ sizeLine ∧ Vals exV its.toList)
    : LawT l w K 10 63 "_law_script" mg fa h := by
  have e := hfa.symm.trans (PySem.W.mg_of X G aLa)
  cases e
  have bW := FW.binds (ps := ["value"]) fun _ _ _ _ _ _ us hl => match us, hl with | [_], _ => rfl
  have bWF := FWF.binds (ps := ["value", "least", "most"]) fun _ _ _ _ _ _ us hl => match us, hl with | [_, _, _], _ => rfl
  have bNm := FNm.binds (ps := ["value"]) fun _ _ _ _ _ _ us hl => match us, hl with | [_], _ => rfl
  have bI := FI.binds (ps := ["value"]) fun _ _ _ _ _ _ us hl => match us, hl with | [_], _ => rfl
  have bRn := FRn.binds (ps := ["value", "near"]) fun _ _ _ _ _ _ us hl => match us, hl with | [_, _], _ => rfl
  have bS := FS.binds (ps := ["value", "size"]) fun _ _ _ _ _ _ us hl => match us, hl with | [_, _], _ => rfl
  have bT := FT.binds (ps := ["value", "size", "near"]) fun _ _ _ _ _ _ us hl => match us, hl with | [_, _, _], _ => rfl
  have bX := FX.binds (ps := ["word"]) fun _ _ _ _ _ _ us hl => match us, hl with | [_], _ => rfl
  have bC := FC.binds (ps := ["machine"]) fun _ _ _ _ _ _ us hl => match us, hl with | [_], _ => rfl
  have bCS := FCS.binds (ps := ["machine", "state"]) fun _ _ _ _ _ _ us hl => match us, hl with | [_, _], _ => rfl
  have bNO := FNO.binds (ps := ["machine"]) fun _ _ _ _ _ _ us hl => match us, hl with | [_], _ => rfl
  have bB := FB.binds (ps := ["machine"]) fun _ _ _ _ _ _ us hl => match us, hl with | [_], _ => rfl
  have bSg := FSg.binds (ps := ["value"]) fun _ _ _ _ _ _ us hl => match us, hl with | [_], _ => rfl
  have bTr := FTr.binds (ps := ["machine", "state"]) fun _ _ _ _ _ _ us hl => match us, hl with | [_, _], _ => rfl
  have bLe := FLe.binds (ps := ["machine", "state", "word", "other"]) fun _ _ _ _ _ _ us hl => match us, hl with | [_, _, _, _], _ => rfl
  have bDi := FDi.binds (ps := ["_law_script", "_law_at"]) fun _ _ _ _ _ _ us hl => match us, hl with | [_, _], _ => rfl
  have bRo := FRo.binds (ps := ["_law_dice_here", "_law_total"]) fun _ _ _ _ _ _ us hl => match us, hl with | [_, _], _ => rfl
  have bOo := FOo.binds (ps := ["_law_dice_here", "_law_items"]) fun _ _ _ _ _ _ us hl => match us, hl with | [_, _], _ => rfl
  have bWo := FWo.binds (ps := ["_law_dice_here", "_law_total"]) fun _ _ _ _ _ _ us hl => match us, hl with | [_, _], _ => rfl
  have bMa := FMa.binds (ps := ["_law_size", "_law_finals", "_law_rows"]) fun _ _ _ _ _ _ us hl => match us, hl with | [_, _, _], _ => rfl
  have bRw := FRw.binds (ps := ["_law_dice_here", "_law_size", "_law_others"]) fun _ _ _ _ _ _ us hl => match us, hl with | [_, _, _], _ => rfl
  have bMe := FMe.binds (ps := ["_law_call"]) fun _ _ _ _ _ _ us hl => match us, hl with | [_], _ => rfl
  have bNe := FNe.binds (ps := ["_law_machine"]) fun _ _ _ _ _ _ us hl => match us, hl with | [_], _ => rfl
  have bTo := FTo.binds (ps := ["_law_machine", "_law_state", "_law_word", "_law_other"]) fun _ _ _ _ _ _ us hl => match us, hl with | [_, _, _, _], _ => rfl
  have bRi := FRi.binds (ps := ["_law_dice_here", "_law_machine"]) fun _ _ _ _ _ _ us hl => match us, hl with | [_, _], _ => rfl
  have bLa := FLa.binds (ps := ["_law_script"]) fun _ _ _ _ _ _ us hl => match us, hl with | [_], _ => rfl
  have bRe := FRe.fun.binds (ps := ["_law_dice_here", "_law_machine"]) fun _ _ _ _ _ _ us hl => match us, hl with | [_, _], _ => rfl
  have biN := FiN.binds (ps := ["self", "value"]) fun _ _ _ _ _ _ us hl => match us, hl with | [_, _], _ => rfl
  have biU := FiU.binds (ps := ["self", "name"]) fun _ _ _ _ _ _ us hl => match us, hl with | [_, _], _ => rfl
  have gW := PySem.W.mg_of X G aW
  have gWF := PySem.W.mg_of X G aWF
  have gNm := PySem.W.mg_of X G aNm
  have gI := PySem.W.mg_of X G aI
  have gRn := PySem.W.mg_of X G aRn
  have gS := PySem.W.mg_of X G aS
  have gT := PySem.W.mg_of X G aT
  have gX := PySem.W.mg_of X G aX
  have gC := PySem.W.mg_of X G aC
  have gCS := PySem.W.mg_of X G aCS
  have gNO := PySem.W.mg_of X G aNO
  have gB := PySem.W.mg_of X G aB
  have gSg := PySem.W.mg_of X G aSg
  have gTr := PySem.W.mg_of X G aTr
  have gLe := PySem.W.mg_of X G aLe
  have gDi := PySem.W.mg_of X G aDi
  have gRo := PySem.W.mg_of X G aRo
  have gOo := PySem.W.mg_of X G aOo
  have gWo := PySem.W.mg_of X G aWo
  have gMa := PySem.W.mg_of X G aMa
  have gRw := PySem.W.mg_of X G aRw
  have gMe := PySem.W.mg_of X G aMe
  have gNe := PySem.W.mg_of X G aNe
  have gTo := PySem.W.mg_of X G aTo
  have gRi := PySem.W.mg_of X G aRi
  have gLa := PySem.W.mg_of X G aLa
  have gRe := PySem.W.mg_of X G aRe
  have gcN := PySem.W.mg_of X G acN
  have gcU := PySem.W.mg_of X G acU
  have gcM := PySem.W.mg_of X G acM
  have gcO := PySem.W.mg_of X G acO
  have gE := PySem.W.mg_of X G aE
  have gLN := PySem.W.mg_of X G aLN
  have gMS := PySem.W.mg_of X G aMS
  have gMT := PySem.W.mg_of X G aMT
  have nisinstance := PySem.W.mg_none_of X G zisinstance
  have nint := PySem.W.mg_none_of X G zint
  have nbool := PySem.W.mg_none_of X G zbool
  have nstr := PySem.W.mg_none_of X G zstr
  have nlen := PySem.W.mg_none_of X G zlen
  have ntuple := PySem.W.mg_none_of X G ztuple
  have ntype := PySem.W.mg_none_of X G ztype
  have nset := PySem.W.mg_none_of X G zset
  have nsorted := PySem.W.mg_none_of X G zsorted
  have nabs := PySem.W.mg_none_of X G zabs
  have nenumerate := PySem.W.mg_none_of X G zenumerate
  have nrange := PySem.W.mg_none_of X G zrange
  have nrepr := PySem.W.mg_none_of X G zrepr
  have nlist := PySem.W.mg_none_of X G zlist
  have nmax := PySem.W.mg_none_of X G zmax
  have nmin := PySem.W.mg_none_of X G zmin
  have TI : TxtI K mg fW fWF dW dWF := ⟨nisinstance, nint, nbool, FW, bW, gW, FWF, bWF, gWF⟩
  have TN : TxtN K mg cN iN eN := ⟨ckN, cfN, iiN, itN, tyN, FiN, biN, gcN⟩
  have TE : ∃ tE, TxtE K mg tE := ⟨tE, gE, eE⟩
  have TX : TxtX K mg fX dX := ⟨TE, FX, bX, gX⟩
  have TU : TxtUO K mg cU iU cO fX fB eU dX dB := ⟨ckU, cfU, iiU, itU, tyU, FiU, biU, gcU, ckO, iniO, tyO, gcO, TE, FX, bX, gX, FB, bB, gB⟩
  have TC : TxtC K mg fC fCS dC dCS := ⟨FC.kp, bC, gC, FCS, bCS, gCS⟩
  have TD : TxtD mg := ⟨nlen, nabs, nint, nenumerate⟩
  have TS : TxtS mg := ⟨nset, nsorted, ntuple⟩
  have TNm : TxtNm K mg := ⟨nisinstance, nstr, nlen, ntuple, _, gLN⟩
  have TT : TxtT K mg fNm dNm := ⟨ntype, TE, FNm, bNm, gNm⟩
  have TM : TxtM K mg fS fT fRn fI fC cM dS dT dRn dI dC := ⟨⟨_, gMS⟩, ⟨_, gMT⟩, FS, bS, gS, FT, bT, gT, FRn, bRn, gRn, FI, bI, gI, FC, bC, gC, ckM, iniM, tyM, gcM⟩
  have TB : TxtB K mg fX fB dX dB := ⟨TX, FB, bB, gB⟩
  have TRt : TxtRt K mg fNe fNO fSg fTr fLe fTo dNe dNO dSg dTr dLe dTo := ⟨⟨FNe, bNe, gNe⟩, ⟨FNO, bNO, gNO⟩, ⟨FSg, bSg, gSg⟩, ⟨FTr, bTr, gTr⟩, ⟨FLe, bLe, gLe⟩, ⟨FTo, bTo, gTo⟩, nrepr, nrange⟩
  have TR : TxtR K mg fRo fOo dRo dOo := ⟨FRo, bRo, gRo, FOo, bOo, gOo⟩
  have TMe : TxtMet K mg cN cU cM cO := ⟨gcN, gcU, gcM, gcO, xN, xU, fvN, fvU, by
    simp only [List.forall_mem_cons, List.forall_mem_nil, and_true]
    exact ⟨xNN, xUN, xMN, xON, xUU, xMU, xOU, xMM, xOM, xOO, fun _ z => absurd z List.not_mem_nil⟩⟩
  have TRf : TxtRf K mg fRo fOo fMe cN cU cM cO dRo dOo dMe := ⟨TR, ⟨FMe, bMe, gMe⟩, TMe, nlist⟩
  have TL : TxtLw K mg fDi fWo fMa fRw fRi dDi dWo dMa dRw dRi := ⟨⟨FDi, bDi, gDi⟩, ⟨FWo, bWo, gWo⟩, ⟨FMa, bMa, gMa⟩, ⟨FRw, bRw, gRw⟩, ⟨FRi, bRi, gRi⟩, nmax, nmin⟩
  have TJ : Df K mg "_law_refused" sRef ["_law_dice_here", "_law_machine"] fRe dRe := ⟨FRe.fun, bRe, gRe⟩
  refine ⟨dLa, [(cR, Pt)], spLaw K [(Pt, lamQ)], fun p hp => ?_, fun p hp => ?_, fun p hp => ?_, ?_, fun H a ns hl hT hS => ?_, fun base _ _ hTB => ?_⟩
  · rw [List.mem_singleton.mp hp]
    exact tabs
  · rw [List.mem_singleton.mp hp]
    exact nk
  · rw [List.mem_singleton.mp hp]
    exact PySem.W.codeHd_of_K X chd
  · obtain ⟨oc, od, kV, doc, pm, an, cdv, ct, osl, rfl, _, _⟩ := FLa.ex
    exact fun s v => .of_eq rfl
  · refine ⟨a, ns, rfl, hS, hl, fun p hp => ?_, fun _ => rfl⟩
    rw [List.mem_singleton.mp hp]
    exact LamX.TabS.nil (hT Pt (List.mem_singleton.mpr rfl))
  · have GM : FnOk l.prog w K mg base (L2.CX l.prog w) 5 fC dC ["machine"] (spChkM K (BadM K) cM) := ok_ChkM (k := 0) FC TI TNm TT TM
    have G1 : FnOk l.prog w K mg base CX0 6 fNe dNe ["_law_machine"] spNear := ok_Near (k := 5) FNe TS TD
    have G2 : FnOk l.prog w K mg base (L2.CX l.prog w) 6 fNO dNO ["machine"] (spNbOf K cM) := ok_NbOf (k := 0) FNO TI TNm TT TM TS TB
    have G3 : FnOk l.prog w K mg base CX0 6 fSg dSg ["value"] (spSing K) := (ok_Sing (k := 0) FSg TI TNm TT TM TS TB).mono (by decide)
    have G4 : FnOk l.prog w K mg base (L2.CX l.prog w) 6 fTr dTr psTr (spTrans K (BadM K) cM cN) := ok_Trans (k := 5) FTr TI TN TC TD TS (by decide) GM
    have G5 : FnOk l.prog w K mg base (L2.CX l.prog w) 6 fLe dLe psLe (spLet K (BadM K) cM cN cU cO) := ok_Let (k := 5) FLe TI TN TC TU TS (by decide) GM
    have G6 : FnOk l.prog w K mg base CX0 6 fTo dTo psTd spTold := ok_Told (k := 5) FTo TS TD
    exact ok_Law FLa TRt TRf TL TJ TD TS (by decide) G2 G4 G5 (ok_Right FRi TRt TD TS G1 G2 G3 G4 G5 G6) (ok_Ref FRe TRt TRf TD TS (hTB _ (List.mem_singleton.mpr rfl)) (by decide) G1 G2 G3 G4 G5 G6)
end K02
set_option maxHeartbeats 0
open PySem PySem.W PyProof.Rows
open_top hd for PySem.Challenge.rw_halflink_k02_letters_and_neighbours
theorem PySem.Challenge.cw_halflink_k02_letters_and_neighbours_holds : PySem.Challenge.rw_halflink_k02_letters_and_neighbours.Holds :=
  hd (by
  k_fill
  refine GL.walk_ofGT (l := PySem.Challenge.rw_halflink_k02_letters_and_neighbours) (n := 63) (k := 10) (x := "_law_script") rfl (by decide) rfl ⟨rfl, by decide, by decide⟩ (fun w h Y => PySem.W.km_in_of Y) ?F
  case F =>
    intro w mg fa h Y KX G hmg
    refine' K02.all_mk KX G hmg (PySem.W.km_tabs_of Y _ (List.mem_singleton.mpr rfl)) ?aW ?aWF ?aNm ?aI ?aRn ?aS ?aT ?aX ?aC ?aCS ?aNO ?aB ?aSg ?aTr ?aLe ?aDi ?aRo ?aOo ?aWo ?aMa ?aRw ?aMe ?aNe ?aTo ?aRi ?aLa ?aRe ?acN ?acU ?acM ?acO ?aE ?aLN ?aMS ?aMT ?zisinstance ?zint ?zbool ?zstr ?zlen ?ztuple ?ztype ?zset ?zsorted ?zabs ?zenumerate ?zrange ?zrepr ?zlist ?zmax ?zmin ?FW ?FWF ?FNm ?FI ?FRn ?FS ?FT ?FX ?FC ?FCS ?FNO ?FB ?FSg ?FTr ?FLe ?FDi ?FRo ?FOo ?FWo ?FMa ?FRw ?FMe ?FNe ?FTo ?FRi ?FLa ?FRe ?chd ?nk ?iiN ?itN ?FiN ?iiU ?itU ?FiU ?ckN ?ckU ?ckM ?ckO ?cfN ?cfU ?tyN ?tyU ?tyM ?tyO ?iniM ?iniO ?xN ?xU ?fvN ?fvU ?xNN ?xUN ?xMN ?xON ?xUU ?xMU ?xOU ?xMM ?xOM ?xOO ?eE
    (case aW => k_is)
    (case aWF => k_is)
    (case aNm => k_is)
    (case aI => k_is)
    (case aRn => k_is)
    (case aS => k_is)
    (case aT => k_is)
    (case aX => k_is)
    (case aC => k_is)
    (case aCS => k_is)
    (case aNO => k_is)
    (case aB => k_is)
    (case aSg => k_is)
    (case aTr => k_is)
    (case aLe => k_is)
    (case aDi => k_is)
    (case aRo => k_is)
    (case aOo => k_is)
    (case aWo => k_is)
    (case aMa => k_is)
    (case aRw => k_is)
    (case aMe => k_is)
    (case aNe => k_is)
    (case aTo => k_is)
    (case aRi => k_is)
    (case aLa => k_is)
    (case aRe => k_is)
    (case acN => k_is)
    (case acU => k_is)
    (case acM => k_is)
    (case acO => k_is)
    (case aE => k_is)
    (case aLN => k_is)
    (case aMS => k_is)
    (case aMT => k_is)
    (case zisinstance => k_is)
    (case zint => k_is)
    (case zbool => k_is)
    (case zstr => k_is)
    (case zlen => k_is)
    (case ztuple => k_is)
    (case ztype => k_is)
    (case zset => k_is)
    (case zsorted => k_is)
    (case zabs => k_is)
    (case zenumerate => k_is)
    (case zrange => k_is)
    (case zrepr => k_is)
    (case zlist => k_is)
    (case zmax => k_is)
    (case zmin => k_is)
    (case FW => refine' L2.fun_mk ?l ?c ?k; (case l => k_is); (case c => k_is); (case k => k_is))
    (case FWF => refine' L2.fun_mk ?l ?c ?k; (case l => k_is); (case c => k_is); (case k => k_is))
    (case FNm => refine' L2.fun_mk ?l ?c ?k; (case l => k_is); (case c => k_is); (case k => k_is))
    (case FI => refine' L2.fun_mk ?l ?c ?k; (case l => k_is); (case c => k_is); (case k => k_is))
    (case FRn => refine' L2.fun_mk ?l ?c ?k; (case l => k_is); (case c => k_is); (case k => k_is))
    (case FS => refine' L2.fun_mk ?l ?c ?k; (case l => k_is); (case c => k_is); (case k => k_is))
    (case FT => refine' L2.fun_mk ?l ?c ?k; (case l => k_is); (case c => k_is); (case k => k_is))
    (case FX => refine' L2.fun_mk ?l ?c ?k; (case l => k_is); (case c => k_is); (case k => k_is))
    (case FC => refine' L2.fun_mk ?l ?c ?k; (case l => k_is); (case c => k_is); (case k => k_is))
    (case FCS => refine' L2.fun_mk ?l ?c ?k; (case l => k_is); (case c => k_is); (case k => k_is))
    (case FNO => refine' L2.fun_mk ?l ?c ?k; (case l => k_is); (case c => k_is); (case k => k_is))
    (case FB => refine' L2.fun_mk ?l ?c ?k; (case l => k_is); (case c => k_is); (case k => k_is))
    (case FSg => refine' L2.fun_mk ?l ?c ?k; (case l => k_is); (case c => k_is); (case k => k_is))
    (case FTr => refine' L2.fun_mk ?l ?c ?k; (case l => k_is); (case c => k_is); (case k => k_is))
    (case FLe => refine' L2.fun_mk ?l ?c ?k; (case l => k_is); (case c => k_is); (case k => k_is))
    (case FDi => refine' L2.fun_mk ?l ?c ?k; (case l => k_is); (case c => k_is); (case k => k_is))
    (case FRo => refine' L2.fun_mk ?l ?c ?k; (case l => k_is); (case c => k_is); (case k => k_is))
    (case FOo => refine' L2.fun_mk ?l ?c ?k; (case l => k_is); (case c => k_is); (case k => k_is))
    (case FWo => refine' L2.fun_mk ?l ?c ?k; (case l => k_is); (case c => k_is); (case k => k_is))
    (case FMa => refine' L2.fun_mk ?l ?c ?k; (case l => k_is); (case c => k_is); (case k => k_is))
    (case FRw => refine' L2.fun_mk ?l ?c ?k; (case l => k_is); (case c => k_is); (case k => k_is))
    (case FMe => refine' L2.fun_mk ?l ?c ?k; (case l => k_is); (case c => k_is); (case k => k_is))
    (case FNe => refine' L2.fun_mk ?l ?c ?k; (case l => k_is); (case c => k_is); (case k => k_is))
    (case FTo => refine' L2.fun_mk ?l ?c ?k; (case l => k_is); (case c => k_is); (case k => k_is))
    (case FRi => refine' L2.fun_mk ?l ?c ?k; (case l => k_is); (case c => k_is); (case k => k_is))
    (case FLa => refine' L2.fun_mk ?l ?c ?k; (case l => k_is); (case c => k_is); (case k => k_is))
    (case FRe => refine' GL.funC_mk ?l ?c ?k; (case l => k_is); (case c => k_is); (case k => k_is))
    (case chd => kernel_rfl)
    (case nk => kernel_rfl)
    (case iiN => k_is)
    (case itN => k_is)
    (case FiN => refine' L2.fun_mk ?l ?c ?k; (case l => k_is); (case c => k_is); (case k => k_is))
    (case iiU => k_is)
    (case itU => k_is)
    (case FiU => refine' L2.fun_mk ?l ?c ?k; (case l => k_is); (case c => k_is); (case k => k_is))
    (case ckN => refine' ⟨?m1, ?m2, ?m3, ?m4, ?m5, ?m6, ?m7, ?m8⟩; (case m1 => kx_is); (case m2 => k_is); (case m3 => k_is); (case m4 => k_is); (case m5 => k_is); (case m6 => k_is); (case m7 => k_is); (case m8 => k_is))
    (case ckU => refine' ⟨?m1, ?m2, ?m3, ?m4, ?m5, ?m6, ?m7, ?m8⟩; (case m1 => kx_is); (case m2 => k_is); (case m3 => k_is); (case m4 => k_is); (case m5 => k_is); (case m6 => k_is); (case m7 => k_is); (case m8 => k_is))
    (case ckM => refine' ⟨?m1, ?m2, ?m3, ?m4, ?m5, ?m6, ?m7, ?m8⟩; (case m1 => kx_is); (case m2 => k_is); (case m3 => k_is); (case m4 => k_is); (case m5 => k_is); (case m6 => k_is); (case m7 => k_is); (case m8 => k_is))
    (case ckO => refine' ⟨?m1, ?m2, ?m3, ?m4, ?m5, ?m6, ?m7, ?m8⟩; (case m1 => kx_is); (case m2 => k_is); (case m3 => k_is); (case m4 => k_is); (case m5 => k_is); (case m6 => k_is); (case m7 => k_is); (case m8 => k_is))
    (case cfN => refine' ⟨?m1, ?m2, ?m3, ?m4⟩; (case m1 => kx_is); (case m2 => k_is); (case m3 => k_is); (case m4 => k_is))
    (case cfU => refine' ⟨?m1, ?m2, ?m3, ?m4⟩; (case m1 => kx_is); (case m2 => k_is); (case m3 => k_is); (case m4 => k_is))
    (case tyN => k_is)
    (case tyU => k_is)
    (case tyM => k_is)
    (case tyO => k_is)
    (case iniM => k_is)
    (case iniO => k_is)
    (case xN => refine' ⟨?m1, ?m2, ?m3, ?m4⟩; (case m1 => k_is); (case m2 => k_is); (case m3 => k_is); (case m4 => k_is))
    (case xU => refine' ⟨?m1, ?m2, ?m3, ?m4⟩; (case m1 => k_is); (case m2 => k_is); (case m3 => k_is); (case m4 => k_is))
    (case fvN => k_is)
    (case fvU => k_is)
    (case xNN => kts_exm)
    (case xUN => kts_exm)
    (case xMN => kts_exm)
    (case xON => kts_exm)
    (case xUU => kts_exm)
    (case xMU => kts_exm)
    (case xOU => kts_exm)
    (case xMM => kts_exm)
    (case xOM => kts_exm)
    (case xOO => kts_exm)
    (case eE => refine' K02.txtE_s ?l; (case l => k_is)))
